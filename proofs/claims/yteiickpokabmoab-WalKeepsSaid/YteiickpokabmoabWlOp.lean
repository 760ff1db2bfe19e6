import Derived.Test.YteiickpokabmoabWlN
namespace Go.Proofs.Yteiickpokabmoab
open Go.RowKit Go.Shelf
open Wl (Hd WS Log)

set_option maxHeartbeats 1000000 in
set_option maxRecDepth 8000 in
theorem place_any {base : Nat} {w : World} {b W : Nat} {F : Nat → Prop} {d : D.DS} {ws : WS} (h : D.Dk base w b F d) (hw : Wm w W b ws) (ho : Wl.Ok d ws) (hd : d.dead = false) (hu : ws.h.used < Wl.hb d.S.length) :
    Calls Try.prog 36 #[.pointer (some ⟨W, 0, none⟩)] w fun e w' => e = .returned (.tuple #[.int .i64 (Wl.place d ws.h : Int), .string ⟨(Wl.ahead d ws.h).toArray⟩]) ∧ Below w.heap.size w w' := by
  have HD := hide h
  have hh3 := hs_le _ h.ok.s1
  have hhb : Wl.hb d.S.length ≤ 65536 := by unfold Wl.hb; omega
  have hhf := ho.half
  have hplt : Wl.place d ws.h < d.S.length := by
    have h9 := ho.fits.2.2
    have h8 : ws.h.half * Wl.hs d.S.length ≤ Wl.hs d.S.length := by
      have := Nat.mul_le_mul_right (Wl.hs d.S.length) (show ws.h.half ≤ 1 by omega)
      omega
    unfold Wl.hb at hu
    unfold Wl.place Wl.first; omega
  have hrd : d.read ((Wl.place d ws.h : Nat) : Int) = (d.S.getD (Wl.place d ws.h) ByteArray.empty, 0) := by unfold D.DS.read; rw [if_neg (by simp [hd]), if_neg (by omega)]; rfl
  have hs8 : (d.S.getD (Wl.place d ws.h) ByteArray.empty).size = 128 := by
    rw [List.getD_eq_getElem?_getD, List.getElem?_eq_getElem hplt]; exact h.ok.s128.get _
  have HA : Hid (Wl.ahead d ws.h = (d.S.getD (Wl.place d ws.h) ByteArray.empty).data.toList.take (ws.h.used % 128)) := hide rfl
  have HP : Hid (Wl.place d ws.h = Wl.first d.S.length ws.h.half + ws.h.used / 128) := hide rfl
  have hfl : Wl.first d.S.length ws.h.half ≤ 100000 := by have := HP.out; have := h.ok.s1; omega
  generalize Wl.ahead d ws.h = AH at *
  generalize hPL : Wl.place d ws.h = PL at *
  have hpl : PL ≤ 1026 := by have := h.ok.s1; omega
  have HRd := hide (fun V (hV : Below w.heap.size w V) => D.read_any (h.below hV) (PL : Int))
  rw [hrd] at HRd
  generalize d.S.getD PL ByteArray.empty = sec at *
  obtain ⟨⟨num, half, sn, lg⟩, rc, gone⟩ := ws
  have hst : w.heap[W]? = some (.cells #[.pointer (some ⟨b, 0, none⟩), .int .u64 (num : Int), .int .u8 (half : Int), .int .i64 (sn : Int), .int .i64 (lg : Int), .int .i64 (rc : Int), .bool gone] 56 (0, 0)) := hw
  have hu2 : sn + lg < Wl.hb d.S.length := hu
  have HUs := hide (fun V => used_any ⟨num, half, sn, lg⟩ (show sn ≤ 4294967296 by omega) (show lg ≤ 4294967296 by omega) V)
  simp only at *
  generalize Hd.used ⟨num, half, sn, lg⟩ = U at *
  have hM1 : U % 128 < 128 := Nat.mod_lt _ (by decide)
  have hQ1 : U / 128 ≤ 65536 := by omega
  have hUb : U ≤ 65536 := by omega
  have x2 : sec.extract 0 (U % 128) = ⟨AH.toArray⟩ := by
    rw [HA.out]; apply ByteArray.ext; simp only [ByteArray.data_extract]; apply Array.ext'; simp
  have hq : Int.tdiv (U : Int) 128 = ((U / 128 : Nat) : Int) := by rw [Int.tdiv_eq_ediv_of_nonneg (by omega)]; omega
  have hq2 : Int.tmod (U : Int) 128 = ((U % 128 : Nat) : Int) := by rw [Int.tmod_eq_emod_of_nonneg (by omega)]; omega
  generalize U % 128 = M at *
  generalize U / 128 = Q at *
  generalize (⟨AH.toArray⟩ : ByteArray) = AB at *
  have f2 : ∀ V : World, (Instr.slice 9 (.string sec) none (some (.int .i64 (M : Int))) none).run Try.prog V = .ok (.string AB) V := by
    intro V; rw [← x2]; have hm9 : ¬ (128 : Int) < (M : Int) := by omega
    go_simp
  have hwQ : IntKind.i64.wrap (Q : Int) = (Q : Int) := by rw [IntKind.wrap_i64]; omega
  have hwP : IntKind.i64.wrap (PL : Int) = (PL : Int) := by rw [IntKind.wrap_i64]; omega
  have hPQ : (Wl.first d.S.length half : Int) + (Q : Int) = (PL : Int) := by have := HP.out; omega
  have hst1 : (w.alloc (.cells #[.int .u64 (num : Int), .int .u8 (half : Int), .int .i64 (sn : Int), .int .i64 (lg : Int)] 54)).heap[W]? = some (.cells #[.pointer (some ⟨b, 0, none⟩), .int .u64 (num : Int), .int .u8 (half : Int), .int .i64 (sn : Int), .int .i64 (lg : Int), .int .i64 (rc : Int), .bool gone] 56 (0, 0)) := box_al hst _
  have HB0 : Hid (Below w.heap.size w (w.alloc (.cells #[.int .u64 (num : Int), .int .u8 (half : Int), .int .i64 (sn : Int), .int .i64 (lg : Int)] 54)).drew) := hide ((below_alloc w _).trans ⟨rfl, rfl, rfl, Nat.le_refl _, fun _ _ => rfl⟩)
  obtain ⟨c0, c1, c2, c3, c4, c5, c6, cz⟩ := wm_cells hst
  have HST1 := hide hst1
  clear h hw ho x2 hrd HA HP hPL hs8 hplt hu hu2 hst hhb hh3 hd
  simp only [hdC] at *
  go_enter Try.func36, Try.ntmps36
  go_wp2_with fail
  refine (HUs.out _).mono ?_
  rintro e w1 ⟨rfl, rfl⟩
  clear c0 c1 c2 c3 c4 c5 c6 cz
  go_wp2_with fail
  refine wp_region_held_drew (S := fun w' => w'.heap[W]? = some (.cells #[.pointer (some ⟨b, 0, none⟩), .int .u64 (num : Int), .int .u8 (half : Int), .int .i64 (sn : Int), .int .i64 (lg : Int), .int .i64 (rc : Int), .bool gone] 56 (0, 0))) (by kernel_rfl) (hst1) (fun hHeld => ?_)
  refine wpAnyH_take (i := 0) (v := .pointer (some ⟨W, 0, none⟩)) rfl (by kernel_rfl) (by kernel_rfl) (by kernel_rfl) (fun _ _ _ h => h) (Or.inl ⟨by rfl, fun w1 hSw => by clear hHeld; obtain ⟨c0, c1, c2, c3, c4, c5, c6, cz⟩ := wm_cells hSw; go_simp⟩) hHeld ?_
  simp only [Act.put, List.setIfInBounds_toArray]
  refine wpAnyH_take (i := 1) (v := .pointer (some ⟨W, 0, none⟩)) rfl (by kernel_rfl) (by kernel_rfl) (by kernel_rfl) (fun _ _ _ h => h) (Or.inl ⟨by rfl, fun w1 hSw => by clear hHeld; obtain ⟨c0, c1, c2, c3, c4, c5, c6, cz⟩ := wm_cells hSw; go_simp⟩) hHeld ?_
  try simp only [Act.put]
  refine wpAnyH_take (i := 2) (v := .pointer (some ⟨W, 0, none⟩)) rfl (by kernel_rfl) (by kernel_rfl) (by kernel_rfl) (fun _ _ _ h => h) (Or.inl ⟨by rfl, fun w1 hSw => by clear hHeld; obtain ⟨c0, c1, c2, c3, c4, c5, c6, cz⟩ := wm_cells hSw; go_simp⟩) hHeld ?_
  try simp only [Act.put]
  refine wpAnyH_take (i := 3) (v := .pointer (some ⟨b, 0, none⟩)) rfl (by kernel_rfl) (by kernel_rfl) (by kernel_rfl) (fun _ _ _ h => h) (Or.inl ⟨by rfl, fun w1 hSw => by clear hHeld; obtain ⟨c0, c1, c2, c3, c4, c5, c6, cz⟩ := wm_cells hSw; go_simp⟩) hHeld ?_
  try simp only [Act.put]
  refine wpAnyH_take (i := 4) (v := .pointer (some ⟨W, 0, none⟩)) rfl (by kernel_rfl) (by kernel_rfl) (by kernel_rfl) (fun _ _ _ h => h) (Or.inl ⟨by rfl, fun w1 hSw => by clear hHeld; obtain ⟨c0, c1, c2, c3, c4, c5, c6, cz⟩ := wm_cells hSw; go_simp⟩) hHeld ?_
  try simp only [Act.put]
  refine wpAnyH_take (i := 5) (v := .pointer (some ⟨W, 0, none⟩)) rfl (by kernel_rfl) (by kernel_rfl) (by kernel_rfl) (fun _ _ _ h => h) (Or.inl ⟨by rfl, fun w1 hSw => by clear hHeld; obtain ⟨c0, c1, c2, c3, c4, c5, c6, cz⟩ := wm_cells hSw; go_simp⟩) hHeld ?_
  try simp only [Act.put]
  refine wpAnyH_take (i := 6) (v := .pointer (some ⟨W, 1, none⟩)) rfl (by kernel_rfl) (by kernel_rfl) (by kernel_rfl) (fun _ _ _ h => h) (Or.inl ⟨by rfl, fun w1 hSw => by clear hHeld; obtain ⟨c0, c1, c2, c3, c4, c5, c6, cz⟩ := wm_cells hSw; go_simp⟩) hHeld ?_
  try simp only [Act.put]
  refine wpAnyH_take (i := 7) (v := .pointer (some ⟨W, 2, none⟩)) rfl (by kernel_rfl) (by kernel_rfl) (by kernel_rfl) (fun _ _ _ h => h) (Or.inl ⟨by rfl, fun w1 hSw => by clear hHeld; obtain ⟨c0, c1, c2, c3, c4, c5, c6, cz⟩ := wm_cells hSw; go_simp⟩) hHeld ?_
  try simp only [Act.put]
  refine wpAnyH_take (i := 8) (v := .int .u8 (half : Int)) rfl (by kernel_rfl) (by kernel_rfl) (by kernel_rfl) (fun _ _ _ h => h) (Or.inl ⟨by rfl, fun w1 hSw => by clear hHeld; obtain ⟨c0, c1, c2, c3, c4, c5, c6, cz⟩ := wm_cells hSw; go_simp⟩) hHeld ?_
  try simp only [Act.put]
  refine wpAnyH_take (i := 10) (v := .int .i64 (U : Int)) rfl (by kernel_rfl) (by kernel_rfl) (by kernel_rfl) (fun _ _ _ h => h) (Or.inl ⟨by rfl, fun w1 hSw => by clear hHeld; obtain ⟨c0, c1, c2, c3, c4, c5, c6, cz⟩ := wm_cells hSw; go_simp⟩) hHeld ?_
  try simp only [Act.put]
  refine wpAnyH_take (i := 11) (v := .int .i64 (Q : Int)) rfl (by kernel_rfl) (by kernel_rfl) (by kernel_rfl) (fun _ _ _ h => h) (Or.inl ⟨by rfl, fun w1 hSw => by clear hHeld; obtain ⟨c0, c1, c2, c3, c4, c5, c6, cz⟩ := wm_cells hSw; go_simp⟩) hHeld ?_
  try simp only [Act.put]
  refine wpAnyH_ready (rs := [9]) (by kernel_rfl) (by simp) ?_
  refine AllReadyH.cons rfl (fun K hK => ?_) AllReadyH.nil
  go_simp
  refine (firstSector_any (HD.out.below HB0.out) hhf).mono ?_
  rintro e w0a ⟨rfl, rfl⟩
  have HB1 := HB0
  refine hK.out _ _ (hHeld) (fun hHeld => ?_)
  clear hK K
  refine wpAnyH_ready (rs := [12]) (by kernel_rfl) (by simp) ?_
  refine AllReadyH.cons rfl (fun K hK => ?_) AllReadyH.nil
  go_simp
  have HB2 := HB1
  refine hK.out _ _ (hHeld) (fun hHeld => ?_)
  clear hK K
  refine wpAnyH_ready (rs := [13]) (by kernel_rfl) (by simp) ?_
  refine AllReadyH.cons rfl (fun K hK => ?_) AllReadyH.nil
  go_simp
  have HB3 := HB2
  refine hK.out _ _ (hHeld) (fun hHeld => ?_)
  clear hK K
  refine wpAnyH_done (by kernel_rfl) ?_ _
  clear hHeld
  have HB9 := HB3
  have hst9 : (w.alloc (.cells #[.int .u64 (num : Int), .int .u8 (half : Int), .int .i64 (sn : Int), .int .i64 (lg : Int)] 54)).drew.heap[W]? = some (.cells #[.pointer (some ⟨b, 0, none⟩), .int .u64 (num : Int), .int .u8 (half : Int), .int .i64 (sn : Int), .int .i64 (lg : Int), .int .i64 (rc : Int), .bool gone] 56 (0, 0)) := HST1.out
  clear HST1 HB0
  obtain ⟨c0, c1, c2, c3, c4, c5, c6, cz⟩ := wm_cells hst9
  go_wp2_with fail
  refine (HRd.out _ HB9.out).mono ?_
  rintro e w3 ⟨rfl, rfl⟩
  go_wp2_with fail
  refine wp_region_held_drew (S := fun w' => w'.heap[W]? = some (.cells #[.pointer (some ⟨b, 0, none⟩), .int .u64 (num : Int), .int .u8 (half : Int), .int .i64 (sn : Int), .int .i64 (lg : Int), .int .i64 (rc : Int), .bool gone] 56 (0, 0))) (by kernel_rfl) (hst9) (fun hHeld => ?_)
  refine wpAnyH_take (i := 0) (v := .int .i64 (PL : Int)) rfl (by kernel_rfl) (by kernel_rfl) (by kernel_rfl) (fun _ _ _ h => h) (Or.inl ⟨by rfl, fun w1 hSw => by clear hHeld; obtain ⟨c0, c1, c2, c3, c4, c5, c6, cz⟩ := wm_cells hSw; go_simp⟩) hHeld ?_
  simp only [Act.put, List.setIfInBounds_toArray]
  refine wpAnyH_take (i := 1) (v := .string sec) rfl (by kernel_rfl) (by kernel_rfl) (by kernel_rfl) (fun _ _ _ h => h) (Or.inl ⟨by rfl, fun w1 hSw => by clear hHeld; obtain ⟨c0, c1, c2, c3, c4, c5, c6, cz⟩ := wm_cells hSw; go_simp⟩) hHeld ?_
  try simp only [Act.put]
  refine wpAnyH_take (i := 2) (v := .int .i64 (U : Int)) rfl (by kernel_rfl) (by kernel_rfl) (by kernel_rfl) (fun _ _ _ h => h) (Or.inl ⟨by rfl, fun w1 hSw => by clear hHeld; obtain ⟨c0, c1, c2, c3, c4, c5, c6, cz⟩ := wm_cells hSw; go_simp⟩) hHeld ?_
  try simp only [Act.put]
  refine wpAnyH_take (i := 3) (v := .int .i64 (M : Int)) rfl (by kernel_rfl) (by kernel_rfl) (by kernel_rfl) (fun _ _ _ h => h) (Or.inl ⟨by rfl, fun w1 hSw => by clear hHeld; obtain ⟨c0, c1, c2, c3, c4, c5, c6, cz⟩ := wm_cells hSw; go_simp⟩) hHeld ?_
  try simp only [Act.put]
  refine wpAnyH_take (i := 5) (v := .int .i64 (PL : Int)) rfl (by kernel_rfl) (by kernel_rfl) (by kernel_rfl) (fun _ _ _ h => h) (Or.inl ⟨by rfl, fun w1 hSw => by clear hHeld; obtain ⟨c0, c1, c2, c3, c4, c5, c6, cz⟩ := wm_cells hSw; go_simp⟩) hHeld ?_
  try simp only [Act.put]
  refine wpAnyH_ready (rs := [4]) (by kernel_rfl) (by simp) ?_
  refine AllReadyH.cons rfl (fun K hK => ?_) AllReadyH.nil
  go_simp
  refine hK.out _ _ (hHeld) (fun hHeld => ?_)
  clear hK K
  refine wpAnyH_ready (rs := [6]) (by kernel_rfl) (by simp) ?_
  refine AllReadyH.cons rfl (fun K hK => ?_) AllReadyH.nil
  go_simp
  refine hK.out _ _ (hHeld) (fun hHeld => ?_)
  clear hK K
  refine wpAnyH_done (by kernel_rfl) ?_ _
  clear hHeld
  go_wp2_with fail
  go_ret2
  exact ⟨rfl, HB9.out.trans ⟨rfl, rfl, rfl, Nat.le_refl _, fun _ _ => rfl⟩⟩
end Go.Proofs.Yteiickpokabmoab
