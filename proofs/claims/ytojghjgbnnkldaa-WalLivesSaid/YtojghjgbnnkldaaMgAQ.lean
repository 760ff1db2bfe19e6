import Derived.Test.YtojghjgbnnkldaaMgAP

section
namespace Go.Proofs.Ytojghjgbnnkldaa
open Go.RowKit Go.Shelf
open Wl (Hd WS Log)

theorem wm_set5 {w : World} {W b num half sn lg rc : Nat} {gone : Bool} (h : Wm w W b ⟨⟨num, half, sn, lg⟩, rc, gone⟩) (n hf s : Nat) :
    Wm (((((w.setCell ⟨W, 1, none⟩ (.int .u64 (n : Int))).setCell ⟨W, 2, none⟩ (.int .u8 (hf : Int))).setCell ⟨W, 3, none⟩ (.int .i64 (s : Int))).setCell ⟨W, 4, none⟩ (.int .i64 0)).setCell ⟨W, 5, none⟩ (.int .i64 0)) W b ⟨⟨n, hf, s, 0⟩, 0, gone⟩ := by
  unfold Wm
  rw [setCell_self (setCell_self (setCell_self (setCell_self (setCell_self h _) _) _) _) _]
  rfl
theorem onl5 (W : Nat) (w : World) (b c d e f : Value) : Onl W w (((((w.setCell ⟨W, 1, none⟩ b).setCell ⟨W, 2, none⟩ c).setCell ⟨W, 3, none⟩ d).setCell ⟨W, 4, none⟩ e).setCell ⟨W, 5, none⟩ f) :=
  (((((Onl.refl W w).set _ _).set _ _).set _ _).set _ _).set _ _
theorem wm_drew {w : World} {W b : Nat} {ws : WS} (h : Wm w W b ws) : Wm w.drew W b ws := h
theorem bf_drew {w : World} {g : Nat} {l : List UInt8} (h : Bf w g l) : Bf w.drew g l := h
theorem wm_mk {w : World} {W b num half sn lg rc : Nat} {gone : Bool} (h : w.heap[W]? = some (.cells #[.pointer (some ⟨b, 0, none⟩), .int .u64 (num : Int), .int .u8 (half : Int), .int .i64 (sn : Int), .int .i64 (lg : Int), .int .i64 (rc : Int), .bool gone] 72 (0, 0))) : Wm w W b ⟨⟨num, half, sn, lg⟩, rc, gone⟩ := h
theorem Onl.drw {W : Nat} {w w' : World} (h : Onl W w w') : Onl W w w'.drew := ⟨h.os, h.tape, h.output, h.size, h.block⟩
theorem mv_on {w wa w6 w9 : World} {F F' : Nat → Prop} {W : Nat} (hb : Below w.heap.size w wa) (ho : Onl W wa w6) (hM : D.Mv F F' w6.drew w9) : D.Mv (FW F W) (FW F' W) w w9 :=
  mvW (fun k hk hn => (ho.block k hn).trans (hb.block k hk)) (ho.os.trans hb.os) (ho.tape.trans hb.tape) (ho.output.trans hb.output) (by show _ ≤ w6.heap.size; rw [ho.size]; exact hb.size) ⟨hM.os, hM.tape, hM.output, hM.size, hM.block, hM.foot⟩
set_option maxHeartbeats 8000000 in
set_option maxRecDepth 8000 in
theorem laySnapshot_any {base : Nat} {w : World} {b W : Nat} {F : Nat → Prop} {d : D.DS} {ws : WS} (h : D.Dk base w b F d) (hw : Wm w W b ws) (hFW : ¬ F W) (ho : Wl.Ok d ws) (s : ByteArray) (hs2 : s.size ≤ 17000) (hR : (d.R.length + 600) * 24 ≤ 140737488355328) (hnum : ws.h.num < 1099511627776) :
    Calls Try.prog 37 #[.pointer (some ⟨W, 0, none⟩), .string s] w fun e w' => e = .returned (.int .i64 (Wl.layW d (Wl.first d.S.length (1 - ws.h.half)) (Wl.sects s.data.toList) (Wl.hdS ws.h s)).1) ∧ Wm w' W b ⟨Wl.hdS ws.h s, 0, ws.gone⟩ ∧ ∃ F', D.Dk base w' b F' (Wl.layW d (Wl.first d.S.length (1 - ws.h.half)) (Wl.sects s.data.toList) (Wl.hdS ws.h s)).2 ∧ D.Mv (FW F W) (FW F' W) w w' ∧ ¬ F' W := by
  obtain ⟨⟨num, half, sn, lg⟩, rc, gone⟩ := ws
  have hh := ho.half
  have hfl : Wl.first d.S.length (1 - half) ≤ 100000 := by
    have h8 : (1 - half) * Wl.hs d.S.length ≤ 1 * 512 := Nat.mul_le_mul (by omega) (hs_le _ h.ok.s1)
    unfold Wl.first; omega
  have HSF := hide (sectorsFor_any s.size (by omega) w)
  have hll : s.data.toList.length = s.size := (D.size_list s).symm
  have HPL := hide (pad_len s.data.toList)
  have HX : Hid (secs (Wl.pad s.data.toList) (Wl.up s.data.toList.length) = Wl.sects s.data.toList) := hide rfl
  have HS1 := hide (splice_first (Wl.up s.size * 128) s.data.toList)
  have HPd : Hid (s.data.toList ++ List.replicate (Wl.up s.size * 128 - s.data.toList.length) 0 = Wl.pad s.data.toList) := hide (by unfold Wl.pad; rw [hll])
  rw [HPd.out] at HS1
  rw [hll] at HPL HX
  obtain ⟨M, hM⟩ : ∃ M, Wl.up s.size = M := ⟨_, rfl⟩
  have hM2 : s.size ≤ M * 128 := by rw [← hM]; unfold Wl.up; omega
  have hM3 : M ≤ 500 := by rw [← hM]; unfold Wl.up; omega
  rw [hM] at HSF HPL HX HS1
  have hb1 : Below w.heap.size w (w.alloc (.cells (bc (List.replicate (M * 128) 0)).toArray 5)) := below_alloc w _
  have hA0 : (w.alloc (.cells (bc (List.replicate (M * 128) 0)).toArray 5)).heap[w.heap.size]? = some (.cells (bc (List.replicate (M * 128) 0)).toArray 5 (0, 0)) := heap_alloc_new w _
  have hcp := D.run_copy_str (P := Try.prog) _ 45 9 3 5 w.heap.size 0 (M * 128) (M * 128) s _ 5 Try.underlying45 D.Try.infoU hA0 (by omega) (by rw [List.size_toArray, bc_len, List.length_replicate]; omega)
  rw [show (bc (List.replicate (M * 128) 0)).toArray.toList = bc (List.replicate (M * 128) 0) by simp, sc_bc, HS1.out] at hcp
  have HA1 := hide (setRow_at hA0 (bc (Wl.pad s.data.toList)).toArray)
  have HB4 : Hid (Below w.heap.size w ((w.alloc (.cells (bc (List.replicate (M * 128) 0)).toArray 5)).setRow w.heap.size (bc (Wl.pad s.data.toList)).toArray)) := hide (below_setRow hb1 (Nat.le_refl _) _)
  have HK : Hid (num + 1 < 18446744073709551616 ∧ 1 - half < 256 ∧ s.size < 4294967296 ∧ 0 < 4294967296 ∧ (d.R.length + M + 1) * 24 ≤ 140737488355328 ∧ M ≤ 1000) := hide ⟨by simp only at hnum; omega, by omega, by omega, by decide, Nat.le_trans (Nat.mul_le_mul_right 24 (by omega)) hR, by omega⟩
  have HD := hide h
  have HW := hide hw
  have hWl := lt_of_block hw
  have hgW : w.heap.size ≠ W := by omega
  have hFg : ¬ F w.heap.size := fun k => absurd (h.ftlt _ k).2 (Nat.lt_irrefl _)
  have hh1 : 1 - half < 2 := by omega
  have HOt := hide (fun V => other_any ⟨num, half, sn, lg⟩ hh V)
  obtain ⟨RR, hRR⟩ : ∃ RR, Wl.layW d (Wl.first d.S.length (1 - half)) (Wl.sects s.data.toList) ⟨num + 1, 1 - half, s.size, 0⟩ = RR := ⟨_, rfl⟩
  have HRR := hide hRR
  have HHS : Hid (Wl.hdS ⟨num, half, sn, lg⟩ s = ⟨num + 1, 1 - half, s.size, 0⟩) := hide rfl
  simp only [HHS.out, hRR]
  have hnm : num < 1099511627776 := hnum
  clear h hw ho hA0 hb1 HS1 HPd hRR HHS hll hM hnum
  obtain ⟨g, hg⟩ : ∃ g, w.heap.size = g := ⟨_, rfl⟩
  have hQ2 : M * 128 ≤ 64000 := by omega
  simp only [hdC] at *
  have HG := hide hg
  generalize hQQ : M * 128 = Q at *
  have HQ := hide hQQ
  rw [hg] at HA1 HB4 hcp
  generalize ((w.alloc (.cells (bc (List.replicate Q 0)).toArray 5)).setRow g (bc (Wl.pad s.data.toList)).toArray) = w4 at *
  rw [← hg] at HB4
  clear hQQ
  generalize (w.alloc (.cells (bc (List.replicate Q 0)).toArray 5)) = w3 at *
  go_enter Try.func37, Try.ntmps37
  go_wp2_with fail
  refine HSF.out.mono ?_
  rintro e wz ⟨rfl, rfl⟩
  have hW4 := HW.out.below HB4.out
  obtain ⟨c0, c1, c2, c3, c4, c5, c6, cz⟩ := wm_cells (show w4.drew.heap[W]? = _ from hW4)
  simp only at c0 c1 c2 c3 c4 c5 c6
  have HW4 := hide hW4
  clear hW4 HSF
  go_wp2_with fail
  have hWA : (w4.alloc (.cells #[.int .u64 (num : Int), .int .u8 (half : Int), .int .i64 (sn : Int), .int .i64 (lg : Int)] 58)).heap[W]? = some (.cells #[.pointer (some ⟨b, 0, none⟩), .int .u64 (num : Int), .int .u8 (half : Int), .int .i64 (sn : Int), .int .i64 (lg : Int), .int .i64 (rc : Int), .bool gone] 72 (0, 0)) := box_al HW4.out _
  obtain ⟨k0, k1, k2, k3, k4, k5, k6, kz⟩ := wm_cells hWA
  have HWA := hide hWA
  clear hWA
  have hwu : IntKind.u64.wrap ((num : Int) + 1) = (num : Int) + 1 := by rw [IntKind.wrap_u64]; omega
  refine wp_region_held_drew (S := fun _ => True) (by kernel_rfl) (trivial) (fun hHeld => ?_)
  refine wpAnyH_take (i := 0) (v := .pointer (some ⟨W, 0, none⟩)) rfl (by kernel_rfl) (by kernel_rfl) (by kernel_rfl) (fun _ _ _ h => h) (Or.inl ⟨by rfl, fun w1 hSw => by clear hHeld; go_simp⟩) hHeld ?_
  simp only [Act.put, List.setIfInBounds_toArray]
  refine wpAnyH_take (i := 1) (v := .pointer (some ⟨W, 0, none⟩)) rfl (by kernel_rfl) (by kernel_rfl) (by kernel_rfl) (fun _ _ _ h => h) (Or.inl ⟨by rfl, fun w1 hSw => by clear hHeld; go_simp⟩) hHeld ?_
  try simp only [Act.put]
  refine wpAnyH_take (i := 2) (v := .pointer (some ⟨W, 0, none⟩)) rfl (by kernel_rfl) (by kernel_rfl) (by kernel_rfl) (fun _ _ _ h => h) (Or.inl ⟨by rfl, fun w1 hSw => by clear hHeld; go_simp⟩) hHeld ?_
  try simp only [Act.put]
  refine wpAnyH_take (i := 3) (v := .pointer (some ⟨W, 1, none⟩)) rfl (by kernel_rfl) (by kernel_rfl) (by kernel_rfl) (fun _ _ _ h => h) (Or.inl ⟨by rfl, fun w1 hSw => by clear hHeld; go_simp⟩) hHeld ?_
  try simp only [Act.put]
  refine wpAnyH_take (i := 4) (v := .pointer (some ⟨W, 1, none⟩)) rfl (by kernel_rfl) (by kernel_rfl) (by kernel_rfl) (fun _ _ _ h => h) (Or.inl ⟨by rfl, fun w1 hSw => by clear hHeld; go_simp⟩) hHeld ?_
  try simp only [Act.put]
  refine wpAnyH_take (i := 7) (v := .pointer (some ⟨W, 0, none⟩)) rfl (by kernel_rfl) (by kernel_rfl) (by kernel_rfl) (fun _ _ _ h => h) (Or.inl ⟨by rfl, fun w1 hSw => by clear hHeld; go_simp⟩) hHeld ?_
  try simp only [Act.put]
  refine wpAnyH_take (i := 8) (v := .pointer (some ⟨W, 0, none⟩)) rfl (by kernel_rfl) (by kernel_rfl) (by kernel_rfl) (fun _ _ _ h => h) (Or.inl ⟨by rfl, fun w1 hSw => by clear hHeld; go_simp⟩) hHeld ?_
  try simp only [Act.put]
  refine wpAnyH_take (i := 9) (v := .pointer (some ⟨W, 1, none⟩)) rfl (by kernel_rfl) (by kernel_rfl) (by kernel_rfl) (fun _ _ _ h => h) (Or.inl ⟨by rfl, fun w1 hSw => by clear hHeld; go_simp⟩) hHeld ?_
  try simp only [Act.put]
  refine wpAnyH_take (i := 12) (v := .string s) rfl (by kernel_rfl) (by kernel_rfl) (by kernel_rfl) (fun _ _ _ h => h) (Or.inl ⟨by rfl, fun w1 hSw => by clear hHeld; go_simp⟩) hHeld ?_
  try simp only [Act.put]
  refine wpAnyH_take (i := 13) (v := .int .i64 (s.size : Int)) rfl (by kernel_rfl) (by kernel_rfl) (by kernel_rfl) (fun _ _ _ h => h) (Or.inl ⟨by rfl, fun w1 hSw => by clear hHeld; go_simp⟩) hHeld ?_
  try simp only [Act.put]
  refine wpAnyH_ready (rs := [5, 10]) (by kernel_rfl) (by simp) ?_
  refine AllReadyH.cons rfl (fun K hK => ?_) (AllReadyH.cons rfl (fun K hK => ?_) AllReadyH.nil)
  · go_simp
    refine hK.out _ _ (trivial) (fun hHeld => ?_)
    clear hK K
    refine wpAnyH_take (i := 6) (v := .int .u64 ((num : Int) + 1)) rfl (by kernel_rfl) (by kernel_rfl) (by kernel_rfl) (fun _ _ _ h => h) (Or.inl ⟨by rfl, fun w1 hSw => by clear hHeld; go_simp⟩) hHeld ?_
    try simp only [Act.put]
    refine wpAnyH_ready (rs := [10]) (by kernel_rfl) (by simp) ?_
    refine AllReadyH.cons rfl (fun K hK => ?_) AllReadyH.nil
    go_simp
    refine hK.out _ _ (trivial) (fun hHeld => ?_)
    clear hK K
    refine wpAnyH_ready (rs := [11]) (by kernel_rfl) (by simp) ?_
    refine AllReadyH.cons rfl (fun K hK => ?_) AllReadyH.nil
    go_simp
    refine (HOt.out _).mono ?_
    rintro e w2a ⟨rfl, rfl⟩
    refine hK.out _ _ (trivial) (fun hHeld => ?_)
    clear hK K
    refine wpAnyH_take (i := 14) (v := .agg #[.int .u64 ((num : Int) + 1), .int .u8 ((1 - half : Nat) : Int), .int .i64 (s.size : Int), .int .i64 0]) rfl (by kernel_rfl) (by kernel_rfl) (by kernel_rfl) (fun _ _ _ h => h) (Or.inl ⟨by rfl, fun w1 hSw => by clear hHeld; go_simp⟩) hHeld ?_
    try simp only [Act.put]
    refine wpAnyH_take (i := 15) (v := .pointer (some ⟨W, 0, none⟩)) rfl (by kernel_rfl) (by kernel_rfl) (by kernel_rfl) (fun _ _ _ h => h) (Or.inl ⟨by rfl, fun w1 hSw => by clear hHeld; go_simp⟩) hHeld ?_
    try simp only [Act.put]
    refine wpAnyH_take (i := 16) (v := .pointer (some ⟨W, 1, none⟩)) rfl (by kernel_rfl) (by kernel_rfl) (by kernel_rfl) (fun _ _ _ h => h) (Or.inl ⟨by rfl, fun w1 hSw => by clear hHeld; go_simp⟩) hHeld ?_
    try simp only [Act.put]
    refine wpAnyH_ready (rs := [17]) (by kernel_rfl) (by simp) ?_
    refine AllReadyH.cons rfl (fun K hK => ?_) AllReadyH.nil
    go_simp
    refine hK.out _ _ (trivial) (fun hHeld => ?_)
    clear hK K
    refine wpAnyH_done (by kernel_rfl) ?_ _
    clear hHeld
    go_wp2_with fail
    have e1 : (num : Int) + 1 = ((num + 1 : Nat) : Int) := by simp
    rw [e1]
    have HW6 : Hid (Wm ((((((w4.alloc (.cells #[.int .u64 (num : Int), .int .u8 (half : Int), .int .i64 (sn : Int), .int .i64 (lg : Int)] 58)).setCell ⟨W, 1, none⟩ (.int .u64 ((num + 1 : Nat) : Int))).setCell ⟨W, 2, none⟩ (.int .u8 ((1 - half : Nat) : Int))).setCell ⟨W, 3, none⟩ (.int .i64 (s.size : Int))).setCell ⟨W, 4, none⟩ (.int .i64 0)).setCell ⟨W, 5, none⟩ (.int .i64 0)).drew W b ⟨⟨num + 1, 1 - half, s.size, 0⟩, 0, gone⟩) := hide (wm_drew (wm_set5 (wm_mk HWA.out) (num + 1) (1 - half) s.size))
    have HO6 : Hid (Onl W (w4.alloc (.cells #[.int .u64 (num : Int), .int .u8 (half : Int), .int .i64 (sn : Int), .int .i64 (lg : Int)] 58)) ((((((w4.alloc (.cells #[.int .u64 (num : Int), .int .u8 (half : Int), .int .i64 (sn : Int), .int .i64 (lg : Int)] 58)).setCell ⟨W, 1, none⟩ (.int .u64 ((num + 1 : Nat) : Int))).setCell ⟨W, 2, none⟩ (.int .u8 ((1 - half : Nat) : Int))).setCell ⟨W, 3, none⟩ (.int .i64 (s.size : Int))).setCell ⟨W, 4, none⟩ (.int .i64 0)).setCell ⟨W, 5, none⟩ (.int .i64 0)).drew) := hide (onl5 W (w4.alloc (.cells #[.int .u64 (num : Int), .int .u8 (half : Int), .int .i64 (sn : Int), .int .i64 (lg : Int)] 58)) (.int .u64 ((num + 1 : Nat) : Int)) (.int .u8 ((1 - half : Nat) : Int)) (.int .i64 (s.size : Int)) (.int .i64 0) (.int .i64 0)).drw
    have HBA : Hid (Below w.heap.size w (w4.alloc (.cells #[.int .u64 (num : Int), .int .u8 (half : Int), .int .i64 (sn : Int), .int .i64 (lg : Int)] 58))) := hide (HB4.out.alloc HB4.out.size _)
    have hgl : g < w4.heap.size := lt_of_block HA1.out
    have HG6 : Hid (Bf ((((((w4.alloc (.cells #[.int .u64 (num : Int), .int .u8 (half : Int), .int .i64 (sn : Int), .int .i64 (lg : Int)] 58)).setCell ⟨W, 1, none⟩ (.int .u64 ((num + 1 : Nat) : Int))).setCell ⟨W, 2, none⟩ (.int .u8 ((1 - half : Nat) : Int))).setCell ⟨W, 3, none⟩ (.int .i64 (s.size : Int))).setCell ⟨W, 4, none⟩ (.int .i64 0)).setCell ⟨W, 5, none⟩ (.int .i64 0)).drew g (Wl.pad s.data.toList)) := hide ((HO6.out.block g (by omega)).trans (box_al HA1.out _))
    have HD6 : Hid (D.Dk base ((((((w4.alloc (.cells #[.int .u64 (num : Int), .int .u8 (half : Int), .int .i64 (sn : Int), .int .i64 (lg : Int)] 58)).setCell ⟨W, 1, none⟩ (.int .u64 ((num + 1 : Nat) : Int))).setCell ⟨W, 2, none⟩ (.int .u8 ((1 - half : Nat) : Int))).setCell ⟨W, 3, none⟩ (.int .i64 (s.size : Int))).setCell ⟨W, 4, none⟩ (.int .i64 0)).setCell ⟨W, 5, none⟩ (.int .i64 0)).drew b F d) := hide ((HD.out.below HBA.out).keep fun k hk => HO6.out.block k (fun e => hFW (e ▸ hk)))
    generalize ((((((w4.alloc (.cells #[.int .u64 (num : Int), .int .u8 (half : Int), .int .i64 (sn : Int), .int .i64 (lg : Int)] 58)).setCell ⟨W, 1, none⟩ (.int .u64 ((num + 1 : Nat) : Int))).setCell ⟨W, 2, none⟩ (.int .u8 ((1 - half : Nat) : Int))).setCell ⟨W, 3, none⟩ (.int .i64 (s.size : Int))).setCell ⟨W, 4, none⟩ (.int .i64 0)).setCell ⟨W, 5, none⟩ (.int .i64 0)).drew = w6 at *
    have HD6d : Hid (D.Dk base w6.drew b F d) := hide HD6.out.drew
    have HW6d : Hid (Wm w6.drew W b ⟨⟨num + 1, 1 - half, s.size, 0⟩, 0, gone⟩) := hide (wm_drew HW6.out)
    have HG6d : Hid (Bf w6.drew g (Wl.pad s.data.toList)) := hide (bf_drew HG6.out)
    have HLy := hide (lay_any (base := base) (d := d) (F := F) (b := b) (first := Wl.first d.S.length (1 - half)) (m := M) (ws := ⟨⟨num + 1, 1 - half, s.size, 0⟩, 0, gone⟩) (l := Wl.pad s.data.toList) HD6d.out HW6d.out hFW HK.out.1 HK.out.2.1 HK.out.2.2.1 HK.out.2.2.2.1 (by rw [HPL.out]; exact HQ.out.symm) HG6d.out (by rw [← HG.out]; exact hFg) HK.out.2.2.2.2.2 hfl HK.out.2.2.2.2.1)
    have HD6 := HD6d
    rw [HX.out, HRR.out] at HLy
    have hst5 : w6.heap[W]? = some (.cells #[.pointer (some ⟨b, 0, none⟩), .int .u64 ((num + 1 : Nat) : Int), .int .u8 ((1 - half : Nat) : Int), .int .i64 (s.size : Int), .int .i64 ((0 : Nat) : Int), .int .i64 ((0 : Nat) : Int), .bool gone] 72 (0, 0)) := HW6.out
    clear k0 k1 k2 k3 k4 k5 k6 kz c0 c1 c2 c3 c4 c5 c6 cz hcp e1 hwu
    rw [HQ.out] at HLy
    refine wp_region_held_drew (S := fun w' => w'.heap[W]? = some (.cells #[.pointer (some ⟨b, 0, none⟩), .int .u64 ((num + 1 : Nat) : Int), .int .u8 ((1 - half : Nat) : Int), .int .i64 (s.size : Int), .int .i64 ((0 : Nat) : Int), .int .i64 ((0 : Nat) : Int), .bool gone] 72 (0, 0))) (by kernel_rfl) (hst5) (fun hHeld => ?_)
    refine wpAnyH_take (i := 0) (v := .pointer (some ⟨W, 0, none⟩)) rfl (by kernel_rfl) (by kernel_rfl) (by kernel_rfl) (fun _ _ _ h => h) (Or.inl ⟨by rfl, fun w1 hSw => by clear hHeld; obtain ⟨c0, c1, c2, c3, c4, c5, c6, cz⟩ := wm_cells hSw; go_simp⟩) hHeld ?_
    simp only [Act.put, List.setIfInBounds_toArray]
    refine wpAnyH_take (i := 1) (v := .pointer (some ⟨W, 0, none⟩)) rfl (by kernel_rfl) (by kernel_rfl) (by kernel_rfl) (fun _ _ _ h => h) (Or.inl ⟨by rfl, fun w1 hSw => by clear hHeld; obtain ⟨c0, c1, c2, c3, c4, c5, c6, cz⟩ := wm_cells hSw; go_simp⟩) hHeld ?_
    try simp only [Act.put]
    refine wpAnyH_take (i := 2) (v := .pointer (some ⟨W, 0, none⟩)) rfl (by kernel_rfl) (by kernel_rfl) (by kernel_rfl) (fun _ _ _ h => h) (Or.inl ⟨by rfl, fun w1 hSw => by clear hHeld; obtain ⟨c0, c1, c2, c3, c4, c5, c6, cz⟩ := wm_cells hSw; go_simp⟩) hHeld ?_
    try simp only [Act.put]
    refine wpAnyH_take (i := 3) (v := .pointer (some ⟨W, 0, none⟩)) rfl (by kernel_rfl) (by kernel_rfl) (by kernel_rfl) (fun _ _ _ h => h) (Or.inl ⟨by rfl, fun w1 hSw => by clear hHeld; obtain ⟨c0, c1, c2, c3, c4, c5, c6, cz⟩ := wm_cells hSw; go_simp⟩) hHeld ?_
    try simp only [Act.put]
    refine wpAnyH_take (i := 4) (v := .pointer (some ⟨b, 0, none⟩)) rfl (by kernel_rfl) (by kernel_rfl) (by kernel_rfl) (fun _ _ _ h => h) (Or.inl ⟨by rfl, fun w1 hSw => by clear hHeld; obtain ⟨c0, c1, c2, c3, c4, c5, c6, cz⟩ := wm_cells hSw; go_simp⟩) hHeld ?_
    try simp only [Act.put]
    refine wpAnyH_take (i := 5) (v := .pointer (some ⟨W, 0, none⟩)) rfl (by kernel_rfl) (by kernel_rfl) (by kernel_rfl) (fun _ _ _ h => h) (Or.inl ⟨by rfl, fun w1 hSw => by clear hHeld; obtain ⟨c0, c1, c2, c3, c4, c5, c6, cz⟩ := wm_cells hSw; go_simp⟩) hHeld ?_
    try simp only [Act.put]
    refine wpAnyH_take (i := 6) (v := .pointer (some ⟨W, 0, none⟩)) rfl (by kernel_rfl) (by kernel_rfl) (by kernel_rfl) (fun _ _ _ h => h) (Or.inl ⟨by rfl, fun w1 hSw => by clear hHeld; obtain ⟨c0, c1, c2, c3, c4, c5, c6, cz⟩ := wm_cells hSw; go_simp⟩) hHeld ?_
    try simp only [Act.put]
    refine wpAnyH_take (i := 7) (v := .pointer (some ⟨W, 1, none⟩)) rfl (by kernel_rfl) (by kernel_rfl) (by kernel_rfl) (fun _ _ _ h => h) (Or.inl ⟨by rfl, fun w1 hSw => by clear hHeld; obtain ⟨c0, c1, c2, c3, c4, c5, c6, cz⟩ := wm_cells hSw; go_simp⟩) hHeld ?_
    try simp only [Act.put]
    refine wpAnyH_take (i := 8) (v := .pointer (some ⟨W, 2, none⟩)) rfl (by kernel_rfl) (by kernel_rfl) (by kernel_rfl) (fun _ _ _ h => h) (Or.inl ⟨by rfl, fun w1 hSw => by clear hHeld; obtain ⟨c0, c1, c2, c3, c4, c5, c6, cz⟩ := wm_cells hSw; go_simp⟩) hHeld ?_
    try simp only [Act.put]
    refine wpAnyH_take (i := 9) (v := .int .u8 ((1 - half : Nat) : Int)) rfl (by kernel_rfl) (by kernel_rfl) (by kernel_rfl) (fun _ _ _ h => h) (Or.inl ⟨by rfl, fun w1 hSw => by clear hHeld; obtain ⟨c0, c1, c2, c3, c4, c5, c6, cz⟩ := wm_cells hSw; go_simp⟩) hHeld ?_
    try simp only [Act.put]
    refine wpAnyH_take (i := 11) (v := .slice (some ⟨g, 0, none⟩) Q Q) rfl (by kernel_rfl) (by kernel_rfl) (by kernel_rfl) (fun _ _ _ h => h) (Or.inl ⟨by rfl, fun w1 hSw => by clear hHeld; obtain ⟨c0, c1, c2, c3, c4, c5, c6, cz⟩ := wm_cells hSw; go_simp⟩) hHeld ?_
    try simp only [Act.put]
    refine wpAnyH_ready (rs := [10]) (by kernel_rfl) (by simp) ?_
    refine AllReadyH.cons rfl (fun K hK => ?_) AllReadyH.nil
    go_simp
    refine (firstSector_any HD6.out hh1).mono ?_
    rintro e w0b ⟨rfl, rfl⟩
    refine hK.out _ _ (hHeld) (fun hHeld => ?_)
    clear hK K
    refine wpAnyH_ready (rs := [12]) (by kernel_rfl) (by simp) ?_
    refine AllReadyH.cons rfl (fun K hK => ?_) AllReadyH.nil
    go_simp
    refine HLy.out.mono ?_
    rintro e w9 ⟨rfl, F', hD9, hM9⟩
    have HD9 := hide hD9
    have HMv := hide (mv_on HBA.out HO6.out hM9)
    have HnF : Hid (¬ F' W) := hide fun k => by rcases hM9.foot W k with h5 | h5; exact hFW h5; exact absurd (lt_of_block hHeld) (by omega)
    have HW9 : Hid (Wm w9 W b ⟨⟨num + 1, 1 - half, s.size, 0⟩, 0, gone⟩) := hide ((hM9.block _ (lt_of_block hHeld) hFW).trans hHeld)
    have hs9 := (hM9.block _ (lt_of_block hHeld) hFW).trans hHeld
    clear hD9 hM9
    refine hK.out _ _ (hs9) (fun hHeld => ?_)
    clear hK K
    refine wpAnyH_ready (rs := [13]) (by kernel_rfl) (by simp) ?_
    refine AllReadyH.cons rfl (fun K hK => ?_) AllReadyH.nil
    go_simp
    refine hK.out _ _ (hHeld) (fun hHeld => ?_)
    clear hK K
    refine wpAnyH_done (by kernel_rfl) ?_ _
    clear hHeld
    go_wp2_with fail
    go_ret
    exact ⟨rfl, HW9.out, F', HD9.out, HMv.out, HnF.out⟩
  · go_simp
    refine hK.out _ _ (trivial) (fun hHeld => ?_)
    clear hK K
    refine wpAnyH_ready (rs := [5, 11]) (by kernel_rfl) (by simp) ?_
    refine AllReadyH.cons rfl (fun K hK => ?_) (AllReadyH.cons rfl (fun K hK => ?_) AllReadyH.nil)
    · go_simp
      refine hK.out _ _ (trivial) (fun hHeld => ?_)
      clear hK K
      refine wpAnyH_take (i := 6) (v := .int .u64 ((num : Int) + 1)) rfl (by kernel_rfl) (by kernel_rfl) (by kernel_rfl) (fun _ _ _ h => h) (Or.inl ⟨by rfl, fun w1 hSw => by clear hHeld; go_simp⟩) hHeld ?_
      try simp only [Act.put]
      refine wpAnyH_ready (rs := [11]) (by kernel_rfl) (by simp) ?_
      refine AllReadyH.cons rfl (fun K hK => ?_) AllReadyH.nil
      go_simp
      refine (HOt.out _).mono ?_
      rintro e w2a ⟨rfl, rfl⟩
      refine hK.out _ _ (trivial) (fun hHeld => ?_)
      clear hK K
      refine wpAnyH_take (i := 14) (v := .agg #[.int .u64 ((num : Int) + 1), .int .u8 ((1 - half : Nat) : Int), .int .i64 (s.size : Int), .int .i64 0]) rfl (by kernel_rfl) (by kernel_rfl) (by kernel_rfl) (fun _ _ _ h => h) (Or.inl ⟨by rfl, fun w1 hSw => by clear hHeld; go_simp⟩) hHeld ?_
      try simp only [Act.put]
      refine wpAnyH_take (i := 15) (v := .pointer (some ⟨W, 0, none⟩)) rfl (by kernel_rfl) (by kernel_rfl) (by kernel_rfl) (fun _ _ _ h => h) (Or.inl ⟨by rfl, fun w1 hSw => by clear hHeld; go_simp⟩) hHeld ?_
      try simp only [Act.put]
      refine wpAnyH_take (i := 16) (v := .pointer (some ⟨W, 1, none⟩)) rfl (by kernel_rfl) (by kernel_rfl) (by kernel_rfl) (fun _ _ _ h => h) (Or.inl ⟨by rfl, fun w1 hSw => by clear hHeld; go_simp⟩) hHeld ?_
      try simp only [Act.put]
      refine wpAnyH_ready (rs := [17]) (by kernel_rfl) (by simp) ?_
      refine AllReadyH.cons rfl (fun K hK => ?_) AllReadyH.nil
      go_simp
      refine hK.out _ _ (trivial) (fun hHeld => ?_)
      clear hK K
      refine wpAnyH_done (by kernel_rfl) ?_ _
      clear hHeld
      go_wp2_with fail
      have e1 : (num : Int) + 1 = ((num + 1 : Nat) : Int) := by simp
      rw [e1]
      have HW6 : Hid (Wm ((((((w4.alloc (.cells #[.int .u64 (num : Int), .int .u8 (half : Int), .int .i64 (sn : Int), .int .i64 (lg : Int)] 58)).setCell ⟨W, 1, none⟩ (.int .u64 ((num + 1 : Nat) : Int))).setCell ⟨W, 2, none⟩ (.int .u8 ((1 - half : Nat) : Int))).setCell ⟨W, 3, none⟩ (.int .i64 (s.size : Int))).setCell ⟨W, 4, none⟩ (.int .i64 0)).setCell ⟨W, 5, none⟩ (.int .i64 0)).drew W b ⟨⟨num + 1, 1 - half, s.size, 0⟩, 0, gone⟩) := hide (wm_drew (wm_set5 (wm_mk HWA.out) (num + 1) (1 - half) s.size))
      have HO6 : Hid (Onl W (w4.alloc (.cells #[.int .u64 (num : Int), .int .u8 (half : Int), .int .i64 (sn : Int), .int .i64 (lg : Int)] 58)) ((((((w4.alloc (.cells #[.int .u64 (num : Int), .int .u8 (half : Int), .int .i64 (sn : Int), .int .i64 (lg : Int)] 58)).setCell ⟨W, 1, none⟩ (.int .u64 ((num + 1 : Nat) : Int))).setCell ⟨W, 2, none⟩ (.int .u8 ((1 - half : Nat) : Int))).setCell ⟨W, 3, none⟩ (.int .i64 (s.size : Int))).setCell ⟨W, 4, none⟩ (.int .i64 0)).setCell ⟨W, 5, none⟩ (.int .i64 0)).drew) := hide (onl5 W (w4.alloc (.cells #[.int .u64 (num : Int), .int .u8 (half : Int), .int .i64 (sn : Int), .int .i64 (lg : Int)] 58)) (.int .u64 ((num + 1 : Nat) : Int)) (.int .u8 ((1 - half : Nat) : Int)) (.int .i64 (s.size : Int)) (.int .i64 0) (.int .i64 0)).drw
      have HBA : Hid (Below w.heap.size w (w4.alloc (.cells #[.int .u64 (num : Int), .int .u8 (half : Int), .int .i64 (sn : Int), .int .i64 (lg : Int)] 58))) := hide (HB4.out.alloc HB4.out.size _)
      have hgl : g < w4.heap.size := lt_of_block HA1.out
      have HG6 : Hid (Bf ((((((w4.alloc (.cells #[.int .u64 (num : Int), .int .u8 (half : Int), .int .i64 (sn : Int), .int .i64 (lg : Int)] 58)).setCell ⟨W, 1, none⟩ (.int .u64 ((num + 1 : Nat) : Int))).setCell ⟨W, 2, none⟩ (.int .u8 ((1 - half : Nat) : Int))).setCell ⟨W, 3, none⟩ (.int .i64 (s.size : Int))).setCell ⟨W, 4, none⟩ (.int .i64 0)).setCell ⟨W, 5, none⟩ (.int .i64 0)).drew g (Wl.pad s.data.toList)) := hide ((HO6.out.block g (by omega)).trans (box_al HA1.out _))
      have HD6 : Hid (D.Dk base ((((((w4.alloc (.cells #[.int .u64 (num : Int), .int .u8 (half : Int), .int .i64 (sn : Int), .int .i64 (lg : Int)] 58)).setCell ⟨W, 1, none⟩ (.int .u64 ((num + 1 : Nat) : Int))).setCell ⟨W, 2, none⟩ (.int .u8 ((1 - half : Nat) : Int))).setCell ⟨W, 3, none⟩ (.int .i64 (s.size : Int))).setCell ⟨W, 4, none⟩ (.int .i64 0)).setCell ⟨W, 5, none⟩ (.int .i64 0)).drew b F d) := hide ((HD.out.below HBA.out).keep fun k hk => HO6.out.block k (fun e => hFW (e ▸ hk)))
      generalize ((((((w4.alloc (.cells #[.int .u64 (num : Int), .int .u8 (half : Int), .int .i64 (sn : Int), .int .i64 (lg : Int)] 58)).setCell ⟨W, 1, none⟩ (.int .u64 ((num + 1 : Nat) : Int))).setCell ⟨W, 2, none⟩ (.int .u8 ((1 - half : Nat) : Int))).setCell ⟨W, 3, none⟩ (.int .i64 (s.size : Int))).setCell ⟨W, 4, none⟩ (.int .i64 0)).setCell ⟨W, 5, none⟩ (.int .i64 0)).drew = w6 at *
      have HD6d : Hid (D.Dk base w6.drew b F d) := hide HD6.out.drew
      have HW6d : Hid (Wm w6.drew W b ⟨⟨num + 1, 1 - half, s.size, 0⟩, 0, gone⟩) := hide (wm_drew HW6.out)
      have HG6d : Hid (Bf w6.drew g (Wl.pad s.data.toList)) := hide (bf_drew HG6.out)
      have HLy := hide (lay_any (base := base) (d := d) (F := F) (b := b) (first := Wl.first d.S.length (1 - half)) (m := M) (ws := ⟨⟨num + 1, 1 - half, s.size, 0⟩, 0, gone⟩) (l := Wl.pad s.data.toList) HD6d.out HW6d.out hFW HK.out.1 HK.out.2.1 HK.out.2.2.1 HK.out.2.2.2.1 (by rw [HPL.out]; exact HQ.out.symm) HG6d.out (by rw [← HG.out]; exact hFg) HK.out.2.2.2.2.2 hfl HK.out.2.2.2.2.1)
      have HD6 := HD6d
      rw [HX.out, HRR.out] at HLy
      have hst5 : w6.heap[W]? = some (.cells #[.pointer (some ⟨b, 0, none⟩), .int .u64 ((num + 1 : Nat) : Int), .int .u8 ((1 - half : Nat) : Int), .int .i64 (s.size : Int), .int .i64 ((0 : Nat) : Int), .int .i64 ((0 : Nat) : Int), .bool gone] 72 (0, 0)) := HW6.out
      clear k0 k1 k2 k3 k4 k5 k6 kz c0 c1 c2 c3 c4 c5 c6 cz hcp e1 hwu
      rw [HQ.out] at HLy
      refine wp_region_held_drew (S := fun w' => w'.heap[W]? = some (.cells #[.pointer (some ⟨b, 0, none⟩), .int .u64 ((num + 1 : Nat) : Int), .int .u8 ((1 - half : Nat) : Int), .int .i64 (s.size : Int), .int .i64 ((0 : Nat) : Int), .int .i64 ((0 : Nat) : Int), .bool gone] 72 (0, 0))) (by kernel_rfl) (hst5) (fun hHeld => ?_)
      refine wpAnyH_take (i := 0) (v := .pointer (some ⟨W, 0, none⟩)) rfl (by kernel_rfl) (by kernel_rfl) (by kernel_rfl) (fun _ _ _ h => h) (Or.inl ⟨by rfl, fun w1 hSw => by clear hHeld; obtain ⟨c0, c1, c2, c3, c4, c5, c6, cz⟩ := wm_cells hSw; go_simp⟩) hHeld ?_
      simp only [Act.put, List.setIfInBounds_toArray]
      refine wpAnyH_take (i := 1) (v := .pointer (some ⟨W, 0, none⟩)) rfl (by kernel_rfl) (by kernel_rfl) (by kernel_rfl) (fun _ _ _ h => h) (Or.inl ⟨by rfl, fun w1 hSw => by clear hHeld; obtain ⟨c0, c1, c2, c3, c4, c5, c6, cz⟩ := wm_cells hSw; go_simp⟩) hHeld ?_
      try simp only [Act.put]
      refine wpAnyH_take (i := 2) (v := .pointer (some ⟨W, 0, none⟩)) rfl (by kernel_rfl) (by kernel_rfl) (by kernel_rfl) (fun _ _ _ h => h) (Or.inl ⟨by rfl, fun w1 hSw => by clear hHeld; obtain ⟨c0, c1, c2, c3, c4, c5, c6, cz⟩ := wm_cells hSw; go_simp⟩) hHeld ?_
      try simp only [Act.put]
      refine wpAnyH_take (i := 3) (v := .pointer (some ⟨W, 0, none⟩)) rfl (by kernel_rfl) (by kernel_rfl) (by kernel_rfl) (fun _ _ _ h => h) (Or.inl ⟨by rfl, fun w1 hSw => by clear hHeld; obtain ⟨c0, c1, c2, c3, c4, c5, c6, cz⟩ := wm_cells hSw; go_simp⟩) hHeld ?_
      try simp only [Act.put]
      refine wpAnyH_take (i := 4) (v := .pointer (some ⟨b, 0, none⟩)) rfl (by kernel_rfl) (by kernel_rfl) (by kernel_rfl) (fun _ _ _ h => h) (Or.inl ⟨by rfl, fun w1 hSw => by clear hHeld; obtain ⟨c0, c1, c2, c3, c4, c5, c6, cz⟩ := wm_cells hSw; go_simp⟩) hHeld ?_
      try simp only [Act.put]
      refine wpAnyH_take (i := 5) (v := .pointer (some ⟨W, 0, none⟩)) rfl (by kernel_rfl) (by kernel_rfl) (by kernel_rfl) (fun _ _ _ h => h) (Or.inl ⟨by rfl, fun w1 hSw => by clear hHeld; obtain ⟨c0, c1, c2, c3, c4, c5, c6, cz⟩ := wm_cells hSw; go_simp⟩) hHeld ?_
      try simp only [Act.put]
      refine wpAnyH_take (i := 6) (v := .pointer (some ⟨W, 0, none⟩)) rfl (by kernel_rfl) (by kernel_rfl) (by kernel_rfl) (fun _ _ _ h => h) (Or.inl ⟨by rfl, fun w1 hSw => by clear hHeld; obtain ⟨c0, c1, c2, c3, c4, c5, c6, cz⟩ := wm_cells hSw; go_simp⟩) hHeld ?_
      try simp only [Act.put]
      refine wpAnyH_take (i := 7) (v := .pointer (some ⟨W, 1, none⟩)) rfl (by kernel_rfl) (by kernel_rfl) (by kernel_rfl) (fun _ _ _ h => h) (Or.inl ⟨by rfl, fun w1 hSw => by clear hHeld; obtain ⟨c0, c1, c2, c3, c4, c5, c6, cz⟩ := wm_cells hSw; go_simp⟩) hHeld ?_
      try simp only [Act.put]
      refine wpAnyH_take (i := 8) (v := .pointer (some ⟨W, 2, none⟩)) rfl (by kernel_rfl) (by kernel_rfl) (by kernel_rfl) (fun _ _ _ h => h) (Or.inl ⟨by rfl, fun w1 hSw => by clear hHeld; obtain ⟨c0, c1, c2, c3, c4, c5, c6, cz⟩ := wm_cells hSw; go_simp⟩) hHeld ?_
      try simp only [Act.put]
      refine wpAnyH_take (i := 9) (v := .int .u8 ((1 - half : Nat) : Int)) rfl (by kernel_rfl) (by kernel_rfl) (by kernel_rfl) (fun _ _ _ h => h) (Or.inl ⟨by rfl, fun w1 hSw => by clear hHeld; obtain ⟨c0, c1, c2, c3, c4, c5, c6, cz⟩ := wm_cells hSw; go_simp⟩) hHeld ?_
      try simp only [Act.put]
      refine wpAnyH_take (i := 11) (v := .slice (some ⟨g, 0, none⟩) Q Q) rfl (by kernel_rfl) (by kernel_rfl) (by kernel_rfl) (fun _ _ _ h => h) (Or.inl ⟨by rfl, fun w1 hSw => by clear hHeld; obtain ⟨c0, c1, c2, c3, c4, c5, c6, cz⟩ := wm_cells hSw; go_simp⟩) hHeld ?_
      try simp only [Act.put]
      refine wpAnyH_ready (rs := [10]) (by kernel_rfl) (by simp) ?_
      refine AllReadyH.cons rfl (fun K hK => ?_) AllReadyH.nil
      go_simp
      refine (firstSector_any HD6.out hh1).mono ?_
      rintro e w0b ⟨rfl, rfl⟩
      refine hK.out _ _ (hHeld) (fun hHeld => ?_)
      clear hK K
      refine wpAnyH_ready (rs := [12]) (by kernel_rfl) (by simp) ?_
      refine AllReadyH.cons rfl (fun K hK => ?_) AllReadyH.nil
      go_simp
      refine HLy.out.mono ?_
      rintro e w9 ⟨rfl, F', hD9, hM9⟩
      have HD9 := hide hD9
      have HMv := hide (mv_on HBA.out HO6.out hM9)
      have HnF : Hid (¬ F' W) := hide fun k => by rcases hM9.foot W k with h5 | h5; exact hFW h5; exact absurd (lt_of_block hHeld) (by omega)
      have HW9 : Hid (Wm w9 W b ⟨⟨num + 1, 1 - half, s.size, 0⟩, 0, gone⟩) := hide ((hM9.block _ (lt_of_block hHeld) hFW).trans hHeld)
      have hs9 := (hM9.block _ (lt_of_block hHeld) hFW).trans hHeld
      clear hD9 hM9
      refine hK.out _ _ (hs9) (fun hHeld => ?_)
      clear hK K
      refine wpAnyH_ready (rs := [13]) (by kernel_rfl) (by simp) ?_
      refine AllReadyH.cons rfl (fun K hK => ?_) AllReadyH.nil
      go_simp
      refine hK.out _ _ (hHeld) (fun hHeld => ?_)
      clear hK K
      refine wpAnyH_done (by kernel_rfl) ?_ _
      clear hHeld
      go_wp2_with fail
      go_ret
      exact ⟨rfl, HW9.out, F', HD9.out, HMv.out, HnF.out⟩
    · go_simp
      refine (HOt.out _).mono ?_
      rintro e w1a ⟨rfl, rfl⟩
      refine hK.out _ _ (trivial) (fun hHeld => ?_)
      clear hK K
      refine wpAnyH_ready (rs := [5]) (by kernel_rfl) (by simp) ?_
      refine AllReadyH.cons rfl (fun K hK => ?_) AllReadyH.nil
      go_simp
      refine hK.out _ _ (trivial) (fun hHeld => ?_)
      clear hK K
      refine wpAnyH_take (i := 6) (v := .int .u64 ((num : Int) + 1)) rfl (by kernel_rfl) (by kernel_rfl) (by kernel_rfl) (fun _ _ _ h => h) (Or.inl ⟨by rfl, fun w1 hSw => by clear hHeld; go_simp⟩) hHeld ?_
      try simp only [Act.put]
      refine wpAnyH_take (i := 14) (v := .agg #[.int .u64 ((num : Int) + 1), .int .u8 ((1 - half : Nat) : Int), .int .i64 (s.size : Int), .int .i64 0]) rfl (by kernel_rfl) (by kernel_rfl) (by kernel_rfl) (fun _ _ _ h => h) (Or.inl ⟨by rfl, fun w1 hSw => by clear hHeld; go_simp⟩) hHeld ?_
      try simp only [Act.put]
      refine wpAnyH_take (i := 15) (v := .pointer (some ⟨W, 0, none⟩)) rfl (by kernel_rfl) (by kernel_rfl) (by kernel_rfl) (fun _ _ _ h => h) (Or.inl ⟨by rfl, fun w1 hSw => by clear hHeld; go_simp⟩) hHeld ?_
      try simp only [Act.put]
      refine wpAnyH_take (i := 16) (v := .pointer (some ⟨W, 1, none⟩)) rfl (by kernel_rfl) (by kernel_rfl) (by kernel_rfl) (fun _ _ _ h => h) (Or.inl ⟨by rfl, fun w1 hSw => by clear hHeld; go_simp⟩) hHeld ?_
      try simp only [Act.put]
      refine wpAnyH_ready (rs := [17]) (by kernel_rfl) (by simp) ?_
      refine AllReadyH.cons rfl (fun K hK => ?_) AllReadyH.nil
      go_simp
      refine hK.out _ _ (trivial) (fun hHeld => ?_)
      clear hK K
      refine wpAnyH_done (by kernel_rfl) ?_ _
      clear hHeld
      go_wp2_with fail
      have e1 : (num : Int) + 1 = ((num + 1 : Nat) : Int) := by simp
      rw [e1]
      have HW6 : Hid (Wm ((((((w4.alloc (.cells #[.int .u64 (num : Int), .int .u8 (half : Int), .int .i64 (sn : Int), .int .i64 (lg : Int)] 58)).setCell ⟨W, 1, none⟩ (.int .u64 ((num + 1 : Nat) : Int))).setCell ⟨W, 2, none⟩ (.int .u8 ((1 - half : Nat) : Int))).setCell ⟨W, 3, none⟩ (.int .i64 (s.size : Int))).setCell ⟨W, 4, none⟩ (.int .i64 0)).setCell ⟨W, 5, none⟩ (.int .i64 0)).drew W b ⟨⟨num + 1, 1 - half, s.size, 0⟩, 0, gone⟩) := hide (wm_drew (wm_set5 (wm_mk HWA.out) (num + 1) (1 - half) s.size))
      have HO6 : Hid (Onl W (w4.alloc (.cells #[.int .u64 (num : Int), .int .u8 (half : Int), .int .i64 (sn : Int), .int .i64 (lg : Int)] 58)) ((((((w4.alloc (.cells #[.int .u64 (num : Int), .int .u8 (half : Int), .int .i64 (sn : Int), .int .i64 (lg : Int)] 58)).setCell ⟨W, 1, none⟩ (.int .u64 ((num + 1 : Nat) : Int))).setCell ⟨W, 2, none⟩ (.int .u8 ((1 - half : Nat) : Int))).setCell ⟨W, 3, none⟩ (.int .i64 (s.size : Int))).setCell ⟨W, 4, none⟩ (.int .i64 0)).setCell ⟨W, 5, none⟩ (.int .i64 0)).drew) := hide (onl5 W (w4.alloc (.cells #[.int .u64 (num : Int), .int .u8 (half : Int), .int .i64 (sn : Int), .int .i64 (lg : Int)] 58)) (.int .u64 ((num + 1 : Nat) : Int)) (.int .u8 ((1 - half : Nat) : Int)) (.int .i64 (s.size : Int)) (.int .i64 0) (.int .i64 0)).drw
      have HBA : Hid (Below w.heap.size w (w4.alloc (.cells #[.int .u64 (num : Int), .int .u8 (half : Int), .int .i64 (sn : Int), .int .i64 (lg : Int)] 58))) := hide (HB4.out.alloc HB4.out.size _)
      have hgl : g < w4.heap.size := lt_of_block HA1.out
      have HG6 : Hid (Bf ((((((w4.alloc (.cells #[.int .u64 (num : Int), .int .u8 (half : Int), .int .i64 (sn : Int), .int .i64 (lg : Int)] 58)).setCell ⟨W, 1, none⟩ (.int .u64 ((num + 1 : Nat) : Int))).setCell ⟨W, 2, none⟩ (.int .u8 ((1 - half : Nat) : Int))).setCell ⟨W, 3, none⟩ (.int .i64 (s.size : Int))).setCell ⟨W, 4, none⟩ (.int .i64 0)).setCell ⟨W, 5, none⟩ (.int .i64 0)).drew g (Wl.pad s.data.toList)) := hide ((HO6.out.block g (by omega)).trans (box_al HA1.out _))
      have HD6 : Hid (D.Dk base ((((((w4.alloc (.cells #[.int .u64 (num : Int), .int .u8 (half : Int), .int .i64 (sn : Int), .int .i64 (lg : Int)] 58)).setCell ⟨W, 1, none⟩ (.int .u64 ((num + 1 : Nat) : Int))).setCell ⟨W, 2, none⟩ (.int .u8 ((1 - half : Nat) : Int))).setCell ⟨W, 3, none⟩ (.int .i64 (s.size : Int))).setCell ⟨W, 4, none⟩ (.int .i64 0)).setCell ⟨W, 5, none⟩ (.int .i64 0)).drew b F d) := hide ((HD.out.below HBA.out).keep fun k hk => HO6.out.block k (fun e => hFW (e ▸ hk)))
      generalize ((((((w4.alloc (.cells #[.int .u64 (num : Int), .int .u8 (half : Int), .int .i64 (sn : Int), .int .i64 (lg : Int)] 58)).setCell ⟨W, 1, none⟩ (.int .u64 ((num + 1 : Nat) : Int))).setCell ⟨W, 2, none⟩ (.int .u8 ((1 - half : Nat) : Int))).setCell ⟨W, 3, none⟩ (.int .i64 (s.size : Int))).setCell ⟨W, 4, none⟩ (.int .i64 0)).setCell ⟨W, 5, none⟩ (.int .i64 0)).drew = w6 at *
      have HD6d : Hid (D.Dk base w6.drew b F d) := hide HD6.out.drew
      have HW6d : Hid (Wm w6.drew W b ⟨⟨num + 1, 1 - half, s.size, 0⟩, 0, gone⟩) := hide (wm_drew HW6.out)
      have HG6d : Hid (Bf w6.drew g (Wl.pad s.data.toList)) := hide (bf_drew HG6.out)
      have HLy := hide (lay_any (base := base) (d := d) (F := F) (b := b) (first := Wl.first d.S.length (1 - half)) (m := M) (ws := ⟨⟨num + 1, 1 - half, s.size, 0⟩, 0, gone⟩) (l := Wl.pad s.data.toList) HD6d.out HW6d.out hFW HK.out.1 HK.out.2.1 HK.out.2.2.1 HK.out.2.2.2.1 (by rw [HPL.out]; exact HQ.out.symm) HG6d.out (by rw [← HG.out]; exact hFg) HK.out.2.2.2.2.2 hfl HK.out.2.2.2.2.1)
      have HD6 := HD6d
      rw [HX.out, HRR.out] at HLy
      have hst5 : w6.heap[W]? = some (.cells #[.pointer (some ⟨b, 0, none⟩), .int .u64 ((num + 1 : Nat) : Int), .int .u8 ((1 - half : Nat) : Int), .int .i64 (s.size : Int), .int .i64 ((0 : Nat) : Int), .int .i64 ((0 : Nat) : Int), .bool gone] 72 (0, 0)) := HW6.out
      clear k0 k1 k2 k3 k4 k5 k6 kz c0 c1 c2 c3 c4 c5 c6 cz hcp e1 hwu
      rw [HQ.out] at HLy
      refine wp_region_held_drew (S := fun w' => w'.heap[W]? = some (.cells #[.pointer (some ⟨b, 0, none⟩), .int .u64 ((num + 1 : Nat) : Int), .int .u8 ((1 - half : Nat) : Int), .int .i64 (s.size : Int), .int .i64 ((0 : Nat) : Int), .int .i64 ((0 : Nat) : Int), .bool gone] 72 (0, 0))) (by kernel_rfl) (hst5) (fun hHeld => ?_)
      refine wpAnyH_take (i := 0) (v := .pointer (some ⟨W, 0, none⟩)) rfl (by kernel_rfl) (by kernel_rfl) (by kernel_rfl) (fun _ _ _ h => h) (Or.inl ⟨by rfl, fun w1 hSw => by clear hHeld; obtain ⟨c0, c1, c2, c3, c4, c5, c6, cz⟩ := wm_cells hSw; go_simp⟩) hHeld ?_
      simp only [Act.put, List.setIfInBounds_toArray]
      refine wpAnyH_take (i := 1) (v := .pointer (some ⟨W, 0, none⟩)) rfl (by kernel_rfl) (by kernel_rfl) (by kernel_rfl) (fun _ _ _ h => h) (Or.inl ⟨by rfl, fun w1 hSw => by clear hHeld; obtain ⟨c0, c1, c2, c3, c4, c5, c6, cz⟩ := wm_cells hSw; go_simp⟩) hHeld ?_
      try simp only [Act.put]
      refine wpAnyH_take (i := 2) (v := .pointer (some ⟨W, 0, none⟩)) rfl (by kernel_rfl) (by kernel_rfl) (by kernel_rfl) (fun _ _ _ h => h) (Or.inl ⟨by rfl, fun w1 hSw => by clear hHeld; obtain ⟨c0, c1, c2, c3, c4, c5, c6, cz⟩ := wm_cells hSw; go_simp⟩) hHeld ?_
      try simp only [Act.put]
      refine wpAnyH_take (i := 3) (v := .pointer (some ⟨W, 0, none⟩)) rfl (by kernel_rfl) (by kernel_rfl) (by kernel_rfl) (fun _ _ _ h => h) (Or.inl ⟨by rfl, fun w1 hSw => by clear hHeld; obtain ⟨c0, c1, c2, c3, c4, c5, c6, cz⟩ := wm_cells hSw; go_simp⟩) hHeld ?_
      try simp only [Act.put]
      refine wpAnyH_take (i := 4) (v := .pointer (some ⟨b, 0, none⟩)) rfl (by kernel_rfl) (by kernel_rfl) (by kernel_rfl) (fun _ _ _ h => h) (Or.inl ⟨by rfl, fun w1 hSw => by clear hHeld; obtain ⟨c0, c1, c2, c3, c4, c5, c6, cz⟩ := wm_cells hSw; go_simp⟩) hHeld ?_
      try simp only [Act.put]
      refine wpAnyH_take (i := 5) (v := .pointer (some ⟨W, 0, none⟩)) rfl (by kernel_rfl) (by kernel_rfl) (by kernel_rfl) (fun _ _ _ h => h) (Or.inl ⟨by rfl, fun w1 hSw => by clear hHeld; obtain ⟨c0, c1, c2, c3, c4, c5, c6, cz⟩ := wm_cells hSw; go_simp⟩) hHeld ?_
      try simp only [Act.put]
      refine wpAnyH_take (i := 6) (v := .pointer (some ⟨W, 0, none⟩)) rfl (by kernel_rfl) (by kernel_rfl) (by kernel_rfl) (fun _ _ _ h => h) (Or.inl ⟨by rfl, fun w1 hSw => by clear hHeld; obtain ⟨c0, c1, c2, c3, c4, c5, c6, cz⟩ := wm_cells hSw; go_simp⟩) hHeld ?_
      try simp only [Act.put]
      refine wpAnyH_take (i := 7) (v := .pointer (some ⟨W, 1, none⟩)) rfl (by kernel_rfl) (by kernel_rfl) (by kernel_rfl) (fun _ _ _ h => h) (Or.inl ⟨by rfl, fun w1 hSw => by clear hHeld; obtain ⟨c0, c1, c2, c3, c4, c5, c6, cz⟩ := wm_cells hSw; go_simp⟩) hHeld ?_
      try simp only [Act.put]
      refine wpAnyH_take (i := 8) (v := .pointer (some ⟨W, 2, none⟩)) rfl (by kernel_rfl) (by kernel_rfl) (by kernel_rfl) (fun _ _ _ h => h) (Or.inl ⟨by rfl, fun w1 hSw => by clear hHeld; obtain ⟨c0, c1, c2, c3, c4, c5, c6, cz⟩ := wm_cells hSw; go_simp⟩) hHeld ?_
      try simp only [Act.put]
      refine wpAnyH_take (i := 9) (v := .int .u8 ((1 - half : Nat) : Int)) rfl (by kernel_rfl) (by kernel_rfl) (by kernel_rfl) (fun _ _ _ h => h) (Or.inl ⟨by rfl, fun w1 hSw => by clear hHeld; obtain ⟨c0, c1, c2, c3, c4, c5, c6, cz⟩ := wm_cells hSw; go_simp⟩) hHeld ?_
      try simp only [Act.put]
      refine wpAnyH_take (i := 11) (v := .slice (some ⟨g, 0, none⟩) Q Q) rfl (by kernel_rfl) (by kernel_rfl) (by kernel_rfl) (fun _ _ _ h => h) (Or.inl ⟨by rfl, fun w1 hSw => by clear hHeld; obtain ⟨c0, c1, c2, c3, c4, c5, c6, cz⟩ := wm_cells hSw; go_simp⟩) hHeld ?_
      try simp only [Act.put]
      refine wpAnyH_ready (rs := [10]) (by kernel_rfl) (by simp) ?_
      refine AllReadyH.cons rfl (fun K hK => ?_) AllReadyH.nil
      go_simp
      refine (firstSector_any HD6.out hh1).mono ?_
      rintro e w0b ⟨rfl, rfl⟩
      refine hK.out _ _ (hHeld) (fun hHeld => ?_)
      clear hK K
      refine wpAnyH_ready (rs := [12]) (by kernel_rfl) (by simp) ?_
      refine AllReadyH.cons rfl (fun K hK => ?_) AllReadyH.nil
      go_simp
      refine HLy.out.mono ?_
      rintro e w9 ⟨rfl, F', hD9, hM9⟩
      have HD9 := hide hD9
      have HMv := hide (mv_on HBA.out HO6.out hM9)
      have HnF : Hid (¬ F' W) := hide fun k => by rcases hM9.foot W k with h5 | h5; exact hFW h5; exact absurd (lt_of_block hHeld) (by omega)
      have HW9 : Hid (Wm w9 W b ⟨⟨num + 1, 1 - half, s.size, 0⟩, 0, gone⟩) := hide ((hM9.block _ (lt_of_block hHeld) hFW).trans hHeld)
      have hs9 := (hM9.block _ (lt_of_block hHeld) hFW).trans hHeld
      clear hD9 hM9
      refine hK.out _ _ (hs9) (fun hHeld => ?_)
      clear hK K
      refine wpAnyH_ready (rs := [13]) (by kernel_rfl) (by simp) ?_
      refine AllReadyH.cons rfl (fun K hK => ?_) AllReadyH.nil
      go_simp
      refine hK.out _ _ (hHeld) (fun hHeld => ?_)
      clear hK K
      refine wpAnyH_done (by kernel_rfl) ?_ _
      clear hHeld
      go_wp2_with fail
      go_ret
      exact ⟨rfl, HW9.out, F', HD9.out, HMv.out, HnF.out⟩
end Go.Proofs.Ytojghjgbnnkldaa
end
