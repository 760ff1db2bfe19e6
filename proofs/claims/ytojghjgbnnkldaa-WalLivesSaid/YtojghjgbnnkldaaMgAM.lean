import Derived.Test.YtojghjgbnnkldaaMgAL

section
namespace Go.Proofs.Ytojghjgbnnkldaa
open Go.RowKit Go.Shelf
open Wl (Hd WS Log)

set_option maxHeartbeats 1000000 in
set_option maxRecDepth 8000 in
theorem logOf_D {base : Nat} {w : World} {b : Nat} {F : Nat → Prop} {d : D.DS} (h : D.Dk base w b F d) (hd : d.dead = false) (hfit : Wl.Fits d.S.length) (k : Nat) (hk : k < 2) (hm : Wl.MayBe (Wl.parse (d.S.getD k ByteArray.empty)) (Wl.hb d.S.length)) (hsec : (Wl.parse (d.S.getD k ByteArray.empty)).num % 2 = k) (hby : Wl.headB (Wl.parse (d.S.getD k ByteArray.empty)) = d.S.getD k ByteArray.empty) :
    Calls Try.prog 47 #[.pointer (some ⟨b, 0, none⟩), .int .i64 (k : Int)] w (LPost w (Wl.logOf d.S k)) := by
  have hlen : 4 ≤ d.S.length := by obtain ⟨h1, _, h2⟩ := hfit; omega
  have hrd : d.read (k : Int) = (d.S.getD k ByteArray.empty, 0) := by unfold D.DS.read; rw [if_neg (by simp [hd]), if_neg (by omega)]; rfl
  have hs8 : (d.S.getD k ByteArray.empty).size = 128 := by
    rw [List.getD_eq_getElem?_getD, List.getElem?_eq_getElem (by omega)]; exact h.ok.s128.get _
  have HRd := hide (D.read_any (h.alloc (.cells zeroLog 60)) (k : Int))
  rw [hrd] at HRd
  have HD := hide h
  have HHb : Hid (∀ W : World, Below (w.alloc (.cells zeroLog 60)).heap.size (w.alloc (.cells zeroLog 60)) W → Calls Try.prog 35 #[.pointer (some ⟨b, 0, none⟩)] W fun e w' => e = .returned (.int .i64 (Wl.hb d.S.length : Int)) ∧ w' = W) := hide fun W hW => halfBytes_any ((HD.out.alloc _).below hW)
  have HNo := hide (logOf_not (S := d.S) (k := k))
  have HYe := hide (logOf_yes (S := d.S) (k := k))
  have HFr : Hid (Wl.Front d.S k (Wl.parse (d.S.getD k ByteArray.empty)) ↔ Wl.MayBe (Wl.parse (d.S.getD k ByteArray.empty)) (Wl.hb d.S.length) ∧ (Wl.parse (d.S.getD k ByteArray.empty)).num % 2 = k ∧ Wl.headB (Wl.parse (d.S.getD k ByteArray.empty)) = d.S.getD k ByteArray.empty) := hide Iff.rfl
  obtain ⟨X, hX⟩ : ∃ X, Wl.logOf d.S k = X := ⟨_, rfl⟩
  rw [hX] at HNo HYe ⊢
  clear h hX hrd
  have HPa := hide (fun W => parseHead_any (d.S.getD k ByteArray.empty) hs8 W)
  have HLt := hide (parse_lt (d.S.getD k ByteArray.empty))
  have HU := hide hfit
  generalize d.S.getD k ByteArray.empty = s at *
  have hlt := HLt.out
  have HMb := hide (fun W => mayBe_any (Wl.parse s) hlt.2.2.1 hlt.2.2.2 (Wl.hb d.S.length) W)
  have HBy := hide (fun W => bytes_any (Wl.parse s) hlt.1 hlt.2.1 hlt.2.2.1 hlt.2.2.2 W)
  have HUs := hide (fun W => used_any (Wl.parse s) (Nat.le_of_lt hlt.2.2.1) (Nat.le_of_lt hlt.2.2.2) W)
  generalize Wl.parse s = H at *
  obtain ⟨num, half, sn, lg⟩ := H
  have HZ : Hid ((w.alloc (.cells zeroLog 60)).heap[w.heap.size]? = some (.cells #[.int .u64 0, .int .u8 0, .int .i64 0, .int .i64 0, .string ⟨#[]⟩, .slice none 0 0] 60 (0, 0))) := hide (heap_alloc_new w _)
  clear hlt
  simp only [hdC] at *
  go_enter Try.func47, Try.ntmps47
  go_wp2_with fail
  refine HRd.out.mono ?_
  rintro e w' ⟨rfl, rfl⟩
  go_wp2_with fail
  refine (HPa.out _).mono ?_
  rintro e w1 ⟨rfl, hb1⟩
  have HB0 : Hid (Below (w.alloc (.cells zeroLog 60)).heap.size (w.alloc (.cells zeroLog 60)) (w1.alloc (.cells #[.int .u64 (num : Int), .int .u8 (half : Int), .int .i64 (sn : Int), .int .i64 (lg : Int)] 58)).drew) := hide ((hb1.alloc hb1.size _).trans ⟨rfl, rfl, rfl, Nat.le_refl _, fun _ _ => rfl⟩)
  obtain ⟨Y, hY⟩ : ∃ Y, w1.heap.size = Y := ⟨_, rfl⟩
  have hst : (w1.alloc (.cells #[.int .u64 (num : Int), .int .u8 (half : Int), .int .i64 (sn : Int), .int .i64 (lg : Int)] 58)).heap[Y]? = some (.cells #[.int .u64 (num : Int), .int .u8 (half : Int), .int .i64 (sn : Int), .int .i64 (lg : Int)] 58 (0, 0)) := by rw [← hY]; exact heap_alloc_new w1 _
  have HW1 := hide hb1.size
  clear hb1 HRd HPa
  rw [decide_eq_true hm] at HMb
  have hne : (((num % 2 : Nat) : Int) != (k : Int)) = false := by simp; omega
  have hne2 : ((num : Int) % 2 != (k : Int)) = false := by simp; omega
  have hhalf : half < 2 := hm.2.2.1
  have hused : Hd.used ⟨num, half, sn, lg⟩ ≤ Wl.hb d.S.length := hm.2.2.2.2
  have hu1 : Hd.used ⟨num, half, sn, lg⟩ ≤ 100000 := by have := hs_le _ HD.out.ok.s1; unfold Wl.hb at hused; omega
  have hu2 : Wl.first d.S.length half + Wl.up (Hd.used ⟨num, half, sn, lg⟩) ≤ d.S.length := by
    have h9 := HU.out.2.2
    unfold Wl.hb at hused
    have h7 : Wl.up (Hd.used ⟨num, half, sn, lg⟩) ≤ Wl.hs d.S.length := by unfold Wl.up; omega
    have h8 : half * Wl.hs d.S.length ≤ Wl.hs d.S.length := by
      have := Nat.mul_le_mul_right (Wl.hs d.S.length) (show half ≤ 1 by omega)
      omega
    unfold Wl.first; omega
  have HYe2 := hide (HYe.out (HFr.out.mpr ⟨hm, hsec, hby⟩))
  have HSt : Hid ((Wl.flat (d.S.drop (Wl.first d.S.length half))).take (Hd.used ⟨num, half, sn, lg⟩) = Wl.stands d.S ⟨num, half, sn, lg⟩) := hide rfl
  have hstl : (Wl.stands d.S ⟨num, half, sn, lg⟩).length = Hd.used ⟨num, half, sn, lg⟩ := by
    rw [← HSt.out, List.length_take, flat_len (drop128 HD.out.ok.s128 _), List.length_drop]
    have h7 : Hd.used ⟨num, half, sn, lg⟩ ≤ Wl.up (Hd.used ⟨num, half, sn, lg⟩) * 128 := by unfold Wl.up; omega
    omega
  have hsnu : sn ≤ Hd.used ⟨num, half, sn, lg⟩ := Nat.le_add_right _ _
  rw [hby] at HBy
  have hYX : Y ≠ w.heap.size := by
    have := HB0.out.size
    rw [← hY]
    intro e
    have h5 := HW1.out
    simp at h5; omega
  have h2s := HLt.out.2.2.1
  generalize Hd.used ⟨num, half, sn, lg⟩ = U at *
  generalize Wl.stands d.S ⟨num, half, sn, lg⟩ = stn at *
  obtain ⟨ST, hST⟩ : ∃ ST : ByteArray, (⟨stn.toArray⟩ : ByteArray) = ST := ⟨_, rfl⟩
  obtain ⟨DR, hDR0⟩ : ∃ DR : ByteArray, (⟨(stn.drop sn).toArray⟩ : ByteArray) = DR := ⟨_, rfl⟩
  obtain ⟨TS, hTS0⟩ : ∃ TS : ByteArray, (⟨(stn.take sn).toArray⟩ : ByteArray) = TS := ⟨_, rfl⟩
  have hz : ST.size = U := by rw [← hST]; show stn.toArray.size = U; rw [List.size_toArray, hstl]
  have hDR : DR.size ≤ 200000 := by rw [← hDR0]; show (List.toArray _).size ≤ _; simp; omega
  have hTS : Hid (TS.size ≤ 200000) := hide (by rw [← hTS0]; show (List.toArray _).size ≤ _; simp; omega)
  have x1 : ST.extract sn U = DR := by
    rw [← hDR0, ← hST]; apply ByteArray.ext; simp [ByteArray.data_extract]; exact List.take_of_length_le (by simp; omega)
  have x2 : ST.extract 0 sn = TS := by
    rw [← hTS0, ← hST]; apply ByteArray.ext; simp [ByteArray.data_extract]
  have f1 : ∀ W : World, (Instr.slice 9 (.string ST) (some (.int .i64 (sn : Int))) none none).run Try.prog W = .ok (.string DR) W := by
    intro W; rw [← x1, ← hz]; have : sn ≤ ST.size := by omega
    go_simp
  have f2 : ∀ W : World, (Instr.slice 9 (.string ST) none (some (.int .i64 (sn : Int))) none).run Try.prog W = .ok (.string TS) W := by
    intro W; rw [← x2]; have : sn ≤ ST.size := by omega
    go_simp
  rw [hDR0, hTS0] at HYe2
  clear x1 x2 hDR0 hTS0 hz hstl hsnu hm HNo HYe HFr hby hsec hused
  go_wp2_with fail
  refine wp_region_held_drew (S := fun w' => w'.heap[Y]? = some (.cells #[.int .u64 (num : Int), .int .u8 (half : Int), .int .i64 (sn : Int), .int .i64 (lg : Int)] 58 (0, 0))) (by kernel_rfl) (hst) (fun hHeld => ?_)
  refine wpAnyH_take (i := 0) (v := .agg #[.int .u64 (num : Int), .int .u8 (half : Int), .int .i64 (sn : Int), .int .i64 (lg : Int)]) rfl (by kernel_rfl) (by kernel_rfl) (by kernel_rfl) (fun _ _ _ h => h) (Or.inl ⟨by rfl, fun w1 hSw => by clear hHeld; obtain ⟨c0, c1, c2, c3⟩ := box_cells hSw; go_simp⟩) hHeld ?_
  simp only [Act.put, List.setIfInBounds_toArray]
  refine wpAnyH_take (i := 1) (v := .pointer (some ⟨b, 0, none⟩)) rfl (by kernel_rfl) (by kernel_rfl) (by kernel_rfl) (fun _ _ _ h => h) (Or.inl ⟨by rfl, fun w1 hSw => by clear hHeld; obtain ⟨c0, c1, c2, c3⟩ := box_cells hSw; go_simp⟩) hHeld ?_
  try simp only [Act.put]
  refine wpAnyH_ready (rs := [2]) (by kernel_rfl) (by simp) ?_
  refine AllReadyH.cons rfl (fun K hK => ?_) AllReadyH.nil
  go_simp
  refine (HHb.out _ HB0.out).mono ?_
  rintro e w0a ⟨rfl, rfl⟩
  have HB1 := HB0
  refine hK.out _ _ (hHeld) (fun hHeld => ?_)
  clear hK K
  refine wpAnyH_ready (rs := [3]) (by kernel_rfl) (by simp) ?_
  refine AllReadyH.cons rfl (fun K hK => ?_) AllReadyH.nil
  go_simp
  refine (HMb.out _).mono ?_
  rintro e w1a ⟨rfl, hb1⟩
  have HB2 := hide (HB1.out.trans (hb1.mono HB1.out.size))
  have hs1 := box_bl hHeld hb1
  clear hb1
  refine hK.out _ _ (hs1) (fun hHeld => ?_)
  clear hK K
  refine wpAnyH_take (i := 4) (v := .bool false) rfl (by kernel_rfl) (by kernel_rfl) (by kernel_rfl) (fun _ _ _ h => h) (Or.inl ⟨by rfl, fun w1 hSw => by clear hHeld; obtain ⟨c0, c1, c2, c3⟩ := box_cells hSw; go_simp⟩) hHeld ?_
  try simp only [Act.put]
  refine wpAnyH_take (i := 5) (v := .bool false) rfl (by kernel_rfl) (by kernel_rfl) (by kernel_rfl) (fun _ _ _ h => h) (Or.inl ⟨by rfl, fun w1 hSw => by clear hHeld; obtain ⟨c0, c1, c2, c3⟩ := box_cells hSw; go_simp⟩) hHeld ?_
  try simp only [Act.put]
  refine wpAnyH_take (i := 6) (v := .agg #[.int .u64 (num : Int), .int .u8 (half : Int), .int .i64 (sn : Int), .int .i64 (lg : Int)]) rfl (by kernel_rfl) (by kernel_rfl) (by kernel_rfl) (fun _ _ _ h => h) (Or.inl ⟨by rfl, fun w1 hSw => by clear hHeld; obtain ⟨c0, c1, c2, c3⟩ := box_cells hSw; go_simp⟩) hHeld ?_
  try simp only [Act.put]
  refine wpAnyH_take (i := 8) (v := .int .i64 (k : Int)) rfl (by kernel_rfl) (by kernel_rfl) (by kernel_rfl) (fun _ _ _ h => h) (Or.inl ⟨by rfl, fun w1 hSw => by clear hHeld; obtain ⟨c0, c1, c2, c3⟩ := box_cells hSw; go_simp⟩) hHeld ?_
  try simp only [Act.put]
  refine wpAnyH_ready (rs := [7]) (by kernel_rfl) (by simp) ?_
  refine AllReadyH.cons rfl (fun K hK => ?_) AllReadyH.nil
  go_simp
  refine (sector_any ⟨num, half, sn, lg⟩ _).mono ?_
  rintro e w2a ⟨rfl, rfl⟩
  have HB3 := hide (HB2.out.alloc HB2.out.size (.cells (hdC ⟨num, half, sn, lg⟩) 58))
  refine hK.out _ _ (box_al hHeld _) (fun hHeld => ?_)
  clear hK K
  refine wpAnyH_ready (rs := [9]) (by kernel_rfl) (by simp) ?_
  refine AllReadyH.cons rfl (fun K hK => ?_) AllReadyH.nil
  go_simp
  have HB4 := HB3
  refine hK.out _ _ (hHeld) (fun hHeld => ?_)
  clear hK K
  refine wpAnyH_take (i := 10) (v := .bool false) rfl (by kernel_rfl) (by kernel_rfl) (by kernel_rfl) (fun _ _ _ h => h) (Or.inl ⟨by rfl, fun w1 hSw => by clear hHeld; obtain ⟨c0, c1, c2, c3⟩ := box_cells hSw; go_simp⟩) hHeld ?_
  try simp only [Act.put]
  refine wpAnyH_take (i := 11) (v := .bool false) rfl (by kernel_rfl) (by kernel_rfl) (by kernel_rfl) (fun _ _ _ h => h) (Or.inl ⟨by rfl, fun w1 hSw => by clear hHeld; obtain ⟨c0, c1, c2, c3⟩ := box_cells hSw; go_simp⟩) hHeld ?_
  try simp only [Act.put]
  refine wpAnyH_take (i := 12) (v := .agg #[.int .u64 (num : Int), .int .u8 (half : Int), .int .i64 (sn : Int), .int .i64 (lg : Int)]) rfl (by kernel_rfl) (by kernel_rfl) (by kernel_rfl) (fun _ _ _ h => h) (Or.inl ⟨by rfl, fun w1 hSw => by clear hHeld; obtain ⟨c0, c1, c2, c3⟩ := box_cells hSw; go_simp⟩) hHeld ?_
  try simp only [Act.put]
  refine wpAnyH_take (i := 14) (v := .string s) rfl (by kernel_rfl) (by kernel_rfl) (by kernel_rfl) (fun _ _ _ h => h) (Or.inl ⟨by rfl, fun w1 hSw => by clear hHeld; obtain ⟨c0, c1, c2, c3⟩ := box_cells hSw; go_simp⟩) hHeld ?_
  try simp only [Act.put]
  refine wpAnyH_ready (rs := [13]) (by kernel_rfl) (by simp) ?_
  refine AllReadyH.cons rfl (fun K hK => ?_) AllReadyH.nil
  go_simp
  refine (HBy.out _).mono ?_
  rintro e w4a ⟨rfl, hb4⟩
  have HB5 := hide (HB4.out.trans (hb4.mono HB4.out.size))
  have hs4 := box_bl hHeld hb4
  clear hb4
  refine hK.out _ _ (hs4) (fun hHeld => ?_)
  clear hK K
  refine wpAnyH_ready (rs := [15]) (by kernel_rfl) (by simp) ?_
  refine AllReadyH.cons rfl (fun K hK => ?_) AllReadyH.nil
  go_simp
  have HB6 := HB5
  refine hK.out _ _ (hHeld) (fun hHeld => ?_)
  clear hK K
  refine wpAnyH_ready (rs := [16]) (by kernel_rfl) (by simp) ?_
  refine AllReadyH.cons rfl (fun K hK => ?_) AllReadyH.nil
  go_simp
  have HB7 := HB6
  have HY7 := hide hHeld
  refine hK.out _ _ (hHeld) (fun hHeld => ?_)
  clear hK K
  refine wpAnyH_done (by kernel_rfl) ?_ _
  clear hHeld
  have HBp := HB7
  have HYp := HY7
  go_wp2_with fail
  have HB0 : Hid (Below (w.alloc (.cells zeroLog 60)).heap.size (w.alloc (.cells zeroLog 60)) (World.drew _)) := hide (HBp.out.trans ⟨rfl, rfl, rfl, Nat.le_refl _, fun _ _ => rfl⟩)
  refine wp_region_held_drew (S := fun w' => w'.heap[Y]? = some (.cells #[.int .u64 (num : Int), .int .u8 (half : Int), .int .i64 (sn : Int), .int .i64 (lg : Int)] 58 (0, 0))) (by kernel_rfl) (HYp.out) (fun hHeld => ?_)
  refine wpAnyH_take (i := 0) (v := .pointer (some ⟨b, 0, none⟩)) rfl (by kernel_rfl) (by kernel_rfl) (by kernel_rfl) (fun _ _ _ h => h) (Or.inl ⟨by rfl, fun w1 hSw => by clear hHeld; obtain ⟨c0, c1, c2, c3⟩ := box_cells hSw; go_simp⟩) hHeld ?_
  simp only [Act.put, List.setIfInBounds_toArray]
  refine wpAnyH_take (i := 1) (v := .pointer (some ⟨b, 0, none⟩)) rfl (by kernel_rfl) (by kernel_rfl) (by kernel_rfl) (fun _ _ _ h => h) (Or.inl ⟨by rfl, fun w1 hSw => by clear hHeld; obtain ⟨c0, c1, c2, c3⟩ := box_cells hSw; go_simp⟩) hHeld ?_
  try simp only [Act.put]
  refine wpAnyH_take (i := 2) (v := .pointer (some ⟨Y, 1, none⟩)) rfl (by kernel_rfl) (by kernel_rfl) (by kernel_rfl) (fun _ _ _ h => h) (Or.inl ⟨by rfl, fun w1 hSw => by clear hHeld; obtain ⟨c0, c1, c2, c3⟩ := box_cells hSw; go_simp⟩) hHeld ?_
  try simp only [Act.put]
  refine wpAnyH_take (i := 3) (v := .int .u8 (half : Int)) rfl (by kernel_rfl) (by kernel_rfl) (by kernel_rfl) (fun _ _ _ h => h) (Or.inl ⟨by rfl, fun w1 hSw => by clear hHeld; obtain ⟨c0, c1, c2, c3⟩ := box_cells hSw; go_simp⟩) hHeld ?_
  try simp only [Act.put]
  refine wpAnyH_take (i := 5) (v := .agg #[.int .u64 (num : Int), .int .u8 (half : Int), .int .i64 (sn : Int), .int .i64 (lg : Int)]) rfl (by kernel_rfl) (by kernel_rfl) (by kernel_rfl) (fun _ _ _ h => h) (Or.inl ⟨by rfl, fun w1 hSw => by clear hHeld; obtain ⟨c0, c1, c2, c3⟩ := box_cells hSw; go_simp⟩) hHeld ?_
  try simp only [Act.put]
  refine wpAnyH_ready (rs := [4]) (by kernel_rfl) (by simp) ?_
  refine AllReadyH.cons rfl (fun K hK => ?_) AllReadyH.nil
  go_simp
  refine (firstSector_any ((HD.out.alloc _).below HB0.out) hhalf).mono ?_
  rintro e w0a ⟨rfl, rfl⟩
  have HB1 := HB0
  refine hK.out _ _ (hHeld) (fun hHeld => ?_)
  clear hK K
  refine wpAnyH_ready (rs := [6]) (by kernel_rfl) (by simp) ?_
  refine AllReadyH.cons rfl (fun K hK => ?_) AllReadyH.nil
  go_simp
  refine (HUs.out _).mono ?_
  rintro e w1a ⟨rfl, rfl⟩
  have HB2 := hide (HB1.out.alloc HB1.out.size (.cells #[.int .u64 (num : Int), .int .u8 (half : Int), .int .i64 (sn : Int), .int .i64 (lg : Int)] 58))
  refine hK.out _ _ (box_al hHeld _) (fun hHeld => ?_)
  clear hK K
  refine wpAnyH_ready (rs := [7]) (by kernel_rfl) (by simp) ?_
  refine AllReadyH.cons rfl (fun K hK => ?_) AllReadyH.nil
  go_simp
  refine (readBytes_any ((HD.out.alloc _).below HB2.out) hd _ _ hu1 hu2).mono ?_
  rintro e w2a ⟨rfl, hb2⟩
  rw [HSt.out, hST]
  have HB3 := hide (HB2.out.trans (hb2.mono HB2.out.size))
  have hs2 := box_bl hHeld hb2
  clear hb2
  refine hK.out _ _ (hs2) (fun hHeld => ?_)
  clear hK K
  refine wpAnyH_ready (rs := [8]) (by kernel_rfl) (by simp) ?_
  refine AllReadyH.cons rfl (fun K hK => ?_) AllReadyH.nil
  go_simp
  have HB4 := HB3
  have HY4 := hide hHeld
  refine hK.out _ _ (hHeld) (fun hHeld => ?_)
  clear hK K
  refine wpAnyH_done (by kernel_rfl) ?_ _
  clear hHeld
  have HBq := HB4
  have HYq := HY4
  obtain ⟨y0, y1, y2, y3⟩ := box_cells HYq.out
  go_wp2_with fail
  refine (unframe_any DR hDR _).mono ?_
  rintro e wu ⟨hbu, hU⟩
  have HBu := hide (HBq.out.trans (hbu.mono HBq.out.size))
  have hYu := box_bl HYq.out hbu
  have HHU := hide HYe2.out
  cases hUU : Wl.unframe DR with
  | none =>
    rw [hUU] at hU
    simp only at hU
    subst hU
    have HN : Hid (X = none) := hide (by rw [HHU.out, hUU]; rfl)
    have HB99 := HBu
    clear hUU HYe2 HHU hbu hYu HYq HBq HBu
    have HZd := hide (zbox HZ.out HB99.out)
    obtain ⟨z0, z1, z2, z3, z4, z5, zz⟩ := log_cells HZd.out
    have HBe : Hid (Below w.heap.size w _) := hide ((below_alloc w _).trans (HB99.out.mono (by simp)))
    clear HZd
    go_wp2_with fail
    exact bodyPost_ret (v := .tuple #[.agg zeroLog, .bool false]) (by simp [results, Try.results47, go_sem, z0, z1, z2, z3, z4, z5, zeroLog]) rfl ⟨((((((HBe.out.setCell (Nat.le_refl _) _).setCell (Nat.le_refl _) _).setCell (Nat.le_refl _) _).setCell (Nat.le_refl _) _).setCell (Nat.le_refl _) _).setCell (Nat.le_refl _) _), by rw [HN.out]⟩
  | some l =>
    rw [hUU] at hU
    obtain ⟨v, rfl, hO⟩ := hU
    obtain ⟨ad, cp, rfl⟩ := D.own_slice hO
    have HYs : Hid (X = some ⟨⟨num, half, sn, lg⟩, TS, l⟩) := hide (by rw [HHU.out, hUU]; rfl)
    have hq0 : w.heap.size ≤ _ := Nat.le_trans (show w.heap.size ≤ (w.alloc (.cells zeroLog 60)).heap.size by simp) HBq.out.size
    have HOu : Hid (wu.drew.ownsRow w.heap.size 9 1 (.slice ad l.length cp) l.length (l.map .string)) := hide (D.own_keep (D.own_base hO hq0) fun _ _ => rfl)
    have HBu : Hid (Below (w.alloc (.cells zeroLog 60)).heap.size (w.alloc (.cells zeroLog 60)) wu.drew) := hide (HBu.out.trans ⟨rfl, rfl, rfl, Nat.le_refl _, fun _ _ => rfl⟩)
    have HOz : Hid (∀ k, (Value.slice ad l.length cp).ownBlock = some k → w.heap.size < k) := hide fun k hk => Nat.lt_of_lt_of_le (by have := HBq.out.size; simp at this; omega) (own_lo hO hk).1
    clear hUU HYe2 HHU hbu hO HYq
    go_wp2_with fail
    refine wp_region_held_drew (S := fun w' => w'.heap[Y]? = some (.cells #[.int .u64 (num : Int), .int .u8 (half : Int), .int .i64 (sn : Int), .int .i64 (lg : Int)] 58 (0, 0))) (by kernel_rfl) (hYu) (fun hHeld => ?_)
    refine wpAnyH_take (i := 0) (v := .agg #[.int .u64 (num : Int), .int .u8 (half : Int), .int .i64 (sn : Int), .int .i64 (lg : Int)]) rfl (by kernel_rfl) (by kernel_rfl) (by kernel_rfl) (fun _ _ _ h => h) (Or.inl ⟨by rfl, fun w1 hSw => by clear hHeld; obtain ⟨c0, c1, c2, c3⟩ := box_cells hSw; go_simp⟩) hHeld ?_
    simp only [Act.put, List.setIfInBounds_toArray]
    refine wpAnyH_take (i := 1) (v := .string ST) rfl (by kernel_rfl) (by kernel_rfl) (by kernel_rfl) (fun _ _ _ h => h) (Or.inl ⟨by rfl, fun w1 hSw => by clear hHeld; obtain ⟨c0, c1, c2, c3⟩ := box_cells hSw; go_simp⟩) hHeld ?_
    try simp only [Act.put]
    refine wpAnyH_take (i := 2) (v := .pointer (some ⟨Y, 2, none⟩)) rfl (by kernel_rfl) (by kernel_rfl) (by kernel_rfl) (fun _ _ _ h => h) (Or.inl ⟨by rfl, fun w1 hSw => by clear hHeld; obtain ⟨c0, c1, c2, c3⟩ := box_cells hSw; go_simp⟩) hHeld ?_
    try simp only [Act.put]
    refine wpAnyH_take (i := 3) (v := .int .i64 (sn : Int)) rfl (by kernel_rfl) (by kernel_rfl) (by kernel_rfl) (fun _ _ _ h => h) (Or.inl ⟨by rfl, fun w1 hSw => by clear hHeld; obtain ⟨c0, c1, c2, c3⟩ := box_cells hSw; go_simp⟩) hHeld ?_
    try simp only [Act.put]
    refine wpAnyH_take (i := 6) (v := .slice ad l.length cp) rfl (by kernel_rfl) (by kernel_rfl) (by kernel_rfl) (fun _ _ _ h => h) (Or.inl ⟨by rfl, fun w1 hSw => by clear hHeld; obtain ⟨c0, c1, c2, c3⟩ := box_cells hSw; go_simp⟩) hHeld ?_
    try simp only [Act.put]
    refine wpAnyH_ready (rs := [4]) (by kernel_rfl) (by simp) ?_
    refine AllReadyH.cons rfl (fun K hK => ?_) AllReadyH.nil
    go_simp
    refine hK.out _ _ (hHeld) (fun hHeld => ?_)
    clear hK K
    refine wpAnyH_ready (rs := [5]) (by kernel_rfl) (by simp) ?_
    refine AllReadyH.cons rfl (fun K hK => ?_) AllReadyH.nil
    go_simp
    refine (clone_any TS _ (by have := hTS.out; omega)).mono ?_
    rintro e wc ⟨rfl, hbc⟩
    have HBc := hide (HBu.out.trans (hbc.mono HBu.out.size))
    have HOc : Hid (wc.ownsRow w.heap.size 9 1 (.slice ad l.length cp) l.length (l.map .string)) := hide (D.own_keep HOu.out fun k hk => hbc.block k (own_lo HOu.out hk).2)
    have hs1 := box_bl hHeld hbc
    obtain ⟨z0, z1, z2, z3, z4, z5, zz⟩ := log_cells (zbox HZ.out HBc.out)
    clear hbc
    refine hK.out _ _ (hs1) (fun hHeld => ?_)
    clear hK K
    refine wpAnyH_ready (rs := [7]) (by kernel_rfl) (by simp) ?_
    refine AllReadyH.cons rfl (fun K hK => ?_) AllReadyH.nil
    go_simp
    refine hK.out _ _ (hHeld) (fun hHeld => ?_)
    clear hK K
    refine wpAnyH_ready (rs := [8]) (by kernel_rfl) (by simp) ?_
    refine AllReadyH.cons rfl (fun K hK => ?_) AllReadyH.nil
    go_simp
    refine hK.out _ _ (((((((Below.heap_setCell _ _ _ _ hYX).trans (Below.heap_setCell _ _ _ _ hYX)).trans (Below.heap_setCell _ _ _ _ hYX)).trans (Below.heap_setCell _ _ _ _ hYX)).trans (Below.heap_setCell _ _ _ _ hYX)).trans (Below.heap_setCell _ _ _ _ hYX)).trans hHeld) (fun hHeld => ?_)
    clear hK K
    refine wpAnyH_ready (rs := [9]) (by kernel_rfl) (by simp) ?_
    refine AllReadyH.cons rfl (fun K hK => ?_) AllReadyH.nil
    go_simp
    refine hK.out _ _ (hHeld) (fun hHeld => ?_)
    clear hK K
    refine wpAnyH_done (by kernel_rfl) ?_ _
    clear hHeld
    go_wp2_with fail
    exact bodyPost_ret (v := .tuple #[.agg #[.int .u64 (num : Int), .int .u8 (half : Int), .int .i64 (sn : Int), .int .i64 (lg : Int), .string TS, .slice ad l.length cp], .bool true]) (by simp [results, Try.results47, go_sem, z0, z1, z2, z3, z4, z5]) rfl ⟨((((((((below_alloc w _).trans (HBc.out.mono (by simp))).setCell (Nat.le_refl _) _).setCell (Nat.le_refl _) _).setCell (Nat.le_refl _) _).setCell (Nat.le_refl _) _).setCell (Nat.le_refl _) _).setCell (Nat.le_refl _) _), by rw [HYs.out]; exact ⟨_, rfl, (D.own_keep HOc.out fun k hk => (((((Below.heap_setCell _ _ _ _ (Nat.ne_of_gt (HOz.out k hk))).trans (Below.heap_setCell _ _ _ _ (Nat.ne_of_gt (HOz.out k hk)))).trans (Below.heap_setCell _ _ _ _ (Nat.ne_of_gt (HOz.out k hk)))).trans (Below.heap_setCell _ _ _ _ (Nat.ne_of_gt (HOz.out k hk)))).trans (Below.heap_setCell _ _ _ _ (Nat.ne_of_gt (HOz.out k hk)))).trans (Below.heap_setCell _ _ _ _ (Nat.ne_of_gt (HOz.out k hk))))⟩⟩
end Go.Proofs.Ytojghjgbnnkldaa
end

section
namespace Go.Proofs.Ytojghjgbnnkldaa
open Go.RowKit Go.Shelf
open Wl (Hd WS Log)

theorem logOf_any {base : Nat} {w : World} {b : Nat} {F : Nat → Prop} {d : D.DS} (h : D.Dk base w b F d) (hd : d.dead = false) (hfit : Wl.Fits d.S.length) (k : Nat) (hk : k < 2) :
    Calls Try.prog 47 #[.pointer (some ⟨b, 0, none⟩), .int .i64 (k : Int)] w (LPost w (Wl.logOf d.S k)) := by
  by_cases hm : Wl.MayBe (Wl.parse (d.S.getD k ByteArray.empty)) (Wl.hb d.S.length)
  · by_cases hs : (Wl.parse (d.S.getD k ByteArray.empty)).num % 2 = k
    · by_cases hb : Wl.headB (Wl.parse (d.S.getD k ByteArray.empty)) = d.S.getD k ByteArray.empty
      · exact logOf_D h hd hfit k hk hm hs hb
      · exact logOf_C h hd hfit k hk hm hs hb
    · exact logOf_B h hd hfit k hk hm hs
  · exact logOf_A h hd hfit k hk hm
/-- the best log so far, in memory -/
def Best (B Q : Nat) (x : Option Log) (w : World) : Prop :=
  match x with
  | none => w.heap[Q]? = some (.cells zeroLog 60 (0, 0))
  | some L => ∃ v, w.heap[Q]? = some (.cells (logC L.h L.s v) 60 (0, 0)) ∧ w.ownsRow B 9 1 v L.l.length (L.l.map .string) ∧ v.ownBlock ≠ some Q
def numO : Option Log → Nat
  | none => 0
  | some L => L.h.num
def eO : Option Log → Int
  | none => 90
  | some _ => 0
theorem Best.below {B Q : Nat} {x : Option Log} {w w' : World} (h : Best B Q x w) (hb : Below w.heap.size w w') : Best B Q x w' := by
  cases x with
  | none => exact box_bl h hb
  | some L =>
    obtain ⟨v, h1, h2, h3⟩ := h
    exact ⟨v, box_bl h1 hb, D.own_keep h2 fun k hk => hb.block k (own_lo h2 hk).2, h3⟩
theorem logOf_num {S : List ByteArray} {k : Nat} {L : Log} (h : Wl.logOf S k = some L) : 1 ≤ L.h.num ∧ L.h.num < 18446744073709551616 := by
  unfold Wl.logOf at h
  split at h
  · rename_i hf
    obtain ⟨l, _, rfl⟩ := Option.map_eq_some_iff.1 h
    have := hf.1
    exact ⟨this.1, Nat.lt_of_le_of_lt this.2.1 (by decide)⟩
  · cases h
def FPs (w : World) (x : Option Log) (e : Ending) (w' : World) : Prop :=
  Below w.heap.size w w' ∧ match x with
    | some L => ∃ ad cp, e = .returned (.tuple #[.agg (logC L.h L.s (.slice ad L.l.length cp)), .int .i64 0]) ∧ w'.ownsRow w.heap.size 9 1 (.slice ad L.l.length cp) L.l.length (L.l.map .string)
    | none => e = .returned (.tuple #[.agg zeroLog, .int .i64 90])
/-- the best of the first k -/
def bestN (S : List ByteArray) : Nat → Option Log
  | 0 => none
  | k + 1 => match Wl.logOf S k with
    | none => bestN S k
    | some L => if numO (bestN S k) < L.h.num then some L else bestN S k
theorem bestN_two (S : List ByteArray) : bestN S 2 = Wl.find S := by
  have e1 : bestN S 1 = Wl.logOf S 0 := by
    show (match Wl.logOf S 0 with | none => none | some L => if 0 < L.h.num then some L else none) = _
    cases h0 : Wl.logOf S 0 with
    | none => rfl
    | some L0 => exact if_pos (by have := (logOf_num h0).1; omega)
  show (match Wl.logOf S 1 with | none => bestN S 1 | some L => if numO (bestN S 1) < L.h.num then some L else bestN S 1) = _
  rw [e1]
  unfold Wl.find
  cases h1 : Wl.logOf S 1 with
  | none => cases Wl.logOf S 0 <;> rfl
  | some L =>
    cases h0 : Wl.logOf S 0 with
    | none => exact if_pos (by have := (logOf_num h1).1; show 0 < _; omega)
    | some L0 => rfl
theorem bestN_num (S : List ByteArray) (k : Nat) : numO (bestN S k) < 18446744073709551616 := by
  induction k with
  | zero => show 0 < _; decide
  | succ k ih =>
    simp only [bestN]
    cases h : Wl.logOf S k with
    | none => exact ih
    | some L =>
      simp only
      split
      · exact (logOf_num h).2
      · exact ih
theorem find_dead {base : Nat} {w : World} {b : Nat} {F : Nat → Prop} {d : D.DS} (h : D.Dk base w b F d) (hd : d.dead = true) :
    Calls Try.prog 27 #[.pointer (some ⟨b, 0, none⟩)] w fun e w' => Below w.heap.size w w' ∧ e = .returned (.tuple #[.agg zeroLog, .int .i64 2]) := by
  have HDd := hide (D.dead_any (h.alloc (.cells zeroLog 60)))
  rw [hd] at HDd
  clear h
  unfold zeroLog at *
  go_enter Try.func27, Try.ntmps27
  go_wp2_with fail
  refine HDd.out.mono ?_
  rintro e w' ⟨rfl, rfl⟩
  go_wp2_with fail
  exact bodyPost_ret (v := .tuple #[.agg zeroLog, .int .i64 2]) (by simp [results, Try.results27, go_sem, zeroLog]) rfl ⟨below_alloc w _, rfl⟩
end Go.Proofs.Ytojghjgbnnkldaa
end

section
namespace Go.Proofs.Ytojghjgbnnkldaa
open Go.RowKit Go.Shelf
open Wl (Hd WS Log)

theorem heap_set_self (w : World) (g o : Nat) (v : Value) (cur : Array Value) (t : TypeId) (fr : Nat × Nat) (h : w.heap[g]? = some (.cells cur t fr)) : (w.setCell ⟨g, o, none⟩ v).heap[g]? = some (.cells (cur.setIfInBounds o v) t fr) := by
  have hlt := lt_of_block h
  have h' : w.heap[g] = .cells cur t fr := by simpa [Array.getElem?_eq_getElem hlt] using h
  show (w.heap.modify g _)[g]? = _
  rw [Array.getElem?_eq_getElem (by simpa using hlt), Array.getElem_modify_self, h']
  rfl
theorem setCell_self {w : World} {g o : Nat} {cs : Array Value} {t : TypeId} (h : w.heap[g]? = some (.cells cs t (0, 0))) (v : Value) : (w.setCell ⟨g, o, none⟩ v).heap[g]? = some (.cells (cs.setIfInBounds o v) t (0, 0)) := heap_set_self w g o v cs t (0, 0) h
theorem set6 {w : World} {Q : Nat} {a b c d e f a' b' c' d' e' f' : Value} {t : TypeId} (h : w.heap[Q]? = some (.cells #[a, b, c, d, e, f] t (0, 0))) :
    ((((((w.setCell ⟨Q, 0, none⟩ a').setCell ⟨Q, 1, none⟩ b').setCell ⟨Q, 2, none⟩ c').setCell ⟨Q, 3, none⟩ d').setCell ⟨Q, 4, none⟩ e').setCell ⟨Q, 5, none⟩ f').heap[Q]? = some (.cells #[a', b', c', d', e', f'] t (0, 0)) := by
  rw [setCell_self (setCell_self (setCell_self (setCell_self (setCell_self (setCell_self h a') b') c') d') e') f']
  rfl
theorem far6 {w : World} {Q k : Nat} (h : k ≠ Q) (a b c d e f : Value) : ((((((w.setCell ⟨Q, 0, none⟩ a).setCell ⟨Q, 1, none⟩ b).setCell ⟨Q, 2, none⟩ c).setCell ⟨Q, 3, none⟩ d).setCell ⟨Q, 4, none⟩ e).setCell ⟨Q, 5, none⟩ f).heap[k]? = w.heap[k]? := by
  iterate 6 rw [Below.heap_setCell _ _ _ _ h]
theorem bel6 {w0 w : World} {B Q : Nat} (h : Below B w0 w) (hQ : B ≤ Q) (a b c d e f : Value) : Below B w0 ((((((w.setCell ⟨Q, 0, none⟩ a).setCell ⟨Q, 1, none⟩ b).setCell ⟨Q, 2, none⟩ c).setCell ⟨Q, 3, none⟩ d).setCell ⟨Q, 4, none⟩ e).setCell ⟨Q, 5, none⟩ f) :=
  (((((h.setCell hQ _).setCell hQ _).setCell hQ _).setCell hQ _).setCell hQ _).setCell hQ _
theorem find_no {base : Nat} {w : World} {b : Nat} {F : Nat → Prop} {d : D.DS} (h : D.Dk base w b F d) (hd : d.dead = false) (hf : ¬ Wl.Fits d.S.length) :
    Calls Try.prog 27 #[.pointer (some ⟨b, 0, none⟩)] w fun e w' => Below w.heap.size w w' ∧ e = .returned (.tuple #[.agg zeroLog, .int .i64 91]) := by
  have HDd := hide (D.dead_any (h.alloc (.cells zeroLog 60)))
  have HFi := hide (fits_any (h.alloc (.cells zeroLog 60)))
  rw [hd] at HDd
  rw [decide_eq_false hf] at HFi
  clear h
  unfold zeroLog at *
  go_enter Try.func27, Try.ntmps27
  go_wp2_with fail
  refine HDd.out.mono ?_
  rintro e w' ⟨rfl, rfl⟩
  go_wp2_with fail
  refine HFi.out.mono ?_
  rintro e w' ⟨rfl, rfl⟩
  go_wp2_with fail
  exact bodyPost_ret (v := .tuple #[.agg zeroLog, .int .i64 91]) (by simp [results, Try.results27, go_sem, zeroLog]) rfl ⟨below_alloc w _, rfl⟩
theorem Best.num {B Q : Nat} {x : Option Log} {w : World} (h : Best B Q x w) : w.cell? ⟨Q, 0, none⟩ = some (.int .u64 (numO x : Int)) := by
  cases x with
  | none => unfold World.cell?; rw [show w.heap[Q]? = _ from h]; rfl
  | some L => obtain ⟨v, h1, _⟩ := h; unfold World.cell?; rw [h1]; rfl
theorem Best.block {B Q : Nat} {x : Option Log} {w : World} (h : Best B Q x w) : ∃ a b c d e f, w.heap[Q]? = some (.cells #[a, b, c, d, e, f] 60 (0, 0)) := by
  cases x with
  | none => exact ⟨_, _, _, _, _, _, h⟩
  | some L => obtain ⟨v, h1, _⟩ := h; exact ⟨_, _, _, _, _, _, h1⟩
end Go.Proofs.Ytojghjgbnnkldaa
end

section
namespace Go.Proofs.Ytojghjgbnnkldaa
open Go.RowKit Go.Shelf
open Wl (Hd WS Log)

set_option maxHeartbeats 400000 in
set_option maxRecDepth 8000 in
theorem find_any {base : Nat} {w : World} {b : Nat} {F : Nat → Prop} {d : D.DS} (h : D.Dk base w b F d) (hd : d.dead = false) (hf : Wl.Fits d.S.length) :
    Calls Try.prog 27 #[.pointer (some ⟨b, 0, none⟩)] w (FPs w (Wl.find d.S)) := by
  have HDd := hide (D.dead_any (h.alloc (.cells zeroLog 60)))
  have HFi := hide (fits_any (h.alloc (.cells zeroLog 60)))
  rw [hd] at HDd
  rw [decide_eq_true hf] at HFi
  have HL : Hid (∀ W : World, Below w.heap.size w W → ∀ k : Nat, k < 2 → Calls Try.prog 47 #[.pointer (some ⟨b, 0, none⟩), .int .i64 (k : Int)] W (LPost W (Wl.logOf d.S k))) := hide fun W hW k hk => logOf_any (h.below hW) hd hf k hk
  rw [← bestN_two]
  generalize d.S = S at *
  clear h hd hf
  have HZ0 : Hid ((w.alloc (.cells zeroLog 60)).heap[w.heap.size]? = some (.cells zeroLog 60 (0, 0))) := hide (heap_alloc_new w _)
  have HQ0 : Hid (Best (w.heap.size + 2) (w.heap.size + 1) none ((w.alloc (.cells zeroLog 60)).alloc (.cells zeroLog 60))) := hide (by
    have := heap_alloc_new (w.alloc (.cells zeroLog 60)) (.cells zeroLog 60)
    rw [World.size_alloc] at this; exact this)
  unfold zeroLog at *
  go_enter Try.func27, Try.ntmps27
  go_wp2_with fail
  refine HDd.out.mono ?_
  rintro e w' ⟨rfl, rfl⟩
  go_wp2_with fail
  refine HFi.out.mono ?_
  rintro e w' ⟨rfl, rfl⟩
  go_wp2_with fail
  clear HDd HFi
  go_loopw [5, 19] (fun u t wr => ∃ k : Nat, k ≤ 2 ∧ u = .int .i64 (eO (bestN S k)) ∧ t = .int .i64 (k : Int) ∧ Hid (Best (w.heap.size + 2) (w.heap.size + 1) (bestN S k) wr) ∧ Hid (wr.heap[w.heap.size]? = some (.cells #[.int .u64 0, .int .u8 0, .int .i64 0, .int .i64 0, .string ⟨#[]⟩, .slice none 0 0] 60 (0, 0))) ∧ Hid (Below w.heap.size w wr)) (fun _ t _ => 2 - (intOf t).toNat)
  case atStart => exact ⟨0, Nat.zero_le _, rfl, rfl, HQ0, hide (box_al HZ0.out _), hide ((below_alloc w _).alloc (by simp) _)⟩
  case round =>
    obtain ⟨k, hk, rfl, rfl, HBt, HZ, HB⟩ := hrel
    have hqs : w.heap.size + 1 < wr.heap.size := by obtain ⟨_, _, _, _, _, _, hq⟩ := HBt.out.block; exact lt_of_block hq
    by_cases hkl : k < 2
    · have hki : (k : Int) < 2 := by omega
      have HLk := hide (HL.out wr HB.out k hkl)
      have hN : Hid (bestN S (k + 1) = match Wl.logOf S k with | none => bestN S k | some L => if numO (bestN S k) < L.h.num then some L else bestN S k) := hide rfl
      go_wp2_with fail
      refine HLk.out.mono ?_
      rintro e w2 ⟨hb2, hL⟩
      cases hlo : Wl.logOf S k with
      | none =>
        rw [hlo] at hL hN
        simp only at hL hN
        subst hL
        rw [← hN.out] at HBt
        have HBt2 := hide (HBt.out.below hb2)
        have HZ2 := hide (box_bl HZ.out hb2)
        have HB2 := hide (HB.out.trans (hb2.mono HB.out.size))
        have h2s := hb2.size
        rw [← hN.out]
        clear hb2 HLk hlo HBt HZ HB hN
        unfold zeroLog
        go_wp2_with fail
        go_roundw
        case rel => exact ⟨k + 1, by omega, rfl, rfl, hide (HBt2.out.below (below_alloc _ _)), hide (box_al HZ2.out _), hide (HB2.out.alloc (by omega) _)⟩
        case measure => simp only [intOf]; omega
      | some L =>
        have hnum := (logOf_num hlo).2
        obtain ⟨⟨num, half, sn, lg⟩, ss, l⟩ := L
        rw [hlo] at hL hN
        simp only at hL hN hnum
        obtain ⟨v, rfl, hO⟩ := hL
        obtain ⟨ad, cp, rfl⟩ := D.own_slice hO
        have hbn := bestN_num S k
        have HBt2 := hide (HBt.out.below hb2)
        have HZ2 := hide (box_bl HZ.out hb2)
        have HB2 := hide (HB.out.trans (hb2.mono HB.out.size))
        have h2s := hb2.size
        have cn := HBt2.out.num
        obtain ⟨qa, qb, qc, qd, qe, qf, hq⟩ := HBt2.out.block
        have HQ := hide (box_al hq (.cells #[.int .u64 (num : Int), .int .u8 (half : Int), .int .i64 (sn : Int), .int .i64 (lg : Int), .string ss, .slice ad l.length cp] 60))
        have HOw : Hid (w2.ownsRow (w.heap.size + 2) 9 1 (.slice ad l.length cp) l.length (l.map .string)) := hide (D.own_base hO (by omega))
        clear hb2 HLk hlo HBt HZ HB hq hO
        simp only [logC]
        by_cases hc : numO (bestN S k) < num
        · have b1 : decide (numO (bestN S k) < num) = true := decide_eq_true hc
          have HN2 : Hid (bestN S (k + 1) = some ⟨⟨num, half, sn, lg⟩, ss, l⟩) := hide (by rw [hN.out, if_pos hc])
          obtain ⟨q0, q1, q2, q3, q4, q5, qz⟩ := log_cells HQ.out
          have cn2 : (w2.alloc (.cells #[.int .u64 (num : Int), .int .u8 (half : Int), .int .i64 (sn : Int), .int .i64 (lg : Int), .string ss, .slice ad l.length cp] 60)).cell? ⟨w.heap.size + 1, 0, none⟩ = some (.int .u64 (numO (bestN S k) : Int)) := Lib.cell?_alloc_some _ cn
          have hqa : qa = .int .u64 (numO (bestN S k) : Int) := by rw [q0] at cn2; injection cn2
          subst hqa
          generalize numO (bestN S k) = bn at *
          clear hc hN cn cn2
          go_wp2_with fail
          go_roundw
          case rel =>
            refine ⟨k + 1, by omega, by rw [HN2.out]; rfl, rfl, hide ?_, hide ?_, hide ?_⟩
            · rw [HN2.out]
              refine ⟨_, set6 HQ.out, D.own_keep HOw.out fun j hj => ?_, fun h => ?_⟩
              · have := (own_lo HOw.out hj)
                rw [far6 (by omega)]; exact Below.heap_alloc _ _ _ this.2
              · have := (own_lo HOw.out h).1; omega
            · rw [far6 (by omega)]; exact box_al HZ2.out _
            · exact bel6 (HB2.out.alloc (by omega) _) (by omega) _ _ _ _ _ _
          case measure => simp only [intOf]; omega
        · have b1 : decide (numO (bestN S k) < num) = false := decide_eq_false hc
          have HN2 : Hid (bestN S (k + 1) = bestN S k) := hide (by rw [hN.out, if_neg hc])
          have cn2 : (w2.alloc (.cells #[.int .u64 (num : Int), .int .u8 (half : Int), .int .i64 (sn : Int), .int .i64 (lg : Int), .string ss, .slice ad l.length cp] 60)).cell? ⟨w.heap.size + 1, 0, none⟩ = some (.int .u64 (numO (bestN S k) : Int)) := Lib.cell?_alloc_some _ cn
          generalize numO (bestN S k) = bn at *
          clear hc hN cn HQ
          go_wp2_with fail
          go_roundw
          case rel => exact ⟨k + 1, by omega, by rw [HN2.out], rfl, hide (by rw [HN2.out]; exact HBt2.out.below (below_alloc _ _)), hide (box_al HZ2.out _), hide (HB2.out.alloc (by omega) _)⟩
          case measure => simp only [intOf]; omega
    · have hki : ¬ (k : Int) < 2 := by omega
      obtain rfl : k = 2 := by omega
      obtain ⟨z0, z1, z2, z3, z4, z5, zz⟩ := log_cells HZ.out
      have HBt2 := HBt.out
      cases hx : bestN S 2 with
      | none =>
        rw [hx] at HBt2
        obtain ⟨q0, q1, q2, q3, q4, q5, qz⟩ := log_cells (show wr.heap[w.heap.size + 1]? = some (.cells #[.int .u64 0, .int .u8 0, .int .i64 0, .int .i64 0, .string ⟨#[]⟩, .slice none 0 0] 60 (0, 0)) from HBt2)
        have HX := hide hx
        simp only [eO]
        clear HBt HBt2 hx
        go_wp2_with fail
        exact bodyPost_ret (v := .tuple #[.agg zeroLog, .int .i64 90]) (by simp [results, Try.results27, go_sem, z0, z1, z2, z3, z4, z5, zeroLog]) rfl ⟨bel6 HB.out (Nat.le_refl _) _ _ _ _ _ _, by rw [HX.out]⟩
      | some L =>
        rw [hx] at HBt2
        obtain ⟨⟨num, half, sn, lg⟩, ss, l⟩ := L
        obtain ⟨v, hv, hO, hne⟩ := HBt2
        obtain ⟨ad, cp, rfl⟩ := D.own_slice hO
        obtain ⟨q0, q1, q2, q3, q4, q5, qz⟩ := log_cells hv
        have HX := hide hx
        have HO := hide hO
        simp only [eO]
        clear HBt hx hv hO hne
        go_wp2_with fail
        exact bodyPost_ret (v := .tuple #[.agg #[.int .u64 (num : Int), .int .u8 (half : Int), .int .i64 (sn : Int), .int .i64 (lg : Int), .string ss, .slice ad l.length cp], .int .i64 0]) (by simp [results, Try.results27, go_sem, z0, z1, z2, z3, z4, z5]) rfl ⟨bel6 HB.out (Nat.le_refl _) _ _ _ _ _ _, by rw [HX.out]; exact ⟨ad, cp, rfl, D.own_base (D.own_keep HO.out fun j hj => far6 (by have := (own_lo HO.out hj).1; omega) _ _ _ _ _ _) (by omega)⟩⟩
end Go.Proofs.Ytojghjgbnnkldaa
end
