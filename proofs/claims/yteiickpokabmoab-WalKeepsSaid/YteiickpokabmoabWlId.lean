import Derived.Test.YteiickpokabmoabWlI
namespace Go.Proofs.Yteiickpokabmoab
open Go.RowKit Go.Shelf
open Wl (Hd WS Log)

set_option maxHeartbeats 1000000 in
set_option maxRecDepth 8000 in
theorem logOf_D {base : Nat} {w : World} {b : Nat} {F : Nat → Prop} {d : D.DS} (h : D.Dk base w b F d) (hd : d.dead = false) (hfit : Wl.Fits d.S.length) (k : Nat) (hk : k < 2) (hm : Wl.MayBe (Wl.parse (d.S.getD k ByteArray.empty)) (Wl.hb d.S.length)) (hsec : (Wl.parse (d.S.getD k ByteArray.empty)).num % 2 = k) (hby : Wl.headB (Wl.parse (d.S.getD k ByteArray.empty)) = d.S.getD k ByteArray.empty) :
    Calls Try.prog 43 #[.pointer (some ⟨b, 0, none⟩), .int .i64 (k : Int)] w (LPost w (Wl.logOf d.S k)) := by
  have hlen : 4 ≤ d.S.length := by obtain ⟨h1, _, h2⟩ := hfit; omega
  have hrd : d.read (k : Int) = (d.S.getD k ByteArray.empty, 0) := by unfold D.DS.read; rw [if_neg (by simp [hd]), if_neg (by omega)]; rfl
  have hs8 : (d.S.getD k ByteArray.empty).size = 128 := by
    rw [List.getD_eq_getElem?_getD, List.getElem?_eq_getElem (by omega)]; exact h.ok.s128.get _
  have HRd := hide (D.read_any (h.alloc (.cells zeroLog 63)) (k : Int))
  rw [hrd] at HRd
  have HD := hide h
  have HHb : Hid (∀ W : World, Below (w.alloc (.cells zeroLog 63)).heap.size (w.alloc (.cells zeroLog 63)) W → Calls Try.prog 26 #[.pointer (some ⟨b, 0, none⟩)] W fun e w' => e = .returned (.int .i64 (Wl.hb d.S.length : Int)) ∧ w' = W) := hide fun W hW => halfBytes_any ((HD.out.alloc _).below hW)
  have HNo := hide (logOf_not (S := d.S) (k := k))
  have HYe := hide (logOf_yes (S := d.S) (k := k))
  have HFr : Hid (Wl.Front d.S k (Wl.parse (d.S.getD k ByteArray.empty)) ↔ Wl.MayBe (Wl.parse (d.S.getD k ByteArray.empty)) (Wl.hb d.S.length) ∧ (Wl.parse (d.S.getD k ByteArray.empty)).num % 2 = k ∧ Wl.headB (Wl.parse (d.S.getD k ByteArray.empty)) = d.S.getD k ByteArray.empty) := hide Iff.rfl
  obtain ⟨X, hX⟩ : ∃ X, Wl.logOf d.S k = X := ⟨_, rfl⟩
  rw [hX] at HNo HYe ⊢
  clear h hX hrd
  have HPa := hide (fun W => parseHead_any (d.S.getD k ByteArray.empty) hs8 W)
  have HLt := hide (parse_lt (d.S.getD k ByteArray.empty))
  have HU := hide hfit
  generalize d.S.getD k ByteArray.empty = s at *
  have hlt := HLt.out
  have HMb := hide (fun W => mayBe_any (Wl.parse s) hlt.2.2.1 hlt.2.2.2 (Wl.hb d.S.length) W)
  have HBy := hide (fun W => bytes_any (Wl.parse s) hlt.1 hlt.2.1 hlt.2.2.1 hlt.2.2.2 W)
  have HUs := hide (fun W => used_any (Wl.parse s) (Nat.le_of_lt hlt.2.2.1) (Nat.le_of_lt hlt.2.2.2) W)
  generalize Wl.parse s = H at *
  obtain ⟨num, half, sn, lg⟩ := H
  have HZ : Hid ((w.alloc (.cells zeroLog 63)).heap[w.heap.size]? = some (.cells #[.int .u64 0, .int .u8 0, .int .i64 0, .int .i64 0, .string ⟨#[]⟩, .slice none 0 0] 63 (0, 0))) := hide (heap_alloc_new w _)
  clear hlt
  simp only [hdC] at *
  go_enter Try.func43, Try.ntmps43
  go_wp2_with fail
  refine HRd.out.mono ?_
  rintro e w' ⟨rfl, rfl⟩
  go_wp2_with fail
  refine (HPa.out _).mono ?_
  rintro e w1 ⟨rfl, hb1⟩
  have HB0 : Hid (Below (w.alloc (.cells zeroLog 63)).heap.size (w.alloc (.cells zeroLog 63)) (w1.alloc (.cells #[.int .u64 (num : Int), .int .u8 (half : Int), .int .i64 (sn : Int), .int .i64 (lg : Int)] 54)).drew) := hide ((hb1.alloc hb1.size _).trans ⟨rfl, rfl, rfl, Nat.le_refl _, fun _ _ => rfl⟩)
  obtain ⟨Y, hY⟩ : ∃ Y, w1.heap.size = Y := ⟨_, rfl⟩
  have hst : (w1.alloc (.cells #[.int .u64 (num : Int), .int .u8 (half : Int), .int .i64 (sn : Int), .int .i64 (lg : Int)] 54)).heap[Y]? = some (.cells #[.int .u64 (num : Int), .int .u8 (half : Int), .int .i64 (sn : Int), .int .i64 (lg : Int)] 54 (0, 0)) := by rw [← hY]; exact heap_alloc_new w1 _
  have HW1 := hide hb1.size
  clear hb1 HRd HPa
  rw [decide_eq_true hm] at HMb
  have hne : (((num % 2 : Nat) : Int) != (k : Int)) = false := by simp; omega
  have hne2 : ((num : Int) % 2 != (k : Int)) = false := by simp; omega
  have hhalf : half < 2 := hm.2.2.1
  have hused : Hd.used ⟨num, half, sn, lg⟩ ≤ Wl.hb d.S.length := hm.2.2.2.2
  have hu1 : Hd.used ⟨num, half, sn, lg⟩ ≤ 100000 := by have := hs_le _ HD.out.ok.s1; unfold Wl.hb at hused; omega
  have hu2 : Wl.first d.S.length half + Wl.up (Hd.used ⟨num, half, sn, lg⟩) ≤ d.S.length := by
    have h9 := HU.out.2.2
    unfold Wl.hb at hused
    have h7 : Wl.up (Hd.used ⟨num, half, sn, lg⟩) ≤ Wl.hs d.S.length := by unfold Wl.up; omega
    have h8 : half * Wl.hs d.S.length ≤ Wl.hs d.S.length := by
      have := Nat.mul_le_mul_right (Wl.hs d.S.length) (show half ≤ 1 by omega)
      omega
    unfold Wl.first; omega
  have HYe2 := hide (HYe.out (HFr.out.mpr ⟨hm, hsec, hby⟩))
  have HSt : Hid ((Wl.flat (d.S.drop (Wl.first d.S.length half))).take (Hd.used ⟨num, half, sn, lg⟩) = Wl.stands d.S ⟨num, half, sn, lg⟩) := hide rfl
  have hstl : (Wl.stands d.S ⟨num, half, sn, lg⟩).length = Hd.used ⟨num, half, sn, lg⟩ := by
    rw [← HSt.out, List.length_take, flat_len (drop128 HD.out.ok.s128 _), List.length_drop]
    have h7 : Hd.used ⟨num, half, sn, lg⟩ ≤ Wl.up (Hd.used ⟨num, half, sn, lg⟩) * 128 := by unfold Wl.up; omega
    omega
  have hsnu : sn ≤ Hd.used ⟨num, half, sn, lg⟩ := Nat.le_add_right _ _
  rw [hby] at HBy
  have hYX : Y ≠ w.heap.size := by
    have := HB0.out.size
    rw [← hY]
    intro e
    have h5 := HW1.out
    simp at h5; omega
  have h2s := HLt.out.2.2.1
  generalize Hd.used ⟨num, half, sn, lg⟩ = U at *
  generalize Wl.stands d.S ⟨num, half, sn, lg⟩ = stn at *
  obtain ⟨ST, hST⟩ : ∃ ST : ByteArray, (⟨stn.toArray⟩ : ByteArray) = ST := ⟨_, rfl⟩
  obtain ⟨DR, hDR0⟩ : ∃ DR : ByteArray, (⟨(stn.drop sn).toArray⟩ : ByteArray) = DR := ⟨_, rfl⟩
  obtain ⟨TS, hTS0⟩ : ∃ TS : ByteArray, (⟨(stn.take sn).toArray⟩ : ByteArray) = TS := ⟨_, rfl⟩
  have hz : ST.size = U := by rw [← hST]; show stn.toArray.size = U; rw [List.size_toArray, hstl]
  have hDR : DR.size ≤ 200000 := by rw [← hDR0]; show (List.toArray _).size ≤ _; simp; omega
  have hTS : Hid (TS.size ≤ 200000) := hide (by rw [← hTS0]; show (List.toArray _).size ≤ _; simp; omega)
  have x1 : ST.extract sn U = DR := by
    rw [← hDR0, ← hST]; apply ByteArray.ext; simp [ByteArray.data_extract]; exact List.take_of_length_le (by simp; omega)
  have x2 : ST.extract 0 sn = TS := by
    rw [← hTS0, ← hST]; apply ByteArray.ext; simp [ByteArray.data_extract]
  have f1 : ∀ W : World, (Instr.slice 9 (.string ST) (some (.int .i64 (sn : Int))) none none).run Try.prog W = .ok (.string DR) W := by
    intro W; rw [← x1, ← hz]; have : sn ≤ ST.size := by omega
    go_simp
  have f2 : ∀ W : World, (Instr.slice 9 (.string ST) none (some (.int .i64 (sn : Int))) none).run Try.prog W = .ok (.string TS) W := by
    intro W; rw [← x2]; have : sn ≤ ST.size := by omega
    go_simp
  rw [hDR0, hTS0] at HYe2
  clear x1 x2 hDR0 hTS0 hz hstl hsnu hm HNo HYe HFr hby hsec hused
  go_wp2_with fail
  refine wp_region_held_drew (S := fun w' => w'.heap[Y]? = some (.cells #[.int .u64 (num : Int), .int .u8 (half : Int), .int .i64 (sn : Int), .int .i64 (lg : Int)] 54 (0, 0))) (by kernel_rfl) (hst) (fun hHeld => ?_)
  refine wpAnyH_take (i := 0) (v := .agg #[.int .u64 (num : Int), .int .u8 (half : Int), .int .i64 (sn : Int), .int .i64 (lg : Int)]) rfl (by kernel_rfl) (by kernel_rfl) (by kernel_rfl) (fun _ _ _ h => h) (Or.inl ⟨by rfl, fun w1 hSw => by clear hHeld; obtain ⟨c0, c1, c2, c3⟩ := box_cells hSw; go_simp⟩) hHeld ?_
  simp only [Act.put, List.setIfInBounds_toArray]
  refine wpAnyH_take (i := 1) (v := .pointer (some ⟨b, 0, none⟩)) rfl (by kernel_rfl) (by kernel_rfl) (by kernel_rfl) (fun _ _ _ h => h) (Or.inl ⟨by rfl, fun w1 hSw => by clear hHeld; obtain ⟨c0, c1, c2, c3⟩ := box_cells hSw; go_simp⟩) hHeld ?_
  try simp only [Act.put]
  refine wpAnyH_ready (rs := [2]) (by kernel_rfl) (by simp) ?_
  refine AllReadyH.cons rfl (fun K hK => ?_) AllReadyH.nil
  go_simp
  refine (HHb.out _ HB0.out).mono ?_
  rintro e w0a ⟨rfl, rfl⟩
  have HB1 := HB0
  refine hK.out _ _ (hHeld) (fun hHeld => ?_)
  clear hK K
  refine wpAnyH_ready (rs := [3]) (by kernel_rfl) (by simp) ?_
  refine AllReadyH.cons rfl (fun K hK => ?_) AllReadyH.nil
  go_simp
  refine (HMb.out _).mono ?_
  rintro e w1a ⟨rfl, hb1⟩
  have HB2 := hide (HB1.out.trans (hb1.mono HB1.out.size))
  have hs1 := box_bl hHeld hb1
  clear hb1
  refine hK.out _ _ (hs1) (fun hHeld => ?_)
  clear hK K
  refine wpAnyH_take (i := 4) (v := .bool false) rfl (by kernel_rfl) (by kernel_rfl) (by kernel_rfl) (fun _ _ _ h => h) (Or.inl ⟨by rfl, fun w1 hSw => by clear hHeld; obtain ⟨c0, c1, c2, c3⟩ := box_cells hSw; go_simp⟩) hHeld ?_
  try simp only [Act.put]
  refine wpAnyH_take (i := 5) (v := .bool false) rfl (by kernel_rfl) (by kernel_rfl) (by kernel_rfl) (fun _ _ _ h => h) (Or.inl ⟨by rfl, fun w1 hSw => by clear hHeld; obtain ⟨c0, c1, c2, c3⟩ := box_cells hSw; go_simp⟩) hHeld ?_
  try simp only [Act.put]
  refine wpAnyH_take (i := 6) (v := .agg #[.int .u64 (num : Int), .int .u8 (half : Int), .int .i64 (sn : Int), .int .i64 (lg : Int)]) rfl (by kernel_rfl) (by kernel_rfl) (by kernel_rfl) (fun _ _ _ h => h) (Or.inl ⟨by rfl, fun w1 hSw => by clear hHeld; obtain ⟨c0, c1, c2, c3⟩ := box_cells hSw; go_simp⟩) hHeld ?_
  try simp only [Act.put]
  refine wpAnyH_take (i := 8) (v := .int .i64 (k : Int)) rfl (by kernel_rfl) (by kernel_rfl) (by kernel_rfl) (fun _ _ _ h => h) (Or.inl ⟨by rfl, fun w1 hSw => by clear hHeld; obtain ⟨c0, c1, c2, c3⟩ := box_cells hSw; go_simp⟩) hHeld ?_
  try simp only [Act.put]
  refine wpAnyH_ready (rs := [7]) (by kernel_rfl) (by simp) ?_
  refine AllReadyH.cons rfl (fun K hK => ?_) AllReadyH.nil
  go_simp
  refine (sector_any ⟨num, half, sn, lg⟩ _).mono ?_
  rintro e w2a ⟨rfl, rfl⟩
  have HB3 := hide (HB2.out.alloc HB2.out.size (.cells (hdC ⟨num, half, sn, lg⟩) 54))
  refine hK.out _ _ (box_al hHeld _) (fun hHeld => ?_)
  clear hK K
  refine wpAnyH_ready (rs := [9]) (by kernel_rfl) (by simp) ?_
  refine AllReadyH.cons rfl (fun K hK => ?_) AllReadyH.nil
  go_simp
  have HB4 := HB3
  refine hK.out _ _ (hHeld) (fun hHeld => ?_)
  clear hK K
  refine wpAnyH_take (i := 10) (v := .bool false) rfl (by kernel_rfl) (by kernel_rfl) (by kernel_rfl) (fun _ _ _ h => h) (Or.inl ⟨by rfl, fun w1 hSw => by clear hHeld; obtain ⟨c0, c1, c2, c3⟩ := box_cells hSw; go_simp⟩) hHeld ?_
  try simp only [Act.put]
  refine wpAnyH_take (i := 11) (v := .bool false) rfl (by kernel_rfl) (by kernel_rfl) (by kernel_rfl) (fun _ _ _ h => h) (Or.inl ⟨by rfl, fun w1 hSw => by clear hHeld; obtain ⟨c0, c1, c2, c3⟩ := box_cells hSw; go_simp⟩) hHeld ?_
  try simp only [Act.put]
  refine wpAnyH_take (i := 12) (v := .agg #[.int .u64 (num : Int), .int .u8 (half : Int), .int .i64 (sn : Int), .int .i64 (lg : Int)]) rfl (by kernel_rfl) (by kernel_rfl) (by kernel_rfl) (fun _ _ _ h => h) (Or.inl ⟨by rfl, fun w1 hSw => by clear hHeld; obtain ⟨c0, c1, c2, c3⟩ := box_cells hSw; go_simp⟩) hHeld ?_
  try simp only [Act.put]
  refine wpAnyH_take (i := 14) (v := .string s) rfl (by kernel_rfl) (by kernel_rfl) (by kernel_rfl) (fun _ _ _ h => h) (Or.inl ⟨by rfl, fun w1 hSw => by clear hHeld; obtain ⟨c0, c1, c2, c3⟩ := box_cells hSw; go_simp⟩) hHeld ?_
  try simp only [Act.put]
  refine wpAnyH_ready (rs := [13]) (by kernel_rfl) (by simp) ?_
  refine AllReadyH.cons rfl (fun K hK => ?_) AllReadyH.nil
  go_simp
  refine (HBy.out _).mono ?_
  rintro e w4a ⟨rfl, hb4⟩
  have HB5 := hide (HB4.out.trans (hb4.mono HB4.out.size))
  have hs4 := box_bl hHeld hb4
  clear hb4
  refine hK.out _ _ (hs4) (fun hHeld => ?_)
  clear hK K
  refine wpAnyH_ready (rs := [15]) (by kernel_rfl) (by simp) ?_
  refine AllReadyH.cons rfl (fun K hK => ?_) AllReadyH.nil
  go_simp
  have HB6 := HB5
  refine hK.out _ _ (hHeld) (fun hHeld => ?_)
  clear hK K
  refine wpAnyH_ready (rs := [16]) (by kernel_rfl) (by simp) ?_
  refine AllReadyH.cons rfl (fun K hK => ?_) AllReadyH.nil
  go_simp
  have HB7 := HB6
  have HY7 := hide hHeld
  refine hK.out _ _ (hHeld) (fun hHeld => ?_)
  clear hK K
  refine wpAnyH_done (by kernel_rfl) ?_ _
  clear hHeld
  have HBp := HB7
  have HYp := HY7
  go_wp2_with fail
  have HB0 : Hid (Below (w.alloc (.cells zeroLog 63)).heap.size (w.alloc (.cells zeroLog 63)) (World.drew _)) := hide (HBp.out.trans ⟨rfl, rfl, rfl, Nat.le_refl _, fun _ _ => rfl⟩)
  refine wp_region_held_drew (S := fun w' => w'.heap[Y]? = some (.cells #[.int .u64 (num : Int), .int .u8 (half : Int), .int .i64 (sn : Int), .int .i64 (lg : Int)] 54 (0, 0))) (by kernel_rfl) (HYp.out) (fun hHeld => ?_)
  refine wpAnyH_take (i := 0) (v := .pointer (some ⟨b, 0, none⟩)) rfl (by kernel_rfl) (by kernel_rfl) (by kernel_rfl) (fun _ _ _ h => h) (Or.inl ⟨by rfl, fun w1 hSw => by clear hHeld; obtain ⟨c0, c1, c2, c3⟩ := box_cells hSw; go_simp⟩) hHeld ?_
  simp only [Act.put, List.setIfInBounds_toArray]
  refine wpAnyH_take (i := 1) (v := .pointer (some ⟨b, 0, none⟩)) rfl (by kernel_rfl) (by kernel_rfl) (by kernel_rfl) (fun _ _ _ h => h) (Or.inl ⟨by rfl, fun w1 hSw => by clear hHeld; obtain ⟨c0, c1, c2, c3⟩ := box_cells hSw; go_simp⟩) hHeld ?_
  try simp only [Act.put]
  refine wpAnyH_take (i := 2) (v := .pointer (some ⟨Y, 1, none⟩)) rfl (by kernel_rfl) (by kernel_rfl) (by kernel_rfl) (fun _ _ _ h => h) (Or.inl ⟨by rfl, fun w1 hSw => by clear hHeld; obtain ⟨c0, c1, c2, c3⟩ := box_cells hSw; go_simp⟩) hHeld ?_
  try simp only [Act.put]
  refine wpAnyH_take (i := 3) (v := .int .u8 (half : Int)) rfl (by kernel_rfl) (by kernel_rfl) (by kernel_rfl) (fun _ _ _ h => h) (Or.inl ⟨by rfl, fun w1 hSw => by clear hHeld; obtain ⟨c0, c1, c2, c3⟩ := box_cells hSw; go_simp⟩) hHeld ?_
  try simp only [Act.put]
  refine wpAnyH_take (i := 5) (v := .agg #[.int .u64 (num : Int), .int .u8 (half : Int), .int .i64 (sn : Int), .int .i64 (lg : Int)]) rfl (by kernel_rfl) (by kernel_rfl) (by kernel_rfl) (fun _ _ _ h => h) (Or.inl ⟨by rfl, fun w1 hSw => by clear hHeld; obtain ⟨c0, c1, c2, c3⟩ := box_cells hSw; go_simp⟩) hHeld ?_
  try simp only [Act.put]
  refine wpAnyH_ready (rs := [4]) (by kernel_rfl) (by simp) ?_
  refine AllReadyH.cons rfl (fun K hK => ?_) AllReadyH.nil
  go_simp
  refine (firstSector_any ((HD.out.alloc _).below HB0.out) hhalf).mono ?_
  rintro e w0a ⟨rfl, rfl⟩
  have HB1 := HB0
  refine hK.out _ _ (hHeld) (fun hHeld => ?_)
  clear hK K
  refine wpAnyH_ready (rs := [6]) (by kernel_rfl) (by simp) ?_
  refine AllReadyH.cons rfl (fun K hK => ?_) AllReadyH.nil
  go_simp
  refine (HUs.out _).mono ?_
  rintro e w1a ⟨rfl, rfl⟩
  have HB2 := hide (HB1.out.alloc HB1.out.size (.cells #[.int .u64 (num : Int), .int .u8 (half : Int), .int .i64 (sn : Int), .int .i64 (lg : Int)] 54))
  refine hK.out _ _ (box_al hHeld _) (fun hHeld => ?_)
  clear hK K
  refine wpAnyH_ready (rs := [7]) (by kernel_rfl) (by simp) ?_
  refine AllReadyH.cons rfl (fun K hK => ?_) AllReadyH.nil
  go_simp
  refine (readBytes_any ((HD.out.alloc _).below HB2.out) hd _ _ hu1 hu2).mono ?_
  rintro e w2a ⟨rfl, hb2⟩
  rw [HSt.out, hST]
  have HB3 := hide (HB2.out.trans (hb2.mono HB2.out.size))
  have hs2 := box_bl hHeld hb2
  clear hb2
  refine hK.out _ _ (hs2) (fun hHeld => ?_)
  clear hK K
  refine wpAnyH_ready (rs := [8]) (by kernel_rfl) (by simp) ?_
  refine AllReadyH.cons rfl (fun K hK => ?_) AllReadyH.nil
  go_simp
  have HB4 := HB3
  have HY4 := hide hHeld
  refine hK.out _ _ (hHeld) (fun hHeld => ?_)
  clear hK K
  refine wpAnyH_done (by kernel_rfl) ?_ _
  clear hHeld
  have HBq := HB4
  have HYq := HY4
  obtain ⟨y0, y1, y2, y3⟩ := box_cells HYq.out
  go_wp2_with fail
  refine (unframe_any DR hDR _).mono ?_
  rintro e wu ⟨hbu, hU⟩
  have HBu := hide (HBq.out.trans (hbu.mono HBq.out.size))
  have hYu := box_bl HYq.out hbu
  have HHU := hide HYe2.out
  cases hUU : Wl.unframe DR with
  | none =>
    rw [hUU] at hU
    simp only at hU
    subst hU
    have HN : Hid (X = none) := hide (by rw [HHU.out, hUU]; rfl)
    have HB99 := HBu
    clear hUU HYe2 HHU hbu hYu HYq HBq HBu
    have HZd := hide (zbox HZ.out HB99.out)
    obtain ⟨z0, z1, z2, z3, z4, z5, zz⟩ := log_cells HZd.out
    have HBe : Hid (Below w.heap.size w _) := hide ((below_alloc w _).trans (HB99.out.mono (by simp)))
    clear HZd
    go_wp2_with fail
    exact bodyPost_ret (v := .tuple #[.agg zeroLog, .bool false]) (by simp [results, Try.results43, go_sem, z0, z1, z2, z3, z4, z5, zeroLog]) rfl ⟨((((((HBe.out.setCell (Nat.le_refl _) _).setCell (Nat.le_refl _) _).setCell (Nat.le_refl _) _).setCell (Nat.le_refl _) _).setCell (Nat.le_refl _) _).setCell (Nat.le_refl _) _), by rw [HN.out]⟩
  | some l =>
    rw [hUU] at hU
    obtain ⟨v, rfl, hO⟩ := hU
    obtain ⟨ad, cp, rfl⟩ := D.own_slice hO
    have HYs : Hid (X = some ⟨⟨num, half, sn, lg⟩, TS, l⟩) := hide (by rw [HHU.out, hUU]; rfl)
    have hq0 : w.heap.size ≤ _ := Nat.le_trans (show w.heap.size ≤ (w.alloc (.cells zeroLog 63)).heap.size by simp) HBq.out.size
    have HOu : Hid (wu.drew.ownsRow w.heap.size 9 1 (.slice ad l.length cp) l.length (l.map .string)) := hide (D.own_keep (D.own_base hO hq0) fun _ _ => rfl)
    have HBu : Hid (Below (w.alloc (.cells zeroLog 63)).heap.size (w.alloc (.cells zeroLog 63)) wu.drew) := hide (HBu.out.trans ⟨rfl, rfl, rfl, Nat.le_refl _, fun _ _ => rfl⟩)
    have HOz : Hid (∀ k, (Value.slice ad l.length cp).ownBlock = some k → w.heap.size < k) := hide fun k hk => Nat.lt_of_lt_of_le (by have := HBq.out.size; simp at this; omega) (own_lo hO hk).1
    clear hUU HYe2 HHU hbu hO HYq
    go_wp2_with fail
    refine wp_region_held_drew (S := fun w' => w'.heap[Y]? = some (.cells #[.int .u64 (num : Int), .int .u8 (half : Int), .int .i64 (sn : Int), .int .i64 (lg : Int)] 54 (0, 0))) (by kernel_rfl) (hYu) (fun hHeld => ?_)
    refine wpAnyH_take (i := 0) (v := .agg #[.int .u64 (num : Int), .int .u8 (half : Int), .int .i64 (sn : Int), .int .i64 (lg : Int)]) rfl (by kernel_rfl) (by kernel_rfl) (by kernel_rfl) (fun _ _ _ h => h) (Or.inl ⟨by rfl, fun w1 hSw => by clear hHeld; obtain ⟨c0, c1, c2, c3⟩ := box_cells hSw; go_simp⟩) hHeld ?_
    simp only [Act.put, List.setIfInBounds_toArray]
    refine wpAnyH_take (i := 1) (v := .string ST) rfl (by kernel_rfl) (by kernel_rfl) (by kernel_rfl) (fun _ _ _ h => h) (Or.inl ⟨by rfl, fun w1 hSw => by clear hHeld; obtain ⟨c0, c1, c2, c3⟩ := box_cells hSw; go_simp⟩) hHeld ?_
    try simp only [Act.put]
    refine wpAnyH_take (i := 2) (v := .pointer (some ⟨Y, 2, none⟩)) rfl (by kernel_rfl) (by kernel_rfl) (by kernel_rfl) (fun _ _ _ h => h) (Or.inl ⟨by rfl, fun w1 hSw => by clear hHeld; obtain ⟨c0, c1, c2, c3⟩ := box_cells hSw; go_simp⟩) hHeld ?_
    try simp only [Act.put]
    refine wpAnyH_take (i := 3) (v := .int .i64 (sn : Int)) rfl (by kernel_rfl) (by kernel_rfl) (by kernel_rfl) (fun _ _ _ h => h) (Or.inl ⟨by rfl, fun w1 hSw => by clear hHeld; obtain ⟨c0, c1, c2, c3⟩ := box_cells hSw; go_simp⟩) hHeld ?_
    try simp only [Act.put]
    refine wpAnyH_take (i := 6) (v := .slice ad l.length cp) rfl (by kernel_rfl) (by kernel_rfl) (by kernel_rfl) (fun _ _ _ h => h) (Or.inl ⟨by rfl, fun w1 hSw => by clear hHeld; obtain ⟨c0, c1, c2, c3⟩ := box_cells hSw; go_simp⟩) hHeld ?_
    try simp only [Act.put]
    refine wpAnyH_ready (rs := [4]) (by kernel_rfl) (by simp) ?_
    refine AllReadyH.cons rfl (fun K hK => ?_) AllReadyH.nil
    go_simp
    refine hK.out _ _ (hHeld) (fun hHeld => ?_)
    clear hK K
    refine wpAnyH_ready (rs := [5]) (by kernel_rfl) (by simp) ?_
    refine AllReadyH.cons rfl (fun K hK => ?_) AllReadyH.nil
    go_simp
    refine (clone_any TS _ (by have := hTS.out; omega)).mono ?_
    rintro e wc ⟨rfl, hbc⟩
    have HBc := hide (HBu.out.trans (hbc.mono HBu.out.size))
    have HOc : Hid (wc.ownsRow w.heap.size 9 1 (.slice ad l.length cp) l.length (l.map .string)) := hide (D.own_keep HOu.out fun k hk => hbc.block k (own_lo HOu.out hk).2)
    have hs1 := box_bl hHeld hbc
    obtain ⟨z0, z1, z2, z3, z4, z5, zz⟩ := log_cells (zbox HZ.out HBc.out)
    clear hbc
    refine hK.out _ _ (hs1) (fun hHeld => ?_)
    clear hK K
    refine wpAnyH_ready (rs := [7]) (by kernel_rfl) (by simp) ?_
    refine AllReadyH.cons rfl (fun K hK => ?_) AllReadyH.nil
    go_simp
    refine hK.out _ _ (hHeld) (fun hHeld => ?_)
    clear hK K
    refine wpAnyH_ready (rs := [8]) (by kernel_rfl) (by simp) ?_
    refine AllReadyH.cons rfl (fun K hK => ?_) AllReadyH.nil
    go_simp
    refine hK.out _ _ (((((((Below.heap_setCell _ _ _ _ hYX).trans (Below.heap_setCell _ _ _ _ hYX)).trans (Below.heap_setCell _ _ _ _ hYX)).trans (Below.heap_setCell _ _ _ _ hYX)).trans (Below.heap_setCell _ _ _ _ hYX)).trans (Below.heap_setCell _ _ _ _ hYX)).trans hHeld) (fun hHeld => ?_)
    clear hK K
    refine wpAnyH_ready (rs := [9]) (by kernel_rfl) (by simp) ?_
    refine AllReadyH.cons rfl (fun K hK => ?_) AllReadyH.nil
    go_simp
    refine hK.out _ _ (hHeld) (fun hHeld => ?_)
    clear hK K
    refine wpAnyH_done (by kernel_rfl) ?_ _
    clear hHeld
    go_wp2_with fail
    exact bodyPost_ret (v := .tuple #[.agg #[.int .u64 (num : Int), .int .u8 (half : Int), .int .i64 (sn : Int), .int .i64 (lg : Int), .string TS, .slice ad l.length cp], .bool true]) (by simp [results, Try.results43, go_sem, z0, z1, z2, z3, z4, z5]) rfl ⟨((((((((below_alloc w _).trans (HBc.out.mono (by simp))).setCell (Nat.le_refl _) _).setCell (Nat.le_refl _) _).setCell (Nat.le_refl _) _).setCell (Nat.le_refl _) _).setCell (Nat.le_refl _) _).setCell (Nat.le_refl _) _), by rw [HYs.out]; exact ⟨_, rfl, (D.own_keep HOc.out fun k hk => (((((Below.heap_setCell _ _ _ _ (Nat.ne_of_gt (HOz.out k hk))).trans (Below.heap_setCell _ _ _ _ (Nat.ne_of_gt (HOz.out k hk)))).trans (Below.heap_setCell _ _ _ _ (Nat.ne_of_gt (HOz.out k hk)))).trans (Below.heap_setCell _ _ _ _ (Nat.ne_of_gt (HOz.out k hk)))).trans (Below.heap_setCell _ _ _ _ (Nat.ne_of_gt (HOz.out k hk)))).trans (Below.heap_setCell _ _ _ _ (Nat.ne_of_gt (HOz.out k hk))))⟩⟩
end Go.Proofs.Yteiickpokabmoab
