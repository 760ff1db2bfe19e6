import Derived.Test.YtojghjgbnnkldaaMgAO

section
namespace Go.Proofs.Ytojghjgbnnkldaa
open Go.RowKit Go.Shelf
open Wl (Hd WS Log)

theorem enc_mono : ∀ (b a : Nat), a ≤ b → (Pk.enc a).length ≤ (Pk.enc b).length := by
  intro b
  induction b using Nat.strongRecOn with
  | _ b ih =>
    intro a h
    by_cases h1 : a < 128
    · rw [Pk.enc_lt h1]; exact Pk.enc_pos b
    · rw [Pk.enc_ge h1, Pk.enc_ge (show ¬ b < 128 by omega), List.length_cons, List.length_cons]
      have := ih (b / 128) (by omega) (a / 128) (Nat.div_le_div_right h)
      omega
theorem roomF_fit (left : Nat) : ∀ k, Wl.roomF left k = 0 ∨ (Pk.enc (Wl.roomF left k)).length + Wl.roomF left k ≤ left := by
  intro k
  induction k with
  | zero => exact .inl rfl
  | succ k ih =>
    rw [roomF_succ]
    split
    · rename_i h; exact .inr h
    · exact ih
theorem room_fit {n : Nat} {h : Hd} {k : Nat} (h1 : 1 ≤ k) (hk : k ≤ Wl.room n h) : (Pk.enc k).length + k ≤ Wl.hb n - h.used := by
  rcases roomF_fit (Wl.hb n - h.used) (min (Wl.hb n - h.used) 2048) with h0 | h0
  · exact absurd hk (by unfold Wl.room; omega)
  · have := enc_mono _ _ hk
    unfold Wl.room at this hk
    omega
/-- what the closure does -/
def inA (d : D.DS) (ws : WS) (r : ByteArray) : (Int × D.DS) × WS :=
  if r.size < 1 ∨ 2048 < r.size then ((92, d), ws) else if Wl.room d.S.length ws.h < r.size then ((93, d), ws) else if 1099511627776 ≤ ws.h.num then ((94, d), ws)
  else (Wl.layW d (Wl.place d ws.h) (Wl.sects (Wl.ahead d ws.h ++ Wl.frame r)) (Wl.hdA ws.h r), ⟨Wl.hdA ws.h r, ws.rc + 1, ws.gone⟩)
theorem append_eq (d : D.DS) (ws : WS) (r : ByteArray) : Wl.append d ws r = Wl.powered d ws ((inA d ws r).1.1, (inA d ws r).1.2, wsAfter (inA d ws r).1.1 ws (inA d ws r).2) := by
  unfold Wl.append inA
  by_cases h1 : r.size < 1 ∨ 2048 < r.size
  · rw [if_pos h1, if_pos h1]; rfl
  rw [if_neg h1, if_neg h1]
  by_cases h2 : Wl.room d.S.length ws.h < r.size
  · rw [if_pos h2, if_pos h2]; rfl
  rw [if_neg h2, if_neg h2]
  by_cases h3 : 1099511627776 ≤ ws.h.num
  · rw [if_pos h3, if_pos h3]; rfl
  rw [if_neg h3, if_neg h3]
  rfl
set_option maxHeartbeats 2000000 in
set_option maxRecDepth 8000 in
theorem appendIn_any {base : Nat} {w : World} {b W p1 p2 : Nat} {F : Nat → Prop} {d : D.DS} {ws : WS} {r : ByteArray} (h : D.Dk base w b F d) (hw : Wm w W b ws) (hFW : ¬ F W) (ho : Wl.Ok d ws) (hd : d.dead = false) (hR : (d.R.length + 600) * 24 ≤ 140737488355328)
    (h1 : w.cell? ⟨p1, 0, none⟩ = some (.string r)) (h2 : w.cell? ⟨p2, 0, none⟩ = some (.pointer (some ⟨W, 0, none⟩))) :
    Calls Try.prog 38 #[.pointer (some ⟨p1, 0, none⟩), .pointer (some ⟨p2, 0, none⟩)] w fun e w' => e = .returned (.int .i64 (inA d ws r).1.1) ∧ Wm w' W b (inA d ws r).2 ∧ ∃ F', D.Dk base w' b F' (inA d ws r).1.2 ∧ D.Mv (FW F W) (FW F' W) w w' ∧ ¬ F' W := by
  have HD := hide h
  have HWm := hide hw
  obtain ⟨X, hX⟩ : ∃ X, inA d ws r = X := ⟨_, rfl⟩
  rw [hX]
  have HX : Hid (X = if r.size < 1 ∨ 2048 < r.size then ((92, d), ws) else if Wl.room d.S.length ws.h < r.size then ((93, d), ws) else if 1099511627776 ≤ ws.h.num then ((94, d), ws)
    else (Wl.layW d (Wl.place d ws.h) (Wl.sects (Wl.ahead d ws.h ++ Wl.frame r)) (Wl.hdA ws.h r), ⟨Wl.hdA ws.h r, ws.rc + 1, ws.gone⟩)) := hide (by rw [← hX]; rfl)
  clear hX
  by_cases hs1 : r.size < 1
  · have HR : Hid (X = ((92, d), ws)) := hide (by rw [HX.out, if_pos (.inl hs1)])
    have b1 : decide ((r.size : Int) < 1) = true := by simp; omega
    clear HX h hw hs1
    go_enter Try.func38, Try.ntmps38
    go_wp2_with fail
    go_ret
    exact ⟨by rw [HR.out]; rfl, by rw [HR.out]; exact HWm.out, F, by rw [HR.out]; exact HD.out, D.Mv.refl _, hFW⟩
  have b1 : decide ((r.size : Int) < 1) = false := by simp; omega
  by_cases hs2 : 2048 < r.size
  · have HR : Hid (X = ((92, d), ws)) := hide (by rw [HX.out, if_pos (.inr hs2)])
    have b2 : decide ((2048 : Int) < (r.size : Int)) = true := by simp; omega
    clear HX h hw hs1 hs2
    go_enter Try.func38, Try.ntmps38
    go_wp2_with fail
    go_ret
    exact ⟨by rw [HR.out]; rfl, by rw [HR.out]; exact HWm.out, F, by rw [HR.out]; exact HD.out, D.Mv.refl _, hFW⟩
  have b2 : decide ((2048 : Int) < (r.size : Int)) = false := by simp; omega
  have HX2 : Hid (X = if Wl.room d.S.length ws.h < r.size then ((93, d), ws) else if 1099511627776 ≤ ws.h.num then ((94, d), ws)
    else (Wl.layW d (Wl.place d ws.h) (Wl.sects (Wl.ahead d ws.h ++ Wl.frame r)) (Wl.hdA ws.h r), ⟨Wl.hdA ws.h r, ws.rc + 1, ws.gone⟩)) := hide (by rw [HX.out, if_neg (by omega)])
  have HB0 : Hid (Below w.heap.size w w.drew) := hide ⟨rfl, rfl, rfl, Nat.le_refl _, fun _ _ => rfl⟩
  have hrs : r.size ≤ 2048 := by omega
  have hr1 : 1 ≤ r.size := by omega
  have HFit := hide (fun hk => room_fit (n := d.S.length) (h := ws.h) (k := r.size) hr1 hk)
  clear HX h hw hs1 hs2
  by_cases hrm : Wl.room d.S.length ws.h < r.size
  · have HR : Hid (X = ((93, d), ws)) := hide (by rw [HX2.out, if_pos hrm])
    have b3 : decide (Wl.room d.S.length ws.h < r.size) = true := decide_eq_true hrm
    clear HX2 HFit
    go_enter Try.func38, Try.ntmps38
    go_wp2_with fail
    refine wp_region_held_drew (S := fun w' => w'.cell? ⟨p1, 0, none⟩ = some (.string r) ∧ w'.cell? ⟨p2, 0, none⟩ = some (.pointer (some ⟨W, 0, none⟩))) (by kernel_rfl) (⟨h1, h2⟩) (fun hHeld => ?_)
    refine wpAnyH_take (i := 0) (v := .string r) rfl (by kernel_rfl) (by kernel_rfl) (by kernel_rfl) (fun _ _ _ h => h) (Or.inl ⟨by rfl, fun w1 hSw => by clear hHeld; obtain ⟨s1, s2⟩ := hSw; go_simp⟩) hHeld ?_
    simp only [Act.put, List.setIfInBounds_toArray]
    refine wpAnyH_take (i := 1) (v := .int .i64 (r.size : Int)) rfl (by kernel_rfl) (by kernel_rfl) (by kernel_rfl) (fun _ _ _ h => h) (Or.inl ⟨by rfl, fun w1 hSw => by clear hHeld; obtain ⟨s1, s2⟩ := hSw; go_simp⟩) hHeld ?_
    try simp only [Act.put]
    refine wpAnyH_take (i := 2) (v := .pointer (some ⟨W, 0, none⟩)) rfl (by kernel_rfl) (by kernel_rfl) (by kernel_rfl) (fun _ _ _ h => h) (Or.inl ⟨by rfl, fun w1 hSw => by clear hHeld; obtain ⟨s1, s2⟩ := hSw; go_simp⟩) hHeld ?_
    try simp only [Act.put]
    refine wpAnyH_ready (rs := [3]) (by kernel_rfl) (by simp) ?_
    refine AllReadyH.cons rfl (fun K hK => ?_) AllReadyH.nil
    go_simp
    refine (room_any (HD.out.below HB0.out) (HWm.out.below HB0.out) ho).mono ?_
    rintro e w0a ⟨rfl, hb0⟩
    have HB1 := hide (HB0.out.trans (hb0.mono HB0.out.size))
    have hs0 : _ ∧ _ := ⟨(hb0.cell (World.block_lt_of_cell? _ _ hHeld.1)).trans hHeld.1, (hb0.cell (World.block_lt_of_cell? _ _ hHeld.2)).trans hHeld.2⟩
    clear hb0
    refine hK.out _ _ (hs0) (fun hHeld => ?_)
    clear hK K
    refine wpAnyH_ready (rs := [4]) (by kernel_rfl) (by simp) ?_
    refine AllReadyH.cons rfl (fun K hK => ?_) AllReadyH.nil
    go_simp
    have HB2 := HB1
    refine hK.out _ _ (hHeld) (fun hHeld => ?_)
    clear hK K
    refine wpAnyH_ready (rs := [5]) (by kernel_rfl) (by simp) ?_
    refine AllReadyH.cons rfl (fun K hK => ?_) AllReadyH.nil
    go_simp
    have HB3 := HB2
    have HS9 := hide hHeld
    refine hK.out _ _ (hHeld) (fun hHeld => ?_)
    clear hK K
    refine wpAnyH_done (by kernel_rfl) ?_ _
    clear hHeld
    have HB9 := HB3
    go_wp2_with fail
    go_ret
    exact ⟨by rw [HR.out]; rfl, by rw [HR.out]; exact HWm.out.below HB9.out, F, by rw [HR.out]; exact HD.out.below HB9.out, D.Mv.of_below HB9.out, hFW⟩
  have b3 : decide (Wl.room d.S.length ws.h < r.size) = false := decide_eq_false hrm
  have HX3 : Hid (X = if 1099511627776 ≤ ws.h.num then ((94, d), ws)
    else (Wl.layW d (Wl.place d ws.h) (Wl.sects (Wl.ahead d ws.h ++ Wl.frame r)) (Wl.hdA ws.h r), ⟨Wl.hdA ws.h r, ws.rc + 1, ws.gone⟩)) := hide (by rw [HX2.out, if_neg hrm])
  have HFit2 := hide (HFit.out (Nat.not_lt.mp hrm))
  clear HX2 HFit
  go_enter Try.func38, Try.ntmps38
  go_wp2_with fail
  refine wp_region_held_drew (S := fun w' => w'.cell? ⟨p1, 0, none⟩ = some (.string r) ∧ w'.cell? ⟨p2, 0, none⟩ = some (.pointer (some ⟨W, 0, none⟩))) (by kernel_rfl) (⟨h1, h2⟩) (fun hHeld => ?_)
  refine wpAnyH_take (i := 0) (v := .string r) rfl (by kernel_rfl) (by kernel_rfl) (by kernel_rfl) (fun _ _ _ h => h) (Or.inl ⟨by rfl, fun w1 hSw => by clear hHeld; obtain ⟨s1, s2⟩ := hSw; go_simp⟩) hHeld ?_
  simp only [Act.put, List.setIfInBounds_toArray]
  refine wpAnyH_take (i := 1) (v := .int .i64 (r.size : Int)) rfl (by kernel_rfl) (by kernel_rfl) (by kernel_rfl) (fun _ _ _ h => h) (Or.inl ⟨by rfl, fun w1 hSw => by clear hHeld; obtain ⟨s1, s2⟩ := hSw; go_simp⟩) hHeld ?_
  try simp only [Act.put]
  refine wpAnyH_take (i := 2) (v := .pointer (some ⟨W, 0, none⟩)) rfl (by kernel_rfl) (by kernel_rfl) (by kernel_rfl) (fun _ _ _ h => h) (Or.inl ⟨by rfl, fun w1 hSw => by clear hHeld; obtain ⟨s1, s2⟩ := hSw; go_simp⟩) hHeld ?_
  try simp only [Act.put]
  refine wpAnyH_ready (rs := [3]) (by kernel_rfl) (by simp) ?_
  refine AllReadyH.cons rfl (fun K hK => ?_) AllReadyH.nil
  go_simp
  refine (room_any (HD.out.below HB0.out) (HWm.out.below HB0.out) ho).mono ?_
  rintro e w0a ⟨rfl, hb0⟩
  have HB1 := hide (HB0.out.trans (hb0.mono HB0.out.size))
  have hs0 : _ ∧ _ := ⟨(hb0.cell (World.block_lt_of_cell? _ _ hHeld.1)).trans hHeld.1, (hb0.cell (World.block_lt_of_cell? _ _ hHeld.2)).trans hHeld.2⟩
  clear hb0
  refine hK.out _ _ (hs0) (fun hHeld => ?_)
  clear hK K
  refine wpAnyH_ready (rs := [4]) (by kernel_rfl) (by simp) ?_
  refine AllReadyH.cons rfl (fun K hK => ?_) AllReadyH.nil
  go_simp
  have HB2 := HB1
  refine hK.out _ _ (hHeld) (fun hHeld => ?_)
  clear hK K
  refine wpAnyH_ready (rs := [5]) (by kernel_rfl) (by simp) ?_
  refine AllReadyH.cons rfl (fun K hK => ?_) AllReadyH.nil
  go_simp
  have HB3 := HB2
  have HS9 := hide hHeld
  refine hK.out _ _ (hHeld) (fun hHeld => ?_)
  clear hK K
  refine wpAnyH_done (by kernel_rfl) ?_ _
  clear hHeld
  have HB9 := HB3
  have hW9 := HWm.out.below HB9.out
  obtain ⟨c0, c1, c2, c3, c4, c5, c6, cz⟩ := wm_cells hW9
  obtain ⟨s1, s2⟩ := HS9.out
  have HL := hide (fun V => isLast_any ws.h V)
  have HW9 := hide hW9
  have HO := hide ho
  obtain ⟨⟨num, half, sn, lg⟩, rc, gone⟩ := ws
  simp only [hdC] at *
  clear hW9 ho
  go_wp2_with fail
  refine (HL.out _).mono ?_
  rintro e wl ⟨rfl, rfl⟩
  have HBl := hide (HB9.out.alloc HB9.out.size (.cells #[.int .u64 (num : Int), .int .u8 (half : Int), .int .i64 (sn : Int), .int .i64 (lg : Int)] 58))
  by_cases hn : 1099511627776 ≤ num
  · have HR : Hid (X = ((94, d), ⟨⟨num, half, sn, lg⟩, rc, gone⟩)) := hide (by rw [HX3.out, if_pos hn])
    rw [decide_eq_true hn]
    clear HX3 HFit2 HL
    go_wp2_with fail
    go_ret
    exact ⟨by rw [HR.out]; rfl, by rw [HR.out]; exact HWm.out.below HBl.out, F, by rw [HR.out]; exact HD.out.below HBl.out, D.Mv.of_below HBl.out, hFW⟩
  · have HR : Hid (X = (Wl.layW d (Wl.place d ⟨num, half, sn, lg⟩) (Wl.sects (Wl.ahead d ⟨num, half, sn, lg⟩ ++ Wl.frame r)) (Wl.hdA ⟨num, half, sn, lg⟩ r), ⟨Wl.hdA ⟨num, half, sn, lg⟩ r, rc + 1, gone⟩)) := hide (by rw [HX3.out, if_neg hn])
    rw [decide_eq_false hn]
    have HLr := hide (layRecord_any (HD.out.below HBl.out) (HWm.out.below HBl.out) hFW HO.out hd r hrs HFit2.out hR (Nat.not_le.mp hn))
    simp only at HLr
    generalize Wl.layW d (Wl.place d ⟨num, half, sn, lg⟩) (Wl.sects (Wl.ahead d ⟨num, half, sn, lg⟩ ++ Wl.frame r)) (Wl.hdA ⟨num, half, sn, lg⟩ r) = LW at *
    have s1b := Lib.cell?_alloc_some (.cells #[.int .u64 (num : Int), .int .u8 (half : Int), .int .i64 (sn : Int), .int .i64 (lg : Int)] 58) s1
    have s2b := Lib.cell?_alloc_some (.cells #[.int .u64 (num : Int), .int .u8 (half : Int), .int .i64 (sn : Int), .int .i64 (lg : Int)] 58) s2
    clear HX3 HFit2 HL c0 c1 c2 c3 c4 c5 c6 cz
    go_wp2_with fail
    refine HLr.out.mono ?_
    rintro e w9 ⟨rfl, hW9, F', hD9, hM9, hn9⟩
    have HW9 := hide hW9
    have HD9 := hide hD9
    have HM9 := hide ((D.Mv.of_below (F := FW F W) HBl.out).trans hM9)
    clear hW9 hD9 hM9 HLr
    go_wp2_with fail
    go_ret
    exact ⟨by rw [HR.out]; rfl, by rw [HR.out]; exact HW9.out, F', by rw [HR.out]; exact HD9.out, HM9.out, hn9⟩
set_option maxHeartbeats 1000000 in
set_option maxRecDepth 8000 in
theorem append_any {base : Nat} {w : World} {b W : Nat} {F : Nat → Prop} {d : D.DS} {ws : WS} (h : D.Dk base w b F d) (hw : Wm w W b ws) (hFW : ¬ F W) (ho : Wl.Ok d ws) (hR : (d.R.length + 600) * 24 ≤ 140737488355328) (r : ByteArray) :
    Calls Try.prog 14 #[.pointer (some ⟨W, 0, none⟩), .string r] w fun e w' => e = .returned (.int .i64 (Wl.append d ws r).1) ∧ Wm w' W b (Wl.append d ws r).2.2 ∧ ∃ F', D.Dk base w' b F' (Wl.append d ws r).2.1 ∧ D.Mv (FW F W) (FW F' W) w w' ∧ ¬ F' W := by
  have hmf : ∀ (fn : Fn) (first cap : Array Value) (w : World), (Instr.makeFunc fn first cap).run Try.prog w = .ok (.func fn first cap) w := fun _ _ _ _ => rfl
  have hb2 : Below w.heap.size w ((w.alloc (.cells #[.pointer (some ⟨W, 0, none⟩)] 35)).alloc (.cells #[.string r] 9)) := (below_alloc w _).alloc (by simp) _
  have HP := hide (powered_A (p1 := w.heap.size + 1) (p2 := w.heap.size) (h.below hb2) (hw.below hb2) hFW (r := (inA d ws r).1) (ws1 := (inA d ws r).2) (hide fun hd _ V hV => appendIn_any ((h.below hb2).below hV) ((hw.below hb2).below hV) hFW ho hd hR ((hV.cell (p := ⟨w.heap.size + 1, 0, none⟩) (by simp)).trans (two_Y w _ _ _)) ((hV.cell (p := ⟨w.heap.size, 0, none⟩) (by simp; omega)).trans (two_X w _ _ _))))
  rw [← append_eq] at HP
  have HB2 := hide hb2
  generalize Wl.append d ws r = X at *
  clear h hw ho hb2
  go_enter Try.func14, Try.ntmps14
  go_wp2_with fail
  refine HP.out.mono ?_
  rintro e w9 ⟨rfl, hW9, F', hD9, hM9, hn9⟩
  have HW9 := hide hW9
  have HD9 := hide hD9
  have HM9 := hide ((D.Mv.of_below (F := FW F W) HB2.out).trans hM9)
  clear hW9 hD9 hM9 HP
  go_wp2_with fail
  go_ret
  exact ⟨rfl, HW9.out, F', HD9.out, HM9.out, hn9⟩
end Go.Proofs.Ytojghjgbnnkldaa
end
