import Derived.Test.YtdjmmgpdladpcaaMgAO
import Derived.Test.YtdjmmgpdladpcaaMgAN
import Derived.Test.YtdjmmgpdladpcaaMgAI

section
namespace Go.Proofs.Ytdjmmgpdladpcaa
open Go.RowKit Go.Shelf
open Wl (Hd WS Log)

theorem enc_mono : ∀ (b a : Nat), a ≤ b → (Pk.enc a).length ≤ (Pk.enc b).length := by
  intro b
  induction b using Nat.strongRecOn with
  | _ b ih =>
    intro a h
    by_cases h1 : a < 128
    · rw [Pk.enc_lt h1]; exact Pk.enc_pos b
    · rw [Pk.enc_ge h1, Pk.enc_ge (show ¬ b < 128 by omega), List.length_cons, List.length_cons]
      have := ih (b / 128) (by omega) (a / 128) (Nat.div_le_div_right h)
      omega
theorem roomF_fit (left : Nat) : ∀ k, Wl.roomF left k = 0 ∨ (Pk.enc (Wl.roomF left k)).length + Wl.roomF left k ≤ left := by
  intro k
  induction k with
  | zero => exact .inl rfl
  | succ k ih =>
    rw [roomF_succ]
    split
    · rename_i h; exact .inr h
    · exact ih
theorem room_fit {n : Nat} {h : Hd} {k : Nat} (h1 : 1 ≤ k) (hk : k ≤ Wl.room n h) : (Pk.enc k).length + k ≤ Wl.hb n - h.used := by
  rcases roomF_fit (Wl.hb n - h.used) (min (Wl.hb n - h.used) 2048) with h0 | h0
  · exact absurd hk (by unfold Wl.room; omega)
  · have := enc_mono _ _ hk
    unfold Wl.room at this hk
    omega
/-- what the closure does -/
def inA (d : D.DS) (ws : WS) (r : ByteArray) : (Int × D.DS) × WS :=
  if r.size < 1 ∨ 2048 < r.size then ((92, d), ws) else if Wl.room d.S.length ws.h < r.size then ((93, d), ws) else if 1099511627776 ≤ ws.h.num then ((94, d), ws)
  else (Wl.layW d (Wl.place d ws.h) (Wl.sects (Wl.ahead d ws.h ++ Wl.frame r)) (Wl.hdA ws.h r), ⟨Wl.hdA ws.h r, ws.rc + 1, ws.gone⟩)
theorem append_eq (d : D.DS) (ws : WS) (r : ByteArray) : Wl.append d ws r = Wl.powered d ws ((inA d ws r).1.1, (inA d ws r).1.2, wsAfter (inA d ws r).1.1 ws (inA d ws r).2) := by
  unfold Wl.append inA
  by_cases h1 : r.size < 1 ∨ 2048 < r.size
  · rw [if_pos h1, if_pos h1]; rfl
  rw [if_neg h1, if_neg h1]
  by_cases h2 : Wl.room d.S.length ws.h < r.size
  · rw [if_pos h2, if_pos h2]; rfl
  rw [if_neg h2, if_neg h2]
  by_cases h3 : 1099511627776 ≤ ws.h.num
  · rw [if_pos h3, if_pos h3]; rfl
  rw [if_neg h3, if_neg h3]
  rfl
set_option maxHeartbeats 2000000 in
set_option maxRecDepth 8000 in
theorem appendIn_any {base : Nat} {w : World} {b W p1 p2 : Nat} {F : Nat → Prop} {d : D.DS} {ws : WS} {r : ByteArray} (h : D.Dk base w b F d) (hw : Wm w W b ws) (hFW : ¬ F W) (ho : Wl.Ok d ws) (hd : d.dead = false) (hR : (d.R.length + 600) * 24 ≤ 140737488355328)
    (h1 : w.cell? ⟨p1, 0, none⟩ = some (.string r)) (h2 : w.cell? ⟨p2, 0, none⟩ = some (.pointer (some ⟨W, 0, none⟩))) :
    Calls Try.prog 31 #[.pointer (some ⟨p1, 0, none⟩), .pointer (some ⟨p2, 0, none⟩)] w fun e w' => e = .returned (.int .i64 (inA d ws r).1.1) ∧ Wm w' W b (inA d ws r).2 ∧ ∃ F', D.Dk base w' b F' (inA d ws r).1.2 ∧ D.Mv (FW F W) (FW F' W) w w' ∧ ¬ F' W := by
  have HD := hide h
  have HWm := hide hw
  obtain ⟨X, hX⟩ : ∃ X, inA d ws r = X := ⟨_, rfl⟩
  rw [hX]
  have HX : Hid (X = if r.size < 1 ∨ 2048 < r.size then ((92, d), ws) else if Wl.room d.S.length ws.h < r.size then ((93, d), ws) else if 1099511627776 ≤ ws.h.num then ((94, d), ws)
    else (Wl.layW d (Wl.place d ws.h) (Wl.sects (Wl.ahead d ws.h ++ Wl.frame r)) (Wl.hdA ws.h r), ⟨Wl.hdA ws.h r, ws.rc + 1, ws.gone⟩)) := hide (by rw [← hX]; rfl)
  clear hX
  by_cases hs1 : r.size < 1
  · have HR : Hid (X = ((92, d), ws)) := hide (by rw [HX.out, if_pos (.inl hs1)])
    have b1 : decide ((r.size : Int) < 1) = true := by simp; omega
    clear HX h hw hs1
    go_enter Try.func31, Try.ntmps31
    go_wp2_with fail
    go_ret
    exact ⟨by rw [HR.out]; rfl, by rw [HR.out]; exact HWm.out, F, by rw [HR.out]; exact HD.out, D.Mv.refl _, hFW⟩
  have b1 : decide ((r.size : Int) < 1) = false := by simp; omega
  by_cases hs2 : 2048 < r.size
  · have HR : Hid (X = ((92, d), ws)) := hide (by rw [HX.out, if_pos (.inr hs2)])
    have b2 : decide ((2048 : Int) < (r.size : Int)) = true := by simp; omega
    clear HX h hw hs1 hs2
    go_enter Try.func31, Try.ntmps31
    go_wp2_with fail
    go_ret
    exact ⟨by rw [HR.out]; rfl, by rw [HR.out]; exact HWm.out, F, by rw [HR.out]; exact HD.out, D.Mv.refl _, hFW⟩
  have b2 : decide ((2048 : Int) < (r.size : Int)) = false := by simp; omega
  have HX2 : Hid (X = if Wl.room d.S.length ws.h < r.size then ((93, d), ws) else if 1099511627776 ≤ ws.h.num then ((94, d), ws)
    else (Wl.layW d (Wl.place d ws.h) (Wl.sects (Wl.ahead d ws.h ++ Wl.frame r)) (Wl.hdA ws.h r), ⟨Wl.hdA ws.h r, ws.rc + 1, ws.gone⟩)) := hide (by rw [HX.out, if_neg (by omega)])
  have HB0 : Hid (Below w.heap.size w w.drew) := hide ⟨rfl, rfl, rfl, Nat.le_refl _, fun _ _ => rfl⟩
  have hrs : r.size ≤ 2048 := by omega
  have hr1 : 1 ≤ r.size := by omega
  have HFit := hide (fun hk => room_fit (n := d.S.length) (h := ws.h) (k := r.size) hr1 hk)
  clear HX h hw hs1 hs2
  by_cases hrm : Wl.room d.S.length ws.h < r.size
  · have HR : Hid (X = ((93, d), ws)) := hide (by rw [HX2.out, if_pos hrm])
    have b3 : decide (Wl.room d.S.length ws.h < r.size) = true := decide_eq_true hrm
    clear HX2 HFit
    go_enter Try.func31, Try.ntmps31
    go_wp2_with fail
    refine wp_region_held_drew (S := fun w' => w'.cell? ⟨p1, 0, none⟩ = some (.string r) ∧ w'.cell? ⟨p2, 0, none⟩ = some (.pointer (some ⟨W, 0, none⟩))) (by kernel_rfl) (⟨h1, h2⟩) (fun hHeld => ?_)
    refine wpAnyH_take (i := 0) (v := .string r) rfl (by kernel_rfl) (by kernel_rfl) (by kernel_rfl) (fun _ _ _ h => h) (Or.inl ⟨by rfl, fun w1 hSw => by clear hHeld; obtain ⟨s1, s2⟩ := hSw; go_simp⟩) hHeld ?_
    simp only [Act.put, List.setIfInBounds_toArray]
    refine wpAnyH_take (i := 1) (v := .int .i64 (r.size : Int)) rfl (by kernel_rfl) (by kernel_rfl) (by kernel_rfl) (fun _ _ _ h => h) (Or.inl ⟨by rfl, fun w1 hSw => by clear hHeld; obtain ⟨s1, s2⟩ := hSw; go_simp⟩) hHeld ?_
    try simp only [Act.put]
    refine wpAnyH_take (i := 2) (v := .pointer (some ⟨W, 0, none⟩)) rfl (by kernel_rfl) (by kernel_rfl) (by kernel_rfl) (fun _ _ _ h => h) (Or.inl ⟨by rfl, fun w1 hSw => by clear hHeld; obtain ⟨s1, s2⟩ := hSw; go_simp⟩) hHeld ?_
    try simp only [Act.put]
    refine wpAnyH_ready (rs := [3]) (by kernel_rfl) (by simp) ?_
    refine AllReadyH.cons rfl (fun K hK => ?_) AllReadyH.nil
    go_simp
    refine (room_any (HD.out.below HB0.out) (HWm.out.below HB0.out) ho).mono ?_
    rintro e w0a ⟨rfl, hb0⟩
    have HB1 := hide (HB0.out.trans (hb0.mono HB0.out.size))
    have hs0 : _ ∧ _ := ⟨(hb0.cell (World.block_lt_of_cell? _ _ hHeld.1)).trans hHeld.1, (hb0.cell (World.block_lt_of_cell? _ _ hHeld.2)).trans hHeld.2⟩
    clear hb0
    refine hK.out _ _ (hs0) (fun hHeld => ?_)
    clear hK K
    refine wpAnyH_ready (rs := [4]) (by kernel_rfl) (by simp) ?_
    refine AllReadyH.cons rfl (fun K hK => ?_) AllReadyH.nil
    go_simp
    have HB2 := HB1
    refine hK.out _ _ (hHeld) (fun hHeld => ?_)
    clear hK K
    refine wpAnyH_ready (rs := [5]) (by kernel_rfl) (by simp) ?_
    refine AllReadyH.cons rfl (fun K hK => ?_) AllReadyH.nil
    go_simp
    have HB3 := HB2
    have HS9 := hide hHeld
    refine hK.out _ _ (hHeld) (fun hHeld => ?_)
    clear hK K
    refine wpAnyH_done (by kernel_rfl) ?_ _
    clear hHeld
    have HB9 := HB3
    go_wp2_with fail
    go_ret
    exact ⟨by rw [HR.out]; rfl, by rw [HR.out]; exact HWm.out.below HB9.out, F, by rw [HR.out]; exact HD.out.below HB9.out, D.Mv.of_below HB9.out, hFW⟩
  have b3 : decide (Wl.room d.S.length ws.h < r.size) = false := decide_eq_false hrm
  have HX3 : Hid (X = if 1099511627776 ≤ ws.h.num then ((94, d), ws)
    else (Wl.layW d (Wl.place d ws.h) (Wl.sects (Wl.ahead d ws.h ++ Wl.frame r)) (Wl.hdA ws.h r), ⟨Wl.hdA ws.h r, ws.rc + 1, ws.gone⟩)) := hide (by rw [HX2.out, if_neg hrm])
  have HFit2 := hide (HFit.out (Nat.not_lt.mp hrm))
  clear HX2 HFit
  go_enter Try.func31, Try.ntmps31
  go_wp2_with fail
  refine wp_region_held_drew (S := fun w' => w'.cell? ⟨p1, 0, none⟩ = some (.string r) ∧ w'.cell? ⟨p2, 0, none⟩ = some (.pointer (some ⟨W, 0, none⟩))) (by kernel_rfl) (⟨h1, h2⟩) (fun hHeld => ?_)
  refine wpAnyH_take (i := 0) (v := .string r) rfl (by kernel_rfl) (by kernel_rfl) (by kernel_rfl) (fun _ _ _ h => h) (Or.inl ⟨by rfl, fun w1 hSw => by clear hHeld; obtain ⟨s1, s2⟩ := hSw; go_simp⟩) hHeld ?_
  simp only [Act.put, List.setIfInBounds_toArray]
  refine wpAnyH_take (i := 1) (v := .int .i64 (r.size : Int)) rfl (by kernel_rfl) (by kernel_rfl) (by kernel_rfl) (fun _ _ _ h => h) (Or.inl ⟨by rfl, fun w1 hSw => by clear hHeld; obtain ⟨s1, s2⟩ := hSw; go_simp⟩) hHeld ?_
  try simp only [Act.put]
  refine wpAnyH_take (i := 2) (v := .pointer (some ⟨W, 0, none⟩)) rfl (by kernel_rfl) (by kernel_rfl) (by kernel_rfl) (fun _ _ _ h => h) (Or.inl ⟨by rfl, fun w1 hSw => by clear hHeld; obtain ⟨s1, s2⟩ := hSw; go_simp⟩) hHeld ?_
  try simp only [Act.put]
  refine wpAnyH_ready (rs := [3]) (by kernel_rfl) (by simp) ?_
  refine AllReadyH.cons rfl (fun K hK => ?_) AllReadyH.nil
  go_simp
  refine (room_any (HD.out.below HB0.out) (HWm.out.below HB0.out) ho).mono ?_
  rintro e w0a ⟨rfl, hb0⟩
  have HB1 := hide (HB0.out.trans (hb0.mono HB0.out.size))
  have hs0 : _ ∧ _ := ⟨(hb0.cell (World.block_lt_of_cell? _ _ hHeld.1)).trans hHeld.1, (hb0.cell (World.block_lt_of_cell? _ _ hHeld.2)).trans hHeld.2⟩
  clear hb0
  refine hK.out _ _ (hs0) (fun hHeld => ?_)
  clear hK K
  refine wpAnyH_ready (rs := [4]) (by kernel_rfl) (by simp) ?_
  refine AllReadyH.cons rfl (fun K hK => ?_) AllReadyH.nil
  go_simp
  have HB2 := HB1
  refine hK.out _ _ (hHeld) (fun hHeld => ?_)
  clear hK K
  refine wpAnyH_ready (rs := [5]) (by kernel_rfl) (by simp) ?_
  refine AllReadyH.cons rfl (fun K hK => ?_) AllReadyH.nil
  go_simp
  have HB3 := HB2
  have HS9 := hide hHeld
  refine hK.out _ _ (hHeld) (fun hHeld => ?_)
  clear hK K
  refine wpAnyH_done (by kernel_rfl) ?_ _
  clear hHeld
  have HB9 := HB3
  have hW9 := HWm.out.below HB9.out
  obtain ⟨c0, c1, c2, c3, c4, c5, c6, cz⟩ := wm_cells hW9
  obtain ⟨s1, s2⟩ := HS9.out
  have HL := hide (fun V => isLast_any ws.h V)
  have HW9 := hide hW9
  have HO := hide ho
  obtain ⟨⟨num, half, sn, lg⟩, rc, gone⟩ := ws
  simp only [hdC] at *
  clear hW9 ho
  go_wp2_with fail
  refine (HL.out _).mono ?_
  rintro e wl ⟨rfl, rfl⟩
  have HBl := hide (HB9.out.alloc HB9.out.size (.cells #[.int .u64 (num : Int), .int .u8 (half : Int), .int .i64 (sn : Int), .int .i64 (lg : Int)] 70))
  by_cases hn : 1099511627776 ≤ num
  · have HR : Hid (X = ((94, d), ⟨⟨num, half, sn, lg⟩, rc, gone⟩)) := hide (by rw [HX3.out, if_pos hn])
    rw [decide_eq_true hn]
    clear HX3 HFit2 HL
    go_wp2_with fail
    go_ret
    exact ⟨by rw [HR.out]; rfl, by rw [HR.out]; exact HWm.out.below HBl.out, F, by rw [HR.out]; exact HD.out.below HBl.out, D.Mv.of_below HBl.out, hFW⟩
  · have HR : Hid (X = (Wl.layW d (Wl.place d ⟨num, half, sn, lg⟩) (Wl.sects (Wl.ahead d ⟨num, half, sn, lg⟩ ++ Wl.frame r)) (Wl.hdA ⟨num, half, sn, lg⟩ r), ⟨Wl.hdA ⟨num, half, sn, lg⟩ r, rc + 1, gone⟩)) := hide (by rw [HX3.out, if_neg hn])
    rw [decide_eq_false hn]
    have HLr := hide (layRecord_any (HD.out.below HBl.out) (HWm.out.below HBl.out) hFW HO.out hd r hrs HFit2.out hR (Nat.not_le.mp hn))
    simp only at HLr
    generalize Wl.layW d (Wl.place d ⟨num, half, sn, lg⟩) (Wl.sects (Wl.ahead d ⟨num, half, sn, lg⟩ ++ Wl.frame r)) (Wl.hdA ⟨num, half, sn, lg⟩ r) = LW at *
    have s1b := Lib.cell?_alloc_some (.cells #[.int .u64 (num : Int), .int .u8 (half : Int), .int .i64 (sn : Int), .int .i64 (lg : Int)] 70) s1
    have s2b := Lib.cell?_alloc_some (.cells #[.int .u64 (num : Int), .int .u8 (half : Int), .int .i64 (sn : Int), .int .i64 (lg : Int)] 70) s2
    clear HX3 HFit2 HL c0 c1 c2 c3 c4 c5 c6 cz
    go_wp2_with fail
    refine HLr.out.mono ?_
    rintro e w9 ⟨rfl, hW9, F', hD9, hM9, hn9⟩
    have HW9 := hide hW9
    have HD9 := hide hD9
    have HM9 := hide ((D.Mv.of_below (F := FW F W) HBl.out).trans hM9)
    clear hW9 hD9 hM9 HLr
    go_wp2_with fail
    go_ret
    exact ⟨by rw [HR.out]; rfl, by rw [HR.out]; exact HW9.out, F', by rw [HR.out]; exact HD9.out, HM9.out, hn9⟩
set_option maxHeartbeats 1000000 in
set_option maxRecDepth 8000 in
theorem append_any {base : Nat} {w : World} {b W : Nat} {F : Nat → Prop} {d : D.DS} {ws : WS} (h : D.Dk base w b F d) (hw : Wm w W b ws) (hFW : ¬ F W) (ho : Wl.Ok d ws) (hR : (d.R.length + 600) * 24 ≤ 140737488355328) (r : ByteArray) :
    Calls Try.prog 11 #[.pointer (some ⟨W, 0, none⟩), .string r] w fun e w' => e = .returned (.int .i64 (Wl.append d ws r).1) ∧ Wm w' W b (Wl.append d ws r).2.2 ∧ ∃ F', D.Dk base w' b F' (Wl.append d ws r).2.1 ∧ D.Mv (FW F W) (FW F' W) w w' ∧ ¬ F' W := by
  have hmf : ∀ (fn : Fn) (first cap : Array Value) (w : World), (Instr.makeFunc fn first cap).run Try.prog w = .ok (.func fn first cap) w := fun _ _ _ _ => rfl
  have hb2 : Below w.heap.size w ((w.alloc (.cells #[.pointer (some ⟨W, 0, none⟩)] 37)).alloc (.cells #[.string r] 9)) := (below_alloc w _).alloc (by simp) _
  have HP := hide (powered_A (p1 := w.heap.size + 1) (p2 := w.heap.size) (h.below hb2) (hw.below hb2) hFW (r := (inA d ws r).1) (ws1 := (inA d ws r).2) (hide fun hd _ V hV => appendIn_any ((h.below hb2).below hV) ((hw.below hb2).below hV) hFW ho hd hR ((hV.cell (p := ⟨w.heap.size + 1, 0, none⟩) (by simp)).trans (two_Y w _ _ _)) ((hV.cell (p := ⟨w.heap.size, 0, none⟩) (by simp; omega)).trans (two_X w _ _ _))))
  rw [← append_eq] at HP
  have HB2 := hide hb2
  generalize Wl.append d ws r = X at *
  clear h hw ho hb2
  go_enter Try.func11, Try.ntmps11
  go_wp2_with fail
  refine HP.out.mono ?_
  rintro e w9 ⟨rfl, hW9, F', hD9, hM9, hn9⟩
  have HW9 := hide hW9
  have HD9 := hide hD9
  have HM9 := hide ((D.Mv.of_below (F := FW F W) HB2.out).trans hM9)
  clear hW9 hD9 hM9 HP
  go_wp2_with fail
  go_ret
  exact ⟨rfl, HW9.out, F', HD9.out, HM9.out, hn9⟩
end Go.Proofs.Ytdjmmgpdladpcaa
end

section
namespace Go.Proofs.Ytdjmmgpdladpcaa
open Go.RowKit Go.Shelf
open Wl (Hd WS Log)

theorem rest_len9 (b : ByteArray) (p : Nat) : (rest b p).length = b.size - p := by unfold rest; rw [List.length_drop, ← D.size_list]
theorem text_at9 {b S : ByteArray} {p : Nat} {more : List UInt8} (h : rest b p = Pk.enc S.size ++ (S.data.toList ++ more)) (hS : S.size ≤ 2048) :
    textK b p 2048 = 0 ∧ textV b p = S ∧ numQ b p + numV b p = p + ((Pk.enc S.size).length + S.size) := by
  have hD : Pk.dec 0 0 (rest b p) = (0, S.size, (Pk.enc S.size).length) := by
    rw [h, Pk.dec_enc S.size 0 0 _ (by decide) (by omega) (.inl rfl)]
    simp
  have v0 : numV b p = S.size := by unfold numV; rw [hD]
  have q0 : numQ b p = p + (Pk.enc S.size).length := by unfold numQ; rw [hD]
  have k0 := numK_ok (above := 23) hD hS
  have hl := congrArg List.length h
  rw [rest_len9, List.length_append, List.length_append, ← D.size_list] at hl
  have hp := Pk.enc_pos S.size
  refine ⟨?_, ?_, by rw [q0, v0]; omega⟩
  · unfold textK
    rw [k0, if_neg (by simp), if_neg (by rw [q0, v0]; omega)]
  · unfold textV
    rw [v0, q0]
    apply D.ba_ext
    rw [extract_list]
    have e : rest b (p + (Pk.enc S.size).length) = S.data.toList ++ more := by
      unfold rest at h ⊢
      rw [← List.drop_drop, h, List.drop_left' rfl]
    rw [e, List.take_left' (D.size_list S).symm]
def frames (l : List ByteArray) : List UInt8 := l.flatMap Wl.frame
theorem frames_cons (r : ByteArray) (l : List ByteArray) : frames (r :: l) = Wl.frame r ++ frames l := by simp [frames]
theorem frames_snoc (l : List ByteArray) (r : ByteArray) : frames (l ++ [r]) = frames l ++ Wl.frame r := by simp [frames]
theorem unf_frames {b : ByteArray} (l : List ByteArray) : ∀ n p, (∀ r ∈ l, 1 ≤ r.size ∧ r.size ≤ 2048) → p ≤ b.size → b.size - p ≤ n → rest b p = frames l → Wl.unf b n p = some l := by
  induction l with
  | nil =>
    intro n p _ hp _ h
    have hl := congrArg List.length h
    rw [rest_len9] at hl
    simp [frames] at hl
    exact unf_end (by omega)
  | cons r l ih =>
    intro n p hr hp hn h
    rw [frames_cons] at h
    unfold Wl.frame at h
    rw [List.append_assoc] at h
    have h1 := hr r List.mem_cons_self
    obtain ⟨k0, v0, q0⟩ := text_at9 h h1.2
    have hl := congrArg List.length h
    rw [rest_len9, List.length_append, List.length_append, ← D.size_list] at hl
    have hpos := Pk.enc_pos r.size
    obtain ⟨n', rfl⟩ : ∃ n', n = n' + 1 := ⟨n - 1, by omega⟩
    rw [unf_yes (by omega) ⟨k0, by rw [v0]; omega⟩, v0, q0]
    rw [ih n' _ (fun x hx => hr x (List.mem_cons_of_mem _ hx)) (by omega) (by omega) (by
      unfold rest at h ⊢
      rw [← List.drop_drop, h, ← List.append_assoc, List.drop_left' (by rw [List.length_append, ← D.size_list])])]
    rfl
theorem unframe_frames (l : List ByteArray) (hr : ∀ r ∈ l, 1 ≤ r.size ∧ r.size ≤ 2048) : Wl.unframe ⟨(frames l).toArray⟩ = some l :=
  unf_frames l _ 0 hr (Nat.zero_le _) (Nat.le_refl _) (by simp [rest])
/-- a log stands on its disk -/
structure Con (d : D.DS) (ws : WS) (s : ByteArray) (l : List ByteArray) : Prop where
  ok : d.ok
  wok : Wl.Ok d ws
  live : d.dead = false
  calm : d.left = 0
  head : d.S.getD (ws.h.num % 2) ByteArray.empty = Wl.headB ws.h
  num1 : 1 ≤ ws.h.num
  other : ∀ L, Wl.logOf d.S (1 - ws.h.num % 2) = some L → L.h.num < ws.h.num
  st : Wl.stands d.S ws.h = s.data.toList ++ frames l
  sn : s.size = ws.h.sn
  recs : ∀ r ∈ l, 1 ≤ r.size ∧ r.size ≤ 2048
  rc : ws.rc = l.length
  gone : ws.gone = false
theorem hb_le {d : D.DS} (h : d.ok) : Wl.hb d.S.length ≤ 65536 := by have := hs_le _ h.s1; unfold Wl.hb; omega
theorem Con.log {d : D.DS} {ws : WS} {s : ByteArray} {l : List ByteArray} (h : Con d ws s l) : Wl.logOf d.S (ws.h.num % 2) = some ⟨ws.h, s, l⟩ := by
  have hd : (Wl.stands d.S ws.h).drop ws.h.sn = frames l := by rw [h.st, List.drop_left' (by rw [← D.size_list]; exact h.sn)]
  have ht : (Wl.stands d.S ws.h).take ws.h.sn = s.data.toList := by rw [h.st, List.take_left' (by rw [← D.size_list]; exact h.sn)]
  have := logOf_head (l := l) h.head ⟨h.num1, h.wok.num, h.wok.half, h.wok.sn, h.wok.used⟩ rfl (hb_le h.ok) (by rw [hd]; exact unframe_frames l h.recs)
  rw [this, ht]
theorem Con.find {d : D.DS} {ws : WS} {s : ByteArray} {l : List ByteArray} (h : Con d ws s l) : Wl.find d.S = some ⟨ws.h, s, l⟩ := by
  have h1 := h.log
  have h2 := h.other
  unfold Wl.find
  rcases Nat.mod_two_eq_zero_or_one ws.h.num with e | e
  · rw [e] at h1 h2
    rw [h1]
    cases h3 : Wl.logOf d.S 1 with
    | none => rfl
    | some L => exact if_neg (by have := h2 L h3; show ¬ ws.h.num < L.h.num; omega)
  · rw [e] at h1 h2
    rw [h1]
    cases h3 : Wl.logOf d.S 0 with
    | none => rfl
    | some L => exact if_pos (h2 L h3)
end Go.Proofs.Ytdjmmgpdladpcaa
end

section
namespace Go.Proofs.Ytdjmmgpdladpcaa
open Go.RowKit Go.Shelf
open Wl (Hd WS Log)

/-- sectors put in a row -/
def putS (S : List ByteArray) (k : Nat) (l : List ByteArray) : List ByteArray := S.take k ++ (l ++ S.drop (k + l.length))
theorem putS_nil (S : List ByteArray) (k : Nat) : putS S k [] = S := by simp [putS]
theorem putS_len {S : List ByteArray} {k : Nat} {l : List ByteArray} (h : k + l.length ≤ S.length) : (putS S k l).length = S.length := by simp [putS]; omega
theorem putS_cons {S : List ByteArray} {k : Nat} {s : ByteArray} {l : List ByteArray} (h : k + (s :: l).length ≤ S.length) : putS (S.set k s) (k + 1) l = putS S k (s :: l) := by
  rw [List.length_cons] at h
  unfold putS
  rw [List.length_cons, List.drop_set_of_lt (by omega), List.take_set, show k + 1 + l.length = k + (l.length + 1) by omega]
  have : (S.take (k + 1)).set k s = S.take k ++ [s] := by
    rw [List.take_succ_eq_append_getElem (by omega), List.set_append_right _ _ (by simp; omega)]
    simp [show k - min k S.length = 0 by omega]
  rw [this]; simp
theorem lay_all {S : List ByteArray} (h8 : D.A128 S) {k : Nat} {s : ByteArray} (hk : k < S.length) (hs : s.size = 128) : D.layS S k s = S.set k s := by
  unfold D.layS
  rw [D.laid_all (by rw [hs, List.getD_eq_getElem?_getD, List.getElem?_eq_getElem hk]; exact (h8.get hk).symm)]
theorem write_calm {d : D.DS} (h : d.ok) (hd : d.dead = false) (hl : d.left = 0) {k : Nat} (hk : k < d.S.length) {s : ByteArray} (hs : s.size = 128) : d.write (k : Int) s = (0, { d with S := d.S.set k s, R := d.R ++ [⟨k, s⟩] }) := by
  rw [D.DS.write_all hd (by omega) hs (by omega), Int.toNat_natCast, lay_all h.s128 hk hs, hl]
  rfl
theorem wsec_calm (l : List ByteArray) : ∀ (d : D.DS) (k : Nat), d.ok → d.dead = false → d.left = 0 → k + l.length ≤ d.S.length → (∀ s ∈ l, s.size = 128) →
    (Wl.wsec d k l).1 = 0 ∧ (Wl.wsec d k l).2.S = putS d.S k l ∧ (Wl.wsec d k l).2.ok ∧ (Wl.wsec d k l).2.dead = false ∧ (Wl.wsec d k l).2.left = 0 ∧ (Wl.wsec d k l).2.R.length = d.R.length + l.length := by
  induction l with
  | nil => intro d k h hd hl _ _; exact ⟨rfl, (putS_nil _ _).symm, h, hd, hl, rfl⟩
  | cons s l ih =>
    intro d k h hd hl hk h8
    have hk' := hk
    rw [List.length_cons] at hk'
    have e := write_calm h hd hl (k := k) (by omega) (h8 s List.mem_cons_self)
    have hok := D.DS.write_ok h (k : Int) s
    rw [e] at hok
    rw [wsec_cons, e, if_neg (by simp)]
    obtain ⟨a1, a2, a3, a4, a5, a6⟩ := ih { d with S := d.S.set k s, R := d.R ++ [⟨k, s⟩] } (k + 1) hok hd hl (by show k + 1 + l.length ≤ (d.S.set k s).length; rw [List.length_set]; omega) (fun x hx => h8 x (List.mem_cons_of_mem _ hx))
    refine ⟨a1, ?_, a3, a4, a5, ?_⟩
    · rw [a2]; exact putS_cons hk
    · rw [a6]; show (d.R ++ [_]).length + l.length = _; simp; omega
theorem layW_calm {d : D.DS} (h : d.ok) (hd : d.dead = false) (hl : d.left = 0) {k : Nat} {l : List ByteArray} (hk : k + l.length ≤ d.S.length) (h8 : ∀ s ∈ l, s.size = 128) (h2 : 2 ≤ d.S.length) (hh : Hd) :
    (Wl.layW d k l hh).1 = 0 ∧ (Wl.layW d k l hh).2.S = (putS d.S k l).set (hh.num % 2) (Wl.headB hh) ∧ (Wl.layW d k l hh).2.ok ∧ (Wl.layW d k l hh).2.dead = false ∧ (Wl.layW d k l hh).2.left = 0 ∧ (Wl.layW d k l hh).2.R.length = d.R.length + l.length + 1 := by
  obtain ⟨a1, a2, a3, a4, a5, a6⟩ := wsec_calm l d k h hd hl hk h8
  unfold Wl.layW
  rw [if_neg (by simp [a1])]
  have hlt : hh.num % 2 < (Wl.wsec d k l).2.S.length := by rw [a2, putS_len hk]; have := Nat.mod_lt hh.num (show 0 < 2 by decide); omega
  have e := write_calm a3 a4 a5 hlt (Wl.headB_size hh)
  have hok := D.DS.write_ok a3 ((hh.num % 2 : Nat) : Int) (Wl.headB hh)
  rw [e] at hok ⊢
  refine ⟨rfl, ?_, hok, a4, a5, ?_⟩
  · show (Wl.wsec d k l).2.S.set _ _ = _; rw [a2]
  · show ((Wl.wsec d k l).2.R ++ [_]).length = _; simp [a6]
end Go.Proofs.Ytdjmmgpdladpcaa
end

section
namespace Go.Proofs.Ytdjmmgpdladpcaa
open Go.RowKit Go.Shelf
open Wl (Hd WS Log)

theorem flat_app (a b : List ByteArray) : Wl.flat (a ++ b) = Wl.flat a ++ Wl.flat b := by simp [Wl.flat]
theorem flat_take {S : List ByteArray} (h : D.A128 S) : ∀ k, k ≤ S.length → Wl.flat (S.take k) = (Wl.flat S).take (k * 128) := by
  intro k
  induction k with
  | zero => intro _; simp [Wl.flat]
  | succ k ih =>
    intro hk
    rw [flat_at h (by omega), List.take_succ_eq_append_getElem (by omega), flat_app, ih (by omega)]
    simp [Wl.flat]
theorem sects_len (x : List UInt8) : (Wl.sects x).length = Wl.up x.length := by simp [Wl.sects]
theorem sects_128 (x : List UInt8) : ∀ s ∈ Wl.sects x, s.size = 128 := by
  intro s hs
  obtain ⟨k, hk, rfl⟩ := List.mem_map.mp hs
  exact sect_size (pad_len x) (List.mem_range.mp hk)
theorem take_two (l : List UInt8) (a b : Nat) : l.take (a + b) = l.take a ++ (l.drop a).take b := List.take_add
theorem flat_sect (l : List UInt8) : ∀ m, m * 128 ≤ l.length → Wl.flat ((List.range m).map (Wl.sect l)) = l.take (m * 128) := by
  intro m
  induction m with
  | zero => intro _; simp [Wl.flat]
  | succ m ih =>
    intro h
    rw [List.range_succ, List.map_append, flat_app, ih (by omega), List.map_singleton]
    have e : Wl.flat [Wl.sect l m] = (l.drop (m * 128)).take 128 := by simp [Wl.flat, Wl.sect]
    rw [e, show (m + 1) * 128 = m * 128 + 128 by omega, take_two l (m * 128) 128]
theorem flat_sects (x : List UInt8) : Wl.flat (Wl.sects x) = Wl.pad x := by
  unfold Wl.sects
  rw [flat_sect _ _ (by rw [pad_len]; exact Nat.le_refl _), ← pad_len, List.take_length]
theorem frames_two (l : List ByteArray) (h : ∀ r ∈ l, 1 ≤ r.size ∧ r.size ≤ 2048) : 2 * l.length ≤ (frames l).length := by
  induction l with
  | nil => simp [frames]
  | cons r l ih =>
    have h1 := h r List.mem_cons_self
    have h2 := ih fun x hx => h x (List.mem_cons_of_mem _ hx)
    have h3 := Pk.enc_pos r.size
    rw [frames_cons, List.length_append, frame_len, List.length_cons]; omega
theorem logOf_parse {S : List ByteArray} {k : Nat} {L : Log} (h : Wl.logOf S k = some L) : L.h = Wl.parse (S.getD k ByteArray.empty) := by
  unfold Wl.logOf at h
  split at h
  · obtain ⟨l, _, rfl⟩ := Option.map_eq_some_iff.1 h
    rfl
  · cases h
/-- bytes put behind what stands -/
theorem stands_put {S : List ByteArray} (h8 : D.A128 S) {f used : Nat} {FR : List UInt8} {i : Nat} {v : ByteArray} (hf : f + used / 128 < S.length) (hi : i < f) :
    (Wl.flat (((putS S (f + used / 128) (Wl.sects ((S.getD (f + used / 128) ByteArray.empty).data.toList.take (used % 128) ++ FR))).set i v).drop f)).take (used + FR.length) = (Wl.flat (S.drop f)).take used ++ FR := by
  have hm : used % 128 < 128 := Nat.mod_lt _ (by decide)
  have hu : used = used / 128 * 128 + used % 128 := by omega
  generalize used / 128 = q at *
  generalize used % 128 = m at *
  have h8f := drop128 h8 f
  have hq : q < (S.drop f).length := by rw [List.length_drop]; omega
  have hsec : S.getD (f + q) ByteArray.empty = (S.drop f)[q] := by
    rw [List.getD_eq_getElem?_getD, List.getElem?_eq_getElem hf, List.getElem_drop]; rfl
  have hl128 : ((S.drop f)[q]).data.toList.length = 128 := by rw [← D.size_list]; exact h8f.get hq
  have hAt := flat_at h8f hq
  rw [hsec]
  have hAl : ((Wl.flat (S.drop f)).take (q * 128)).length = q * 128 := by rw [List.length_take, flat_len h8f]; omega
  have hU : (Wl.flat (S.drop f)).take used = (Wl.flat (S.drop f)).take (q * 128) ++ ((S.drop f)[q]).data.toList.take m := by
    have e1 : (Wl.flat (S.drop f)).take used = ((Wl.flat (S.drop f)).take ((q + 1) * 128)).take used := by rw [List.take_take]; congr 1; omega
    rw [e1, hAt, List.take_append, hAl, List.take_of_length_le (by rw [hAl]; omega)]
    congr 2; omega
  generalize hAH : ((S.drop f)[q]).data.toList.take m = AH at *
  have hAHl : AH.length = m := by rw [← hAH, List.length_take, hl128]; omega
  rw [List.drop_set_of_lt hi]
  have hd : (putS S (f + q) (Wl.sects (AH ++ FR))).drop f = (S.drop f).take q ++ (Wl.sects (AH ++ FR) ++ S.drop (f + q + (Wl.sects (AH ++ FR)).length)) := by
    unfold putS
    rw [List.drop_append_of_le_length (by rw [List.length_take]; omega), List.drop_take, show f + q - f = q by omega]
  rw [hd, flat_app, flat_take h8f q (by omega), flat_app, flat_sects]
  unfold Wl.pad
  rw [hU]
  have hlen : ((Wl.flat (S.drop f)).take (q * 128) ++ AH ++ FR).length = used + FR.length := by rw [List.length_append, List.length_append, hAl, hAHl]; omega
  rw [← hlen]
  have : (Wl.flat (S.drop f)).take (q * 128) ++ (AH ++ FR ++ List.replicate (Wl.up (AH ++ FR).length * 128 - (AH ++ FR).length) 0 ++ Wl.flat (S.drop (f + q + (Wl.sects (AH ++ FR)).length))) = ((Wl.flat (S.drop f)).take (q * 128) ++ AH ++ FR) ++ (List.replicate (Wl.up (AH ++ FR).length * 128 - (AH ++ FR).length) 0 ++ Wl.flat (S.drop (f + q + (Wl.sects (AH ++ FR)).length))) := by simp
  rw [this, List.take_left' rfl]
end Go.Proofs.Ytdjmmgpdladpcaa
end

section
namespace Go.Proofs.Ytdjmmgpdladpcaa
open Go.RowKit Go.Shelf
open Wl (Hd WS Log)

theorem getD_set_self {S : List ByteArray} {k : Nat} (hk : k < S.length) (v : ByteArray) : (S.set k v).getD k ByteArray.empty = v := by
  rw [List.getD_eq_getElem?_getD, List.getElem?_set_self hk]; rfl
theorem getD_set_far {S : List ByteArray} {k j : Nat} (h : k ≠ j) (v : ByteArray) : (S.set k v).getD j ByteArray.empty = S.getD j ByteArray.empty := by
  rw [List.getD_eq_getElem?_getD, List.getElem?_set_ne h, List.getD_eq_getElem?_getD]
theorem getD_put {S : List ByteArray} {k j : Nat} {l : List ByteArray} (h : j < k) (hk : k ≤ S.length) : (putS S k l).getD j ByteArray.empty = S.getD j ByteArray.empty := by
  unfold putS
  rw [List.getD_eq_getElem?_getD, List.getElem?_append_left (by rw [List.length_take]; omega), List.getElem?_take_of_lt h, List.getD_eq_getElem?_getD]
/-- a record that is taken -/
theorem Con.append {d : D.DS} {ws : WS} {s : ByteArray} {l : List ByteArray} (h : Con d ws s l) {r : ByteArray} (h1 : 1 ≤ r.size) (h2 : r.size ≤ 2048) (hr : r.size ≤ Wl.room d.S.length ws.h) (hn : ws.h.num < 1099511627776) :
    (Wl.append d ws r).1 = 0 ∧ Con (Wl.append d ws r).2.1 (Wl.append d ws r).2.2 s (l ++ [r]) ∧ (Wl.append d ws r).2.2.h = Wl.hdA ws.h r ∧ (Wl.append d ws r).2.1.R.length ≤ d.R.length + 600 ∧ (Wl.append d ws r).2.1.S.length = d.S.length := by
  have hfit := room_fit h1 hr
  have hfl := frame_len r
  have hpos := Pk.enc_pos r.size
  have hused := h.wok.used
  have hhb := hb_le h.ok
  obtain ⟨g1, g2, g3⟩ := h.wok.fits
  have hhf := h.wok.half
  have h8 : ws.h.half * Wl.hs d.S.length ≤ Wl.hs d.S.length := by
    have := Nat.mul_le_mul_right (Wl.hs d.S.length) (show ws.h.half ≤ 1 by omega)
    omega
  have hbe : Wl.hb d.S.length = Wl.hs d.S.length * 128 := rfl
  have hm : ws.h.used % 128 < 128 := Nat.mod_lt _ (by decide)
  have hpl : Wl.place d ws.h = Wl.first d.S.length ws.h.half + ws.h.used / 128 := rfl
  have hfi : Wl.first d.S.length ws.h.half = 2 + ws.h.half * Wl.hs d.S.length := rfl
  have hplt : Wl.place d ws.h < d.S.length := by rw [hpl, hfi]; omega
  have hsec8 : (d.S.getD (Wl.place d ws.h) ByteArray.empty).size = 128 := by
    rw [List.getD_eq_getElem?_getD, List.getElem?_eq_getElem hplt]; exact h.ok.s128.get _
  have hal : (Wl.ahead d ws.h).length = ws.h.used % 128 := by
    unfold Wl.ahead; rw [List.length_take, ← D.size_list, hsec8]; omega
  have hup : Wl.up (Wl.ahead d ws.h ++ Wl.frame r).length ≤ 20 ∧ Wl.place d ws.h + Wl.up (Wl.ahead d ws.h ++ Wl.frame r).length ≤ d.S.length := by
    have henc := Pk.enc_ten (n := r.size) (by omega)
    rw [List.length_append, hal, hfl, hpl, hfi]; unfold Wl.up; omega
  have hkl : Wl.place d ws.h + (Wl.sects (Wl.ahead d ws.h ++ Wl.frame r)).length ≤ d.S.length := by rw [sects_len]; exact hup.2
  obtain ⟨a1, a2, a3, a4, a5, a6⟩ := layW_calm h.ok h.live h.calm hkl (sects_128 _) (by omega) (Wl.hdA ws.h r)
  have eA : Wl.append d ws r = Wl.done ws ⟨Wl.hdA ws.h r, ws.rc + 1, ws.gone⟩ (Wl.layW d (Wl.place d ws.h) (Wl.sects (Wl.ahead d ws.h ++ Wl.frame r)) (Wl.hdA ws.h r)) := by
    unfold Wl.append Wl.powered
    rw [if_neg (by simp [h.gone, h.live]), if_neg (by omega), if_neg (by omega), if_neg (by omega)]
  rw [sects_len] at a6
  generalize Wl.layW d (Wl.place d ws.h) (Wl.sects (Wl.ahead d ws.h ++ Wl.frame r)) (Wl.hdA ws.h r) = X at *
  obtain ⟨x0, xd⟩ := X
  simp only at a1 a2 a3 a4 a5 a6
  subst a1
  have eA2 : Wl.append d ws r = (0, xd, ⟨Wl.hdA ws.h r, ws.rc + 1, ws.gone⟩) := by rw [eA]; unfold Wl.done; simp
  rw [eA2]
  have hSl : xd.S.length = d.S.length := by rw [a2, List.length_set, putS_len hkl]
  have hn2 : (ws.h.num + 1) % 2 ≠ ws.h.num % 2 := by omega
  have hnum : (Wl.hdA ws.h r).num = ws.h.num + 1 := rfl
  have hlt2 : (ws.h.num + 1) % 2 < 2 := Nat.mod_lt _ (by decide)
  have hlt3 : ws.h.num % 2 < 2 := Nat.mod_lt _ (by decide)
  have hp2 : 2 ≤ Wl.place d ws.h := by rw [hpl, hfi]; omega
  have hst : Wl.stands xd.S (Wl.hdA ws.h r) = s.data.toList ++ frames (l ++ [r]) := by
    have e := stands_put h.ok.s128 (f := Wl.first d.S.length ws.h.half) (used := ws.h.used) (FR := Wl.frame r) (i := (ws.h.num + 1) % 2) (v := Wl.headB (Wl.hdA ws.h r)) (by rw [← hpl]; exact hplt) (by rw [hfi]; omega)
    unfold Wl.stands
    rw [hSl, a2, hnum]
    have eu : (Wl.hdA ws.h r).used = ws.h.used + (Wl.frame r).length := by show ws.h.sn + (ws.h.lg + _) = ws.h.sn + ws.h.lg + _; omega
    rw [eu]
    refine e.trans ?_
    rw [frames_snoc, ← List.append_assoc, ← h.st]
    rfl
  refine ⟨rfl, ⟨a3, ⟨by rw [hSl]; exact h.wok.fits, by show ws.h.num + 1 ≤ _; omega, hhf, h.wok.sn, ?_, ?_⟩, a4, a5, ?_, by show 1 ≤ ws.h.num + 1; omega, ?_, hst, h.sn, ?_, ?_, h.gone⟩, rfl, ?_, hSl⟩
  · show (Wl.hdA ws.h r).used ≤ Wl.hb xd.S.length
    rw [hSl]
    show ws.h.sn + (ws.h.lg + _) ≤ _
    have : ws.h.used = ws.h.sn + ws.h.lg := rfl
    omega
  · show ws.rc + 1 ≤ 65536
    have ht := frames_two (l ++ [r]) (fun x hx => by
      rcases List.mem_append.mp hx with hx | hx
      · exact h.recs x hx
      · rw [List.mem_singleton.mp hx]; exact ⟨h1, h2⟩)
    have hl := congrArg List.length hst
    rw [List.length_append] at hl
    have hle : (Wl.stands xd.S (Wl.hdA ws.h r)).length ≤ (Wl.hdA ws.h r).used := by unfold Wl.stands; rw [List.length_take]; exact Nat.min_le_left _ _
    have eu : (Wl.hdA ws.h r).used = ws.h.used + (Wl.frame r).length := by show ws.h.sn + (ws.h.lg + _) = ws.h.sn + ws.h.lg + _; omega
    rw [List.length_append, List.length_singleton] at ht
    have := h.rc
    omega
  · show xd.S.getD ((ws.h.num + 1) % 2) ByteArray.empty = _
    rw [a2, hnum]
    exact getD_set_self (by rw [putS_len hkl]; omega) _
  · intro L hL
    have hp := logOf_parse hL
    have e1 : 1 - (Wl.hdA ws.h r).num % 2 = ws.h.num % 2 := by rw [hnum]; omega
    rw [e1, a2, hnum, getD_set_far hn2, getD_put (by omega) (by omega), h.head, parse_head ws.h (by omega) (by omega) (by have := h.wok.sn; omega) (by have : ws.h.used = ws.h.sn + ws.h.lg := rfl; omega)] at hp
    show L.h.num < ws.h.num + 1
    rw [hp]; omega
  · intro x hx
    rcases List.mem_append.mp hx with hx | hx
    · exact h.recs x hx
    · rw [List.mem_singleton.mp hx]; exact ⟨h1, h2⟩
  · show ws.rc + 1 = (l ++ [r]).length
    rw [List.length_append, List.length_singleton, h.rc]
  · show xd.R.length ≤ _; rw [a6]; omega
end Go.Proofs.Ytdjmmgpdladpcaa
end

section
namespace Go.Proofs.Ytdjmmgpdladpcaa
open Go.RowKit Go.Shelf
open Wl (Hd WS Log)

theorem h1_may (n : Nat) : Wl.MayBe Wl.h1 n := ⟨by decide, by decide, by decide, by decide, Nat.zero_le _⟩
theorem fresh_write {n : Nat} (h2 : 2 ≤ n) (h3 : n ≤ 1026) : (D.fresh (List.replicate n D.zsec)).write 1 (Wl.headB Wl.h1) = (0, { D.fresh (List.replicate n D.zsec) with S := (List.replicate n D.zsec).set 1 (Wl.headB Wl.h1), R := [⟨1, Wl.headB Wl.h1⟩] }) :=
  write_calm (k := 1) (D.fresh_ok (D.rep_128 n) (by simp; omega) (by simp; omega)) rfl rfl (by show 1 < (List.replicate n D.zsec).length; simp; omega) (Wl.headB_size _)
/-- a log that is laid on noughts -/
theorem con_format {n : Nat} (hf : Wl.Fits n) : ∃ d, Wl.fmt (D.fresh (List.replicate n D.zsec)) = (0, d) ∧ Con d ⟨Wl.h1, 0, false⟩ ⟨#[]⟩ [] ∧ d.R.length = 1 ∧ d.S.length = n := by
  obtain ⟨g1, g2, g3⟩ := hf
  have hl : (List.replicate n D.zsec).length = n := List.length_replicate
  have e : Wl.fmt (D.fresh (List.replicate n D.zsec)) = (D.fresh (List.replicate n D.zsec)).write 1 (Wl.headB Wl.h1) := by
    rw [fmt_yes rfl (by show Wl.Fits (List.replicate n D.zsec).length; rw [hl]; exact ⟨g1, g2, g3⟩)]
    show (match Wl.find (List.replicate n D.zsec) with | some _ => _ | none => _) = _
    rw [find_fresh n (by omega)]
  have ew := fresh_write (n := n) (by omega) (by omega)
  have hok := D.DS.write_ok (D.fresh_ok (D.rep_128 n) (by rw [hl]; omega) (by rw [hl]; omega)) 1 (Wl.headB Wl.h1)
  rw [ew] at hok
  refine ⟨_, e.trans ew, ⟨hok, ⟨?_, by decide, by decide, by decide, Nat.zero_le _, Nat.zero_le _⟩, rfl, rfl, ?_, by decide, ?_, rfl, rfl, (fun r hr => by cases hr), rfl, rfl⟩, rfl, ?_⟩
  · show Wl.Fits ((List.replicate n D.zsec).set 1 _).length; rw [List.length_set, hl]; exact ⟨g1, g2, g3⟩
  · exact getD_set_self (by rw [hl]; omega) _
  · intro L hL
    have : Wl.logOf ((List.replicate n D.zsec).set 1 (Wl.headB Wl.h1)) 0 = none := logOf_zero (by
      rw [getD_set_far (by decide), List.getD_eq_getElem?_getD, List.getElem?_replicate, if_pos (by omega)]; rfl)
    rw [show (1 - (⟨Wl.h1, 0, false⟩ : WS).h.num % 2) = 0 from rfl] at hL
    exact absurd (this.symm.trans hL) (by simp)
  · show ((List.replicate n D.zsec).set 1 _).length = n; rw [List.length_set, hl]
theorem room6 : Wl.room 6 Wl.h1 = 254 := by
  show Wl.roomF 256 256 = 254
  have l2 : ∀ k, 128 ≤ k → k < 16384 → (Pk.enc k).length = 2 := fun k h1 h2 => by rw [Pk.enc_ge (by omega), Pk.enc_lt (by omega)]; rfl
  rw [show (256 : Nat) = 255 + 1 from rfl, roomF_succ, l2 _ (by decide) (by decide), if_neg (by decide), show (255 : Nat) = 254 + 1 from rfl, roomF_succ, l2 _ (by decide) (by decide), if_neg (by decide), show (254 : Nat) = 253 + 1 from rfl, roomF_succ, l2 _ (by decide) (by decide), if_pos (by decide)]
theorem Con.opens {w : World} {b : Nat} {d : D.DS} {ws : WS} {s : ByteArray} {l : List ByteArray} (h : Con d ws s l) {e : Ending} {w' : World} (hP : OPost w b d e w') :
    Below w.heap.size w w' ∧ ∃ (W : Nat) (ad : Option Addr) (cp : Nat), e = .returned (.tuple #[.pointer (some ⟨W, 0, none⟩), .string s, .slice ad l.length cp, .int .i64 0]) ∧ w.heap.size ≤ W ∧ Wm w' W b ⟨ws.h, l.length, false⟩ ∧ w'.ownsRow w.heap.size 9 1 (.slice ad l.length cp) l.length (l.map .string) ∧ (Value.slice ad l.length cp).ownBlock ≠ some W := by
  refine ⟨hP.1, ?_⟩
  have := hP.2
  rw [if_neg (by simp [h.live]), if_neg (by simpa using h.wok.fits), h.find] at this
  exact this
def ab : ByteArray := ⟨#[97, 98]⟩
set_option maxHeartbeats 2000000 in
set_option maxRecDepth 8000 in
theorem fixed_any (w : World) : Calls Try.prog 14 #[] w fun e w' => e = .returned (.bool true) ∧ Below w.heap.size w w' := by
  have hfit : Wl.Fits 6 := by decide
  obtain ⟨d1, hf1, hC1, hR1, hS1⟩ := con_format hfit
  have HN := hide (D.new_any (w := w) (n := 6) (by decide) (by decide))
  have hrm : Wl.room d1.S.length (⟨Wl.h1, 0, false⟩ : WS).h = 254 := by rw [hS1]; exact room6
  obtain ⟨a1, a2, a3, a4, a5⟩ := hC1.append (r := ab) (by decide) (by decide) (by rw [hrm]; decide) (by decide)
  have hf2 : Wl.fmt d1 = (95, d1) := by rw [fmt_yes hC1.live hC1.wok.fits, hC1.find]
  have hRb : (d1.R.length + 600) * 24 ≤ 140737488355328 := by rw [hR1]; decide
  generalize hAp : Wl.append d1 ⟨Wl.h1, 0, false⟩ ab = X at *
  obtain ⟨xe, xd, xw⟩ := X
  simp only at a1 a2 a3 a4 a5
  subst a1
  have HC1 := hide hC1
  have HC2 := hide a2
  have HAp := hide hAp
  have Hf1 := hide hf1
  have Hf2 := hide hf2
  have Hrm := hide hrm
  clear hC1 a2 a3 a4 a5 hAp hf1 hf2 hrm hR1 hS1 hfit
  go_enter Try.func14, Try.ntmps14
  go_wp2_with fail
  refine HN.out.mono ?_
  rintro e w1 ⟨b, F, rfl, hD, hB1⟩
  have HF := hide (format_any hD (by decide))
  have HFl1 := hide hD.ftlow
  have HB1 := hide hB1
  clear hD hB1 HN
  rw [Hf1.out] at HF
  go_wp2_with fail
  refine HF.out.mono ?_
  rintro e w2 ⟨rfl, F2, hD2, hM2⟩
  have HB2 := hide (HB1.out.trans (hM2.below HB1.out.size HFl1.out))
  have HF2 := hide (format_any hD2 (Nat.le_trans (Nat.mul_le_mul_right 24 (by omega)) hRb))
  have HFl2 := hide hD2.ftlow
  clear hD2 hM2 HF
  rw [Hf2.out] at HF2
  go_wp2_with fail
  refine HF2.out.mono ?_
  rintro e w3 ⟨rfl, F3, hD3, hM3⟩
  have HB3 := hide (HB2.out.trans (hM3.below HB2.out.size HFl2.out))
  have HO := hide (open_any hD3)
  have HD3 := hide hD3
  have HFl3 := hide hD3.ftlow
  clear hD3 hM3 HF2
  go_wp2_with fail
  refine HO.out.mono ?_
  intro e w4 hP
  obtain ⟨hB4, W, ad, cp, rfl, hW, hWm, -, -⟩ := HC1.out.opens hP
  have HB4 := hide (HB3.out.trans (hB4.mono HB3.out.size))
  have HD4 := hide (HD3.out.below hB4)
  have hFW : ¬ F3 W := fun k => absurd (HD3.out.ftlt W k).2 (by omega)
  have HRo := hide (room_any HD4.out hWm HC1.out.wok)
  have HWm := hide hWm
  have h3s := HB3.out.size
  have hWw : w.heap.size ≤ W := by omega
  clear hP hB4 hWm HO
  simp only [List.length_nil] at HRo HWm ⊢
  rw [Hrm.out] at HRo
  go_wp2_with fail
  refine HRo.out.mono ?_
  rintro e w5 ⟨rfl, hB5⟩
  have HB5 := hide (HB4.out.trans (hB5.mono HB4.out.size))
  have HD5 := hide (HD4.out.below hB5)
  have HW5 := hide (HWm.out.below hB5)
  have HA := hide (append_any HD5.out HW5.out hFW HC1.out.wok hRb ab)
  rw [HAp.out] at HA
  simp only at HA
  have HFl5 := hide HD5.out.ftlow
  clear hB5 HRo
  go_wp2_with fail
  refine HA.out.mono ?_
  rintro e w6 ⟨rfl, hW6, F6, hD6, hM6, hn6⟩
  have HB6 := hide (HB5.out.trans (hM6.below HB5.out.size (fun k hk => by rcases hk with hk | hk; exact HFl5.out k hk; omega)))
  have HO6 := hide (open_any hD6)
  clear hW6 hD6 hM6 HA
  go_wp2_with fail
  refine HO6.out.mono ?_
  intro e w7 hP
  obtain ⟨hB7, W7, ad7, cp7, rfl, hW7, hWm7, hO7, -⟩ := HC2.out.opens hP
  have HB7 := hide (HB6.out.trans (hB7.mono HB6.out.size))
  clear hP hB7 hWm7 HO6
  simp only [List.nil_append, List.length_singleton, List.map_singleton] at hO7 ⊢
  have hg7 : ∃ g, ad7 = some ⟨g, 0, none⟩ ∧ g < w7.heap.size := by
    rcases D.own_form hO7 with ⟨h9, _⟩ | ⟨g, cap, h9, hg, _⟩
    · injection h9 with _ h9; cases h9
    · injection h9 with h9; exact ⟨g, h9, hg⟩
  obtain ⟨g, rfl, hgl⟩ := hg7
  have hc : w7.cell? ⟨g, 0, none⟩ = some (.string ⟨#[97, 98]⟩) := by
    have := hO7.cells (g := g) rfl 0 _ rfl
    rwa [Addr.add_lit, Nat.zero_add] at this
  clear hO7 HC1 HC2
  go_wp2_with fail
  go_ret
  exact ⟨rfl, HB7.out⟩
end Go.Proofs.Ytdjmmgpdladpcaa
end

section
namespace Go.Proofs.Ytdjmmgpdladpcaa
open Go.RowKit Go.Shelf
open Wl (Hd WS Log)

/-- an append: taken, or nothing is turned -/
theorem Con.append_or {d : D.DS} {ws : WS} {s : ByteArray} {l : List ByteArray} (h : Con d ws s l) (hn : ws.h.num < 1099511627776) (r : ByteArray) :
    ((Wl.append d ws r).1 = 0 ∧ Con (Wl.append d ws r).2.1 (Wl.append d ws r).2.2 s (l ++ [r]) ∧ (Wl.append d ws r).2.2.h = Wl.hdA ws.h r ∧ (Wl.append d ws r).2.1.R.length ≤ d.R.length + 600 ∧ (Wl.append d ws r).2.1.S.length = d.S.length) ∨ ((Wl.append d ws r).1 ≠ 0 ∧ (Wl.append d ws r).2.1 = d ∧ (Wl.append d ws r).2.2 = ws) := by
  by_cases h1 : r.size < 1 ∨ 2048 < r.size
  · refine .inr ?_
    have : Wl.append d ws r = (92, d, ws) := by unfold Wl.append Wl.powered; rw [if_neg (by simp [h.gone, h.live]), if_pos h1]
    rw [this]; exact ⟨by show (92 : Int) ≠ 0; decide, rfl, rfl⟩
  · by_cases h2 : Wl.room d.S.length ws.h < r.size
    · refine .inr ?_
      have : Wl.append d ws r = (93, d, ws) := by unfold Wl.append Wl.powered; rw [if_neg (by simp [h.gone, h.live]), if_neg h1, if_pos h2]
      rw [this]; exact ⟨by show (93 : Int) ≠ 0; decide, rfl, rfl⟩
    · exact .inl (h.append (by omega) (by omega) (by omega) hn)
/-- a row of texts is none of a disk's blocks -/
theorem dk_str {base : Nat} {w : World} {b : Nat} {F : Nat → Prop} {d : D.DS} (h : D.Dk base w b F d) {X : Nat} {cs : Array Value} (hX : w.heap[X]? = some (.cells cs 9 (0, 0))) : ¬ F X := by
  obtain ⟨vs, vr, h, rfl⟩ := h
  rintro (rfl | hk | hk)
  · rw [h.blk] at hX; injection hX with hX; injection hX with _ hX; exact absurd hX (by decide)
  · rcases h.sec.2 with ⟨rfl, _⟩ | ⟨g, cap, cur, rfl, _, hg, _⟩
    · cases hk
    · injection hk with hk; subst hk; rw [hg] at hX; injection hX with hX; injection hX with _ hX; exact absurd hX (by decide)
  · rcases h.raw.2 with ⟨rfl, _⟩ | ⟨g, cap, cur, rfl, _, hg, _⟩
    · cases hk
    · injection hk with hk; subst hk; rw [hg] at hX; injection hX with hX; injection hX with _ hX; exact absurd hX (by decide)
theorem own_blk {w : World} {B n : Nat} {v : Value} {xs : List Value} (h : w.ownsRow B 9 1 v n xs) {k : Nat} (hk : v.ownBlock = some k) : ∃ cs, w.heap[k]? = some (.cells cs 9 (0, 0)) := by
  rcases h.2 with ⟨rfl, _⟩ | ⟨g, cap, cur, rfl, _, hg, _⟩
  · cases hk
  · injection hk with hk; subst hk; exact ⟨cur, hg⟩
theorem wm_str {w : World} {W b : Nat} {ws : WS} (h : Wm w W b ws) {X : Nat} {cs : Array Value} (hX : w.heap[X]? = some (.cells cs 9 (0, 0))) : X ≠ W := by
  rintro rfl
  rw [h] at hX; injection hX with hX; injection hX with _ hX; exact absurd hX (by decide)
end Go.Proofs.Ytdjmmgpdladpcaa
end
