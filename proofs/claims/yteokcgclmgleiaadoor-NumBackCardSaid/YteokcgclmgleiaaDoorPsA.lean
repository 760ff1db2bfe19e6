import Derived.Test.YteokcgclmgleiaaDoorWalkH
namespace Go.Proofs.YteokcgclmgleiaaDoor
open Go.RowKit

/-- a decimal digit; a whole number without a nought ahead; an odd one; a power -/
def digB (c : UInt8) : Bool := 48 ≤ c.toNat && c.toNat ≤ 57
def wholeB (s : ByteArray) : Bool := s.toList.all digB && (s.toList == [48] || !s.toList.isEmpty && s.toList.headD 0 != 48)
theorem all_step (s : ByteArray) (i : Nat) (h : i < s.size) : (s.toList.drop i).all digB = (digB s[i] && (s.toList.drop (i + 1)).all digB) := by
  rw [ByteArray.toList_eq]
  have h' : i < s.data.toList.length := h
  rw [List.drop_eq_getElem_cons h']
  rfl
theorem dig_no {c : UInt8} (h : (c.toNat : Int) < 48 ∨ 57 < (c.toNat : Int)) : digB c = false := by
  unfold digB
  simp only [Bool.and_eq_false_iff, decide_eq_false_iff_not]
  omega
theorem dig_yes {c : UInt8} (h : 48 ≤ (c.toNat : Int) ∧ (c.toNat : Int) ≤ 57) : digB c = true := by
  unfold digB
  simp only [Bool.and_eq_true, decide_eq_true_eq]
  omega
theorem head_is (s : ByteArray) (h : 0 < s.size) : s.toList.headD 0 = s[0] := by
  rw [ByteArray.toList_eq]
  have h' : 0 < s.data.toList.length := h
  have e : s.data.toList = s.data.toList[0] :: s.data.toList.drop 1 := by
    have := List.drop_eq_getElem_cons h'
    simpa using this
  rw [e]; rfl
theorem ne48 (c : UInt8) : ((c.toNat : Int) != 48) = (c != 48) := by
  by_cases h : c = 48
  · subst h; rfl
  · have h1 : c.toNat ≠ 48 := fun e => h (by apply UInt8.toNat_inj.mp; rw [e]; rfl)
    rw [bne_iff_ne.mpr h, bne_iff_ne.mpr (show (c.toNat : Int) ≠ 48 by omega)]

set_option maxHeartbeats 400000 in
theorem isWhole_any (s : ByteArray) (hm : s.size ≤ 9223372036854775807) (w : World) : Calls Tryd.prog 54 #[.string s] w fun e w' => e = .returned (.bool (wholeB s)) ∧ w' = w := by
  go_enter Tryd.func54, Tryd.ntmps54
  go_wp2
  go_loopw [6] (fun u wr => ∃ i : Nat, u = .int .i64 (i : Int) ∧ i ≤ s.size ∧ wr = w ∧ Hid (s.toList.all digB = (s.toList.drop i).all digB)) (fun u _ => (s.size - (intOf u).toNat))
  case atStart => exact ⟨0, rfl, Nat.zero_le _, rfl, rfl⟩
  case round =>
    obtain ⟨i, rfl, hi, rfl, HA⟩ := hrel
    by_cases hil : i < s.size
    · by_cases hd : 48 ≤ (s[i].toNat : Int) ∧ (s[i].toNat : Int) ≤ 57
      · obtain ⟨d1, d2⟩ := hd
        go_wp2
        refine ⟨⟨i + 1, by go_num, by omega, trivial, ?_⟩, by simp [intOf]; omega⟩
        exact HA.out.trans (by rw [all_step s i hil, dig_yes ⟨d1, d2⟩, Bool.true_and])
      · have hn : wholeB s = false := by
          unfold wholeB
          rw [HA.out, all_step s i hil, dig_no (by omega), Bool.false_and, Bool.false_and]
        clear HA
        by_cases h1 : (s[i].toNat : Int) < 48
        · go_wp2
          go_ret
          rw [hn]; exact ⟨rfl, rfl⟩
        · have h2 : 57 < (s[i].toNat : Int) := by omega
          clear hd
          go_wp2
          go_ret
          first | exact ⟨rfl, rfl⟩ | (rw [hn]; exact ⟨rfl, rfl⟩)
    · obtain rfl : i = s.size := by omega
      have ha : s.toList.all digB = true := by
        rw [HA.out, List.drop_eq_nil_of_le (by rw [ByteArray.toList_eq]; exact Nat.le_refl _)]; rfl
      clear HA
      by_cases h0 : 0 < s.size
      · have e2 : ¬ s.toList = [] := by
          rw [ByteArray.toList_eq]; intro h
          have := congrArg List.length h
          have h' : s.data.toList.length = s.size := rfl
          simp only [List.length_nil] at this; omega
        by_cases e1 : s.toList = [48]
        · have hn : wholeB s = true := by unfold wholeB; rw [ha, e1]; rfl
          clear ha
          go_wp2
          go_ret; rw [hn]; exact ⟨rfl, rfl⟩
        · have b1 : (s.toList == [48]) = false := by simpa using e1
          have b2 : s.toList.isEmpty = false := by simpa using e2
          have hn : wholeB s = ((s[0].toNat : Int) != 48) := by
            unfold wholeB; rw [ha, head_is s h0, ne48, Bool.true_and, b1, b2]; rfl
          clear ha
          go_wp2
          go_ret; rw [hn]; exact ⟨by first | rfl | simp [b1, b2], rfl⟩
      · have he : s.toList = [] := by rw [ByteArray.toList_eq]; exact List.eq_nil_of_length_eq_zero (by simpa using h0)
        have hn : wholeB s = false := by unfold wholeB; rw [ha, he]; rfl
        clear ha
        go_wp2
        go_ret
        rw [hn]; exact ⟨rfl, rfl⟩

def minusB (s : ByteArray) : Bool := (s.extract 0 1).toList == [45]
def powB (s : ByteArray) : Bool := if minusB s then wholeB (s.extract 1 s.size) && !((s.extract 1 s.size).toList == [48]) else wholeB s
theorem minus_none (s : ByteArray) (h : s.size = 0) : minusB s = false := by
  unfold minusB
  rw [Lib.extract_toList]
  have : s.data.toList = [] := List.eq_nil_of_length_eq_zero h
  rw [this]; rfl
theorem whole_size {s : ByteArray} (h : wholeB s = true) : 0 < s.size := by
  rcases Nat.eq_zero_or_pos s.size with h0 | h0
  · have e : s.toList = [] := by rw [ByteArray.toList_eq]; exact List.eq_nil_of_length_eq_zero h0
    unfold wholeB at h; rw [e] at h; cases h
  · exact h0
theorem cutPrefix_any (s : ByteArray) (w : World) : Calls Tryd.prog 20 #[.string s, .string ⟨#[45]⟩] w fun e w' => e = .returned (.tuple #[.string (if minusB s then s.extract 1 s.size else s), .bool (minusB s)]) ∧ w' = w := by
  rcases Nat.eq_zero_or_pos s.size with h0 | h0
  · rw [minus_none s h0]; exact cutPrefix_none s h0 w
  · cases h : minusB s
    · exact cutPrefix_no s h0 h w
    · exact cutPrefix_yes s h0 h w
set_option maxHeartbeats 400000 in
theorem isPower_any (s : ByteArray) (hm : s.size ≤ 9223372036854775807) (w : World) : Calls Tryd.prog 35 #[.string s] w fun e w' => e = .returned (.bool (powB s)) ∧ w' = w := by
  have HP := Lib.hid (cutPrefix_any s)
  unfold powB
  cases hb : minusB s
  · rw [hb] at HP
    have HW := Lib.hid (isWhole_any s hm)
    go_enter Tryd.func35, Tryd.ntmps35
    go_wp2_with fail
    refine (HP.out _).mono ?_
    rintro e w1 ⟨rfl, e1⟩
    subst e1
    go_wp2_with fail
    refine (HW.out _).mono ?_
    rintro e w2 ⟨rfl, e2⟩
    subst e2
    cases hw : wholeB s
    · go_wp2_with fail
      go_ret
      exact ⟨rfl, rfl⟩
    · go_wp2_with fail
      go_ret
      exact ⟨rfl, rfl⟩
  · rw [hb] at HP
    have hm1 : (s.extract 1 s.size).size ≤ 9223372036854775807 := by rw [ByteArray.size_extract]; omega
    have HW := Lib.hid (isWhole_any (s.extract 1 s.size) hm1)
    simp only [if_true] at HP ⊢
    generalize s.extract 1 s.size = t at *
    go_enter Tryd.func35, Tryd.ntmps35
    go_wp2_with fail
    refine (HP.out _).mono ?_
    rintro e w1 ⟨rfl, e1⟩
    subst e1
    go_wp2_with fail
    refine (HW.out _).mono ?_
    rintro e w2 ⟨rfl, e2⟩
    subst e2
    cases hw : wholeB t
    · go_wp2_with fail
      go_ret
      first | exact ⟨rfl, rfl⟩ | (rw [hw]; exact ⟨rfl, rfl⟩)
    · go_wp2_with fail
      go_ret
      first | exact ⟨rfl, rfl⟩ | (rw [hw]; exact ⟨rfl, rfl⟩)
theorem last_is (s : ByteArray) (h : 0 < s.size) : s.toList.getLastD 0 = s[s.size - 1] := by
  rw [ByteArray.toList_eq]
  have h' : s.data.toList.length = s.size := rfl
  have hne : s.data.toList ≠ [] := fun e => by rw [e] at h'; simp at h'; omega
  rw [List.getLastD_eq_getLast?, List.getLast?_eq_some_getLast hne, Option.getD_some, List.getLast_eq_getElem]
  rfl
theorem par_is (n : Nat) : (n % 2 == 1) = (((n : Int) - 48) % 2 == 1) := by
  by_cases h : n % 2 = 1
  · rw [beq_iff_eq.mpr h, beq_iff_eq.mpr (show ((n : Int) - 48) % 2 = 1 by omega)]
  · rw [beq_eq_false_iff_ne.mpr h, beq_eq_false_iff_ne.mpr (show ¬ ((n : Int) - 48) % 2 = 1 by omega)]
def oddB (s : ByteArray) : Bool := wholeB s && (s.toList.getLastD 0).toNat % 2 == 1
set_option maxHeartbeats 400000 in
theorem isOdd_any (s : ByteArray) (hm : s.size ≤ 9223372036854775807) (w : World) : Calls Tryd.prog 34 #[.string s] w fun e w' => e = .returned (.bool (oddB s)) ∧ w' = w := by
  have HW := Lib.hid (isWhole_any s hm)
  cases hw : wholeB s
  · have hn : oddB s = false := by unfold oddB; rw [hw]; rfl
    rw [hn]
    rw [hw] at HW
    go_enter Tryd.func34, Tryd.ntmps34
    go_wp2_with fail
    refine (HW.out _).mono ?_
    rintro e w2 ⟨rfl, e2⟩
    subst e2
    go_wp2_with fail
    go_ret
    exact ⟨rfl, rfl⟩
  · have h0 := whole_size hw
    rw [hw] at HW
    go_enter Tryd.func34, Tryd.ntmps34
    go_wp2_with fail
    refine (HW.out _).mono ?_
    rintro e w2 ⟨rfl, e2⟩
    subst e2
    go_wp2_with fail
    go_ret
    have hn : oddB s = (((s[s.size - 1].toNat : Int) - 48) % 2 == 1) := by
      unfold oddB; rw [hw, last_is s h0, Bool.true_and]; exact par_is _
    rw [hn]
    exact ⟨rfl, rfl⟩
end Go.Proofs.YteokcgclmgleiaaDoor
