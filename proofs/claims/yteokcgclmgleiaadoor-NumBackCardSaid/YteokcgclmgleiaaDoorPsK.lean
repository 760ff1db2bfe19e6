import Derived.Test.YteokcgclmgleiaaDoorPsJ
namespace Go.Proofs.YteokcgclmgleiaaDoor
open Go.RowKit

theorem cls_mod (a : Nat) : clsN (a % 9223372036854775808) = clsN a := by
  unfold clsN; rw [Nat.mod_mod]
theorem cls_low {a : Nat} (h : clsN a ≠ 0) : a % 9223372036854775808 ≤ 9218868437227405312 := by
  rcases Nat.lt_or_ge 9218868437227405312 (a % 9223372036854775808) with k | k
  · exact absurd ((cls_nan a).2 k) h
  · exact k
theorem canon_not {a : Nat} (h : clsN a ≠ 0) : Gn.canonW a = a := by
  have := cls_low h
  unfold Gn.canonW; rw [if_neg (by omega)]
/-- an amount's text opens with no minus and is not nan's -/
theorem amt_first {a : Nat} (h : clsN a ≠ 0) : (amtB a).toList.headD 0 ≠ 45 ∧ (amtB a).toList ≠ [110, 97, 110] := by
  by_cases c1 : clsN a = 1
  · have e : (amtB a).toList = [105, 110, 102] := by unfold amtB; rw [if_neg h, if_pos c1]; exact mk_list [105, 110, 102]
    rw [e]; decide
  by_cases c2 : clsN a = 2
  · have e : (amtB a).toList = [48] := by unfold amtB; rw [if_neg h, if_neg c1, if_pos c2]; exact mk_list [48]
    rw [e]; decide
  have hl := amt_list (a := a) (by omega)
  cases hc : (amtB a).toList with
  | nil => rw [hc] at hl; simp at hl
  | cons c q =>
    rw [hc] at hl
    have hd := digits_first hl.symm
    constructor
    · intro e
      have e2 : c = 45 := e
      rw [e2] at hd; revert hd; decide
    · intro e
      injection e with e2 _
      rw [e2] at hd; revert hd; decide
theorem minus_app (t : ByteArray) : minusB ((⟨#[45]⟩ : ByteArray) ++ t) = true ∧ bareB ((⟨#[45]⟩ : ByteArray) ++ t) = t ∧ ((⟨#[45]⟩ : ByteArray) ++ t).toList ≠ [110, 97, 110] := by
  have e : ((⟨#[45]⟩ : ByteArray) ++ t).toList = 45 :: t.toList := by rw [app_list, mk_list [45]]; rfl
  have hm : minusB ((⟨#[45]⟩ : ByteArray) ++ t) = true := by rw [minus_head, e]; rfl
  refine ⟨hm, ?_, ?_⟩
  · unfold bareB
    rw [hm, if_pos rfl]
    have h1 := rest_list ((⟨#[45]⟩ : ByteArray) ++ t)
    rw [e] at h1
    have h2 := list_mk h1
    rw [h2]
    exact (list_mk (s := t) rfl).symm
  · rw [e]; intro k
    injection k with k1 _
    revert k1; decide
/-- Parse of Text is the number -/
theorem parse_there (a : Nat) (ha : a < 18446744073709551616) : parseP (textB a) = (Gn.canonW a, 0) := by
  have hlt := Gn.canon_lt a ha
  unfold textB
  by_cases hz : clsN (Gn.canonW a) = 0
  · have e := canon_word (Gn.canonW a) (canon_idem a) hz
    rw [e, if_pos (by decide)]
    have e2 : (amtB 9221120237041090561).toList = [110, 97, 110] := by unfold amtB; rw [if_pos (by decide)]; exact mk_list [110, 97, 110]
    unfold parseP; rw [if_pos e2]
  generalize Gn.canonW a = c at *
  by_cases hc : c < 9223372036854775808
  · rw [if_pos hc]
    obtain ⟨f1, f2⟩ := amt_first hz
    have hm : minusB (amtB c) = false := by rw [minus_head]; exact beq_eq_false_iff_ne.mpr f1
    have hb : bareB (amtB c) = amtB c := by unfold bareB; rw [hm, if_neg (by decide)]
    have hl := cls_low hz
    have ht := amt_there (a := c) (by omega) hz
    unfold parseP
    rw [if_neg f2, hb, ht, hm, if_pos rfl, if_neg (by decide)]
  · rw [if_neg hc]
    obtain ⟨m1, m2, m3⟩ := minus_app (amtB (c % 9223372036854775808))
    have ht := amt_there (a := c % 9223372036854775808) (cls_low hz) (by rw [cls_mod]; exact hz)
    unfold parseP
    rw [if_neg m3, m2, ht, m1, if_pos rfl, if_pos rfl]
    have : c % 9223372036854775808 + 9223372036854775808 = c := by omega
    show (c % 9223372036854775808 + 9223372036854775808, (0 : Int)) = (c, 0)
    rw [this]
/-- Text of what Parse takes is the text -/
theorem parse_back {s : ByteArray} (h : (parseP s).2 = 0) : (parseP s).1 < 18446744073709551616 ∧ textB (parseP s).1 = s := by
  unfold parseP at h ⊢
  by_cases e1 : s.toList = [110, 97, 110]
  · rw [if_pos e1]
    refine ⟨by decide, ?_⟩
    show textB 9221120237041090561 = s
    rw [list_mk e1]
    unfold textB
    rw [Gn.canon_nan, if_pos (by decide)]
    unfold amtB; rw [if_pos (by decide)]
  rw [if_neg e1] at h ⊢
  by_cases hf : (amtP (bareB s)).2 = 0
  · rw [if_pos hf]
    obtain ⟨b1, b2⟩ := amt_back hf
    have hle := amt_le (bareB s)
    generalize (amtP (bareB s)).1 = a at *
    cases hm : minusB s
    · have hb : bareB s = s := by unfold bareB; rw [hm, if_neg (by decide)]
      rw [if_neg (by decide)]
      refine ⟨by show a < _; omega, ?_⟩
      show textB a = s
      unfold textB
      rw [canon_not b1, if_pos (by omega), b2, hb]
    · rw [if_pos rfl]
      refine ⟨by show a + _ < _; omega, ?_⟩
      show textB (a + 9223372036854775808) = s
      have hcl : clsN (a + 9223372036854775808) ≠ 0 := by
        rw [← cls_mod, show (a + 9223372036854775808) % 9223372036854775808 = a by omega]; exact b1
      unfold textB
      rw [canon_not hcl, if_neg (by omega), show (a + 9223372036854775808) % 9223372036854775808 = a by omega, b2]
      have hb : bareB s = s.extract 1 s.size := by unfold bareB; rw [hm, if_pos rfl]
      rw [hb]
      rw [minus_head] at hm
      have e3 : ((⟨#[45]⟩ : ByteArray) ++ s.extract 1 s.size).toList = s.toList := by
        rw [app_list, mk_list [45], rest_list]
        cases hc : s.toList with
        | nil => rw [hc] at hm; cases hm
        | cons c r =>
          rw [hc] at hm
          have : c = 45 := by simpa using hm
          rw [this]; rfl
      rw [list_mk e3]
      exact (list_mk (s := s) rfl).symm
  · rw [if_neg hf] at h; exact absurd h hf
end Go.Proofs.YteokcgclmgleiaaDoor
