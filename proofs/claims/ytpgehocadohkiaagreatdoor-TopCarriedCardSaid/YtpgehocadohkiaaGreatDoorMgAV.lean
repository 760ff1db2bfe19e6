import Derived.Test.YtpgehocadohkiaaGreatDoorMgAM
import Derived.Test.YtpgehocadohkiaaGreatDoorMgAH

section
namespace Go.Proofs.YtpgehocadohkiaaGreatDoor
open Go.RowKit

theorem vl_top : ∃ c : Nat, c = 2098 ∧ Gn.vl 9218868437227405312 = 2 ^ c := by
  obtain ⟨d, hd⟩ : ∃ d : Nat, d = 9218868437227405312 / 4503599627370496 - 1 := ⟨_, rfl⟩
  have hd2 : d = 2046 := by omega
  refine ⟨52 + d, by omega, ?_⟩
  unfold Gn.vl
  rw [if_neg (by decide), ← hd, Nat.pow_add]
/-- an amount below the greatest: its number's length and its power -/
theorem top_len {n : Nat} {k : Int} (hn : 1 ≤ n) (hl : n < 18446744073709551616) (hk : -1074 ≤ k) : n * 2 ^ (k + 1074).toNat < Gn.vl 9218868437227405312 ↔ k + (Lib.bitLen n : Int) ≤ 1024 := by
  obtain ⟨c, hc, e⟩ := vl_top
  rw [e, len_log hn hl]
  have h1 : 2 ^ n.log2 ≤ n := Nat.log2_self_le (by omega)
  have h2 : n < 2 ^ (n.log2 + 1) := Nat.lt_log2_self
  constructor
  · intro h
    have h3 : 2 ^ (n.log2 + (k + 1074).toNat) < 2 ^ c := by
      rw [Nat.pow_add]; exact Nat.lt_of_le_of_lt (Nat.mul_le_mul_right _ h1) h
    have h4 := (Nat.pow_lt_pow_iff_right (a := 2) (by omega)).1 h3
    omega
  · intro h
    have h3 : 2 ^ (n.log2 + 1 + (k + 1074).toNat) ≤ 2 ^ c := Nat.pow_le_pow_right (by omega) (by omega)
    rw [Nat.pow_add] at h3
    exact Nat.lt_of_lt_of_le (Nat.mul_lt_mul_of_pos_right h2 (Nat.two_pow_pos _)) h3
theorem mk_list (l : List UInt8) : (⟨l.toArray⟩ : ByteArray).toList = l := by rw [ByteArray.toList_eq]
theorem app_list (x y : ByteArray) : (x ++ y).toList = x.toList ++ y.toList := by
  rw [ByteArray.toList_eq, ByteArray.toList_eq, ByteArray.toList_eq, ByteArray.data_append, Array.toList_append]
theorem amt_list {a : Nat} (h : 3 ≤ clsN a) : (amtB a).toList = Lib.decDigits (oN a) ++ 112 :: Lib.itoa (pN a) := by
  unfold amtB
  rw [if_neg (by omega), if_neg (by omega), if_neg (by omega), app_list, app_list, mk_list, mk_list, mk_list, List.append_assoc]
  rfl
theorem digits_first {n : Nat} {r : List UInt8} {c : UInt8} {q : List UInt8} (h : Lib.decDigits n ++ r = c :: q) : digB c = true := by
  have ha := digits_all n
  have hne := digits_ne n
  cases hd : Lib.decDigits n with
  | nil => exact absurd hd hne
  | cons x t =>
    rw [hd] at h ha
    simp only [List.all_cons, Bool.and_eq_true] at ha
    have : x = c := by injection h
    rw [← this]; exact ha.1
/-- the amount's text is taken, as itself -/
theorem amt_there {a : Nat} (h : a ≤ 9218868437227405312) (hc : clsN a ≠ 0) : amtP (amtB a) = (a, 0) := by
  have hmod : a % 9223372036854775808 = a := by omega
  by_cases c1 : clsN a = 1
  · have e : a = 9218868437227405312 := by
      unfold clsN at c1; rw [hmod] at c1; split at c1
      · omega
      split at c1
      · assumption
      split at c1
      · omega
      split at c1 <;> omega
    subst e
    have e2 : (amtB 9218868437227405312).toList = [105, 110, 102] := by unfold amtB; rw [if_neg hc, if_pos c1]; exact mk_list [105, 110, 102]
    unfold amtP; rw [if_pos e2]
  by_cases c2 : clsN a = 2
  · have e : a = 0 := by
      unfold clsN at c2; rw [hmod] at c2; split at c2
      · omega
      split at c2
      · omega
      split at c2
      · assumption
      split at c2 <;> omega
    subst e
    have e2 : (amtB 0).toList = [48] := by unfold amtB; rw [if_neg hc, if_neg c1, if_pos c2]; exact mk_list [48]
    unfold amtP; rw [if_neg (by rw [e2]; decide), if_pos e2]
  have c3 : 3 ≤ clsN a := by omega
  have hlt : a < 9218868437227405312 := by
    rcases Nat.lt_or_ge a 9218868437227405312 with k | k
    · exact k
    · exfalso
      have : a = 9218868437227405312 := by omega
      subst this; exact c1 (by decide)
  obtain ⟨p1, p2, p3⟩ := amt_parts a hlt c3
  have hM := tM_lt a
  have ho : oN a ≤ tM a := Nat.div_le_self _ _
  have hE := tE_bd a
  have hz := ctz_lt (tM a) (tM_ne a c3) (by omega)
  have hpb : pN a ≤ 1036 := by unfold pN; omega
  have hl := amt_list c3
  have n1 : (amtB a).toList ≠ [105, 110, 102] := fun e => by
    rw [e] at hl
    have := digits_first hl.symm
    revert this; decide
  have n2 : (amtB a).toList ≠ [48] := fun e => by
    rw [e] at hl
    have h1 := congrArg List.length hl
    have h2 := digits_ne (oN a)
    have h3 : (Lib.decDigits (oN a)).length ≠ 0 := fun k => h2 (List.eq_nil_of_length_eq_zero k)
    simp at h1; omega
  have hf := first_at hl (digits_all _)
  obtain ⟨_, hs⟩ := first_split hf
  have hlen : ((amtB a).extract 0 (Lib.decDigits (oN a)).length).toList = Lib.decDigits (oN a) := by
    rw [Lib.extract_toList, ← ByteArray.toList_eq, hl]; simp
  have hlen2 : ((amtB a).extract ((Lib.decDigits (oN a)).length + 1) (amtB a).size).toList = Lib.itoa (pN a) := by
    rw [hl, hlen] at hs
    have := List.append_cancel_left hs
    injection this with _ h2
    exact h2.symm
  unfold amtP
  rw [if_neg n1, if_neg n2, if_neg (by omega), hf, Int.toNat_natCast]
  obtain ⟨o1, o2⟩ := odd_digits hlen p1
  obtain ⟨q1, q2⟩ := pow_text hlen2
  have s1 : ((amtB a).extract 0 (Lib.decDigits (oN a)).length).size ≤ 16 := by
    rw [← size_list, hlen]
    exact digits_len (by omega) (Nat.lt_of_lt_of_le (show oN a < 10000000000000000 by omega) (by decide))
  have s2 : ((amtB a).extract ((Lib.decDigits (oN a)).length + 1) (amtB a).size).size ≤ 5 := by
    rw [← size_list, hlen2]
    unfold Lib.itoa
    split
    · have := digits_len (n := (pN a).natAbs) (d := 4) (by omega) (Nat.lt_of_lt_of_le (show (pN a).natAbs < 10000 by omega) (by decide))
      rw [List.length_cons]; omega
    · have := digits_len (n := (pN a).toNat) (d := 4) (by omega) (Nat.lt_of_lt_of_le (show (pN a).toNat < 10000 by omega) (by decide))
      omega
  unfold cutP
  rw [o1, q1, if_neg (by decide), if_neg (by omega), o2, q2]
  have hv : oN a * 2 ^ (pN a + 1074).toNat < Gn.vl 9218868437227405312 := by rw [← p2]; exact Gn.vl_lt hlt
  have ht := (top_len (n := oN a) (by omega) (by omega) p3).1 hv
  unfold valP
  rw [if_neg (by omega), ← p2, Gn.rn_vl hlt]
/-- what is taken is that number's text -/
theorem amt_back {t : ByteArray} (h : (amtP t).2 = 0) : clsN (amtP t).1 ≠ 0 ∧ amtB (amtP t).1 = t := by
  unfold amtP at h ⊢
  by_cases e1 : t.toList = [105, 110, 102]
  · rw [if_pos e1]
    exact ⟨by show clsN 9218868437227405312 ≠ 0; decide, by rw [list_mk e1]; show amtB 9218868437227405312 = _; unfold amtB; rw [if_neg (by decide), if_pos (by decide)]⟩
  rw [if_neg e1] at h ⊢
  by_cases e2 : t.toList = [48]
  · rw [if_pos e2]
    exact ⟨by show clsN 0 ≠ 0; decide, by rw [list_mk e2]; show amtB 0 = _; unfold amtB; rw [if_neg (by decide), if_neg (by decide), if_pos (by decide)]⟩
  rw [if_neg e2] at h ⊢
  rcases first_cases t 112 with hi | ⟨i, hi, _⟩
  · rw [if_pos (by omega)] at h; cases h
  rw [if_neg (by omega), show (firstIdx t 112).toNat = i by omega] at h ⊢
  obtain ⟨_, hs⟩ := first_split hi
  generalize t.extract 0 i = o at *
  generalize t.extract (i + 1) t.size = p at *
  unfold cutP at h ⊢
  by_cases d1 : (oddB o && powB p) = false
  · rw [if_pos d1] at h; cases h
  rw [if_neg d1] at h ⊢
  by_cases d2 : 16 < o.size ∨ 5 < p.size
  · rw [if_pos d2] at h; cases h
  rw [if_neg d2] at h ⊢
  unfold valP at h ⊢
  by_cases d3 : 9007199254740992 ≤ numD o ∨ powV p < -1074 ∨ 1024 < powV p + (Lib.bitLen (numD o) : Int)
  · rw [if_pos d3] at h; cases h
  rw [if_neg d3]
  have hop : oddB o = true ∧ powB p = true := by simpa using d1
  have hodd := odd_num hop.1
  have hw := odd_whole hop.1
  rw [whole_list] at hw
  have hdo : Lib.decDigits (numD o) = o.toList := whole_digits hw
  have hdp := pow_back hop.2
  have ht := (top_len (n := numD o) (k := powV p) (by omega) (by omega) (by omega)).2 (by omega)
  obtain ⟨r1, r2⟩ := Gn.rn_rep (numD o) (powV p + 1074).toNat rfl (by omega) ht
  generalize Gn.rn (numD o * 2 ^ (powV p + 1074).toNat) = a at *
  have hpos : 0 < Gn.vl a := by rw [r1]; exact Nat.mul_pos (by omega) (Nat.two_pow_pos _)
  have ha0 : a ≠ 0 := fun e => by rw [e, Gn.vl_zero] at hpos; omega
  have c3 : 3 ≤ clsN a := by
    unfold clsN
    rw [show a % 9223372036854775808 = a by omega, if_neg (by omega), if_neg (by omega), if_neg ha0]
    split <;> omega
  refine ⟨by show clsN a ≠ 0; omega, ?_⟩
  show amtB a = t
  obtain ⟨p1, p2, p3⟩ := amt_parts a r2 c3
  rw [r1] at p2
  obtain ⟨u1, u2⟩ := odd_unique p2 hodd p1
  have u3 : pN a = powV p := by omega
  have hl := amt_list c3
  rw [← u1, u3, hdo, ← hdp, ← hs] at hl
  have := list_mk hl
  rw [this, ByteArray.toList_eq]
end Go.Proofs.YtpgehocadohkiaaGreatDoor
end

section
namespace Go.Proofs.YtpgehocadohkiaaGreatDoor
open Go.RowKit

theorem cls_mod (a : Nat) : clsN (a % 9223372036854775808) = clsN a := by
  unfold clsN; rw [Nat.mod_mod]
theorem cls_low {a : Nat} (h : clsN a ≠ 0) : a % 9223372036854775808 ≤ 9218868437227405312 := by
  rcases Nat.lt_or_ge 9218868437227405312 (a % 9223372036854775808) with k | k
  · exact absurd ((cls_nan a).2 k) h
  · exact k
theorem canon_not {a : Nat} (h : clsN a ≠ 0) : Gn.canonW a = a := by
  have := cls_low h
  unfold Gn.canonW; rw [if_neg (by omega)]
/-- an amount's text opens with no minus and is not nan's -/
theorem amt_first {a : Nat} (h : clsN a ≠ 0) : (amtB a).toList.headD 0 ≠ 45 ∧ (amtB a).toList ≠ [110, 97, 110] := by
  by_cases c1 : clsN a = 1
  · have e : (amtB a).toList = [105, 110, 102] := by unfold amtB; rw [if_neg h, if_pos c1]; exact mk_list [105, 110, 102]
    rw [e]; decide
  by_cases c2 : clsN a = 2
  · have e : (amtB a).toList = [48] := by unfold amtB; rw [if_neg h, if_neg c1, if_pos c2]; exact mk_list [48]
    rw [e]; decide
  have hl := amt_list (a := a) (by omega)
  cases hc : (amtB a).toList with
  | nil => rw [hc] at hl; simp at hl
  | cons c q =>
    rw [hc] at hl
    have hd := digits_first hl.symm
    constructor
    · intro e
      have e2 : c = 45 := e
      rw [e2] at hd; revert hd; decide
    · intro e
      injection e with e2 _
      rw [e2] at hd; revert hd; decide
theorem minus_app (t : ByteArray) : minusB ((⟨#[45]⟩ : ByteArray) ++ t) = true ∧ bareB ((⟨#[45]⟩ : ByteArray) ++ t) = t ∧ ((⟨#[45]⟩ : ByteArray) ++ t).toList ≠ [110, 97, 110] := by
  have e : ((⟨#[45]⟩ : ByteArray) ++ t).toList = 45 :: t.toList := by rw [app_list, mk_list [45]]; rfl
  have hm : minusB ((⟨#[45]⟩ : ByteArray) ++ t) = true := by rw [minus_head, e]; rfl
  refine ⟨hm, ?_, ?_⟩
  · unfold bareB
    rw [hm, if_pos rfl]
    have h1 := rest_list ((⟨#[45]⟩ : ByteArray) ++ t)
    rw [e] at h1
    have h2 := list_mk h1
    rw [h2]
    exact (list_mk (s := t) rfl).symm
  · rw [e]; intro k
    injection k with k1 _
    revert k1; decide
/-- Parse of Text is the number -/
theorem parse_there (a : Nat) (ha : a < 18446744073709551616) : parseP (textB a) = (Gn.canonW a, 0) := by
  have hlt := Gn.canon_lt a ha
  unfold textB
  by_cases hz : clsN (Gn.canonW a) = 0
  · have e := canon_word (Gn.canonW a) (canon_idem a) hz
    rw [e, if_pos (by decide)]
    have e2 : (amtB 9221120237041090561).toList = [110, 97, 110] := by unfold amtB; rw [if_pos (by decide)]; exact mk_list [110, 97, 110]
    unfold parseP; rw [if_pos e2]
  generalize Gn.canonW a = c at *
  by_cases hc : c < 9223372036854775808
  · rw [if_pos hc]
    obtain ⟨f1, f2⟩ := amt_first hz
    have hm : minusB (amtB c) = false := by rw [minus_head]; exact beq_eq_false_iff_ne.mpr f1
    have hb : bareB (amtB c) = amtB c := by unfold bareB; rw [hm, if_neg (by decide)]
    have hl := cls_low hz
    have ht := amt_there (a := c) (by omega) hz
    unfold parseP
    rw [if_neg f2, hb, ht, hm, if_pos rfl, if_neg (by decide)]
  · rw [if_neg hc]
    obtain ⟨m1, m2, m3⟩ := minus_app (amtB (c % 9223372036854775808))
    have ht := amt_there (a := c % 9223372036854775808) (cls_low hz) (by rw [cls_mod]; exact hz)
    unfold parseP
    rw [if_neg m3, m2, ht, m1, if_pos rfl, if_pos rfl]
    have : c % 9223372036854775808 + 9223372036854775808 = c := by omega
    show (c % 9223372036854775808 + 9223372036854775808, (0 : Int)) = (c, 0)
    rw [this]
/-- Text of what Parse takes is the text -/
theorem parse_back {s : ByteArray} (h : (parseP s).2 = 0) : (parseP s).1 < 18446744073709551616 ∧ textB (parseP s).1 = s := by
  unfold parseP at h ⊢
  by_cases e1 : s.toList = [110, 97, 110]
  · rw [if_pos e1]
    refine ⟨by decide, ?_⟩
    show textB 9221120237041090561 = s
    rw [list_mk e1]
    unfold textB
    rw [Gn.canon_nan, if_pos (by decide)]
    unfold amtB; rw [if_pos (by decide)]
  rw [if_neg e1] at h ⊢
  by_cases hf : (amtP (bareB s)).2 = 0
  · rw [if_pos hf]
    obtain ⟨b1, b2⟩ := amt_back hf
    have hle := amt_le (bareB s)
    generalize (amtP (bareB s)).1 = a at *
    cases hm : minusB s
    · have hb : bareB s = s := by unfold bareB; rw [hm, if_neg (by decide)]
      rw [if_neg (by decide)]
      refine ⟨by show a < _; omega, ?_⟩
      show textB a = s
      unfold textB
      rw [canon_not b1, if_pos (by omega), b2, hb]
    · rw [if_pos rfl]
      refine ⟨by show a + _ < _; omega, ?_⟩
      show textB (a + 9223372036854775808) = s
      have hcl : clsN (a + 9223372036854775808) ≠ 0 := by
        rw [← cls_mod, show (a + 9223372036854775808) % 9223372036854775808 = a by omega]; exact b1
      unfold textB
      rw [canon_not hcl, if_neg (by omega), show (a + 9223372036854775808) % 9223372036854775808 = a by omega, b2]
      have hb : bareB s = s.extract 1 s.size := by unfold bareB; rw [hm, if_pos rfl]
      rw [hb]
      rw [minus_head] at hm
      have e3 : ((⟨#[45]⟩ : ByteArray) ++ s.extract 1 s.size).toList = s.toList := by
        rw [app_list, mk_list [45], rest_list]
        cases hc : s.toList with
        | nil => rw [hc] at hm; cases hm
        | cons c r =>
          rw [hc] at hm
          have : c = 45 := by simpa using hm
          rw [this]; rfl
      rw [list_mk e3]
      exact (list_mk (s := s) rfl).symm
  · rw [if_neg hf] at h; exact absurd h hf
end Go.Proofs.YtpgehocadohkiaaGreatDoor
end

section
namespace Go.Proofs.YtpgehocadohkiaaGreatDoor
open Go.RowKit

theorem and1 (m : Nat) (h : m < 18446744073709551616) : bits .and .u64 (m : Int) 1 = ((m % 2 : Nat) : Int) := by
  rw [show (1 : Int) = ((1 : Nat) : Int) from rfl, bits_and_u64_nat m 1 h (by decide), Nat.and_one_is_mod]
theorem fx_low (a : Nat) : fx (a % 9223372036854775808) = fx a := by unfold fx; omega
theorem fm_low (a : Nat) : fm (a % 9223372036854775808) = fm a := by unfold fm; omega
theorem cls_lowT (a : Nat) : clsN (a % 9223372036854775808) = clsN a := by unfold clsN; rw [Nat.mod_mod]
theorem tM_low (a : Nat) : tM (a % 9223372036854775808) = tM a := by unfold tM; rw [fx_low, fm_low]
theorem tE_low (a : Nat) : tE (a % 9223372036854775808) = tE a := by unfold tE; rw [fx_low]
theorem amt_low (a : Nat) : amtB (a % 9223372036854775808) = amtB a := by unfold amtB oN pN; rw [cls_lowT, tM_low, tE_low]
/-- a word's sign, as a text -/
def sgnB (a : Nat) : ByteArray := if a < 9223372036854775808 then ⟨#[]⟩ else ⟨#[45]⟩
theorem text_nan (a : Nat) (h : clsN a = 0) : textB a = ⟨#[110, 97, 110]⟩ := by
  have h1 := (cls_nan a).1 h
  have e : Gn.canonW a = 9221120237041090561 := by unfold Gn.canonW; rw [if_pos h1]
  unfold textB
  rw [e, if_pos (by decide)]
  unfold amtB
  rw [if_pos (by decide)]
theorem text_not (a : Nat) (h : clsN a ≠ 0) : textB a = sgnB a ++ amtB a := by
  have h1 : ¬ 9218868437227405312 < a % 9223372036854775808 := fun e => h ((cls_nan a).2 e)
  have e : Gn.canonW a = a := by unfold Gn.canonW; rw [if_neg h1]
  unfold textB sgnB
  rw [e]
  split
  · apply ByteArray.ext; simp
  · rw [amt_low]
theorem end_neg (s : ByteArray) (o : Nat) (P : Int) (h : P < 0) : s ++ ⟨(Lib.decDigits o).toArray⟩ ++ ⟨#[112, 45]⟩ ++ ⟨(Lib.decDigits (-P).toNat).toArray⟩ = s ++ ((⟨(Lib.decDigits o).toArray⟩ : ByteArray) ++ ⟨#[112]⟩ ++ ⟨(Lib.itoa P).toArray⟩) := by
  have e : Lib.itoa P = 45 :: Lib.decDigits (-P).toNat := by unfold Lib.itoa; rw [if_pos h, show P.natAbs = (-P).toNat by omega]
  rw [e]
  apply ByteArray.ext
  simp
theorem end_pos (s : ByteArray) (o : Nat) (P : Int) (h : ¬ P < 0) : s ++ ⟨(Lib.decDigits o).toArray⟩ ++ ⟨#[112]⟩ ++ ⟨(Lib.decDigits P.toNat).toArray⟩ = s ++ ((⟨(Lib.decDigits o).toArray⟩ : ByteArray) ++ ⟨#[112]⟩ ++ ⟨(Lib.itoa P).toArray⟩) := by
  have e : Lib.itoa P = Lib.decDigits P.toNat := by unfold Lib.itoa; rw [if_neg h]
  rw [e]
  apply ByteArray.ext
  simp
end Go.Proofs.YtpgehocadohkiaaGreatDoor
end
