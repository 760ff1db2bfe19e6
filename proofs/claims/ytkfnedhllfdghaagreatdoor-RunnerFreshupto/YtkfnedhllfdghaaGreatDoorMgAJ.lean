import Derived.Test.YtkfnedhllfdghaaGreatDoorMgAI
import Derived.Test.YtkfnedhllfdghaaGreatDoorMgAH
import Derived.Shelf.Spec.TrailingZeros

section
namespace Go.Proofs.YtkfnedhllfdghaaGreatDoor
set_option maxRecDepth 20000
open Go.RowKit

/-- the table of the trailing zeros -/
abbrev Tab64 (w : World) : Prop := TabAt 2 Lib.deBruijn64tab w
theorem tz_ctz (x : Nat) (hx : x < 18446744073709551616) (h0 : x ≠ 0) (w : World) (hT : Tab64 w) :
    Calls Tryz.prog 310 #[.int .u64 (x : Int)] w fun e w' => e = .returned (.int .i64 (Lib.ctz 64 x : Int)) ∧ w' = w := by
  obtain ⟨hlow, hk⟩ := Lib.lowest_bit 64 x h0 hx
  obtain ⟨hi, htab⟩ := Lib.deBruijn64_at _ hk
  have hcell := hT _ hi
  rw [htab] at hcell
  exact tz_any x _ _ w (by simp; omega) (tz64_key x _ hx h0 hlow) hi (by omega) hcell
/-- the whole number and the power that a word stands for -/
def tM (a : Nat) : Nat := if fx a = 0 then fm a else fm a + 4503599627370496
def tE (a : Nat) : Int := if fx a = 0 then -1074 else (fx a : Int) - 1075
theorem tHalf (a : Nat) : bits .or .u64 (fm a : Int) 4503599627370496 = ((fm a + 4503599627370496 : Nat) : Int) := by
  have hl : fm a < 4503599627370496 := Nat.mod_lt _ (by decide)
  rw [show (4503599627370496 : Int) = ((4503599627370496 : Nat) : Int) from rfl, u64_or_nat _ _ (by omega) (by omega)]
  have := Nat.two_pow_add_eq_or_of_lt (i := 52) hl 1
  rw [Nat.mul_one] at this
  rw [Nat.or_comm, Nat.add_comm]
  exact congrArg Int.ofNat this.symm
theorem tM_lt (a : Nat) : tM a < 9007199254740992 := by
  have hl : fm a < 4503599627370496 := Nat.mod_lt _ (by decide)
  unfold tM; split <;> omega
theorem tE_bd (a : Nat) : -1074 ≤ tE a ∧ tE a ≤ 972 := by
  have hl : fx a < 2048 := Nat.mod_lt _ (by decide)
  unfold tE; split <;> omega
set_option maxHeartbeats 400000 in
theorem oddPow_as (a M z o : Nat) (E : Int) (h : a < 18446744073709551616) (hM : tM a = M) (hE : tE a = E) (hz : Lib.ctz 64 M = z) (hz64 : z < 64) (ho : M / 2 ^ z = o) (h0 : M ≠ 0) (w : World) (hT : Tab64 w) :
    Calls Tryz.prog 300 #[.int .u64 (a : Int)] w fun e' w' => e' = .returned (.tuple #[.int .u64 (o : Int), .int .i64 (E + (z : Int))]) ∧ w' = w := by
  have hMl := tM_lt a
  have hEb := tE_bd a
  rw [hM] at hMl
  rw [hE] at hEb
  have e1 : (M : Int) / 2 ^ z = (o : Int) := by rw [← ho, Int.natCast_ediv]; simp
  have HZ := Lib.hid (tz_ctz M (by omega) h0 w hT)
  rw [hz] at HZ
  have hx := fields_any a h
  have hl : fx a < 2048 := Nat.mod_lt _ (by decide)
  have hw : IntKind.i64.wrap (fx a : Int) = (fx a : Int) := by rw [IntKind.wrap_i64]; omega
  have HF := Lib.hid hx
  clear hT hx hz
  unfold tM at hM
  unfold tE at hE
  by_cases hx0 : fx a = 0
  · rw [if_pos hx0] at hM hE
    have hb : ((fx a : Int) == 0) = true := beqN_t (y := 0) hx0
    rw [hM] at HF
    clear hx0
    go_enter Tryz.func300, Tryz.ntmps300
    go_wp2_with (first
      | (go_at_call 291; refine (HF.out _).mono ?_; rintro e w' ⟨rfl, rfl⟩)
      | (go_at_call 310; refine HZ.out.mono ?_; rintro e w' ⟨rfl, rfl⟩))
    go_ret2
    exact ⟨rfl, rfl⟩
  · rw [if_neg hx0] at hM hE
    have hb : ((fx a : Int) == 0) = false := by rw [beq_eq_false_iff_ne]; omega
    have hb2 : ((fx a : Int) != 0) = true := by rw [bne_iff_ne]; omega
    have hor := tHalf a
    rw [hM] at hor
    clear hx0
    go_enter Tryz.func300, Tryz.ntmps300
    go_wp2_with (first
      | (go_at_call 291; refine (HF.out _).mono ?_; rintro e w' ⟨rfl, rfl⟩)
      | (go_at_call 310; refine HZ.out.mono ?_; rintro e w' ⟨rfl, rfl⟩))
    have e2 : -1074 + (fx a : Int) - 1 = E := by omega
    go_ret2
    exact ⟨by rw [e2]; rfl, rfl⟩
/-- the odd number and the power -/
def oN (a : Nat) : Nat := tM a / 2 ^ Lib.ctz 64 (tM a)
def pN (a : Nat) : Int := tE a + (Lib.ctz 64 (tM a) : Int)
def amtB (a : Nat) : ByteArray := if clsN a = 0 then ⟨#[110, 97, 110]⟩ else if clsN a = 1 then ⟨#[105, 110, 102]⟩ else if clsN a = 2 then ⟨#[48]⟩ else (⟨(Lib.decDigits (oN a)).toArray⟩ : ByteArray) ++ ⟨#[112]⟩ ++ ⟨(Lib.itoa (pN a)).toArray⟩
def textB (a : Nat) : ByteArray := if Gn.canonW a < 9223372036854775808 then amtB (Gn.canonW a) else (⟨#[45]⟩ : ByteArray) ++ amtB (Gn.canonW a % 9223372036854775808)
theorem ctz_lt (M : Nat) (h0 : M ≠ 0) (hl : M < 18446744073709551616) : Lib.ctz 64 M < 64 := by
  obtain ⟨m, _, h⟩ := Lib.ctzFrom_spec 64 M (by omega) hl
  unfold Lib.ctz
  rw [if_neg h0]
  exact h
theorem tM_ne (a : Nat) (h : 3 ≤ clsN a) : tM a ≠ 0 := by
  unfold tM
  rcases cls_cases a with ⟨_, _, h3⟩ | ⟨_, _, h3⟩ | ⟨_, _, h3⟩ | ⟨h1, h2, _⟩ | ⟨_, h2, _⟩
  · omega
  · omega
  · omega
  · rw [if_pos h1]; exact h2
  · rw [if_neg h2]; omega
theorem itoa_len (n : Int) (h1 : -2000 ≤ n) (h2 : n ≤ 2000) : (Lib.itoa n).length ≤ 21 := by
  unfold Lib.itoa
  split
  · have := nd_le n.natAbs (by omega); simp; omega
  · have := nd_le n.toNat (by omega); omega
theorem amt_size (a : Nat) : (amtB a).size ≤ 100 := by
  unfold amtB
  split
  · decide
  split
  · decide
  split
  · decide
  · next h1 h2 h3 =>
    have hc : 3 ≤ clsN a := by omega
    have hM := tM_lt a
    have hz := ctz_lt (tM a) (tM_ne a hc) (by omega)
    have hE := tE_bd a
    have ho : oN a ≤ tM a := Nat.div_le_self _ _
    have l1 := nd_le (oN a) (by omega)
    have l2 := itoa_len (pN a) (by unfold pN; omega) (by unfold pN; omega)
    simp only [ByteArray.size_append]
    show (Lib.decDigits (oN a)).toArray.size + 1 + (Lib.itoa (pN a)).toArray.size ≤ 100
    simp
    omega

set_option maxHeartbeats 400000 in
theorem amountText_any (a : Nat) (h : a < 18446744073709551616) (w : World) (hT : Tab64 w) (hT2 : Tab10 w) :
    Calls Tryz.prog 292 #[.int .u64 (a : Int)] w fun e w' => e = .returned (.string (amtB a)) ∧ Below w.heap.size w w' := by
  have HC := Lib.hid (class_any a h)
  by_cases c0 : clsN a = 0
  · have e : amtB a = ⟨#[110, 97, 110]⟩ := if_pos c0
    rw [e]
    rw [c0] at HC
    go_enter Tryz.func292, Tryz.ntmps292
    go_wp2_with (go_at_call 269; refine (HC.out _).mono ?_; rintro e w' ⟨rfl, rfl⟩)
    go_ret
    exact ⟨rfl, Below.refl _ _⟩
  by_cases c1 : clsN a = 1
  · have e : amtB a = ⟨#[105, 110, 102]⟩ := by unfold amtB; rw [if_neg c0, if_pos c1]
    rw [e]
    rw [c1] at HC
    go_enter Tryz.func292, Tryz.ntmps292
    go_wp2_with (go_at_call 269; refine (HC.out _).mono ?_; rintro e w' ⟨rfl, rfl⟩)
    go_ret
    exact ⟨rfl, Below.refl _ _⟩
  by_cases c2 : clsN a = 2
  · have e : amtB a = ⟨#[48]⟩ := by unfold amtB; rw [if_neg c0, if_neg c1, if_pos c2]
    rw [e]
    rw [c2] at HC
    go_enter Tryz.func292, Tryz.ntmps292
    go_wp2_with (go_at_call 269; refine (HC.out _).mono ?_; rintro e w' ⟨rfl, rfl⟩)
    go_ret
    exact ⟨rfl, Below.refl _ _⟩
  have e : amtB a = (⟨(Lib.decDigits (oN a)).toArray⟩ : ByteArray) ++ ⟨#[112]⟩ ++ ⟨(Lib.itoa (pN a)).toArray⟩ := by unfold amtB; rw [if_neg c0, if_neg c1, if_neg c2]
  rw [e]
  clear e
  have hc : 3 ≤ clsN a := by omega
  have b0 : ((clsN a : Int) == 0) = false := by rw [beq_eq_false_iff_ne]; omega
  have b1 : ((clsN a : Int) == 1) = false := by rw [beq_eq_false_iff_ne]; omega
  have b2 : ((clsN a : Int) == 2) = false := by rw [beq_eq_false_iff_ne]; omega
  have hM := tM_lt a
  have hz := ctz_lt (tM a) (tM_ne a hc) (by omega)
  have hE := tE_bd a
  have ho : oN a ≤ tM a := Nat.div_le_self _ _
  have HO := Lib.hid (oddPow_as a (tM a) (Lib.ctz 64 (tM a)) (oN a) (tE a) h rfl rfl rfl hz rfl (tM_ne a hc) w hT)
  have HP : Hid (pN a = tE a + (Lib.ctz 64 (tM a) : Int)) := rfl
  rw [← HP.out] at HO
  have hp1 : -2000 ≤ pN a := by have := HP.out; omega
  have hp2 : pN a ≤ 2000 := by have := HP.out; omega
  have HU := Lib.hid (formatUint_any (oN a) (by omega) w hT2)
  have HI := Lib.hid (fun w1 (hb : Below w.heap.size w w1) => itoa_any (pN a) (by omega) (by omega) w1 (tab10_below hT2 hb))
  have l1 := nd_le (oN a) (by omega)
  have l2 := itoa_len (pN a) hp1 hp2
  have hadd1 : ∀ w1 : World, (Op.stringOp .add ⟨(Lib.decDigits (oN a)).toArray⟩ ⟨#[112]⟩).run Tryz.prog w1 = .ok (.string ((⟨(Lib.decDigits (oN a)).toArray⟩ : ByteArray) ++ ⟨#[112]⟩)) w1 := fun w1 =>
    run_string_add_sum w1 _ _ (by show (Lib.decDigits (oN a)).toArray.size + 1 ≤ _; simp; omega)
  have hadd2 : ∀ w1 : World, (Op.stringOp .add ((⟨(Lib.decDigits (oN a)).toArray⟩ : ByteArray) ++ ⟨#[112]⟩) ⟨(Lib.itoa (pN a)).toArray⟩).run Tryz.prog w1 = .ok (.string ((⟨(Lib.decDigits (oN a)).toArray⟩ : ByteArray) ++ ⟨#[112]⟩ ++ ⟨(Lib.itoa (pN a)).toArray⟩)) w1 := fun w1 =>
    run_string_add_sum w1 _ _ (by rw [ByteArray.size_append]; show (Lib.decDigits (oN a)).toArray.size + 1 + (Lib.itoa (pN a)).toArray.size ≤ _; simp; omega)
  generalize (⟨(Lib.decDigits (oN a)).toArray⟩ : ByteArray) ++ ⟨#[112]⟩ ++ ⟨(Lib.itoa (pN a)).toArray⟩ = s2 at *
  generalize (⟨(Lib.decDigits (oN a)).toArray⟩ : ByteArray) ++ ⟨#[112]⟩ = s1 at *
  generalize (⟨(Lib.decDigits (oN a)).toArray⟩ : ByteArray) = d1 at *
  generalize (⟨(Lib.itoa (pN a)).toArray⟩ : ByteArray) = d2 at *
  clear hT hT2 hM hz hE ho c0 c1 c2 hc HP l1 l2
  go_enter Tryz.func292, Tryz.ntmps292
  go_wp2_with fail
  refine (HC.out _).mono ?_
  rintro e w1 ⟨rfl, rfl⟩
  go_wp2_with fail
  refine HO.out.mono ?_
  rintro e w1 ⟨rfl, rfl⟩
  go_wp2_with fail
  refine HU.out.mono ?_
  rintro e w2 ⟨rfl, hb2⟩
  go_wp2_with fail
  refine (HI.out _ hb2).mono ?_
  rintro e w3 ⟨rfl, hb3⟩
  have HB := Lib.hid (hb2.trans (hb3.mono hb2.size))
  clear hb2 hb3
  go_wp2_with fail
  go_ret
  exact ⟨rfl, HB.out⟩
end Go.Proofs.YtkfnedhllfdghaaGreatDoor
end

section
namespace Go.Proofs.YtkfnedhllfdghaaGreatDoor
set_option maxRecDepth 20000
open Go.RowKit

theorem sgn_and (a : Nat) (h : a < 18446744073709551616) : bits .and .u64 (a : Int) 9223372036854775808 = ((if a < 9223372036854775808 then 0 else 9223372036854775808 : Nat) : Int) := by
  rw [show (9223372036854775808 : Int) = ((9223372036854775808 : Nat) : Int) from rfl, bits_and_u64_nat a _ h (by decide)]
  congr 1
  apply Nat.eq_of_testBit_eq
  intro i
  rw [Nat.testBit_and, show (9223372036854775808 : Nat) = 2 ^ 63 from rfl, Nat.testBit_two_pow]
  by_cases hi : 63 = i
  · subst hi
    rw [Nat.testBit_eq_decide_div_mod_eq]
    by_cases hs : a < 2 ^ 63
    · rw [if_pos hs, decide_eq_false (by omega)]; rfl
    · rw [if_neg hs, decide_eq_true (by omega), Nat.testBit_two_pow]; simp
  · rw [decide_eq_false hi, Bool.and_false]
    split
    · simp
    · rw [Nat.testBit_two_pow, decide_eq_false hi]
set_option maxHeartbeats 400000 in
theorem text_any (a : Nat) (h : a < 18446744073709551616) (w : World) (hT : Tab64 w) (hT2 : Tab10 w) :
    Calls Tryz.prog 275 #[.int .u64 (a : Int)] w fun e w' => e = .returned (.string (textB a)) ∧ Below w.heap.size w w' := by
  have HC := Lib.hid (canon_any a h)
  have hc : Gn.canonW a < 18446744073709551616 := by unfold Gn.canonW; split <;> omega
  unfold textB
  generalize Gn.canonW a = c at *
  have hs := sgn_and c hc
  have hn := abs_andNot c hc
  by_cases h0 : c < 9223372036854775808
  · rw [if_pos h0]
    rw [if_pos h0] at hs
    have HA := Lib.hid (amountText_any c hc w hT hT2)
    clear h0 hT hT2
    generalize amtB c = s at *
    go_enter Tryz.func275, Tryz.ntmps275
    go_wp2_with (first
      | (go_at_call 250; refine (HC.out _).mono ?_; rintro e w' ⟨rfl, rfl⟩)
      | (go_at_call 292; refine HA.out.mono ?_; rintro e w' ⟨rfl, hb⟩))
    go_ret
    exact ⟨rfl, hb⟩
  · rw [if_neg h0]
    rw [if_neg h0] at hs
    have hsz := amt_size (c % 9223372036854775808)
    have HA := Lib.hid (amountText_any (c % 9223372036854775808) (by omega) w hT hT2)
    have hadd : ∀ w1 : World, (Op.stringOp .add ⟨#[45]⟩ (amtB (c % 9223372036854775808))).run Tryz.prog w1 = .ok (.string ((⟨#[45]⟩ : ByteArray) ++ amtB (c % 9223372036854775808))) w1 := fun w1 =>
      run_string_add_sum w1 _ _ (by show 1 + (amtB (c % 9223372036854775808)).size ≤ _; omega)
    clear h0 hT hT2
    generalize (⟨#[45]⟩ : ByteArray) ++ amtB (c % 9223372036854775808) = t at *
    generalize amtB (c % 9223372036854775808) = s at *
    go_enter Tryz.func275, Tryz.ntmps275
    go_wp2_with (first
      | (go_at_call 250; refine (HC.out _).mono ?_; rintro e w' ⟨rfl, rfl⟩)
      | (go_at_call 292; refine HA.out.mono ?_; rintro e w' ⟨rfl, hb⟩))
    go_ret
    exact ⟨rfl, hb⟩
end Go.Proofs.YtkfnedhllfdghaaGreatDoor
end

section
namespace Go.Proofs.YtkfnedhllfdghaaGreatDoor
open Gn Ieee

/-- what canonW does -/
theorem canon_or (a : Nat) : (canonW a = a ∧ ¬ 9218868437227405312 < a % 9223372036854775808) ∨ (canonW a = 9221120237041090561 ∧ 9218868437227405312 < a % 9223372036854775808) := by
  unfold canonW
  by_cases h : 9218868437227405312 < a % 9223372036854775808
  · right; rw [if_pos h]; exact ⟨rfl, h⟩
  · left; rw [if_neg h]; exact ⟨rfl, h⟩
theorem canon_idem (a : Nat) : canonW (canonW a) = canonW a := by
  rcases canon_or a with ⟨h, _⟩ | ⟨h, _⟩
  · rw [h, h]
  · rw [h]; exact canon_nan
theorem isnan_of (a : Nat) (h : a < 18446744073709551616) (hn : 9218868437227405312 < a % 9223372036854775808) : IsNan (double.read a) := by
  obtain ⟨s, r, hr, rfl⟩ := wd_cases a h
  rw [wd_mod s r hr] at hn
  rw [read_wd s r hr, rd_nan s r hn]
  exact ⟨_, _, rfl⟩
section
variable (a b : Nat) (ha : a < 18446744073709551616) (hb : b < 18446744073709551616)
include ha hb
theorem heed_add : addW (canonW a) (canonW b) = addW a b := by
  simp only [add_ans]
  rcases canon_or a with ⟨h, _⟩ | ⟨h, hn⟩
  · rw [h]
    rcases canon_or b with ⟨k, _⟩ | ⟨k, kn⟩
    · rw [k]
    · rw [k, sum_nan_right _ nan_NAN, sum_nan_right _ (isnan_of b hb kn)]
  · rw [h, sum_nan_left _ nan_NAN, sum_nan_left _ (isnan_of a ha hn)]
theorem heed_mul : mulW (canonW a) (canonW b) = mulW a b := by
  simp only [mul_ans]
  rcases canon_or a with ⟨h, _⟩ | ⟨h, hn⟩
  · rw [h]
    rcases canon_or b with ⟨k, _⟩ | ⟨k, kn⟩
    · rw [k]
    · rw [k, product_nan_right _ nan_NAN, product_nan_right _ (isnan_of b hb kn)]
  · rw [h, product_nan_left _ nan_NAN, product_nan_left _ (isnan_of a ha hn)]
theorem heed_div : divW (canonW a) (canonW b) = divW a b := by
  simp only [div_ans]
  rcases canon_or a with ⟨h, _⟩ | ⟨h, hn⟩
  · rw [h]
    rcases canon_or b with ⟨k, _⟩ | ⟨k, kn⟩
    · rw [k]
    · rw [k, quotient_nan_right _ _ nan_NAN, quotient_nan_right _ _ (isnan_of b hb kn)]
  · rw [h, quotient_nan_left _ _ nan_NAN, quotient_nan_left _ _ (isnan_of a ha hn)]
end
theorem heed_rank (a : Nat) : rankW (canonW a) = rankW a := by unfold rankW; rw [canon_idem]
theorem heed_ord (a b : Nat) : ordW (canonW a) (canonW b) = ordW a b := by unfold ordW; rw [heed_rank, heed_rank]
theorem heed_neg (a : Nat) (ha : a < 18446744073709551616) : negW (canonW a) = negW a := by
  rcases canon_or a with ⟨h, _⟩ | ⟨h, hn⟩
  · rw [h]
  · obtain ⟨s, r, hr, rfl⟩ := wd_cases a ha
    rw [wd_mod s r hr] at hn
    rw [h, neg_NAN, neg_wd s r hr, if_pos hn]
theorem heed_abs (a : Nat) (ha : a < 18446744073709551616) : absW (canonW a) = absW a := by
  rcases canon_or a with ⟨h, _⟩ | ⟨h, hn⟩
  · rw [h]
  · obtain ⟨s, r, hr, rfl⟩ := wd_cases a ha
    rw [wd_mod s r hr] at hn
    rw [h, abs_wd s r hr, if_pos hn]
    decide
theorem heed_sub (a b : Nat) (ha : a < 18446744073709551616) (hb : b < 18446744073709551616) : subW (canonW a) (canonW b) = subW a b := by
  unfold subW
  rw [heed_neg b hb]
  have h := heed_add a (negW b) ha (neg_lt b hb)
  have e : canonW (negW b) = negW b := canon_idem _
  rw [e] at h
  exact h
theorem heed_cls (a : Nat) : clsN (canonW a) = clsN a := by
  rcases canon_or a with ⟨h, _⟩ | ⟨h, hn⟩
  · rw [h]
  · rw [h, (cls_nan a).2 hn]; decide
theorem heed_text (a : Nat) : textB (canonW a) = textB a := by unfold textB; rw [canon_idem]
theorem heed_floor (a : Nat) : floorW (canonW a) = floorW a := by
  rcases canon_or a with ⟨h, _⟩ | ⟨h, hn⟩
  · rw [h]
  · rw [h]; unfold floorW; rw [if_pos hn, if_pos (by decide)]
theorem heed_any (a b : Nat) : anyN (canonW a) (canonW b) = anyN a b := by unfold anyN; rw [heed_cls, heed_cls]
theorem any_not {a b : Nat} (h : ¬ anyN a b = true) : canonW a = a ∧ canonW b = b := by
  have h1 : clsN a ≠ 0 ∧ clsN b ≠ 0 := by unfold anyN at h; simpa using h
  refine ⟨?_, ?_⟩
  · rcases canon_or a with ⟨k, _⟩ | ⟨_, kn⟩
    · exact k
    · exact absurd ((cls_nan a).2 kn) h1.1
  · rcases canon_or b with ⟨k, _⟩ | ⟨_, kn⟩
    · exact k
    · exact absurd ((cls_nan b).2 kn) h1.2
theorem heed_min (a b : Nat) : minW (canonW a) (canonW b) = minW a b := by
  unfold minW
  rw [heed_any, heed_rank, heed_rank]
  by_cases h : anyN a b = true
  · rw [if_pos h, if_pos h]
  · rw [if_neg h, if_neg h, (any_not h).1, (any_not h).2]
theorem heed_max (a b : Nat) : maxW (canonW a) (canonW b) = maxW a b := by
  unfold maxW
  rw [heed_any, heed_rank, heed_rank]
  by_cases h : anyN a b = true
  · rw [if_pos h, if_pos h]
  · rw [if_neg h, if_neg h, (any_not h).1, (any_not h).2]
theorem canon_min (a b : Nat) : canonW (minW a b) = minW a b := by
  unfold minW
  by_cases h : anyN a b = true
  · rw [if_pos h]; exact canon_nan
  · rw [if_neg h]; split
    · exact (any_not h).2
    · exact (any_not h).1
theorem canon_max (a b : Nat) : canonW (maxW a b) = maxW a b := by
  unfold maxW
  by_cases h : anyN a b = true
  · rw [if_pos h]; exact canon_nan
  · rw [if_neg h]; split
    · exact (any_not h).2
    · exact (any_not h).1
theorem min_lt (a b : Nat) (ha : a < 18446744073709551616) (hb : b < 18446744073709551616) : minW a b < 18446744073709551616 := by
  unfold minW; split
  · decide
  · split <;> assumption
theorem max_lt (a b : Nat) (ha : a < 18446744073709551616) (hb : b < 18446744073709551616) : maxW a b < 18446744073709551616 := by
  unfold maxW; split
  · decide
  · split <;> assumption
theorem canon_floor (a : Nat) (ha : a < 18446744073709551616) : canonW (floorW a) = floorW a := by
  unfold floorW
  by_cases h : 9218868437227405312 < a % 9223372036854775808
  · rw [if_pos h]; exact canon_nan
  · rw [if_neg h]
    obtain ⟨s, r, hr, rfl⟩ := wd_cases a ha
    rw [wd_mod s r hr] at h
    exact flr_canon _ (by rw [read_wd s r hr]; exact rd_ok s r h)
theorem floor_lt (a : Nat) : floorW a < 18446744073709551616 := by
  unfold floorW; split
  · decide
  · exact flr_lt a
/-- a canonical word whose class is NaN is the NaN -/
theorem canon_word (v : Nat) (h : canonW v = v) (hc : clsN v = 0) : v = 9221120237041090561 := by
  rcases canon_or v with ⟨_, k⟩ | ⟨k, _⟩
  · exact absurd ((cls_nan v).1 hc) k
  · rw [← h]; exact k
end Go.Proofs.YtkfnedhllfdghaaGreatDoor
end
