import Derived.Test.YtpgehocadohkiaaGreatDoorMgAH
import Derived.Test.YtpgehocadohkiaaGreatDoorMgAK
import Derived.Shelf.Spec.TrailingZeros
import Derived.Test.YtpgehocadohkiaaGreatDoorMgAL

section
namespace Go.Proofs.YtpgehocadohkiaaGreatDoor
open Go.RowKit

/-- the table of the trailing zeros -/
abbrev Tab64 (w : World) : Prop := TabAt 4 Lib.deBruijn64tab w
theorem tz_ctz (x : Nat) (hx : x < 18446744073709551616) (h0 : x ≠ 0) (w : World) (hT : Tab64 w) :
    Calls Tryz.prog 182 #[.int .u64 (x : Int)] w fun e w' => e = .returned (.int .i64 (Lib.ctz 64 x : Int)) ∧ w' = w := by
  obtain ⟨hlow, hk⟩ := Lib.lowest_bit 64 x h0 hx
  obtain ⟨hi, htab⟩ := Lib.deBruijn64_at _ hk
  have hcell := hT _ hi
  rw [htab] at hcell
  exact tz_any x _ _ w (by simp; omega) (tz64_key x _ hx h0 hlow) hi (by omega) hcell
/-- the whole number and the power that a word stands for -/
def tM (a : Nat) : Nat := if fx a = 0 then fm a else fm a + 4503599627370496
def tE (a : Nat) : Int := if fx a = 0 then -1074 else (fx a : Int) - 1075
theorem tHalf (a : Nat) : bits .or .u64 (fm a : Int) 4503599627370496 = ((fm a + 4503599627370496 : Nat) : Int) := by
  have hl : fm a < 4503599627370496 := Nat.mod_lt _ (by decide)
  rw [show (4503599627370496 : Int) = ((4503599627370496 : Nat) : Int) from rfl, u64_or_nat _ _ (by omega) (by omega)]
  have := Nat.two_pow_add_eq_or_of_lt (i := 52) hl 1
  rw [Nat.mul_one] at this
  rw [Nat.or_comm, Nat.add_comm]
  exact congrArg Int.ofNat this.symm
theorem tM_lt (a : Nat) : tM a < 9007199254740992 := by
  have hl : fm a < 4503599627370496 := Nat.mod_lt _ (by decide)
  unfold tM; split <;> omega
theorem tE_bd (a : Nat) : -1074 ≤ tE a ∧ tE a ≤ 972 := by
  have hl : fx a < 2048 := Nat.mod_lt _ (by decide)
  unfold tE; split <;> omega
set_option maxHeartbeats 400000 in
theorem oddPow_as (a M z o : Nat) (E : Int) (h : a < 18446744073709551616) (hM : tM a = M) (hE : tE a = E) (hz : Lib.ctz 64 M = z) (hz64 : z < 64) (ho : M / 2 ^ z = o) (h0 : M ≠ 0) (w : World) (hT : Tab64 w) :
    Calls Tryz.prog 157 #[.int .u64 (a : Int)] w fun e' w' => e' = .returned (.tuple #[.int .u64 (o : Int), .int .i64 (E + (z : Int))]) ∧ w' = w := by
  have hMl := tM_lt a
  have hEb := tE_bd a
  rw [hM] at hMl
  rw [hE] at hEb
  have e1 : (M : Int) / 2 ^ z = (o : Int) := by rw [← ho, Int.natCast_ediv]; simp
  have HZ := Lib.hid (tz_ctz M (by omega) h0 w hT)
  rw [hz] at HZ
  have hx := fields_any a h
  have hl : fx a < 2048 := Nat.mod_lt _ (by decide)
  have hw : IntKind.i64.wrap (fx a : Int) = (fx a : Int) := by rw [IntKind.wrap_i64]; omega
  have HF := Lib.hid hx
  clear hT hx hz
  unfold tM at hM
  unfold tE at hE
  by_cases hx0 : fx a = 0
  · rw [if_pos hx0] at hM hE
    have hb : ((fx a : Int) == 0) = true := beqN_t (y := 0) hx0
    rw [hM] at HF
    clear hx0
    go_enter Tryz.func157, Tryz.ntmps157
    go_wp2_with (first
      | (go_at_call 180; refine (HF.out _).mono ?_; rintro e w' ⟨rfl, rfl⟩)
      | (go_at_call 182; refine HZ.out.mono ?_; rintro e w' ⟨rfl, rfl⟩))
    go_ret2
    exact ⟨rfl, rfl⟩
  · rw [if_neg hx0] at hM hE
    have hb : ((fx a : Int) == 0) = false := by rw [beq_eq_false_iff_ne]; omega
    have hb2 : ((fx a : Int) != 0) = true := by rw [bne_iff_ne]; omega
    have hor := tHalf a
    rw [hM] at hor
    clear hx0
    go_enter Tryz.func157, Tryz.ntmps157
    go_wp2_with (first
      | (go_at_call 180; refine (HF.out _).mono ?_; rintro e w' ⟨rfl, rfl⟩)
      | (go_at_call 182; refine HZ.out.mono ?_; rintro e w' ⟨rfl, rfl⟩))
    have e2 : -1074 + (fx a : Int) - 1 = E := by omega
    go_ret2
    exact ⟨by rw [e2]; rfl, rfl⟩
/-- the odd number and the power -/
def oN (a : Nat) : Nat := tM a / 2 ^ Lib.ctz 64 (tM a)
def pN (a : Nat) : Int := tE a + (Lib.ctz 64 (tM a) : Int)
def amtB (a : Nat) : ByteArray := if clsN a = 0 then ⟨#[110, 97, 110]⟩ else if clsN a = 1 then ⟨#[105, 110, 102]⟩ else if clsN a = 2 then ⟨#[48]⟩ else (⟨(Lib.decDigits (oN a)).toArray⟩ : ByteArray) ++ ⟨#[112]⟩ ++ ⟨(Lib.itoa (pN a)).toArray⟩
def textB (a : Nat) : ByteArray := if Gn.canonW a < 9223372036854775808 then amtB (Gn.canonW a) else (⟨#[45]⟩ : ByteArray) ++ amtB (Gn.canonW a % 9223372036854775808)
theorem ctz_lt (M : Nat) (h0 : M ≠ 0) (hl : M < 18446744073709551616) : Lib.ctz 64 M < 64 := by
  obtain ⟨m, _, h⟩ := Lib.ctzFrom_spec 64 M (by omega) hl
  unfold Lib.ctz
  rw [if_neg h0]
  exact h
theorem tM_ne (a : Nat) (h : 3 ≤ clsN a) : tM a ≠ 0 := by
  unfold tM
  rcases cls_cases a with ⟨_, _, h3⟩ | ⟨_, _, h3⟩ | ⟨_, _, h3⟩ | ⟨h1, h2, _⟩ | ⟨_, h2, _⟩
  · omega
  · omega
  · omega
  · rw [if_pos h1]; exact h2
  · rw [if_neg h2]; omega
theorem itoa_len (n : Int) (h1 : -2000 ≤ n) (h2 : n ≤ 2000) : (Lib.itoa n).length ≤ 21 := by
  unfold Lib.itoa
  split
  · have := nd_le n.natAbs (by omega); simp; omega
  · have := nd_le n.toNat (by omega); omega
theorem amt_size (a : Nat) : (amtB a).size ≤ 100 := by
  unfold amtB
  split
  · decide
  split
  · decide
  split
  · decide
  · next h1 h2 h3 =>
    have hc : 3 ≤ clsN a := by omega
    have hM := tM_lt a
    have hz := ctz_lt (tM a) (tM_ne a hc) (by omega)
    have hE := tE_bd a
    have ho : oN a ≤ tM a := Nat.div_le_self _ _
    have l1 := nd_le (oN a) (by omega)
    have l2 := itoa_len (pN a) (by unfold pN; omega) (by unfold pN; omega)
    simp only [ByteArray.size_append]
    show (Lib.decDigits (oN a)).toArray.size + 1 + (Lib.itoa (pN a)).toArray.size ≤ 100
    simp
    omega

set_option maxHeartbeats 400000 in
theorem amountText_any (a : Nat) (h : a < 18446744073709551616) (w : World) (hT : Tab64 w) (hT2 : Tab10 w) :
    Calls Tryz.prog 99 #[.int .u64 (a : Int)] w fun e w' => e = .returned (.string (amtB a)) ∧ Below w.heap.size w w' := by
  have HC := Lib.hid (class_any a h)
  by_cases c0 : clsN a = 0
  · have e : amtB a = ⟨#[110, 97, 110]⟩ := if_pos c0
    rw [e]
    rw [c0] at HC
    go_enter Tryz.func99, Tryz.ntmps99
    go_wp2_with (go_at_call 151; refine (HC.out _).mono ?_; rintro e w' ⟨rfl, rfl⟩)
    go_ret
    exact ⟨rfl, Below.refl _ _⟩
  by_cases c1 : clsN a = 1
  · have e : amtB a = ⟨#[105, 110, 102]⟩ := by unfold amtB; rw [if_neg c0, if_pos c1]
    rw [e]
    rw [c1] at HC
    go_enter Tryz.func99, Tryz.ntmps99
    go_wp2_with (go_at_call 151; refine (HC.out _).mono ?_; rintro e w' ⟨rfl, rfl⟩)
    go_ret
    exact ⟨rfl, Below.refl _ _⟩
  by_cases c2 : clsN a = 2
  · have e : amtB a = ⟨#[48]⟩ := by unfold amtB; rw [if_neg c0, if_neg c1, if_pos c2]
    rw [e]
    rw [c2] at HC
    go_enter Tryz.func99, Tryz.ntmps99
    go_wp2_with (go_at_call 151; refine (HC.out _).mono ?_; rintro e w' ⟨rfl, rfl⟩)
    go_ret
    exact ⟨rfl, Below.refl _ _⟩
  have e : amtB a = (⟨(Lib.decDigits (oN a)).toArray⟩ : ByteArray) ++ ⟨#[112]⟩ ++ ⟨(Lib.itoa (pN a)).toArray⟩ := by unfold amtB; rw [if_neg c0, if_neg c1, if_neg c2]
  rw [e]
  clear e
  have hc : 3 ≤ clsN a := by omega
  have b0 : ((clsN a : Int) == 0) = false := by rw [beq_eq_false_iff_ne]; omega
  have b1 : ((clsN a : Int) == 1) = false := by rw [beq_eq_false_iff_ne]; omega
  have b2 : ((clsN a : Int) == 2) = false := by rw [beq_eq_false_iff_ne]; omega
  have hM := tM_lt a
  have hz := ctz_lt (tM a) (tM_ne a hc) (by omega)
  have hE := tE_bd a
  have ho : oN a ≤ tM a := Nat.div_le_self _ _
  have HO := Lib.hid (oddPow_as a (tM a) (Lib.ctz 64 (tM a)) (oN a) (tE a) h rfl rfl rfl hz rfl (tM_ne a hc) w hT)
  have HP : Hid (pN a = tE a + (Lib.ctz 64 (tM a) : Int)) := rfl
  rw [← HP.out] at HO
  have hp1 : -2000 ≤ pN a := by have := HP.out; omega
  have hp2 : pN a ≤ 2000 := by have := HP.out; omega
  have HU := Lib.hid (formatUint_any (oN a) (by omega) w hT2)
  have HI := Lib.hid (fun w1 (hb : Below w.heap.size w w1) => itoa_any (pN a) (by omega) (by omega) w1 (tab10_below hT2 hb))
  have l1 := nd_le (oN a) (by omega)
  have l2 := itoa_len (pN a) hp1 hp2
  have hadd1 : ∀ w1 : World, (Op.stringOp .add ⟨(Lib.decDigits (oN a)).toArray⟩ ⟨#[112]⟩).run Tryz.prog w1 = .ok (.string ((⟨(Lib.decDigits (oN a)).toArray⟩ : ByteArray) ++ ⟨#[112]⟩)) w1 := fun w1 =>
    run_string_add_sum w1 _ _ (by show (Lib.decDigits (oN a)).toArray.size + 1 ≤ _; simp; omega)
  have hadd2 : ∀ w1 : World, (Op.stringOp .add ((⟨(Lib.decDigits (oN a)).toArray⟩ : ByteArray) ++ ⟨#[112]⟩) ⟨(Lib.itoa (pN a)).toArray⟩).run Tryz.prog w1 = .ok (.string ((⟨(Lib.decDigits (oN a)).toArray⟩ : ByteArray) ++ ⟨#[112]⟩ ++ ⟨(Lib.itoa (pN a)).toArray⟩)) w1 := fun w1 =>
    run_string_add_sum w1 _ _ (by rw [ByteArray.size_append]; show (Lib.decDigits (oN a)).toArray.size + 1 + (Lib.itoa (pN a)).toArray.size ≤ _; simp; omega)
  generalize (⟨(Lib.decDigits (oN a)).toArray⟩ : ByteArray) ++ ⟨#[112]⟩ ++ ⟨(Lib.itoa (pN a)).toArray⟩ = s2 at *
  generalize (⟨(Lib.decDigits (oN a)).toArray⟩ : ByteArray) ++ ⟨#[112]⟩ = s1 at *
  generalize (⟨(Lib.decDigits (oN a)).toArray⟩ : ByteArray) = d1 at *
  generalize (⟨(Lib.itoa (pN a)).toArray⟩ : ByteArray) = d2 at *
  clear hT hT2 hM hz hE ho c0 c1 c2 hc HP l1 l2
  go_enter Tryz.func99, Tryz.ntmps99
  go_wp2_with fail
  refine (HC.out _).mono ?_
  rintro e w1 ⟨rfl, rfl⟩
  go_wp2_with fail
  refine HO.out.mono ?_
  rintro e w1 ⟨rfl, rfl⟩
  go_wp2_with fail
  refine HU.out.mono ?_
  rintro e w2 ⟨rfl, hb2⟩
  go_wp2_with fail
  refine (HI.out _ hb2).mono ?_
  rintro e w3 ⟨rfl, hb3⟩
  have HB := Lib.hid (hb2.trans (hb3.mono hb2.size))
  clear hb2 hb3
  go_wp2_with fail
  go_ret
  exact ⟨rfl, HB.out⟩
end Go.Proofs.YtpgehocadohkiaaGreatDoor
end

section
namespace Go.Proofs.YtpgehocadohkiaaGreatDoor
open Go.RowKit

theorem sgn_and (a : Nat) (h : a < 18446744073709551616) : bits .and .u64 (a : Int) 9223372036854775808 = ((if a < 9223372036854775808 then 0 else 9223372036854775808 : Nat) : Int) := by
  rw [show (9223372036854775808 : Int) = ((9223372036854775808 : Nat) : Int) from rfl, bits_and_u64_nat a _ h (by decide)]
  congr 1
  apply Nat.eq_of_testBit_eq
  intro i
  rw [Nat.testBit_and, show (9223372036854775808 : Nat) = 2 ^ 63 from rfl, Nat.testBit_two_pow]
  by_cases hi : 63 = i
  · subst hi
    rw [Nat.testBit_eq_decide_div_mod_eq]
    by_cases hs : a < 2 ^ 63
    · rw [if_pos hs, decide_eq_false (by omega)]; rfl
    · rw [if_neg hs, decide_eq_true (by omega), Nat.testBit_two_pow]; simp
  · rw [decide_eq_false hi, Bool.and_false]
    split
    · simp
    · rw [Nat.testBit_two_pow, decide_eq_false hi]
set_option maxHeartbeats 400000 in
theorem text_any (a : Nat) (h : a < 18446744073709551616) (w : World) (hT : Tab64 w) (hT2 : Tab10 w) :
    Calls Tryz.prog 71 #[.int .u64 (a : Int)] w fun e w' => e = .returned (.string (textB a)) ∧ Below w.heap.size w w' := by
  have HC := Lib.hid (canon_any a h)
  have hc : Gn.canonW a < 18446744073709551616 := by unfold Gn.canonW; split <;> omega
  unfold textB
  generalize Gn.canonW a = c at *
  have hs := sgn_and c hc
  have hn := abs_andNot c hc
  by_cases h0 : c < 9223372036854775808
  · rw [if_pos h0]
    rw [if_pos h0] at hs
    have HA := Lib.hid (amountText_any c hc w hT hT2)
    clear h0 hT hT2
    generalize amtB c = s at *
    go_enter Tryz.func71, Tryz.ntmps71
    go_wp2_with (first
      | (go_at_call 92; refine (HC.out _).mono ?_; rintro e w' ⟨rfl, rfl⟩)
      | (go_at_call 99; refine HA.out.mono ?_; rintro e w' ⟨rfl, hb⟩))
    go_ret
    exact ⟨rfl, hb⟩
  · rw [if_neg h0]
    rw [if_neg h0] at hs
    have hsz := amt_size (c % 9223372036854775808)
    have HA := Lib.hid (amountText_any (c % 9223372036854775808) (by omega) w hT hT2)
    have hadd : ∀ w1 : World, (Op.stringOp .add ⟨#[45]⟩ (amtB (c % 9223372036854775808))).run Tryz.prog w1 = .ok (.string ((⟨#[45]⟩ : ByteArray) ++ amtB (c % 9223372036854775808))) w1 := fun w1 =>
      run_string_add_sum w1 _ _ (by show 1 + (amtB (c % 9223372036854775808)).size ≤ _; omega)
    clear h0 hT hT2
    generalize (⟨#[45]⟩ : ByteArray) ++ amtB (c % 9223372036854775808) = t at *
    generalize amtB (c % 9223372036854775808) = s at *
    go_enter Tryz.func71, Tryz.ntmps71
    go_wp2_with (first
      | (go_at_call 92; refine (HC.out _).mono ?_; rintro e w' ⟨rfl, rfl⟩)
      | (go_at_call 99; refine HA.out.mono ?_; rintro e w' ⟨rfl, hb⟩))
    go_ret
    exact ⟨rfl, hb⟩
end Go.Proofs.YtpgehocadohkiaaGreatDoor
end

section
namespace Go.Proofs.YtpgehocadohkiaaGreatDoor
open Go.RowKit

theorem amt_le (s : ByteArray) : (amtP s).1 ≤ 9218868437227405312 := by
  unfold amtP
  split
  · exact Nat.le_refl _
  split
  · exact Nat.zero_le _
  split
  · exact Nat.zero_le _
  unfold cutP
  split
  · exact Nat.zero_le _
  split
  · exact Nat.zero_le _
  unfold valP
  split
  · exact Nat.zero_le _
  · exact Gn.rn_le _
theorem or_sign (a : Nat) (h : a < 9223372036854775808) : bits .or .u64 (a : Int) 9223372036854775808 = ((a + 9223372036854775808 : Nat) : Int) := by
  rw [show (9223372036854775808 : Int) = ((9223372036854775808 : Nat) : Int) from rfl, u64_or_nat _ _ (by omega) (by omega)]
  have := Nat.two_pow_add_eq_or_of_lt (i := 63) h 1
  rw [Nat.mul_one] at this
  rw [Nat.or_comm, Nat.add_comm]
  exact congrArg Int.ofNat this.symm
/-- what Parse answers -/
def bareB (s : ByteArray) : ByteArray := if minusB s then s.extract 1 s.size else s
def parseP (s : ByteArray) : Nat × Int := if s.toList = [110, 97, 110] then (9221120237041090561, 0) else if (amtP (bareB s)).2 = 0 then (if minusB s then (amtP (bareB s)).1 + 9223372036854775808 else (amtP (bareB s)).1, 0) else (0, (amtP (bareB s)).2)
set_option maxHeartbeats 400000 in
theorem parse_nan (w : World) : Calls Tryz.prog 107 #[.string ⟨#[110, 97, 110]⟩] w fun e w' => e = .returned (.tuple #[.int .u64 9221120237041090561, .int .i64 0]) ∧ w' = w := by
  go_enter Tryz.func107, Tryz.ntmps107
  go_wp2_with fail
  go_ret2
  exact ⟨rfl, rfl⟩
set_option maxHeartbeats 400000 in
set_option maxRecDepth 8000 in
theorem parse_bad (s t : ByteArray) (m : Bool) (a : Nat) (f : Int) (h1 : (s.toList == [110, 97, 110]) = false) (HC : Hid (∀ w : World, Calls Tryz.prog 75 #[.string s, .string ⟨#[45]⟩] w fun e w' => e = .returned (.tuple #[.string t, .bool m]) ∧ w' = w))
    (HA : Hid (∀ w : World, Calls Tryz.prog 164 #[.string t] w fun e w' => e = .returned (.tuple #[.int .u64 (a : Int), .int .i64 f]) ∧ Below w.heap.size w w')) (hf : (f == 0) = false) (w : World) :
    Calls Tryz.prog 107 #[.string s] w fun e w' => e = .returned (.tuple #[.int .u64 0, .int .i64 f]) ∧ Below w.heap.size w w' := by
  go_enter Tryz.func107, Tryz.ntmps107
  go_wp2_with fail
  refine (HC.out _).mono ?_
  rintro e w1 ⟨rfl, e1⟩
  subst e1
  go_wp2_with fail
  refine (HA.out _).mono ?_
  rintro e w2 ⟨rfl, b2⟩
  have B2 := Lib.hid b2
  clear b2
  go_wp2_with fail
  go_ret2
  exact ⟨rfl, B2.out⟩
set_option maxHeartbeats 400000 in
set_option maxRecDepth 8000 in
theorem parse_plus (s t : ByteArray) (a : Nat) (h1 : (s.toList == [110, 97, 110]) = false) (HC : Hid (∀ w : World, Calls Tryz.prog 75 #[.string s, .string ⟨#[45]⟩] w fun e w' => e = .returned (.tuple #[.string t, .bool false]) ∧ w' = w))
    (HA : Hid (∀ w : World, Calls Tryz.prog 164 #[.string t] w fun e w' => e = .returned (.tuple #[.int .u64 (a : Int), .int .i64 0]) ∧ Below w.heap.size w w')) (w : World) :
    Calls Tryz.prog 107 #[.string s] w fun e w' => e = .returned (.tuple #[.int .u64 (a : Int), .int .i64 0]) ∧ Below w.heap.size w w' := by
  go_enter Tryz.func107, Tryz.ntmps107
  go_wp2_with fail
  refine (HC.out _).mono ?_
  rintro e w1 ⟨rfl, e1⟩
  subst e1
  go_wp2_with fail
  refine (HA.out _).mono ?_
  rintro e w2 ⟨rfl, b2⟩
  have B2 := Lib.hid b2
  clear b2
  go_wp2_with fail
  go_ret2
  exact ⟨rfl, B2.out⟩
set_option maxHeartbeats 400000 in
set_option maxRecDepth 8000 in
theorem parse_minus (s t : ByteArray) (a b : Nat) (h1 : (s.toList == [110, 97, 110]) = false) (HC : Hid (∀ w : World, Calls Tryz.prog 75 #[.string s, .string ⟨#[45]⟩] w fun e w' => e = .returned (.tuple #[.string t, .bool true]) ∧ w' = w))
    (HA : Hid (∀ w : World, Calls Tryz.prog 164 #[.string t] w fun e w' => e = .returned (.tuple #[.int .u64 (a : Int), .int .i64 0]) ∧ Below w.heap.size w w')) (hor : bits .or .u64 (a : Int) 9223372036854775808 = (b : Int)) (w : World) :
    Calls Tryz.prog 107 #[.string s] w fun e w' => e = .returned (.tuple #[.int .u64 (b : Int), .int .i64 0]) ∧ Below w.heap.size w w' := by
  go_enter Tryz.func107, Tryz.ntmps107
  go_wp2_with fail
  refine (HC.out _).mono ?_
  rintro e w1 ⟨rfl, e1⟩
  subst e1
  go_wp2_with fail
  refine (HA.out _).mono ?_
  rintro e w2 ⟨rfl, b2⟩
  have B2 := Lib.hid b2
  clear b2
  go_wp2_with fail
  go_ret2
  exact ⟨rfl, B2.out⟩
/-- Parse at every text -/
theorem parse_any (s : ByteArray) (hm : s.size ≤ 9223372036854775807) (w : World) :
    Calls Tryz.prog 107 #[.string s] w fun e w' => e = .returned (.tuple #[.int .u64 ((parseP s).1 : Int), .int .i64 (parseP s).2]) ∧ Below w.heap.size w w' := by
  unfold parseP
  by_cases e1 : s.toList = [110, 97, 110]
  · rw [if_pos e1, list_mk e1]
    exact (parse_nan w).mono fun e w' ⟨a, b⟩ => ⟨a, by rw [b]; exact Below.refl _ _⟩
  rw [if_neg e1]
  have b1 : (s.toList == [110, 97, 110]) = false := beq_eq_false_iff_ne.mpr e1
  have hbs : (bareB s).size ≤ 9223372036854775807 := by
    unfold bareB; split
    · rw [ByteArray.size_extract]; omega
    · exact hm
  have HA := Lib.hid (parseAmount_any (bareB s) hbs)
  have HC : Hid (∀ w : World, Calls Tryz.prog 75 #[.string s, .string ⟨#[45]⟩] w fun e w' => e = .returned (.tuple #[.string (bareB s), .bool (minusB s)]) ∧ w' = w) := cutPrefix_any s
  have hle := amt_le (bareB s)
  by_cases hf : (amtP (bareB s)).2 = 0
  · rw [if_pos hf]
    rw [hf] at HA
    cases hb : minusB s
    · rw [hb] at HC
      exact parse_plus s _ _ b1 HC HA w
    · rw [hb] at HC
      exact parse_minus s _ _ _ b1 HC HA (or_sign _ (by omega)) w
  · rw [if_neg hf]
    exact parse_bad s _ _ _ _ b1 HC HA (beq_eq_false_iff_ne.mpr hf) w
end Go.Proofs.YtpgehocadohkiaaGreatDoor
end

section
namespace Go.Proofs.YtpgehocadohkiaaGreatDoor
open Gn Ieee

/-- what canonW does -/
theorem canon_or (a : Nat) : (canonW a = a ∧ ¬ 9218868437227405312 < a % 9223372036854775808) ∨ (canonW a = 9221120237041090561 ∧ 9218868437227405312 < a % 9223372036854775808) := by
  unfold canonW
  by_cases h : 9218868437227405312 < a % 9223372036854775808
  · right; rw [if_pos h]; exact ⟨rfl, h⟩
  · left; rw [if_neg h]; exact ⟨rfl, h⟩
theorem canon_idem (a : Nat) : canonW (canonW a) = canonW a := by
  rcases canon_or a with ⟨h, _⟩ | ⟨h, _⟩
  · rw [h, h]
  · rw [h]; exact canon_nan
theorem isnan_of (a : Nat) (h : a < 18446744073709551616) (hn : 9218868437227405312 < a % 9223372036854775808) : IsNan (double.read a) := by
  obtain ⟨s, r, hr, rfl⟩ := wd_cases a h
  rw [wd_mod s r hr] at hn
  rw [read_wd s r hr, rd_nan s r hn]
  exact ⟨_, _, rfl⟩
section
variable (a b : Nat) (ha : a < 18446744073709551616) (hb : b < 18446744073709551616)
include ha hb
theorem heed_add : addW (canonW a) (canonW b) = addW a b := by
  simp only [add_ans]
  rcases canon_or a with ⟨h, _⟩ | ⟨h, hn⟩
  · rw [h]
    rcases canon_or b with ⟨k, _⟩ | ⟨k, kn⟩
    · rw [k]
    · rw [k, sum_nan_right _ nan_NAN, sum_nan_right _ (isnan_of b hb kn)]
  · rw [h, sum_nan_left _ nan_NAN, sum_nan_left _ (isnan_of a ha hn)]
theorem heed_mul : mulW (canonW a) (canonW b) = mulW a b := by
  simp only [mul_ans]
  rcases canon_or a with ⟨h, _⟩ | ⟨h, hn⟩
  · rw [h]
    rcases canon_or b with ⟨k, _⟩ | ⟨k, kn⟩
    · rw [k]
    · rw [k, product_nan_right _ nan_NAN, product_nan_right _ (isnan_of b hb kn)]
  · rw [h, product_nan_left _ nan_NAN, product_nan_left _ (isnan_of a ha hn)]
theorem heed_div : divW (canonW a) (canonW b) = divW a b := by
  simp only [div_ans]
  rcases canon_or a with ⟨h, _⟩ | ⟨h, hn⟩
  · rw [h]
    rcases canon_or b with ⟨k, _⟩ | ⟨k, kn⟩
    · rw [k]
    · rw [k, quotient_nan_right _ _ nan_NAN, quotient_nan_right _ _ (isnan_of b hb kn)]
  · rw [h, quotient_nan_left _ _ nan_NAN, quotient_nan_left _ _ (isnan_of a ha hn)]
end
theorem heed_rank (a : Nat) : rankW (canonW a) = rankW a := by unfold rankW; rw [canon_idem]
theorem heed_ord (a b : Nat) : ordW (canonW a) (canonW b) = ordW a b := by unfold ordW; rw [heed_rank, heed_rank]
theorem heed_neg (a : Nat) (ha : a < 18446744073709551616) : negW (canonW a) = negW a := by
  rcases canon_or a with ⟨h, _⟩ | ⟨h, hn⟩
  · rw [h]
  · obtain ⟨s, r, hr, rfl⟩ := wd_cases a ha
    rw [wd_mod s r hr] at hn
    rw [h, neg_NAN, neg_wd s r hr, if_pos hn]
theorem heed_abs (a : Nat) (ha : a < 18446744073709551616) : absW (canonW a) = absW a := by
  rcases canon_or a with ⟨h, _⟩ | ⟨h, hn⟩
  · rw [h]
  · obtain ⟨s, r, hr, rfl⟩ := wd_cases a ha
    rw [wd_mod s r hr] at hn
    rw [h, abs_wd s r hr, if_pos hn]
    decide
theorem heed_sub (a b : Nat) (ha : a < 18446744073709551616) (hb : b < 18446744073709551616) : subW (canonW a) (canonW b) = subW a b := by
  unfold subW
  rw [heed_neg b hb]
  have h := heed_add a (negW b) ha (neg_lt b hb)
  have e : canonW (negW b) = negW b := canon_idem _
  rw [e] at h
  exact h
theorem heed_cls (a : Nat) : clsN (canonW a) = clsN a := by
  rcases canon_or a with ⟨h, _⟩ | ⟨h, hn⟩
  · rw [h]
  · rw [h, (cls_nan a).2 hn]; decide
theorem heed_text (a : Nat) : textB (canonW a) = textB a := by unfold textB; rw [canon_idem]
theorem heed_floor (a : Nat) : floorW (canonW a) = floorW a := by
  rcases canon_or a with ⟨h, _⟩ | ⟨h, hn⟩
  · rw [h]
  · rw [h]; unfold floorW; rw [if_pos hn, if_pos (by decide)]
theorem heed_any (a b : Nat) : anyN (canonW a) (canonW b) = anyN a b := by unfold anyN; rw [heed_cls, heed_cls]
theorem any_not {a b : Nat} (h : ¬ anyN a b = true) : canonW a = a ∧ canonW b = b := by
  have h1 : clsN a ≠ 0 ∧ clsN b ≠ 0 := by unfold anyN at h; simpa using h
  refine ⟨?_, ?_⟩
  · rcases canon_or a with ⟨k, _⟩ | ⟨_, kn⟩
    · exact k
    · exact absurd ((cls_nan a).2 kn) h1.1
  · rcases canon_or b with ⟨k, _⟩ | ⟨_, kn⟩
    · exact k
    · exact absurd ((cls_nan b).2 kn) h1.2
theorem heed_min (a b : Nat) : minW (canonW a) (canonW b) = minW a b := by
  unfold minW
  rw [heed_any, heed_rank, heed_rank]
  by_cases h : anyN a b = true
  · rw [if_pos h, if_pos h]
  · rw [if_neg h, if_neg h, (any_not h).1, (any_not h).2]
theorem heed_max (a b : Nat) : maxW (canonW a) (canonW b) = maxW a b := by
  unfold maxW
  rw [heed_any, heed_rank, heed_rank]
  by_cases h : anyN a b = true
  · rw [if_pos h, if_pos h]
  · rw [if_neg h, if_neg h, (any_not h).1, (any_not h).2]
theorem canon_min (a b : Nat) : canonW (minW a b) = minW a b := by
  unfold minW
  by_cases h : anyN a b = true
  · rw [if_pos h]; exact canon_nan
  · rw [if_neg h]; split
    · exact (any_not h).2
    · exact (any_not h).1
theorem canon_max (a b : Nat) : canonW (maxW a b) = maxW a b := by
  unfold maxW
  by_cases h : anyN a b = true
  · rw [if_pos h]; exact canon_nan
  · rw [if_neg h]; split
    · exact (any_not h).2
    · exact (any_not h).1
theorem min_lt (a b : Nat) (ha : a < 18446744073709551616) (hb : b < 18446744073709551616) : minW a b < 18446744073709551616 := by
  unfold minW; split
  · decide
  · split <;> assumption
theorem max_lt (a b : Nat) (ha : a < 18446744073709551616) (hb : b < 18446744073709551616) : maxW a b < 18446744073709551616 := by
  unfold maxW; split
  · decide
  · split <;> assumption
theorem canon_floor (a : Nat) (ha : a < 18446744073709551616) : canonW (floorW a) = floorW a := by
  unfold floorW
  by_cases h : 9218868437227405312 < a % 9223372036854775808
  · rw [if_pos h]; exact canon_nan
  · rw [if_neg h]
    obtain ⟨s, r, hr, rfl⟩ := wd_cases a ha
    rw [wd_mod s r hr] at h
    exact flr_canon _ (by rw [read_wd s r hr]; exact rd_ok s r h)
theorem floor_lt (a : Nat) : floorW a < 18446744073709551616 := by
  unfold floorW; split
  · decide
  · exact flr_lt a
/-- a canonical word whose class is NaN is the NaN -/
theorem canon_word (v : Nat) (h : canonW v = v) (hc : clsN v = 0) : v = 9221120237041090561 := by
  rcases canon_or v with ⟨_, k⟩ | ⟨k, _⟩
  · exact absurd ((cls_nan v).1 hc) k
  · rw [← h]; exact k
end Go.Proofs.YtpgehocadohkiaaGreatDoor
end

section
namespace Go.Proofs.YtpgehocadohkiaaGreatDoor
open Go.RowKit

theorem digits_rec {n : Nat} (h : 10 ≤ n) : Lib.decDigits n = Lib.decDigits (n / 10) ++ [UInt8.ofNat (48 + n % 10)] := by
  rw [Lib.decDigits, dif_neg (by omega)]
theorem digit_nat {d : Nat} (h : d < 10) : (UInt8.ofNat (48 + d)).toNat = 48 + d := by
  rw [UInt8.toNat_ofNat']; omega
theorem digit_ok {d : Nat} (h : d < 10) : digB (UInt8.ofNat (48 + d)) = true := by
  unfold digB
  rw [digit_nat h]
  simp only [Bool.and_eq_true, decide_eq_true_eq]
  omega
theorem dec_digits : ∀ n : Nat, dec 0 (Lib.decDigits n) = n := by
  intro n
  induction n using Nat.strongRecOn with
  | _ n ih =>
    rcases Nat.lt_or_ge n 10 with h | h
    · rw [Lib.decDigits_one h]
      show 0 * 10 + ((UInt8.ofNat (48 + n)).toNat - 48) = n
      rw [digit_nat h]; omega
    · rw [digits_rec h, dec_append, ih (n / 10) (by omega), digit_nat (by omega)]
      omega
theorem digits_all : ∀ n : Nat, (Lib.decDigits n).all digB = true := by
  intro n
  induction n using Nat.strongRecOn with
  | _ n ih =>
    rcases Nat.lt_or_ge n 10 with h | h
    · rw [Lib.decDigits_one h, List.all_cons, digit_ok h]; rfl
    · rw [digits_rec h, List.all_append, ih (n / 10) (by omega), List.all_cons, digit_ok (by omega)]; rfl
theorem digits_ne (n : Nat) : Lib.decDigits n ≠ [] := by
  rcases Nat.lt_or_ge n 10 with h | h
  · rw [Lib.decDigits_one h]; exact List.cons_ne_nil _ _
  · rw [digits_rec h]; simp
theorem headD_append {l r : List UInt8} (h : l ≠ []) : (l ++ r).headD 0 = l.headD 0 := by
  cases l with
  | nil => exact absurd rfl h
  | cons c t => rfl
theorem digits_head : ∀ n : Nat, 1 ≤ n → (Lib.decDigits n).headD 0 ≠ 48 := by
  intro n
  induction n using Nat.strongRecOn with
  | _ n ih =>
    intro h1
    rcases Nat.lt_or_ge n 10 with h | h
    · rw [Lib.decDigits_one h]
      intro e
      have e2 : (UInt8.ofNat (48 + n)).toNat = 48 := by
        have : UInt8.ofNat (48 + n) = 48 := e
        rw [this]; rfl
      rw [digit_nat h] at e2; omega
    · rw [digits_rec h, headD_append (digits_ne _)]
      exact ih (n / 10) (by omega) (by omega)
/-- a whole number's text is its digits -/
def wholeL (l : List UInt8) : Bool := l.all digB && (l == [48] || !l.isEmpty && l.headD 0 != 48)
theorem whole_list (s : ByteArray) : wholeB s = wholeL s.toList := rfl
theorem digits_whole (n : Nat) : wholeL (Lib.decDigits n) = true := by
  unfold wholeL
  rw [digits_all n, Bool.true_and]
  rcases Nat.eq_zero_or_pos n with h | h
  · subst h; rw [Lib.decDigits_one (by decide)]; rfl
  · have h1 : (Lib.decDigits n).isEmpty = false := by
      have := digits_ne n
      cases hd : Lib.decDigits n with
      | nil => exact absurd hd this
      | cons _ _ => rfl
    rw [h1, bne_iff_ne.mpr (digits_head n h)]
    simp
theorem dec_pos : ∀ (l : List UInt8), l.all digB = true → l ≠ [] → l.headD 0 ≠ 48 → 1 ≤ dec 0 l
  | [], _, h, _ => absurd rfl h
  | c :: r, ha, _, hh => by
    simp only [List.all_cons, Bool.and_eq_true] at ha
    have hv := dig_val ha.1
    have hc : c.toNat ≠ 48 := fun e => hh (by show c = 48; apply UInt8.toNat_inj.mp; rw [e]; rfl)
    have hm : ∀ (r : List UInt8) (acc : Nat), acc ≤ dec acc r := by
      intro r
      induction r with
      | nil => intro acc; exact Nat.le_refl _
      | cons d t ih => intro acc; exact Nat.le_trans (by omega) (ih (acc * 10 + (d.toNat - 48)))
    have := hm r (0 * 10 + (c.toNat - 48))
    show 1 ≤ dec (0 * 10 + (c.toNat - 48)) r
    omega
theorem digits_of : ∀ (k : Nat) (l : List UInt8), l.length = k → l.all digB = true → l ≠ [] → (l = [48] ∨ l.headD 0 ≠ 48) → Lib.decDigits (dec 0 l) = l := by
  intro k
  induction k with
  | zero => intro l hl _ hne _; exact absurd (List.eq_nil_of_length_eq_zero hl) hne
  | succ k ih =>
    intro l hl ha hne hh
    rcases hh with hh | hh
    · subst hh; decide +kernel
    have hsp := List.dropLast_concat_getLast hne
    have hll : l.dropLast.length = k := by rw [List.length_dropLast, hl]; rfl
    have hlast : digB (l.getLast hne) = true := List.all_eq_true.mp ha _ (List.getLast_mem hne)
    have hv := dig_val hlast
    have hchar : UInt8.ofNat (48 + ((l.getLast hne).toNat - 48)) = l.getLast hne := by
      apply UInt8.toNat_inj.mp
      rw [digit_nat (by omega)]; omega
    by_cases hd : l.dropLast = []
    · rw [hd] at hsp
      rw [← hsp]
      show Lib.decDigits (0 * 10 + ((l.getLast hne).toNat - 48)) = _
      rw [Nat.zero_mul, Nat.zero_add, Lib.decDigits_one (by omega), hchar]; rfl
    · have ha2 : l.dropLast.all digB = true := by
        rw [← hsp, List.all_append, Bool.and_eq_true] at ha; exact ha.1
      have hh2 : l.dropLast.headD 0 ≠ 48 := by
        rw [← hsp, headD_append hd] at hh; exact hh
      have i1 := ih l.dropLast hll ha2 hd (Or.inr hh2)
      have p1 := dec_pos l.dropLast ha2 hd hh2
      have e : dec 0 l = dec 0 l.dropLast * 10 + ((l.getLast hne).toNat - 48) := by
        rw [← dec_append, hsp]
      rw [e, digits_rec (by omega), show (dec 0 l.dropLast * 10 + ((l.getLast hne).toNat - 48)) / 10 = dec 0 l.dropLast by omega, show (dec 0 l.dropLast * 10 + ((l.getLast hne).toNat - 48)) % 10 = (l.getLast hne).toNat - 48 by omega, i1, hchar, hsp]
theorem whole_digits {l : List UInt8} (h : wholeL l = true) : Lib.decDigits (dec 0 l) = l := by
  unfold wholeL at h
  simp only [Bool.and_eq_true, Bool.or_eq_true, beq_iff_eq, Bool.not_eq_true', bne_iff_ne] at h
  obtain ⟨ha, hh⟩ := h
  rcases hh with hh | ⟨hh, hx⟩
  · exact digits_of l.length l rfl ha (by rw [hh]; exact List.cons_ne_nil _ _) (Or.inl hh)
  · exact digits_of l.length l rfl ha (fun e => by rw [e] at hh; cases hh) (Or.inr hx)
end Go.Proofs.YtpgehocadohkiaaGreatDoor
end

section
namespace Go.Proofs.YtpgehocadohkiaaGreatDoor
open Go.RowKit

theorem minus_head (s : ByteArray) : minusB s = (s.toList.headD 0 == 45) := by
  unfold minusB
  rw [Lib.extract_toList, ByteArray.toList_eq]
  cases s.data.toList with
  | nil => rfl
  | cons c r =>
    show ([c] == [45]) = (c == 45)
    by_cases h : c = 45
    · subst h; rfl
    · rw [beq_eq_false_iff_ne.mpr h, beq_eq_false_iff_ne.mpr (fun e => h (by injection e))]
theorem rest_list (s : ByteArray) : (s.extract 1 s.size).toList = s.toList.drop 1 := by
  rw [Lib.extract_toList, ByteArray.toList_eq, List.take_of_length_le]
  rw [List.length_drop]; exact Nat.le_refl _
theorem digits_nominus {l : List UInt8} (ha : l.all digB = true) : (l.headD 0 == 45) = false := by
  cases l with
  | nil => rfl
  | cons c r =>
    simp only [List.all_cons, Bool.and_eq_true] at ha
    have hv := dig_val ha.1
    show (c == 45) = false
    rw [beq_eq_false_iff_ne]; intro e; subst e; revert hv; decide
theorem pow_text {s : ByteArray} {k : Int} (h : s.toList = Lib.itoa k) : powB s = true ∧ powV s = k := by
  unfold powB powV
  rcases Int.lt_or_le k 0 with hk | hk
  · have e : s.toList = 45 :: Lib.decDigits k.natAbs := by rw [h]; unfold Lib.itoa; rw [if_pos hk]
    have hm : minusB s = true := by rw [minus_head, e]; rfl
    have hr : (s.extract 1 s.size).toList = Lib.decDigits k.natAbs := by rw [rest_list, e]; rfl
    have hw : wholeB (s.extract 1 s.size) = true := by rw [whole_list, hr]; exact digits_whole _
    have hv : numD (s.extract 1 s.size) = k.natAbs := by unfold numD; rw [hr]; exact dec_digits _
    have hz : ((s.extract 1 s.size).toList == [48]) = false := by
      rw [beq_eq_false_iff_ne, hr]; intro e2
      have := dec_digits k.natAbs
      rw [e2] at this
      have h0 : dec 0 [48] = 0 := by decide
      omega
    rw [hm, if_pos rfl, if_pos rfl, hw, hz, hv]
    exact ⟨rfl, by omega⟩
  · have e : s.toList = Lib.decDigits k.toNat := by rw [h]; unfold Lib.itoa; rw [if_neg (by omega)]
    have hm : minusB s = false := by rw [minus_head, e]; exact digits_nominus (digits_all _)
    have hw : wholeB s = true := by rw [whole_list, e]; exact digits_whole _
    have hv : numD s = k.toNat := by unfold numD; rw [e]; exact dec_digits _
    rw [hm, if_neg (by decide), if_neg (by decide), hw, hv]
    exact ⟨rfl, by omega⟩
theorem pow_back {s : ByteArray} (h : powB s = true) : s.toList = Lib.itoa (powV s) := by
  unfold powB at h
  unfold powV
  cases hm : minusB s
  · rw [hm, if_neg (by decide)] at h
    rw [if_neg (by decide), Lib.itoa_nonneg]
    rw [whole_list] at h
    exact (whole_digits h).symm
  · rw [hm, if_pos rfl, Bool.and_eq_true] at h
    rw [if_pos rfl]
    have h1 := h.1
    rw [whole_list] at h1
    have hd := whole_digits h1
    have hz : (s.extract 1 s.size).toList ≠ [48] := by
      have := h.2; simpa using this
    have hn : 1 ≤ numD (s.extract 1 s.size) := by
      rcases Nat.eq_zero_or_pos (numD (s.extract 1 s.size)) with h0 | h0
      · exfalso
        have h0' : dec 0 (s.extract 1 s.size).toList = 0 := h0
        rw [h0', Lib.decDigits_one (by decide)] at hd
        exact hz hd.symm
      · exact h0
    rw [Lib.itoa_neg _ hn]
    unfold numD
    rw [hd, rest_list]
    rw [minus_head] at hm
    cases hc : s.toList with
    | nil => rw [hc] at hm; cases hm
    | cons c r =>
      rw [hc] at hm
      have : c = 45 := by simpa using hm
      rw [this]; rfl
theorem at_list (s : ByteArray) (i : Nat) (h : i < s.size) : s[i]! = s.toList[i]'(by rw [size_list]; exact h) := by
  rw [getElem!_pos s i h]
  simp only [ByteArray.toList_eq]
  rfl
/-- the place of the first p -/
theorem first_at {s : ByteArray} {lo lp : List UInt8} (h : s.toList = lo ++ 112 :: lp) (hd : lo.all digB = true) : firstIdx s 112 = (lo.length : Int) := by
  have hs : s.size = lo.length + 1 + lp.length := by rw [← size_list, h]; simp; omega
  unfold firstIdx
  have hf : (List.range s.size).find? (fun i => s[i]! == 112) = some lo.length := by
    rw [List.find?_range_eq_some]
    refine ⟨?_, ?_, ?_⟩
    · show (s[lo.length]! == 112) = true
      rw [at_list s _ (by omega)]
      simp [h]
    · rw [List.mem_range]; omega
    · intro j hj
      show (!(s[j]! == 112)) = true
      rw [at_list s j (by omega)]
      have e : s.toList[j]'(by rw [size_list]; omega) = lo[j] := by simp [h, hj]
      rw [e]
      have := dig_val (List.all_eq_true.mp hd _ (List.getElem_mem hj))
      have hne : lo[j] ≠ 112 := fun e2 => by rw [e2] at this; revert this; decide
      simpa using hne
  rw [hf]
theorem first_split {s : ByteArray} {i : Nat} (h : firstIdx s 112 = (i : Int)) : i < s.size ∧ s.toList = (s.extract 0 i).toList ++ 112 :: (s.extract (i + 1) s.size).toList := by
  unfold firstIdx at h
  cases hf : (List.range s.size).find? (fun i => s[i]! == 112) with
  | none => rw [hf] at h; simp at h
  | some j =>
    rw [hf] at h
    have hj : j = i := by
      have h' : (j : Int) = (i : Int) := h
      omega
    subst hj
    have hm := List.mem_of_find?_eq_some hf
    rw [List.mem_range] at hm
    have hp := List.find?_some hf
    have hp2 : s[j]! = 112 := by simpa using hp
    rw [at_list s j hm] at hp2
    refine ⟨hm, ?_⟩
    have hlen : j < s.toList.length := by rw [size_list]; exact hm
    rw [Lib.extract_toList, Lib.extract_toList, ← ByteArray.toList_eq, List.drop_zero, Nat.sub_zero, List.take_of_length_le (l := s.toList.drop (j + 1)) (by rw [List.length_drop, size_list]; exact Nat.le_refl _)]
    conv => lhs; rw [← List.take_append_drop j s.toList, List.drop_eq_getElem_cons hlen, hp2]
end Go.Proofs.YtpgehocadohkiaaGreatDoor
end

section
namespace Go.Proofs.YtpgehocadohkiaaGreatDoor
open Go.RowKit

theorem odd_unique {m n A B : Nat} (h : m * 2 ^ A = n * 2 ^ B) (hm : m % 2 = 1) (hn : n % 2 = 1) : m = n ∧ A = B := by
  have key : ∀ {m n A B : Nat}, m * 2 ^ A = n * 2 ^ B → m % 2 = 1 → n % 2 = 1 → A ≤ B → m = n ∧ A = B := by
    intro m n A B h hm hn hle
    obtain ⟨d, rfl⟩ := Nat.exists_eq_add_of_le hle
    rw [Nat.pow_add, Nat.mul_comm (2 ^ A), ← Nat.mul_assoc] at h
    have h2 := Nat.eq_of_mul_eq_mul_right (Nat.two_pow_pos A) h
    cases d with
    | zero => rw [Nat.pow_zero, Nat.mul_one] at h2; exact ⟨h2, rfl⟩
    | succ d => exfalso; rw [Nat.pow_succ, ← Nat.mul_assoc] at h2; omega
  rcases Nat.le_total A B with hle | hle
  · exact key h hm hn hle
  · obtain ⟨e1, e2⟩ := key h.symm hn hm hle
    exact ⟨e1.symm, e2.symm⟩
/-- an amount: its odd number and its power -/
theorem amt_parts (a : Nat) (h : a < 9218868437227405312) (hc : 3 ≤ clsN a) : oN a % 2 = 1 ∧ Gn.vl a = oN a * 2 ^ (pN a + 1074).toNat ∧ -1074 ≤ pN a := by
  have hne := tM_ne a hc
  have hlt := tM_lt a
  have hE := tE_bd a
  obtain ⟨m, hm, _⟩ := Lib.ctzFrom_spec 64 (tM a) (by omega) (by omega)
  have ez : Lib.ctz 64 (tM a) = Lib.ctzFrom 64 (tM a) := by unfold Lib.ctz; rw [if_neg hne]
  rw [← ez] at hm
  have ho : oN a = 2 * m + 1 := by
    unfold oN
    conv => lhs; lhs; rw [hm]
    exact Nat.mul_div_cancel_left _ (Nat.two_pow_pos _)
  have hv : Gn.vl a = tM a * 2 ^ (tE a + 1074).toNat := by
    unfold Gn.vl tM tE fx fm
    by_cases h1 : a < 4503599627370496
    · have e : a / 4503599627370496 % 2048 = 0 := by omega
      rw [if_pos h1, if_pos e, if_pos e]
      show a = a % 4503599627370496 * 2 ^ 0
      omega
    · have e : ¬ a / 4503599627370496 % 2048 = 0 := by omega
      rw [if_neg h1, if_neg e, if_neg e]
      rw [show ((((a / 4503599627370496 % 2048 : Nat) : Int) - 1075) + 1074).toNat = a / 4503599627370496 - 1 by omega, Nat.add_comm]
  refine ⟨by omega, ?_, by unfold pN; omega⟩
  rw [hv]
  conv => lhs; lhs; rw [hm, ← ho, Nat.mul_comm]
  rw [Nat.mul_assoc, ← Nat.pow_add]
  unfold pN
  rw [show (tE a + (Lib.ctz 64 (tM a) : Int) + 1074).toNat = Lib.ctz 64 (tM a) + (tE a + 1074).toNat by omega]
theorem odd_digits {s : ByteArray} {n : Nat} (h : s.toList = Lib.decDigits n) (ho : n % 2 = 1) : oddB s = true ∧ numD s = n := by
  have hv : numD s = n := by unfold numD; rw [h]; exact dec_digits n
  have hw : wholeB s = true := by rw [whole_list, h]; exact digits_whole n
  refine ⟨?_, hv⟩
  unfold oddB
  rw [hw, Bool.true_and, beq_iff_eq]
  have hl := size_list s
  have hs := whole_size hw
  have ha := whole_all hw
  have hne : s.toList ≠ [] := fun e => by rw [e] at hl; simp at hl; omega
  have hd : digB (s.toList.getLast hne) = true := List.all_eq_true.mp ha _ (List.getLast_mem hne)
  have hg := dig_val hd
  rw [List.getLastD_eq_getLast?, List.getLast?_eq_some_getLast hne, Option.getD_some]
  unfold numD at hv
  have e : dec 0 s.toList = dec 0 s.toList.dropLast * 10 + ((s.toList.getLast hne).toNat - 48) := by
    rw [← dec_append, List.dropLast_concat_getLast hne]
  omega
/-- how long a text of a number is -/
theorem digits_len {n d : Nat} (h1 : 1 ≤ d) (h : n < 10 ^ d) : (Lib.decDigits n).length ≤ d := by
  induction d generalizing n with
  | zero => omega
  | succ d ih =>
    rcases Nat.lt_or_ge n 10 with h10 | h10
    · rw [Lib.decDigits_one h10]; simp
    · rw [digits_rec h10, List.length_append]
      have hd : 1 ≤ d := by
        rcases Nat.eq_zero_or_pos d with h0 | h0
        · subst h0; rw [Nat.pow_one] at h; omega
        · exact h0
      have := ih hd (n := n / 10) (by rw [Nat.pow_succ] at h; omega)
      simp; omega
end Go.Proofs.YtpgehocadohkiaaGreatDoor
end
