import Derived.Test.YtlaecbbhgjpfoaaGreatDoorMgAH
import Derived.Test.YtlaecbbhgjpfoaaGreatDoorMgAG
import Derived.Shelf.Spec.TrailingZeros
import Derived.LoopN

section
namespace Go.Proofs.YtlaecbbhgjpfoaaGreatDoor
open Go.RowKit

/-- the table of the trailing zeros -/
abbrev Tab64 (w : World) : Prop := TabAt 4 Lib.deBruijn64tab w
theorem tz_ctz (x : Nat) (hx : x < 18446744073709551616) (h0 : x ≠ 0) (w : World) (hT : Tab64 w) :
    Calls Tryz.prog 92 #[.int .u64 (x : Int)] w fun e w' => e = .returned (.int .i64 (Lib.ctz 64 x : Int)) ∧ w' = w := by
  obtain ⟨hlow, hk⟩ := Lib.lowest_bit 64 x h0 hx
  obtain ⟨hi, htab⟩ := Lib.deBruijn64_at _ hk
  have hcell := hT _ hi
  rw [htab] at hcell
  exact tz_any x _ _ w (by simp; omega) (tz64_key x _ hx h0 hlow) hi (by omega) hcell
/-- the whole number and the power that a word stands for -/
def tM (a : Nat) : Nat := if fx a = 0 then fm a else fm a + 4503599627370496
def tE (a : Nat) : Int := if fx a = 0 then -1074 else (fx a : Int) - 1075
theorem tHalf (a : Nat) : bits .or .u64 (fm a : Int) 4503599627370496 = ((fm a + 4503599627370496 : Nat) : Int) := by
  have hl : fm a < 4503599627370496 := Nat.mod_lt _ (by decide)
  rw [show (4503599627370496 : Int) = ((4503599627370496 : Nat) : Int) from rfl, u64_or_nat _ _ (by omega) (by omega)]
  have := Nat.two_pow_add_eq_or_of_lt (i := 52) hl 1
  rw [Nat.mul_one] at this
  rw [Nat.or_comm, Nat.add_comm]
  exact congrArg Int.ofNat this.symm
theorem tM_lt (a : Nat) : tM a < 9007199254740992 := by
  have hl : fm a < 4503599627370496 := Nat.mod_lt _ (by decide)
  unfold tM; split <;> omega
theorem tE_bd (a : Nat) : -1074 ≤ tE a ∧ tE a ≤ 972 := by
  have hl : fx a < 2048 := Nat.mod_lt _ (by decide)
  unfold tE; split <;> omega
set_option maxHeartbeats 400000 in
theorem oddPow_as (a M z o : Nat) (E : Int) (h : a < 18446744073709551616) (hM : tM a = M) (hE : tE a = E) (hz : Lib.ctz 64 M = z) (hz64 : z < 64) (ho : M / 2 ^ z = o) (h0 : M ≠ 0) (w : World) (hT : Tab64 w) :
    Calls Tryz.prog 80 #[.int .u64 (a : Int)] w fun e' w' => e' = .returned (.tuple #[.int .u64 (o : Int), .int .i64 (E + (z : Int))]) ∧ w' = w := by
  have hMl := tM_lt a
  have hEb := tE_bd a
  rw [hM] at hMl
  rw [hE] at hEb
  have e1 : (M : Int) / 2 ^ z = (o : Int) := by rw [← ho, Int.natCast_ediv]; simp
  have HZ := Lib.hid (tz_ctz M (by omega) h0 w hT)
  rw [hz] at HZ
  have hx := fields_any a h
  have hl : fx a < 2048 := Nat.mod_lt _ (by decide)
  have hw : IntKind.i64.wrap (fx a : Int) = (fx a : Int) := by rw [IntKind.wrap_i64]; omega
  have HF := Lib.hid hx
  clear hT hx hz
  unfold tM at hM
  unfold tE at hE
  by_cases hx0 : fx a = 0
  · rw [if_pos hx0] at hM hE
    have hb : ((fx a : Int) == 0) = true := beqN_t (y := 0) hx0
    rw [hM] at HF
    clear hx0
    go_enter Tryz.func80, Tryz.ntmps80
    go_wp2_with (first
      | (go_at_call 60; refine (HF.out _).mono ?_; rintro e w' ⟨rfl, rfl⟩)
      | (go_at_call 92; refine HZ.out.mono ?_; rintro e w' ⟨rfl, rfl⟩))
    go_ret2
    exact ⟨rfl, rfl⟩
  · rw [if_neg hx0] at hM hE
    have hb : ((fx a : Int) == 0) = false := by rw [beq_eq_false_iff_ne]; omega
    have hb2 : ((fx a : Int) != 0) = true := by rw [bne_iff_ne]; omega
    have hor := tHalf a
    rw [hM] at hor
    clear hx0
    go_enter Tryz.func80, Tryz.ntmps80
    go_wp2_with (first
      | (go_at_call 60; refine (HF.out _).mono ?_; rintro e w' ⟨rfl, rfl⟩)
      | (go_at_call 92; refine HZ.out.mono ?_; rintro e w' ⟨rfl, rfl⟩))
    have e2 : -1074 + (fx a : Int) - 1 = E := by omega
    go_ret2
    exact ⟨by rw [e2]; rfl, rfl⟩
/-- the odd number and the power -/
def oN (a : Nat) : Nat := tM a / 2 ^ Lib.ctz 64 (tM a)
def pN (a : Nat) : Int := tE a + (Lib.ctz 64 (tM a) : Int)
def amtB (a : Nat) : ByteArray := if clsN a = 0 then ⟨#[110, 97, 110]⟩ else if clsN a = 1 then ⟨#[105, 110, 102]⟩ else if clsN a = 2 then ⟨#[48]⟩ else (⟨(Lib.decDigits (oN a)).toArray⟩ : ByteArray) ++ ⟨#[112]⟩ ++ ⟨(Lib.itoa (pN a)).toArray⟩
def textB (a : Nat) : ByteArray := if Gn.canonW a < 9223372036854775808 then amtB (Gn.canonW a) else (⟨#[45]⟩ : ByteArray) ++ amtB (Gn.canonW a % 9223372036854775808)
theorem ctz_lt (M : Nat) (h0 : M ≠ 0) (hl : M < 18446744073709551616) : Lib.ctz 64 M < 64 := by
  obtain ⟨m, _, h⟩ := Lib.ctzFrom_spec 64 M (by omega) hl
  unfold Lib.ctz
  rw [if_neg h0]
  exact h
theorem tM_ne (a : Nat) (h : 3 ≤ clsN a) : tM a ≠ 0 := by
  unfold tM
  rcases cls_cases a with ⟨_, _, h3⟩ | ⟨_, _, h3⟩ | ⟨_, _, h3⟩ | ⟨h1, h2, _⟩ | ⟨_, h2, _⟩
  · omega
  · omega
  · omega
  · rw [if_pos h1]; exact h2
  · rw [if_neg h2]; omega
theorem itoa_len (n : Int) (h1 : -2000 ≤ n) (h2 : n ≤ 2000) : (Lib.itoa n).length ≤ 21 := by
  unfold Lib.itoa
  split
  · have := nd_le n.natAbs (by omega); simp; omega
  · have := nd_le n.toNat (by omega); omega
theorem amt_size (a : Nat) : (amtB a).size ≤ 100 := by
  unfold amtB
  split
  · decide
  split
  · decide
  split
  · decide
  · next h1 h2 h3 =>
    have hc : 3 ≤ clsN a := by omega
    have hM := tM_lt a
    have hz := ctz_lt (tM a) (tM_ne a hc) (by omega)
    have hE := tE_bd a
    have ho : oN a ≤ tM a := Nat.div_le_self _ _
    have l1 := nd_le (oN a) (by omega)
    have l2 := itoa_len (pN a) (by unfold pN; omega) (by unfold pN; omega)
    simp only [ByteArray.size_append]
    show (Lib.decDigits (oN a)).toArray.size + 1 + (Lib.itoa (pN a)).toArray.size ≤ 100
    simp
    omega

set_option maxHeartbeats 400000 in
theorem amountText_any (a : Nat) (h : a < 18446744073709551616) (w : World) (hT : Tab64 w) (hT2 : Tab10 w) :
    Calls Tryz.prog 59 #[.int .u64 (a : Int)] w fun e w' => e = .returned (.string (amtB a)) ∧ Below w.heap.size w w' := by
  have HC := Lib.hid (class_any a h)
  by_cases c0 : clsN a = 0
  · have e : amtB a = ⟨#[110, 97, 110]⟩ := if_pos c0
    rw [e]
    rw [c0] at HC
    go_enter Tryz.func59, Tryz.ntmps59
    go_wp2_with (go_at_call 35; refine (HC.out _).mono ?_; rintro e w' ⟨rfl, rfl⟩)
    go_ret
    exact ⟨rfl, Below.refl _ _⟩
  by_cases c1 : clsN a = 1
  · have e : amtB a = ⟨#[105, 110, 102]⟩ := by unfold amtB; rw [if_neg c0, if_pos c1]
    rw [e]
    rw [c1] at HC
    go_enter Tryz.func59, Tryz.ntmps59
    go_wp2_with (go_at_call 35; refine (HC.out _).mono ?_; rintro e w' ⟨rfl, rfl⟩)
    go_ret
    exact ⟨rfl, Below.refl _ _⟩
  by_cases c2 : clsN a = 2
  · have e : amtB a = ⟨#[48]⟩ := by unfold amtB; rw [if_neg c0, if_neg c1, if_pos c2]
    rw [e]
    rw [c2] at HC
    go_enter Tryz.func59, Tryz.ntmps59
    go_wp2_with (go_at_call 35; refine (HC.out _).mono ?_; rintro e w' ⟨rfl, rfl⟩)
    go_ret
    exact ⟨rfl, Below.refl _ _⟩
  have e : amtB a = (⟨(Lib.decDigits (oN a)).toArray⟩ : ByteArray) ++ ⟨#[112]⟩ ++ ⟨(Lib.itoa (pN a)).toArray⟩ := by unfold amtB; rw [if_neg c0, if_neg c1, if_neg c2]
  rw [e]
  clear e
  have hc : 3 ≤ clsN a := by omega
  have b0 : ((clsN a : Int) == 0) = false := by rw [beq_eq_false_iff_ne]; omega
  have b1 : ((clsN a : Int) == 1) = false := by rw [beq_eq_false_iff_ne]; omega
  have b2 : ((clsN a : Int) == 2) = false := by rw [beq_eq_false_iff_ne]; omega
  have hM := tM_lt a
  have hz := ctz_lt (tM a) (tM_ne a hc) (by omega)
  have hE := tE_bd a
  have ho : oN a ≤ tM a := Nat.div_le_self _ _
  have HO := Lib.hid (oddPow_as a (tM a) (Lib.ctz 64 (tM a)) (oN a) (tE a) h rfl rfl rfl hz rfl (tM_ne a hc) w hT)
  have HP : Hid (pN a = tE a + (Lib.ctz 64 (tM a) : Int)) := rfl
  rw [← HP.out] at HO
  have hp1 : -2000 ≤ pN a := by have := HP.out; omega
  have hp2 : pN a ≤ 2000 := by have := HP.out; omega
  have HU := Lib.hid (formatUint_any (oN a) (by omega) w hT2)
  have HI := Lib.hid (fun w1 (hb : Below w.heap.size w w1) => itoa_any (pN a) (by omega) (by omega) w1 (tab10_below hT2 hb))
  have l1 := nd_le (oN a) (by omega)
  have l2 := itoa_len (pN a) hp1 hp2
  have hadd1 : ∀ w1 : World, (Op.stringOp .add ⟨(Lib.decDigits (oN a)).toArray⟩ ⟨#[112]⟩).run Tryz.prog w1 = .ok (.string ((⟨(Lib.decDigits (oN a)).toArray⟩ : ByteArray) ++ ⟨#[112]⟩)) w1 := fun w1 =>
    run_string_add_sum w1 _ _ (by show (Lib.decDigits (oN a)).toArray.size + 1 ≤ _; simp; omega)
  have hadd2 : ∀ w1 : World, (Op.stringOp .add ((⟨(Lib.decDigits (oN a)).toArray⟩ : ByteArray) ++ ⟨#[112]⟩) ⟨(Lib.itoa (pN a)).toArray⟩).run Tryz.prog w1 = .ok (.string ((⟨(Lib.decDigits (oN a)).toArray⟩ : ByteArray) ++ ⟨#[112]⟩ ++ ⟨(Lib.itoa (pN a)).toArray⟩)) w1 := fun w1 =>
    run_string_add_sum w1 _ _ (by rw [ByteArray.size_append]; show (Lib.decDigits (oN a)).toArray.size + 1 + (Lib.itoa (pN a)).toArray.size ≤ _; simp; omega)
  generalize (⟨(Lib.decDigits (oN a)).toArray⟩ : ByteArray) ++ ⟨#[112]⟩ ++ ⟨(Lib.itoa (pN a)).toArray⟩ = s2 at *
  generalize (⟨(Lib.decDigits (oN a)).toArray⟩ : ByteArray) ++ ⟨#[112]⟩ = s1 at *
  generalize (⟨(Lib.decDigits (oN a)).toArray⟩ : ByteArray) = d1 at *
  generalize (⟨(Lib.itoa (pN a)).toArray⟩ : ByteArray) = d2 at *
  clear hT hT2 hM hz hE ho c0 c1 c2 hc HP l1 l2
  go_enter Tryz.func59, Tryz.ntmps59
  go_wp2_with fail
  refine (HC.out _).mono ?_
  rintro e w1 ⟨rfl, rfl⟩
  go_wp2_with fail
  refine HO.out.mono ?_
  rintro e w1 ⟨rfl, rfl⟩
  go_wp2_with fail
  refine HU.out.mono ?_
  rintro e w2 ⟨rfl, hb2⟩
  go_wp2_with fail
  refine (HI.out _ hb2).mono ?_
  rintro e w3 ⟨rfl, hb3⟩
  have HB := Lib.hid (hb2.trans (hb3.mono hb2.size))
  clear hb2 hb3
  go_wp2_with fail
  go_ret
  exact ⟨rfl, HB.out⟩
end Go.Proofs.YtlaecbbhgjpfoaaGreatDoor
end

section
namespace Go.Proofs.YtlaecbbhgjpfoaaGreatDoor
open Go.RowKit

theorem sgn_and (a : Nat) (h : a < 18446744073709551616) : bits .and .u64 (a : Int) 9223372036854775808 = ((if a < 9223372036854775808 then 0 else 9223372036854775808 : Nat) : Int) := by
  rw [show (9223372036854775808 : Int) = ((9223372036854775808 : Nat) : Int) from rfl, bits_and_u64_nat a _ h (by decide)]
  congr 1
  apply Nat.eq_of_testBit_eq
  intro i
  rw [Nat.testBit_and, show (9223372036854775808 : Nat) = 2 ^ 63 from rfl, Nat.testBit_two_pow]
  by_cases hi : 63 = i
  · subst hi
    rw [Nat.testBit_eq_decide_div_mod_eq]
    by_cases hs : a < 2 ^ 63
    · rw [if_pos hs, decide_eq_false (by omega)]; rfl
    · rw [if_neg hs, decide_eq_true (by omega), Nat.testBit_two_pow]; simp
  · rw [decide_eq_false hi, Bool.and_false]
    split
    · simp
    · rw [Nat.testBit_two_pow, decide_eq_false hi]
set_option maxHeartbeats 400000 in
theorem text_any (a : Nat) (h : a < 18446744073709551616) (w : World) (hT : Tab64 w) (hT2 : Tab10 w) :
    Calls Tryz.prog 33 #[.int .u64 (a : Int)] w fun e w' => e = .returned (.string (textB a)) ∧ Below w.heap.size w w' := by
  have HC := Lib.hid (canon_any a h)
  have hc : Gn.canonW a < 18446744073709551616 := by unfold Gn.canonW; split <;> omega
  unfold textB
  generalize Gn.canonW a = c at *
  have hs := sgn_and c hc
  have hn := abs_andNot c hc
  by_cases h0 : c < 9223372036854775808
  · rw [if_pos h0]
    rw [if_pos h0] at hs
    have HA := Lib.hid (amountText_any c hc w hT hT2)
    clear h0 hT hT2
    generalize amtB c = s at *
    go_enter Tryz.func33, Tryz.ntmps33
    go_wp2_with (first
      | (go_at_call 34; refine (HC.out _).mono ?_; rintro e w' ⟨rfl, rfl⟩)
      | (go_at_call 59; refine HA.out.mono ?_; rintro e w' ⟨rfl, hb⟩))
    go_ret
    exact ⟨rfl, hb⟩
  · rw [if_neg h0]
    rw [if_neg h0] at hs
    have hsz := amt_size (c % 9223372036854775808)
    have HA := Lib.hid (amountText_any (c % 9223372036854775808) (by omega) w hT hT2)
    have hadd : ∀ w1 : World, (Op.stringOp .add ⟨#[45]⟩ (amtB (c % 9223372036854775808))).run Tryz.prog w1 = .ok (.string ((⟨#[45]⟩ : ByteArray) ++ amtB (c % 9223372036854775808))) w1 := fun w1 =>
      run_string_add_sum w1 _ _ (by show 1 + (amtB (c % 9223372036854775808)).size ≤ _; omega)
    clear h0 hT hT2
    generalize (⟨#[45]⟩ : ByteArray) ++ amtB (c % 9223372036854775808) = t at *
    generalize amtB (c % 9223372036854775808) = s at *
    go_enter Tryz.func33, Tryz.ntmps33
    go_wp2_with (first
      | (go_at_call 34; refine (HC.out _).mono ?_; rintro e w' ⟨rfl, rfl⟩)
      | (go_at_call 59; refine HA.out.mono ?_; rintro e w' ⟨rfl, hb⟩))
    go_ret
    exact ⟨rfl, hb⟩
end Go.Proofs.YtlaecbbhgjpfoaaGreatDoor
end

section
namespace Go.Proofs.YtlaecbbhgjpfoaaGreatDoor
open Go.RowKit

theorem and1 (m : Nat) (h : m < 18446744073709551616) : bits .and .u64 (m : Int) 1 = ((m % 2 : Nat) : Int) := by
  rw [show (1 : Int) = ((1 : Nat) : Int) from rfl, bits_and_u64_nat m 1 h (by decide), Nat.and_one_is_mod]
theorem fx_low (a : Nat) : fx (a % 9223372036854775808) = fx a := by unfold fx; omega
theorem fm_low (a : Nat) : fm (a % 9223372036854775808) = fm a := by unfold fm; omega
theorem cls_lowT (a : Nat) : clsN (a % 9223372036854775808) = clsN a := by unfold clsN; rw [Nat.mod_mod]
theorem tM_low (a : Nat) : tM (a % 9223372036854775808) = tM a := by unfold tM; rw [fx_low, fm_low]
theorem tE_low (a : Nat) : tE (a % 9223372036854775808) = tE a := by unfold tE; rw [fx_low]
theorem amt_low (a : Nat) : amtB (a % 9223372036854775808) = amtB a := by unfold amtB oN pN; rw [cls_lowT, tM_low, tE_low]
/-- a word's sign, as a text -/
def sgnB (a : Nat) : ByteArray := if a < 9223372036854775808 then ⟨#[]⟩ else ⟨#[45]⟩
theorem text_nan (a : Nat) (h : clsN a = 0) : textB a = ⟨#[110, 97, 110]⟩ := by
  have h1 := (cls_nan a).1 h
  have e : Gn.canonW a = 9221120237041090561 := by unfold Gn.canonW; rw [if_pos h1]
  unfold textB
  rw [e, if_pos (by decide)]
  unfold amtB
  rw [if_pos (by decide)]
theorem text_not (a : Nat) (h : clsN a ≠ 0) : textB a = sgnB a ++ amtB a := by
  have h1 : ¬ 9218868437227405312 < a % 9223372036854775808 := fun e => h ((cls_nan a).2 e)
  have e : Gn.canonW a = a := by unfold Gn.canonW; rw [if_neg h1]
  unfold textB sgnB
  rw [e]
  split
  · apply ByteArray.ext; simp
  · rw [amt_low]
set_option maxHeartbeats 400000 in
theorem rnan_any (a : Nat) (h : a < 18446744073709551616) (w : World) : Calls Tryz.prog 23 #[.int .u64 (a : Int)] w fun e w' => e = .returned (.bool (decide (clsN a = 0))) ∧ w' = w := by
  have hn := abs_andNot a h
  have hc := cls_nan a
  by_cases c : clsN a = 0
  · have h1 := hc.1 c
    rw [decide_eq_true c]
    have b1 : decide ((9218868437227405312 : Int) < ((a % 9223372036854775808 : Nat) : Int)) = true := by simp; omega
    clear hc c h1
    generalize a % 9223372036854775808 = x at *
    go_enter Tryz.func23, Tryz.ntmps23
    go_wp2
    go_ret
    exact ⟨rfl, rfl⟩
  · have h1 : ¬ 9218868437227405312 < a % 9223372036854775808 := fun e => c (hc.2 e)
    rw [decide_eq_false c]
    have b1 : decide ((9218868437227405312 : Int) < ((a % 9223372036854775808 : Nat) : Int)) = false := by simp; omega
    clear hc c h1
    generalize a % 9223372036854775808 = x at *
    go_enter Tryz.func23, Tryz.ntmps23
    go_wp2
    go_ret
    exact ⟨rfl, rfl⟩
set_option maxHeartbeats 400000 in
theorem rtaken_any (a : Nat) (h : a < 18446744073709551616) (w : World) :
    Calls Tryz.prog 24 #[.int .u64 (a : Int)] w fun e' w' => e' = .returned (.tuple #[.int .u64 (tM a : Int), .int .i64 (tE a)]) ∧ w' = w := by
  have hx := fields_x a h
  have hm := fields_m a h
  have hl : fx a < 2048 := Nat.mod_lt _ (by decide)
  have hw : IntKind.i64.wrap (fx a : Int) = (fx a : Int) := by rw [IntKind.wrap_i64]; omega
  unfold tM tE
  by_cases h0 : fx a = 0
  · rw [if_pos h0, if_pos h0]
    have hb : ((fx a : Int) == 0) = true := beqN_t (y := 0) h0
    clear h0 hl
    go_enter Tryz.func24, Tryz.ntmps24
    go_wp2
    go_ret2
    exact ⟨rfl, rfl⟩
  · rw [if_neg h0, if_neg h0]
    have hb : ((fx a : Int) == 0) = false := by rw [beq_eq_false_iff_ne]; omega
    have ho := tHalf a
    clear h0
    go_enter Tryz.func24, Tryz.ntmps24
    go_wp2
    go_ret2
    exact ⟨rfl, rfl⟩
theorem end_neg (s : ByteArray) (o : Nat) (P : Int) (h : P < 0) : s ++ ⟨(Lib.decDigits o).toArray⟩ ++ ⟨#[112, 45]⟩ ++ ⟨(Lib.decDigits (-P).toNat).toArray⟩ = s ++ ((⟨(Lib.decDigits o).toArray⟩ : ByteArray) ++ ⟨#[112]⟩ ++ ⟨(Lib.itoa P).toArray⟩) := by
  have e : Lib.itoa P = 45 :: Lib.decDigits (-P).toNat := by unfold Lib.itoa; rw [if_pos h, show P.natAbs = (-P).toNat by omega]
  rw [e]
  apply ByteArray.ext
  simp
theorem end_pos (s : ByteArray) (o : Nat) (P : Int) (h : ¬ P < 0) : s ++ ⟨(Lib.decDigits o).toArray⟩ ++ ⟨#[112]⟩ ++ ⟨(Lib.decDigits P.toNat).toArray⟩ = s ++ ((⟨(Lib.decDigits o).toArray⟩ : ByteArray) ++ ⟨#[112]⟩ ++ ⟨(Lib.itoa P).toArray⟩) := by
  have e : Lib.itoa P = Lib.decDigits P.toNat := by unfold Lib.itoa; rw [if_neg h]
  rw [e]
  apply ByteArray.ext
  simp
end Go.Proofs.YtlaecbbhgjpfoaaGreatDoor
end

section
namespace Go.Proofs.YtlaecbbhgjpfoaaGreatDoor
open Go.RowKit

theorem tM_split (a : Nat) (hc : 3 ≤ clsN a) : tM a = 2 ^ Lib.ctz 64 (tM a) * oN a ∧ oN a % 2 = 1 := by
  have hM := tM_lt a
  have h0 := tM_ne a hc
  obtain ⟨q, hq, _⟩ := Lib.ctzFrom_spec 64 (tM a) (by omega) (by omega)
  have e : Lib.ctz 64 (tM a) = Lib.ctzFrom 64 (tM a) := by unfold Lib.ctz; rw [if_neg h0]
  have ho : oN a = 2 * q + 1 := by
    unfold oN
    rw [e]
    conv => lhs; lhs; rw [hq]
    exact Nat.mul_div_cancel_left _ (Nat.two_pow_pos _)
  rw [e, ho]
  exact ⟨hq, by omega⟩
theorem sgn_size (a : Nat) : (sgnB a).size ≤ 1 := by unfold sgnB; split <;> decide

set_option maxHeartbeats 400000 in
set_option maxRecDepth 8000 in
theorem rtext_finP (a : Nat) (h : a < 18446744073709551616) (hc : 3 ≤ clsN a) (h0 : a < 9223372036854775808) (w : World) :
    Calls Tryz.prog 9 #[.int .u64 (a : Int)] w fun e w' => e = .returned (.string (sgnB a ++ amtB a)) ∧ Below w.heap.size w w' := by
  have HN := Lib.hid (rnan_any a h)
  rw [decide_eq_false (by omega)] at HN
  have HT := Lib.hid (rtaken_any a h)
  have hs : bits .and .u64 (a : Int) 9223372036854775808 = 0 := by rw [sgn_and a h, if_pos h0]; rfl
  have hsg : sgnB a = ⟨#[]⟩ := if_pos h0
  have hn := abs_andNot a h
  have hinf : (((a % 9223372036854775808 : Nat) : Int) == 9218868437227405312) = false := by
    rw [beq_eq_false_iff_ne]
    intro e
    have e' : a % 9223372036854775808 = 9218868437227405312 := by omega
    have : clsN a = 1 := by unfold clsN; rw [if_neg (by omega), if_pos e']
    omega
  have hamt : amtB a = (⟨(Lib.decDigits (oN a)).toArray⟩ : ByteArray) ++ ⟨#[112]⟩ ++ ⟨(Lib.itoa (pN a)).toArray⟩ := by unfold amtB; rw [if_neg (by omega), if_neg (by omega), if_neg (by omega)]
  obtain ⟨hsp, hodd⟩ := tM_split a hc
  have hM := tM_lt a
  have hz := ctz_lt (tM a) (tM_ne a hc) (by omega)
  have hE := tE_bd a
  have hM0 := tM_ne a hc
  have ho : oN a ≤ tM a := Nat.div_le_self _ _
  have hP : pN a = tE a + (Lib.ctz 64 (tM a) : Int) := rfl
  rw [hamt, hsg]
  generalize htg : (⟨#[]⟩ : ByteArray) ++ ((⟨(Lib.decDigits (oN a)).toArray⟩ : ByteArray) ++ ⟨#[112]⟩ ++ ⟨(Lib.itoa (pN a)).toArray⟩) = tgt
  have HTG := Lib.hid htg
  clear hamt hsg hc h0 htg
  generalize hz' : Lib.ctz 64 (tM a) = z at *
  generalize tM a = M at *
  generalize tE a = E at *
  generalize oN a = o at *
  generalize pN a = P at *
  generalize a % 9223372036854775808 = x at *
  have hm0 : ((M : Int) == 0) = false := by rw [beq_eq_false_iff_ne]; omega
  have HSP := Lib.hid hsp
  clear hsp hz'
  have HD := Lib.hid (digits_any o (by omega))
  have l1 := nd_le o (by omega)
  go_enter Tryz.func9, Tryz.ntmps9
  go_wp2_with fail
  refine (HN.out _).mono ?_
  rintro e w1 ⟨rfl, rfl⟩
  go_wp2_with fail
  refine (HT.out _).mono ?_
  rintro e w1 ⟨rfl, rfl⟩
  go_wp2_with fail
  go_loopw [4, 5] (fun m e wr => ∃ i : Nat, i ≤ z ∧ m = .int .u64 ((2 ^ (z - i) * o : Nat) : Int) ∧ e = .int .i64 (E + (i : Int)) ∧ wr = w1) (fun _ e _ => (E + (z : Int) - intOf e).toNat)
  case atStart => exact ⟨0, Nat.zero_le _, by rw [Nat.sub_zero, ← HSP.out], by simp, rfl⟩
  case round =>
    obtain ⟨i, hiz, rfl, rfl, rfl⟩ := hrel
    by_cases hi : i < z
    · have e1 : 2 ^ (z - i) * o = 2 * (2 ^ (z - (i + 1)) * o) := by
        rw [show z - i = (z - (i + 1)) + 1 by omega, Nat.pow_succ, Nat.mul_comm (2 ^ (z - (i + 1))) 2, Nat.mul_assoc]
      have e2 : 2 ^ (z - i) * o ≤ M := by
        rw [HSP.out]
        exact Nat.mul_le_mul_right _ (Nat.pow_le_pow_right (by decide) (by omega))
      have HQ : Hid (∃ r, 2 ^ (z - (i + 1)) * o = r) := ⟨_, rfl⟩
      generalize hr : 2 ^ (z - (i + 1)) * o = r at *
      generalize 2 ^ (z - i) * o = m at *
      have ha : bits .and .u64 (m : Int) 1 = 0 := by rw [and1 m (by omega), show m % 2 = 0 by omega]; rfl
      have hd : (m : Int) / 2 = (r : Int) := by omega
      have hml : (m : Int) < 9007199254740992 := by omega
      have HR := Lib.hid hr
      clear HQ e1 e2 hr
      go_wp2_with fail
      exact ⟨⟨i + 1, by omega, by rw [HR.out], by go_num, trivial⟩, by simp [intOf]; omega⟩
    · obtain rfl : i = z := by omega
      have ha : bits .and .u64 (o : Int) 1 = 1 := by rw [and1 o (by omega), hodd]; rfl
      rw [Nat.sub_self, Nat.pow_zero, Nat.one_mul]
      rw [← hP]
      by_cases hneg : P < 0
      · obtain ⟨u, hu', huv, hu⟩ : ∃ u : Nat, -P = (u : Int) ∧ (-P).toNat = u ∧ u < 18446744073709551616 := ⟨(-P).toNat, by omega, rfl, by omega⟩
        have HD2 := Lib.hid (digits_any u hu)
        have hub : (u : Int) ≤ 5000 := by omega
        have l2 := nd_le u hu
        have ad1 : ∀ w1 : World, (Op.stringOp .add ⟨#[]⟩ ⟨(Lib.decDigits o).toArray⟩).run Tryz.prog w1 = .ok (.string ((⟨#[]⟩ : ByteArray) ++ ⟨(Lib.decDigits o).toArray⟩)) w1 := fun w1 => run_string_add_sum w1 _ _ (by show 0 + (Lib.decDigits o).toArray.size ≤ _; simp; omega)
        have ad2 : ∀ w1 : World, (Op.stringOp .add ((⟨#[]⟩ : ByteArray) ++ ⟨(Lib.decDigits o).toArray⟩) ⟨#[112, 45]⟩).run Tryz.prog w1 = .ok (.string ((⟨#[]⟩ : ByteArray) ++ ⟨(Lib.decDigits o).toArray⟩ ++ ⟨#[112, 45]⟩)) w1 := fun w1 => run_string_add_sum w1 _ _ (by rw [ByteArray.size_append]; show 0 + (Lib.decDigits o).toArray.size + 2 ≤ _; simp; omega)
        have ad3 : ∀ w1 : World, (Op.stringOp .add ((⟨#[]⟩ : ByteArray) ++ ⟨(Lib.decDigits o).toArray⟩ ++ ⟨#[112, 45]⟩) ⟨(Lib.decDigits u).toArray⟩).run Tryz.prog w1 = .ok (.string ((⟨#[]⟩ : ByteArray) ++ ⟨(Lib.decDigits o).toArray⟩ ++ ⟨#[112, 45]⟩ ++ ⟨(Lib.decDigits u).toArray⟩)) w1 := fun w1 => run_string_add_sum w1 _ _ (by rw [ByteArray.size_append, ByteArray.size_append]; show 0 + (Lib.decDigits o).toArray.size + 2 + (Lib.decDigits u).toArray.size ≤ _; simp; omega)
        have HEQ : Hid ((⟨#[]⟩ : ByteArray) ++ ⟨(Lib.decDigits o).toArray⟩ ++ ⟨#[112, 45]⟩ ++ ⟨(Lib.decDigits u).toArray⟩ = tgt) := by show _ = _; rw [← HTG.out, ← end_neg _ _ _ hneg, huv]
        generalize (⟨#[]⟩ : ByteArray) ++ ⟨(Lib.decDigits o).toArray⟩ ++ ⟨#[112, 45]⟩ ++ ⟨(Lib.decDigits u).toArray⟩ = s3 at *
        generalize (⟨#[]⟩ : ByteArray) ++ ⟨(Lib.decDigits o).toArray⟩ ++ ⟨#[112, 45]⟩ = s2 at *
        generalize (⟨#[]⟩ : ByteArray) ++ ⟨(Lib.decDigits o).toArray⟩ = s1 at *
        generalize (⟨(Lib.decDigits o).toArray⟩ : ByteArray) = d1 at *
        generalize (⟨(Lib.decDigits u).toArray⟩ : ByteArray) = d2 at *
        clear HTG hE hP hodd
        go_wp2_with fail
        refine (HD.out _).mono ?_
        rintro e w2 ⟨rfl, hb2⟩
        go_wp2_with fail
        refine (HD2.out _).mono ?_
        rintro e w3 ⟨rfl, hb3⟩
        have HB := Lib.hid (hb2.trans (hb3.mono hb2.size))
        clear hb2 hb3
        go_wp2_with fail
        go_ret
        exact ⟨by rw [← HEQ.out]; rfl, HB.out⟩
      · obtain ⟨u, rfl, huv, hu⟩ : ∃ u : Nat, P = (u : Int) ∧ P.toNat = u ∧ u < 18446744073709551616 := ⟨P.toNat, by omega, rfl, by omega⟩
        have HD2 := Lib.hid (digits_any u hu)
        have hub : (u : Int) ≤ 5000 := by omega
        have l2 := nd_le u hu
        have ad1 : ∀ w1 : World, (Op.stringOp .add ⟨#[]⟩ ⟨(Lib.decDigits o).toArray⟩).run Tryz.prog w1 = .ok (.string ((⟨#[]⟩ : ByteArray) ++ ⟨(Lib.decDigits o).toArray⟩)) w1 := fun w1 => run_string_add_sum w1 _ _ (by show 0 + (Lib.decDigits o).toArray.size ≤ _; simp; omega)
        have ad2 : ∀ w1 : World, (Op.stringOp .add ((⟨#[]⟩ : ByteArray) ++ ⟨(Lib.decDigits o).toArray⟩) ⟨#[112]⟩).run Tryz.prog w1 = .ok (.string ((⟨#[]⟩ : ByteArray) ++ ⟨(Lib.decDigits o).toArray⟩ ++ ⟨#[112]⟩)) w1 := fun w1 => run_string_add_sum w1 _ _ (by rw [ByteArray.size_append]; show 0 + (Lib.decDigits o).toArray.size + 1 ≤ _; simp; omega)
        have ad3 : ∀ w1 : World, (Op.stringOp .add ((⟨#[]⟩ : ByteArray) ++ ⟨(Lib.decDigits o).toArray⟩ ++ ⟨#[112]⟩) ⟨(Lib.decDigits u).toArray⟩).run Tryz.prog w1 = .ok (.string ((⟨#[]⟩ : ByteArray) ++ ⟨(Lib.decDigits o).toArray⟩ ++ ⟨#[112]⟩ ++ ⟨(Lib.decDigits u).toArray⟩)) w1 := fun w1 => run_string_add_sum w1 _ _ (by rw [ByteArray.size_append, ByteArray.size_append]; show 0 + (Lib.decDigits o).toArray.size + 1 + (Lib.decDigits u).toArray.size ≤ _; simp; omega)
        have HEQ : Hid ((⟨#[]⟩ : ByteArray) ++ ⟨(Lib.decDigits o).toArray⟩ ++ ⟨#[112]⟩ ++ ⟨(Lib.decDigits u).toArray⟩ = tgt) := by show _ = _; rw [← HTG.out, ← end_pos _ _ _ hneg, huv]
        generalize (⟨#[]⟩ : ByteArray) ++ ⟨(Lib.decDigits o).toArray⟩ ++ ⟨#[112]⟩ ++ ⟨(Lib.decDigits u).toArray⟩ = s3 at *
        generalize (⟨#[]⟩ : ByteArray) ++ ⟨(Lib.decDigits o).toArray⟩ ++ ⟨#[112]⟩ = s2 at *
        generalize (⟨#[]⟩ : ByteArray) ++ ⟨(Lib.decDigits o).toArray⟩ = s1 at *
        generalize (⟨(Lib.decDigits o).toArray⟩ : ByteArray) = d1 at *
        generalize (⟨(Lib.decDigits u).toArray⟩ : ByteArray) = d2 at *
        clear HTG hE hP hodd
        go_wp2_with fail
        refine (HD.out _).mono ?_
        rintro e w2 ⟨rfl, hb2⟩
        go_wp2_with fail
        refine (HD2.out _).mono ?_
        rintro e w3 ⟨rfl, hb3⟩
        have HB := Lib.hid (hb2.trans (hb3.mono hb2.size))
        clear hb2 hb3
        go_wp2_with fail
        go_ret
        exact ⟨by rw [← HEQ.out]; rfl, HB.out⟩

set_option maxHeartbeats 400000 in
set_option maxRecDepth 8000 in
theorem rtext_finN (a : Nat) (h : a < 18446744073709551616) (hc : 3 ≤ clsN a) (h0 : ¬ a < 9223372036854775808) (w : World) :
    Calls Tryz.prog 9 #[.int .u64 (a : Int)] w fun e w' => e = .returned (.string (sgnB a ++ amtB a)) ∧ Below w.heap.size w w' := by
  have HN := Lib.hid (rnan_any a h)
  rw [decide_eq_false (by omega)] at HN
  have HT := Lib.hid (rtaken_any a h)
  have hs : bits .and .u64 (a : Int) 9223372036854775808 = 9223372036854775808 := by rw [sgn_and a h, if_neg h0]; rfl
  have hsg : sgnB a = ⟨#[45]⟩ := if_neg h0
  have hn := abs_andNot a h
  have hinf : (((a % 9223372036854775808 : Nat) : Int) == 9218868437227405312) = false := by
    rw [beq_eq_false_iff_ne]
    intro e
    have e' : a % 9223372036854775808 = 9218868437227405312 := by omega
    have : clsN a = 1 := by unfold clsN; rw [if_neg (by omega), if_pos e']
    omega
  have hamt : amtB a = (⟨(Lib.decDigits (oN a)).toArray⟩ : ByteArray) ++ ⟨#[112]⟩ ++ ⟨(Lib.itoa (pN a)).toArray⟩ := by unfold amtB; rw [if_neg (by omega), if_neg (by omega), if_neg (by omega)]
  obtain ⟨hsp, hodd⟩ := tM_split a hc
  have hM := tM_lt a
  have hz := ctz_lt (tM a) (tM_ne a hc) (by omega)
  have hE := tE_bd a
  have hM0 := tM_ne a hc
  have ho : oN a ≤ tM a := Nat.div_le_self _ _
  have hP : pN a = tE a + (Lib.ctz 64 (tM a) : Int) := rfl
  rw [hamt, hsg]
  generalize htg : (⟨#[45]⟩ : ByteArray) ++ ((⟨(Lib.decDigits (oN a)).toArray⟩ : ByteArray) ++ ⟨#[112]⟩ ++ ⟨(Lib.itoa (pN a)).toArray⟩) = tgt
  have HTG := Lib.hid htg
  clear hamt hsg hc h0 htg
  generalize hz' : Lib.ctz 64 (tM a) = z at *
  generalize tM a = M at *
  generalize tE a = E at *
  generalize oN a = o at *
  generalize pN a = P at *
  generalize a % 9223372036854775808 = x at *
  have hm0 : ((M : Int) == 0) = false := by rw [beq_eq_false_iff_ne]; omega
  have HSP := Lib.hid hsp
  clear hsp hz'
  have HD := Lib.hid (digits_any o (by omega))
  have l1 := nd_le o (by omega)
  go_enter Tryz.func9, Tryz.ntmps9
  go_wp2_with fail
  refine (HN.out _).mono ?_
  rintro e w1 ⟨rfl, rfl⟩
  go_wp2_with fail
  refine (HT.out _).mono ?_
  rintro e w1 ⟨rfl, rfl⟩
  go_wp2_with fail
  go_loopw [4, 5] (fun m e wr => ∃ i : Nat, i ≤ z ∧ m = .int .u64 ((2 ^ (z - i) * o : Nat) : Int) ∧ e = .int .i64 (E + (i : Int)) ∧ wr = w1) (fun _ e _ => (E + (z : Int) - intOf e).toNat)
  case atStart => exact ⟨0, Nat.zero_le _, by rw [Nat.sub_zero, ← HSP.out], by simp, rfl⟩
  case round =>
    obtain ⟨i, hiz, rfl, rfl, rfl⟩ := hrel
    by_cases hi : i < z
    · have e1 : 2 ^ (z - i) * o = 2 * (2 ^ (z - (i + 1)) * o) := by
        rw [show z - i = (z - (i + 1)) + 1 by omega, Nat.pow_succ, Nat.mul_comm (2 ^ (z - (i + 1))) 2, Nat.mul_assoc]
      have e2 : 2 ^ (z - i) * o ≤ M := by
        rw [HSP.out]
        exact Nat.mul_le_mul_right _ (Nat.pow_le_pow_right (by decide) (by omega))
      have HQ : Hid (∃ r, 2 ^ (z - (i + 1)) * o = r) := ⟨_, rfl⟩
      generalize hr : 2 ^ (z - (i + 1)) * o = r at *
      generalize 2 ^ (z - i) * o = m at *
      have ha : bits .and .u64 (m : Int) 1 = 0 := by rw [and1 m (by omega), show m % 2 = 0 by omega]; rfl
      have hd : (m : Int) / 2 = (r : Int) := by omega
      have hml : (m : Int) < 9007199254740992 := by omega
      have HR := Lib.hid hr
      clear HQ e1 e2 hr
      go_wp2_with fail
      exact ⟨⟨i + 1, by omega, by rw [HR.out], by go_num, trivial⟩, by simp [intOf]; omega⟩
    · obtain rfl : i = z := by omega
      have ha : bits .and .u64 (o : Int) 1 = 1 := by rw [and1 o (by omega), hodd]; rfl
      rw [Nat.sub_self, Nat.pow_zero, Nat.one_mul]
      rw [← hP]
      by_cases hneg : P < 0
      · obtain ⟨u, hu', huv, hu⟩ : ∃ u : Nat, -P = (u : Int) ∧ (-P).toNat = u ∧ u < 18446744073709551616 := ⟨(-P).toNat, by omega, rfl, by omega⟩
        have HD2 := Lib.hid (digits_any u hu)
        have hub : (u : Int) ≤ 5000 := by omega
        have l2 := nd_le u hu
        have ad1 : ∀ w1 : World, (Op.stringOp .add ⟨#[45]⟩ ⟨(Lib.decDigits o).toArray⟩).run Tryz.prog w1 = .ok (.string ((⟨#[45]⟩ : ByteArray) ++ ⟨(Lib.decDigits o).toArray⟩)) w1 := fun w1 => run_string_add_sum w1 _ _ (by show 1 + (Lib.decDigits o).toArray.size ≤ _; simp; omega)
        have ad2 : ∀ w1 : World, (Op.stringOp .add ((⟨#[45]⟩ : ByteArray) ++ ⟨(Lib.decDigits o).toArray⟩) ⟨#[112, 45]⟩).run Tryz.prog w1 = .ok (.string ((⟨#[45]⟩ : ByteArray) ++ ⟨(Lib.decDigits o).toArray⟩ ++ ⟨#[112, 45]⟩)) w1 := fun w1 => run_string_add_sum w1 _ _ (by rw [ByteArray.size_append]; show 1 + (Lib.decDigits o).toArray.size + 2 ≤ _; simp; omega)
        have ad3 : ∀ w1 : World, (Op.stringOp .add ((⟨#[45]⟩ : ByteArray) ++ ⟨(Lib.decDigits o).toArray⟩ ++ ⟨#[112, 45]⟩) ⟨(Lib.decDigits u).toArray⟩).run Tryz.prog w1 = .ok (.string ((⟨#[45]⟩ : ByteArray) ++ ⟨(Lib.decDigits o).toArray⟩ ++ ⟨#[112, 45]⟩ ++ ⟨(Lib.decDigits u).toArray⟩)) w1 := fun w1 => run_string_add_sum w1 _ _ (by rw [ByteArray.size_append, ByteArray.size_append]; show 1 + (Lib.decDigits o).toArray.size + 2 + (Lib.decDigits u).toArray.size ≤ _; simp; omega)
        have HEQ : Hid ((⟨#[45]⟩ : ByteArray) ++ ⟨(Lib.decDigits o).toArray⟩ ++ ⟨#[112, 45]⟩ ++ ⟨(Lib.decDigits u).toArray⟩ = tgt) := by show _ = _; rw [← HTG.out, ← end_neg _ _ _ hneg, huv]
        generalize (⟨#[45]⟩ : ByteArray) ++ ⟨(Lib.decDigits o).toArray⟩ ++ ⟨#[112, 45]⟩ ++ ⟨(Lib.decDigits u).toArray⟩ = s3 at *
        generalize (⟨#[45]⟩ : ByteArray) ++ ⟨(Lib.decDigits o).toArray⟩ ++ ⟨#[112, 45]⟩ = s2 at *
        generalize (⟨#[45]⟩ : ByteArray) ++ ⟨(Lib.decDigits o).toArray⟩ = s1 at *
        generalize (⟨(Lib.decDigits o).toArray⟩ : ByteArray) = d1 at *
        generalize (⟨(Lib.decDigits u).toArray⟩ : ByteArray) = d2 at *
        clear HTG hE hP hodd
        go_wp2_with fail
        refine (HD.out _).mono ?_
        rintro e w2 ⟨rfl, hb2⟩
        go_wp2_with fail
        refine (HD2.out _).mono ?_
        rintro e w3 ⟨rfl, hb3⟩
        have HB := Lib.hid (hb2.trans (hb3.mono hb2.size))
        clear hb2 hb3
        go_wp2_with fail
        go_ret
        exact ⟨by rw [← HEQ.out]; rfl, HB.out⟩
      · obtain ⟨u, rfl, huv, hu⟩ : ∃ u : Nat, P = (u : Int) ∧ P.toNat = u ∧ u < 18446744073709551616 := ⟨P.toNat, by omega, rfl, by omega⟩
        have HD2 := Lib.hid (digits_any u hu)
        have hub : (u : Int) ≤ 5000 := by omega
        have l2 := nd_le u hu
        have ad1 : ∀ w1 : World, (Op.stringOp .add ⟨#[45]⟩ ⟨(Lib.decDigits o).toArray⟩).run Tryz.prog w1 = .ok (.string ((⟨#[45]⟩ : ByteArray) ++ ⟨(Lib.decDigits o).toArray⟩)) w1 := fun w1 => run_string_add_sum w1 _ _ (by show 1 + (Lib.decDigits o).toArray.size ≤ _; simp; omega)
        have ad2 : ∀ w1 : World, (Op.stringOp .add ((⟨#[45]⟩ : ByteArray) ++ ⟨(Lib.decDigits o).toArray⟩) ⟨#[112]⟩).run Tryz.prog w1 = .ok (.string ((⟨#[45]⟩ : ByteArray) ++ ⟨(Lib.decDigits o).toArray⟩ ++ ⟨#[112]⟩)) w1 := fun w1 => run_string_add_sum w1 _ _ (by rw [ByteArray.size_append]; show 1 + (Lib.decDigits o).toArray.size + 1 ≤ _; simp; omega)
        have ad3 : ∀ w1 : World, (Op.stringOp .add ((⟨#[45]⟩ : ByteArray) ++ ⟨(Lib.decDigits o).toArray⟩ ++ ⟨#[112]⟩) ⟨(Lib.decDigits u).toArray⟩).run Tryz.prog w1 = .ok (.string ((⟨#[45]⟩ : ByteArray) ++ ⟨(Lib.decDigits o).toArray⟩ ++ ⟨#[112]⟩ ++ ⟨(Lib.decDigits u).toArray⟩)) w1 := fun w1 => run_string_add_sum w1 _ _ (by rw [ByteArray.size_append, ByteArray.size_append]; show 1 + (Lib.decDigits o).toArray.size + 1 + (Lib.decDigits u).toArray.size ≤ _; simp; omega)
        have HEQ : Hid ((⟨#[45]⟩ : ByteArray) ++ ⟨(Lib.decDigits o).toArray⟩ ++ ⟨#[112]⟩ ++ ⟨(Lib.decDigits u).toArray⟩ = tgt) := by show _ = _; rw [← HTG.out, ← end_pos _ _ _ hneg, huv]
        generalize (⟨#[45]⟩ : ByteArray) ++ ⟨(Lib.decDigits o).toArray⟩ ++ ⟨#[112]⟩ ++ ⟨(Lib.decDigits u).toArray⟩ = s3 at *
        generalize (⟨#[45]⟩ : ByteArray) ++ ⟨(Lib.decDigits o).toArray⟩ ++ ⟨#[112]⟩ = s2 at *
        generalize (⟨#[45]⟩ : ByteArray) ++ ⟨(Lib.decDigits o).toArray⟩ = s1 at *
        generalize (⟨(Lib.decDigits o).toArray⟩ : ByteArray) = d1 at *
        generalize (⟨(Lib.decDigits u).toArray⟩ : ByteArray) = d2 at *
        clear HTG hE hP hodd
        go_wp2_with fail
        refine (HD.out _).mono ?_
        rintro e w2 ⟨rfl, hb2⟩
        go_wp2_with fail
        refine (HD2.out _).mono ?_
        rintro e w3 ⟨rfl, hb3⟩
        have HB := Lib.hid (hb2.trans (hb3.mono hb2.size))
        clear hb2 hb3
        go_wp2_with fail
        go_ret
        exact ⟨by rw [← HEQ.out]; rfl, HB.out⟩
end Go.Proofs.YtlaecbbhgjpfoaaGreatDoor
end

section
namespace Go.Proofs.YtlaecbbhgjpfoaaGreatDoor
open Go.RowKit

set_option maxHeartbeats 400000 in
theorem rtext_nan (a : Nat) (h : a < 18446744073709551616) (c : clsN a = 0) (w : World) :
    Calls Tryz.prog 9 #[.int .u64 (a : Int)] w fun e w' => e = .returned (.string (textB a)) ∧ Below w.heap.size w w' := by
  have HN := Lib.hid (rnan_any a h)
  rw [decide_eq_true c] at HN
  rw [text_nan a c]
  clear c
  go_enter Tryz.func9, Tryz.ntmps9
  go_wp2_with fail
  refine (HN.out _).mono ?_
  rintro e w1 ⟨rfl, rfl⟩
  go_wp2_with fail
  go_ret
  exact ⟨rfl, Below.refl _ _⟩

set_option maxHeartbeats 400000 in
theorem rtextInfP (a : Nat) (h : a < 18446744073709551616) (c : clsN a = 1) (h0 : a < 9223372036854775808) (w : World) :
    Calls Tryz.prog 9 #[.int .u64 (a : Int)] w fun e w' => e = .returned (.string (sgnB a ++ amtB a)) ∧ Below w.heap.size w w' := by
  have HN := Lib.hid (rnan_any a h)
  rw [decide_eq_false (by omega)] at HN
  have HT := Lib.hid (rtaken_any a h)
  have hs : bits .and .u64 (a : Int) 9223372036854775808 = 0 := by rw [sgn_and a h, if_pos h0]; rfl
  have hsg : sgnB a = ⟨#[]⟩ := if_pos h0
  have hn := abs_andNot a h
  have hx : (((a % 9223372036854775808 : Nat) : Int) == 9218868437227405312) = true := by
    rcases cls_cases a with ⟨_, _, h3⟩ | ⟨h1, h2, h3⟩ | ⟨_, _, h3⟩ | ⟨_, _, h3⟩ | ⟨_, _, h3⟩
    · omega
    · rw [beq_iff_eq]; unfold fx at h1; unfold fm at h2; omega
    · omega
    · omega
    · omega
  have hamt : amtB a = ⟨#[105, 110, 102]⟩ := by unfold amtB; rw [if_neg (by omega), if_pos c]
  have hadd : ∀ w1 : World, (Op.stringOp .add ⟨#[]⟩ ⟨#[105, 110, 102]⟩).run Tryz.prog w1 = .ok (.string ((⟨#[]⟩ : ByteArray) ++ ⟨#[105, 110, 102]⟩)) w1 := fun w1 => run_string_add_sum w1 _ _ (by decide)
  rw [hamt, hsg]
  clear hamt hsg c h0
  generalize (⟨#[]⟩ : ByteArray) ++ ⟨#[105, 110, 102]⟩ = t at *
  generalize a % 9223372036854775808 = x at *
  generalize tM a = M at *
  generalize tE a = E at *
  go_enter Tryz.func9, Tryz.ntmps9
  go_wp2_with fail
  refine (HN.out _).mono ?_
  rintro e w1 ⟨rfl, rfl⟩
  go_wp2_with fail
  refine (HT.out _).mono ?_
  rintro e w1 ⟨rfl, rfl⟩
  go_wp2_with fail
  go_ret
  exact ⟨rfl, Below.refl _ _⟩

set_option maxHeartbeats 400000 in
theorem rtextInfN (a : Nat) (h : a < 18446744073709551616) (c : clsN a = 1) (h0 : ¬ a < 9223372036854775808) (w : World) :
    Calls Tryz.prog 9 #[.int .u64 (a : Int)] w fun e w' => e = .returned (.string (sgnB a ++ amtB a)) ∧ Below w.heap.size w w' := by
  have HN := Lib.hid (rnan_any a h)
  rw [decide_eq_false (by omega)] at HN
  have HT := Lib.hid (rtaken_any a h)
  have hs : bits .and .u64 (a : Int) 9223372036854775808 = 9223372036854775808 := by rw [sgn_and a h, if_neg h0]; rfl
  have hsg : sgnB a = ⟨#[45]⟩ := if_neg h0
  have hn := abs_andNot a h
  have hx : (((a % 9223372036854775808 : Nat) : Int) == 9218868437227405312) = true := by
    rcases cls_cases a with ⟨_, _, h3⟩ | ⟨h1, h2, h3⟩ | ⟨_, _, h3⟩ | ⟨_, _, h3⟩ | ⟨_, _, h3⟩
    · omega
    · rw [beq_iff_eq]; unfold fx at h1; unfold fm at h2; omega
    · omega
    · omega
    · omega
  have hamt : amtB a = ⟨#[105, 110, 102]⟩ := by unfold amtB; rw [if_neg (by omega), if_pos c]
  have hadd : ∀ w1 : World, (Op.stringOp .add ⟨#[45]⟩ ⟨#[105, 110, 102]⟩).run Tryz.prog w1 = .ok (.string ((⟨#[45]⟩ : ByteArray) ++ ⟨#[105, 110, 102]⟩)) w1 := fun w1 => run_string_add_sum w1 _ _ (by decide)
  rw [hamt, hsg]
  clear hamt hsg c h0
  generalize (⟨#[45]⟩ : ByteArray) ++ ⟨#[105, 110, 102]⟩ = t at *
  generalize a % 9223372036854775808 = x at *
  generalize tM a = M at *
  generalize tE a = E at *
  go_enter Tryz.func9, Tryz.ntmps9
  go_wp2_with fail
  refine (HN.out _).mono ?_
  rintro e w1 ⟨rfl, rfl⟩
  go_wp2_with fail
  refine (HT.out _).mono ?_
  rintro e w1 ⟨rfl, rfl⟩
  go_wp2_with fail
  go_ret
  exact ⟨rfl, Below.refl _ _⟩

set_option maxHeartbeats 400000 in
theorem rtextZeroP (a : Nat) (h : a < 18446744073709551616) (c : clsN a = 2) (h0 : a < 9223372036854775808) (w : World) :
    Calls Tryz.prog 9 #[.int .u64 (a : Int)] w fun e w' => e = .returned (.string (sgnB a ++ amtB a)) ∧ Below w.heap.size w w' := by
  have HN := Lib.hid (rnan_any a h)
  rw [decide_eq_false (by omega)] at HN
  have HT := Lib.hid (rtaken_any a h)
  have hs : bits .and .u64 (a : Int) 9223372036854775808 = 0 := by rw [sgn_and a h, if_pos h0]; rfl
  have hsg : sgnB a = ⟨#[]⟩ := if_pos h0
  have hn := abs_andNot a h
  have hx : (((a % 9223372036854775808 : Nat) : Int) == 9218868437227405312) = false := by
    rcases cls_cases a with ⟨_, _, h3⟩ | ⟨_, _, h3⟩ | ⟨h1, h2, h3⟩ | ⟨_, _, h3⟩ | ⟨_, _, h3⟩
    · omega
    · omega
    · rw [beq_eq_false_iff_ne]; unfold fx at h1; unfold fm at h2; omega
    · omega
    · omega
  have hM : tM a = 0 := by
    rcases cls_cases a with ⟨_, _, h3⟩ | ⟨_, _, h3⟩ | ⟨h1, h2, h3⟩ | ⟨_, _, h3⟩ | ⟨_, _, h3⟩
    · omega
    · omega
    · unfold tM; rw [if_pos h1]; exact h2
    · omega
    · omega
  rw [hM] at HT
  have hamt : amtB a = ⟨#[48]⟩ := by unfold amtB; rw [if_neg (by omega), if_neg (by omega), if_pos c]
  have hadd : ∀ w1 : World, (Op.stringOp .add ⟨#[]⟩ ⟨#[48]⟩).run Tryz.prog w1 = .ok (.string ((⟨#[]⟩ : ByteArray) ++ ⟨#[48]⟩)) w1 := fun w1 => run_string_add_sum w1 _ _ (by decide)
  rw [hamt, hsg]
  clear hamt hsg c h0
  generalize (⟨#[]⟩ : ByteArray) ++ ⟨#[48]⟩ = t at *
  generalize a % 9223372036854775808 = x at *
  generalize tE a = E at *
  go_enter Tryz.func9, Tryz.ntmps9
  go_wp2_with fail
  refine (HN.out _).mono ?_
  rintro e w1 ⟨rfl, rfl⟩
  go_wp2_with fail
  refine (HT.out _).mono ?_
  rintro e w1 ⟨rfl, rfl⟩
  go_wp2_with fail
  go_ret
  exact ⟨rfl, Below.refl _ _⟩

set_option maxHeartbeats 400000 in
theorem rtextZeroN (a : Nat) (h : a < 18446744073709551616) (c : clsN a = 2) (h0 : ¬ a < 9223372036854775808) (w : World) :
    Calls Tryz.prog 9 #[.int .u64 (a : Int)] w fun e w' => e = .returned (.string (sgnB a ++ amtB a)) ∧ Below w.heap.size w w' := by
  have HN := Lib.hid (rnan_any a h)
  rw [decide_eq_false (by omega)] at HN
  have HT := Lib.hid (rtaken_any a h)
  have hs : bits .and .u64 (a : Int) 9223372036854775808 = 9223372036854775808 := by rw [sgn_and a h, if_neg h0]; rfl
  have hsg : sgnB a = ⟨#[45]⟩ := if_neg h0
  have hn := abs_andNot a h
  have hx : (((a % 9223372036854775808 : Nat) : Int) == 9218868437227405312) = false := by
    rcases cls_cases a with ⟨_, _, h3⟩ | ⟨_, _, h3⟩ | ⟨h1, h2, h3⟩ | ⟨_, _, h3⟩ | ⟨_, _, h3⟩
    · omega
    · omega
    · rw [beq_eq_false_iff_ne]; unfold fx at h1; unfold fm at h2; omega
    · omega
    · omega
  have hM : tM a = 0 := by
    rcases cls_cases a with ⟨_, _, h3⟩ | ⟨_, _, h3⟩ | ⟨h1, h2, h3⟩ | ⟨_, _, h3⟩ | ⟨_, _, h3⟩
    · omega
    · omega
    · unfold tM; rw [if_pos h1]; exact h2
    · omega
    · omega
  rw [hM] at HT
  have hamt : amtB a = ⟨#[48]⟩ := by unfold amtB; rw [if_neg (by omega), if_neg (by omega), if_pos c]
  have hadd : ∀ w1 : World, (Op.stringOp .add ⟨#[45]⟩ ⟨#[48]⟩).run Tryz.prog w1 = .ok (.string ((⟨#[45]⟩ : ByteArray) ++ ⟨#[48]⟩)) w1 := fun w1 => run_string_add_sum w1 _ _ (by decide)
  rw [hamt, hsg]
  clear hamt hsg c h0
  generalize (⟨#[45]⟩ : ByteArray) ++ ⟨#[48]⟩ = t at *
  generalize a % 9223372036854775808 = x at *
  generalize tE a = E at *
  go_enter Tryz.func9, Tryz.ntmps9
  go_wp2_with fail
  refine (HN.out _).mono ?_
  rintro e w1 ⟨rfl, rfl⟩
  go_wp2_with fail
  refine (HT.out _).mono ?_
  rintro e w1 ⟨rfl, rfl⟩
  go_wp2_with fail
  go_ret
  exact ⟨rfl, Below.refl _ _⟩

theorem refText_any (a : Nat) (h : a < 18446744073709551616) (w : World) :
    Calls Tryz.prog 9 #[.int .u64 (a : Int)] w fun e w' => e = .returned (.string (textB a)) ∧ Below w.heap.size w w' := by
  by_cases c0 : clsN a = 0
  · exact rtext_nan a h c0 w
  rw [text_not a c0]
  by_cases h0 : a < 9223372036854775808
  · by_cases c1 : clsN a = 1
    · exact rtextInfP a h c1 h0 w
    by_cases c2 : clsN a = 2
    · exact rtextZeroP a h c2 h0 w
    exact rtext_finP a h (by omega) h0 w
  · by_cases c1 : clsN a = 1
    · exact rtextInfN a h c1 h0 w
    by_cases c2 : clsN a = 2
    · exact rtextZeroN a h c2 h0 w
    exact rtext_finN a h (by omega) h0 w
end Go.Proofs.YtlaecbbhgjpfoaaGreatDoor
end
