import Derived.Test.YtkfnedhllfdghaaGreatDoorRows
import Derived.Test.YtkfnedhllfdghaaGreatDoorMgAB
import Derived.WalkKit
import Derived.WalkSpells
import Derived.WalkLawsBesides
import Derived.Deep.Draws
import Derived.Test.YtkfnedhllfdghaaGreatDoorMgAC

section
namespace Go.Proofs.YtkfnedhllfdghaaGreatDoor
set_option maxRecDepth 20000
open Go.RowKit

def fx (a : Nat) : Nat := a / 4503599627370496 % 2048
def fm (a : Nat) : Nat := a % 4503599627370496
def clsN (a : Nat) : Nat := if 9218868437227405312 < a % 9223372036854775808 then 0 else if a % 9223372036854775808 = 9218868437227405312 then 1 else if a % 9223372036854775808 = 0 then 2 else if a % 9223372036854775808 < 4503599627370496 then 3 else 4

theorem fields_x (a : Nat) (h : a < 18446744073709551616) : bits .and .u64 ((a : Int) / 4503599627370496) 2047 = (fx a : Int) := by
  have e : ((a : Int) / 4503599627370496) = ((a / 4503599627370496 : Nat) : Int) := by omega
  rw [e, show (2047 : Int) = ((2047 : Nat) : Int) from rfl, u64_and_nat _ _ (by omega) (by omega)]
  congr 1
  exact Nat.and_two_pow_sub_one_eq_mod _ 11
theorem fields_m (a : Nat) (h : a < 18446744073709551616) : bits .and .u64 (a : Int) 4503599627370495 = (fm a : Int) := by
  rw [show (4503599627370495 : Int) = ((4503599627370495 : Nat) : Int) from rfl, u64_and_nat _ _ h (by omega)]
  congr 1
  exact Nat.and_two_pow_sub_one_eq_mod _ 52

set_option maxHeartbeats 400000 in
theorem fields_any (a : Nat) (h : a < 18446744073709551616) (w : World) :
    Calls Tryz.prog 291 #[.int .u64 (a : Int)] w fun e w' => e = .returned (.tuple #[.int .u64 (fx a : Int), .int .u64 (fm a : Int)]) ∧ w' = w := by
  have hx := fields_x a h
  have hm := fields_m a h
  go_enter Tryz.func291, Tryz.ntmps291
  go_wp2
  go_ret2
  exact ⟨rfl, rfl⟩

theorem cls_cases (a : Nat) : (fx a = 2047 ∧ fm a ≠ 0 ∧ clsN a = 0) ∨ (fx a = 2047 ∧ fm a = 0 ∧ clsN a = 1) ∨ (fx a = 0 ∧ fm a = 0 ∧ clsN a = 2) ∨ (fx a = 0 ∧ fm a ≠ 0 ∧ clsN a = 3) ∨ (fx a ≠ 2047 ∧ fx a ≠ 0 ∧ clsN a = 4) := by
  unfold fx fm clsN
  by_cases h1 : 9218868437227405312 < a % 9223372036854775808
  · rw [if_pos h1]; omega
  · rw [if_neg h1]
    by_cases h2 : a % 9223372036854775808 = 9218868437227405312
    · rw [if_pos h2]; omega
    · rw [if_neg h2]
      by_cases h3 : a % 9223372036854775808 = 0
      · rw [if_pos h3]; omega
      · rw [if_neg h3]
        by_cases h4 : a % 9223372036854775808 < 4503599627370496
        · rw [if_pos h4]; omega
        · rw [if_neg h4]; omega

theorem beqN_t {x y : Nat} (h : x = y) : ((x : Int) == (y : Int)) = true := by subst h; simp
theorem beqN_f {x y : Nat} (h : x ≠ y) : ((x : Int) == (y : Int)) = false := by rw [beq_eq_false_iff_ne]; omega
theorem bneN_t {x y : Nat} (h : x ≠ y) : ((x : Int) != (y : Int)) = true := by rw [bne_iff_ne]; omega
theorem bneN_f {x y : Nat} (h : x = y) : ((x : Int) != (y : Int)) = false := by subst h; simp

set_option maxHeartbeats 400000 in
theorem class_any (a : Nat) (h : a < 18446744073709551616) (w : World) :
    Calls Tryz.prog 269 #[.int .u64 (a : Int)] w fun e w' => e = .returned (.int .i64 (clsN a : Int)) ∧ w' = w := by
  rcases cls_cases a with ⟨h1, h2, h3⟩ | ⟨h1, h2, h3⟩ | ⟨h1, h2, h3⟩ | ⟨h1, h2, h3⟩ | ⟨h1, h2, h3⟩
  all_goals rw [h3]
  · have b1 := beqN_t h1
    have b2 := bneN_t h2
    clear h1 h2 h3
    go_enter Tryz.func269, Tryz.ntmps269
    go_wp2_with (go_at_call 291; refine (fields_any a h _).mono ?_; rintro e w' ⟨rfl, rfl⟩)
    go_ret
    exact ⟨rfl, rfl⟩
  · have b1 := beqN_t h1
    have b2 := bneN_f h2
    clear h1 h2 h3
    go_enter Tryz.func269, Tryz.ntmps269
    go_wp2_with (go_at_call 291; refine (fields_any a h _).mono ?_; rintro e w' ⟨rfl, rfl⟩)
    go_ret
    exact ⟨rfl, rfl⟩
  · have b1 := beqN_t h1
    have b2 := beqN_t h2
    have b3 : ((fx a : Int) == 2047) = false := beqN_f (y := 2047) (by omega)
    clear h1 h2 h3
    go_enter Tryz.func269, Tryz.ntmps269
    go_wp2_with (go_at_call 291; refine (fields_any a h _).mono ?_; rintro e w' ⟨rfl, rfl⟩)
    go_ret
    exact ⟨rfl, rfl⟩
  · have b1 := beqN_t h1
    have b2 := beqN_f h2
    have b3 : ((fx a : Int) == 2047) = false := beqN_f (y := 2047) (by omega)
    clear h1 h2 h3
    go_enter Tryz.func269, Tryz.ntmps269
    go_wp2_with (go_at_call 291; refine (fields_any a h _).mono ?_; rintro e w' ⟨rfl, rfl⟩)
    go_ret
    exact ⟨rfl, rfl⟩
  · have b1 := beqN_f h1
    have b2 := beqN_f h2
    clear h1 h2 h3
    go_enter Tryz.func269, Tryz.ntmps269
    go_wp2_with (go_at_call 291; refine (fields_any a h _).mono ?_; rintro e w' ⟨rfl, rfl⟩)
    go_ret
    exact ⟨rfl, rfl⟩

theorem cls_nan (a : Nat) : clsN a = 0 ↔ 9218868437227405312 < a % 9223372036854775808 := by
  unfold clsN
  by_cases h1 : 9218868437227405312 < a % 9223372036854775808
  · simp [h1]
  · simp only [h1, if_false, iff_false]
    repeat (split <;> first | omega | skip)

set_option maxHeartbeats 400000 in
theorem canon_any (a : Nat) (h : a < 18446744073709551616) (w : World) :
    Calls Tryz.prog 250 #[.int .u64 (a : Int)] w fun e w' => e = .returned (.int .u64 (Gn.canonW a : Int)) ∧ w' = w := by
  unfold Gn.canonW
  by_cases hn : 9218868437227405312 < a % 9223372036854775808
  · rw [if_pos hn]
    have b : ((clsN a : Int) == 0) = true := beqN_t (y := 0) ((cls_nan a).2 hn)
    clear hn
    go_enter Tryz.func250, Tryz.ntmps250
    go_wp2_with (go_at_call 269; refine (class_any a h _).mono ?_; rintro e w' ⟨rfl, rfl⟩)
    go_ret
    exact ⟨rfl, rfl⟩
  · rw [if_neg hn]
    have b : ((clsN a : Int) == 0) = false := beqN_f (y := 0) (fun e => hn ((cls_nan a).1 e))
    clear hn
    go_enter Tryz.func250, Tryz.ntmps250
    go_wp2_with (go_at_call 269; refine (class_any a h _).mono ?_; rintro e w' ⟨rfl, rfl⟩)
    go_ret
    exact ⟨rfl, rfl⟩

theorem flip_xor (a : Nat) (h : a < 18446744073709551616) : bits .xor .u64 (a : Int) 9223372036854775808 = (Gn.flipW a : Int) := by
  rw [show (9223372036854775808 : Int) = ((9223372036854775808 : Nat) : Int) from rfl, u64_xor_nat _ _ h (by omega)]
  congr 1
  unfold Gn.flipW
  by_cases h1 : a < 9223372036854775808
  · rw [if_pos h1]
    have := Nat.two_pow_add_eq_or_of_lt (i := 63) h1 1
    have e : a ^^^ 9223372036854775808 = a ||| 9223372036854775808 := by
      apply Nat.eq_of_testBit_eq; intro i
      rw [Nat.testBit_xor, Nat.testBit_or, show (9223372036854775808 : Nat) = 2 ^ 63 from rfl, Nat.testBit_two_pow]
      by_cases hi : 63 = i
      · subst hi; rw [Nat.testBit_lt_two_pow h1]; rfl
      · simp [hi]
    rw [e, Nat.or_comm]
    have h2 : 2 ^ 63 * 1 + a = 2 ^ 63 * 1 ||| a := this
    rw [Nat.mul_one] at h2
    rw [show (9223372036854775808 : Nat) = 2 ^ 63 from rfl, ← h2, Nat.add_comm]
  · rw [if_neg h1]
    obtain ⟨c, rfl, hc⟩ : ∃ c, a = 9223372036854775808 + c ∧ c < 9223372036854775808 := ⟨a - 9223372036854775808, by omega, by omega⟩
    have := Nat.two_pow_add_eq_or_of_lt (i := 63) hc 1
    rw [Nat.mul_one] at this
    rw [Nat.add_sub_cancel_left]
    have e : 9223372036854775808 + c = 2 ^ 63 ||| c := this
    rw [e]
    apply Nat.eq_of_testBit_eq; intro i
    rw [Nat.testBit_xor, Nat.testBit_or, show (9223372036854775808 : Nat) = 2 ^ 63 from rfl, Nat.testBit_two_pow]
    by_cases hi : 63 = i
    · subst hi; rw [Nat.testBit_lt_two_pow hc]; rfl
    · simp [hi]

theorem abs_andNot (a : Nat) (h : a < 18446744073709551616) : bits .andNot .u64 (a : Int) 9223372036854775808 = ((a % 9223372036854775808 : Nat) : Int) := by
  rw [show (9223372036854775808 : Int) = ((9223372036854775808 : Nat) : Int) from rfl, u64_andNot_nat _ _ h (by omega)]
  congr 1
  exact Nat.and_two_pow_sub_one_eq_mod _ 63

set_option maxHeartbeats 400000 in
theorem neg_any (a : Nat) (h : a < 18446744073709551616) (w : World) :
    Calls Tryz.prog 233 #[.int .u64 (a : Int)] w fun e w' => e = .returned (.int .u64 (Gn.negW a : Int)) ∧ w' = w := by
  have hf := flip_xor a h
  have hl := Gn.flip_lt a h
  go_enter Tryz.func233, Tryz.ntmps233
  go_wp2_with (go_at_call 250; refine (canon_any (Gn.flipW a) hl _).mono ?_; rintro e w' ⟨rfl, rfl⟩)
  go_ret
  exact ⟨rfl, rfl⟩

def lowW (a : Nat) : Nat := a % 9223372036854775808
set_option maxHeartbeats 400000 in
theorem abs_any (a : Nat) (h : a < 18446744073709551616) (w : World) :
    Calls Tryz.prog 234 #[.int .u64 (a : Int)] w fun e w' => e = .returned (.int .u64 (Gn.absW a : Int)) ∧ w' = w := by
  have hf : bits .andNot .u64 (a : Int) 9223372036854775808 = (lowW a : Int) := abs_andNot a h
  have hl : lowW a < 18446744073709551616 := by unfold lowW; omega
  go_enter Tryz.func234, Tryz.ntmps234
  go_wp2_with (go_at_call 250; refine (canon_any (lowW a) hl _).mono ?_; rintro e w' ⟨rfl, rfl⟩)
  go_ret
  exact ⟨rfl, rfl⟩

theorem frombits_run (a : Nat) (w : World) : (callFunc 286 #[.int .u64 (a : Int)]).run Tryz.prog w = .ok (.value (.float .f64 a)) w := by
  rw [run_callFunc_extern (e := Extern.MathFloatBits.float64frombits) Tryz.func286 (by kernel_rfl) (by kernel_rfl) (by kernel_rfl) (by kernel_rfl)]
  rfl
theorem tobits_run (a : Nat) (w : World) : (callFunc 285 #[.float .f64 a]).run Tryz.prog w = .ok (.value (.int .u64 (a : Int))) w := by
  rw [run_callFunc_extern (e := Extern.MathFloatBits.float64bits) Tryz.func285 (by kernel_rfl) (by kernel_rfl) (by kernel_rfl) (by kernel_rfl)]
  rfl

set_option maxHeartbeats 400000 in
theorem floatOf_any (a : Nat) (w : World) :
    Calls Tryz.prog 263 #[.int .u64 (a : Int)] w fun e w' => e = .returned (.float .f64 a) ∧ w' = w := by
  have hr := frombits_run a
  go_enter Tryz.func263, Tryz.ntmps263
  go_wp2
  go_ret
  exact ⟨rfl, rfl⟩

set_option maxHeartbeats 400000 in
theorem bitsOf_any (a : Nat) (h : a < 18446744073709551616) (w : World) :
    Calls Tryz.prog 262 #[.float .f64 a] w fun e w' => e = .returned (.int .u64 (Gn.canonW a : Int)) ∧ w' = w := by
  have hr := tobits_run a
  go_enter Tryz.func262, Tryz.ntmps262
  go_wp2_with (go_at_call 250; refine (canon_any a h _).mono ?_; rintro e w' ⟨rfl, rfl⟩)
  go_ret
  exact ⟨rfl, rfl⟩
end Go.Proofs.YtkfnedhllfdghaaGreatDoor
end

section
namespace Go.Proofs.YtkfnedhllfdghaaGreatDoor
set_option maxRecDepth 20000
open Go.RowKit

/-- the bits that the tape gives a NaN -/
def nanN (w : World) (x y : Nat) : Nat := (Question.nanBits .f64 x y).cut (w.tape w.drawn (.nanBits .f64 x y))
theorem nanN_lt (w : World) (x y : Nat) : nanN w x y < 18446744073709551616 := by
  unfold nanN Question.cut
  dsimp only
  generalize w.tape w.drawn (.nanBits .f64 x y) = t
  omega
theorem nanN_canon (w : World) (x y : Nat) : Gn.canonW (nanN w x y) = 9221120237041090561 := by
  unfold Gn.canonW
  rw [if_pos]
  unfold nanN Question.cut
  dsimp only
  generalize w.tape w.drawn (.nanBits .f64 x y) = t
  have h1 : t / 2 % (2 ^ 52 - 1) < 4503599627370495 := Nat.mod_lt _ (by decide)
  have h2 : t % 2 < 2 := Nat.mod_lt _ (by decide)
  generalize t / 2 % (2 ^ 52 - 1) = q at *
  generalize t % 2 = b at *
  omega
theorem run_float_none {P : Program} (w : World) (op : BinOp) (t : TypeId) (x y : Nat) (ho : op = .add ∨ op = .mul ∨ op = .quo) (h : floatBits op .f64 x y = none) : (binOp op t (.float .f64 x) (.float .f64 y)).run P w = .ok (.float .f64 (nanN w x y)) w.drew := by
  unfold floatBits at h
  rcases ho with rfl | rfl | rfl <;> simp only at h <;> simp [binOp, Op.floatArith, h, nanN, Question.forced]

set_option maxHeartbeats 400000 in
theorem add_any (a b : Nat) (w : World) :
    Calls Tryz.prog 225 #[.int .u64 (a : Int), .int .u64 (b : Int)] w fun e w' => e = .returned (.int .u64 (Gn.addW a b : Int)) ∧ ∃ n, w' = w.drewN n := by
  have hc := Gn.canon_add a b
  unfold Gn.addW at *
  cases hr : Ieee.double.add a b with
  | none =>
    clear hc
    have hb := fun (w : World) (t : TypeId) => run_float_none (P := Tryz.prog) w .add t a b (.inl rfl) hr
    have hl := fun w => nanN_lt w a b
    have hn := fun w => nanN_canon w a b
    go_enter Tryz.func225, Tryz.ntmps225
    go_wp2_with (first | (go_at_call 263; refine (floatOf_any _ _).mono ?_; rintro e w' ⟨rfl, rfl⟩) | (go_at_call 262; refine (bitsOf_any _ (hl _) _).mono ?_; rintro e w' ⟨rfl, rfl⟩))
    go_ret
    exact ⟨rfl, 1, rfl⟩
  | some r =>
    have hl : r < 18446744073709551616 := Ieee.double.add_lt hr
    have hb := fun (w : World) (t : TypeId) => run_float_arith (P := Tryz.prog) w .add t .f64 a b r hr
    have hn : Gn.canonW r = r := by rw [hr] at hc; exact hc
    clear hc
    go_enter Tryz.func225, Tryz.ntmps225
    go_wp2_with (first | (go_at_call 263; refine (floatOf_any _ _).mono ?_; rintro e w' ⟨rfl, rfl⟩) | (go_at_call 262; refine (bitsOf_any r hl _).mono ?_; rintro e w' ⟨rfl, rfl⟩))
    go_ret
    exact ⟨rfl, 0, rfl⟩

set_option maxHeartbeats 400000 in
theorem mul_any (a b : Nat) (w : World) :
    Calls Tryz.prog 227 #[.int .u64 (a : Int), .int .u64 (b : Int)] w fun e w' => e = .returned (.int .u64 (Gn.mulW a b : Int)) ∧ ∃ n, w' = w.drewN n := by
  have hc := Gn.canon_mul a b
  unfold Gn.mulW at *
  cases hr : Ieee.double.mul a b with
  | none =>
    clear hc
    have hb := fun (w : World) (t : TypeId) => run_float_none (P := Tryz.prog) w .mul t a b (.inr (.inl rfl)) hr
    have hl := fun w => nanN_lt w a b
    have hn := fun w => nanN_canon w a b
    go_enter Tryz.func227, Tryz.ntmps227
    go_wp2_with (first | (go_at_call 263; refine (floatOf_any _ _).mono ?_; rintro e w' ⟨rfl, rfl⟩) | (go_at_call 262; refine (bitsOf_any _ (hl _) _).mono ?_; rintro e w' ⟨rfl, rfl⟩))
    go_ret
    exact ⟨rfl, 1, rfl⟩
  | some r =>
    have hl : r < 18446744073709551616 := Ieee.double.mul_lt hr
    have hb := fun (w : World) (t : TypeId) => run_float_arith (P := Tryz.prog) w .mul t .f64 a b r hr
    have hn : Gn.canonW r = r := by rw [hr] at hc; exact hc
    clear hc
    go_enter Tryz.func227, Tryz.ntmps227
    go_wp2_with (first | (go_at_call 263; refine (floatOf_any _ _).mono ?_; rintro e w' ⟨rfl, rfl⟩) | (go_at_call 262; refine (bitsOf_any r hl _).mono ?_; rintro e w' ⟨rfl, rfl⟩))
    go_ret
    exact ⟨rfl, 0, rfl⟩

set_option maxHeartbeats 400000 in
theorem div_any (a b : Nat) (w : World) :
    Calls Tryz.prog 228 #[.int .u64 (a : Int), .int .u64 (b : Int)] w fun e w' => e = .returned (.int .u64 (Gn.divW a b : Int)) ∧ ∃ n, w' = w.drewN n := by
  have hc := Gn.canon_div a b
  unfold Gn.divW at *
  cases hr : Ieee.double.div a b with
  | none =>
    clear hc
    have hb := fun (w : World) (t : TypeId) => run_float_none (P := Tryz.prog) w .quo t a b (.inr (.inr rfl)) hr
    have hl := fun w => nanN_lt w a b
    have hn := fun w => nanN_canon w a b
    go_enter Tryz.func228, Tryz.ntmps228
    go_wp2_with (first | (go_at_call 263; refine (floatOf_any _ _).mono ?_; rintro e w' ⟨rfl, rfl⟩) | (go_at_call 262; refine (bitsOf_any _ (hl _) _).mono ?_; rintro e w' ⟨rfl, rfl⟩))
    go_ret
    exact ⟨rfl, 1, rfl⟩
  | some r =>
    have hl : r < 18446744073709551616 := Ieee.double.div_lt hr
    have hb := fun (w : World) (t : TypeId) => run_float_arith (P := Tryz.prog) w .quo t .f64 a b r hr
    have hn : Gn.canonW r = r := by rw [hr] at hc; exact hc
    clear hc
    go_enter Tryz.func228, Tryz.ntmps228
    go_wp2_with (first | (go_at_call 263; refine (floatOf_any _ _).mono ?_; rintro e w' ⟨rfl, rfl⟩) | (go_at_call 262; refine (bitsOf_any r hl _).mono ?_; rintro e w' ⟨rfl, rfl⟩))
    go_ret
    exact ⟨rfl, 0, rfl⟩

set_option maxHeartbeats 400000 in
theorem sub_any (a b : Nat) (hb : b < 18446744073709551616) (w : World) :
    Calls Tryz.prog 226 #[.int .u64 (a : Int), .int .u64 (b : Int)] w fun e w' => e = .returned (.int .u64 (Gn.subW a b : Int)) ∧ ∃ n, w' = w.drewN n := by
  unfold Gn.subW
  go_enter Tryz.func226, Tryz.ntmps226
  go_wp2_with (first | (go_at_call 233; refine (neg_any b hb _).mono ?_; rintro e w' ⟨rfl, rfl⟩) | (go_at_call 225; refine (add_any _ _ _).mono ?_; rintro e w' ⟨rfl, n, rfl⟩))
  go_ret
  exact ⟨rfl, _, rfl⟩

def ltW (a b : Nat) : Bool := Ieee.double.order a b == some .lt
def eqW (a b : Nat) : Bool := Ieee.double.order a b == some .eq
set_option maxHeartbeats 400000 in
theorem less_any (a b : Nat) (w : World) :
    Calls Tryz.prog 266 #[.int .u64 (a : Int), .int .u64 (b : Int)] w fun e w' => e = .returned (.bool (ltW a b)) ∧ w' = w := by
  go_enter Tryz.func266, Tryz.ntmps266
  go_wp2_with (go_at_call 263; refine (floatOf_any _ _).mono ?_; rintro e w' ⟨rfl, rfl⟩)
  go_ret
  exact ⟨rfl, rfl⟩
def rankW (a : Nat) : Nat := if Gn.canonW a < 9223372036854775808 then Gn.canonW a + 9223372036854775808 else 18446744073709551615 - Gn.canonW a
theorem top_and (c : Nat) (h : c < 18446744073709551616) : bits .and .u64 (c : Int) 9223372036854775808 = if c < 9223372036854775808 then 0 else 9223372036854775808 := by
  rw [show (9223372036854775808 : Int) = ((9223372036854775808 : Nat) : Int) from rfl, u64_and_nat _ _ h (by omega)]
  by_cases h1 : c < 9223372036854775808
  · have e : c &&& 9223372036854775808 = 0 := by
      apply Nat.eq_of_testBit_eq; intro i
      rw [Nat.testBit_and, show (9223372036854775808 : Nat) = 2 ^ 63 from rfl, Nat.testBit_two_pow, Nat.zero_testBit]
      by_cases hi : 63 = i
      · subst hi; rw [Nat.testBit_lt_two_pow h1]; rfl
      · simp [hi]
    rw [e, if_pos h1]; rfl
  · obtain ⟨r, rfl, hr⟩ : ∃ r, c = 9223372036854775808 + r ∧ r < 9223372036854775808 := ⟨c - 9223372036854775808, by omega, by omega⟩
    have := Nat.two_pow_add_eq_or_of_lt (i := 63) hr 1
    rw [Nat.mul_one] at this
    have e0 : 9223372036854775808 + r = 2 ^ 63 ||| r := this
    have e : (9223372036854775808 + r) &&& 9223372036854775808 = 9223372036854775808 := by
      rw [e0]
      apply Nat.eq_of_testBit_eq; intro i
      rw [Nat.testBit_and, Nat.testBit_or, show (9223372036854775808 : Nat) = 2 ^ 63 from rfl, Nat.testBit_two_pow]
      by_cases hi : 63 = i
      · subst hi; simp
      · simp [hi]
    rw [e, if_neg h1]
theorem top_or (c : Nat) (h : c < 9223372036854775808) : bits .or .u64 (c : Int) 9223372036854775808 = ((c + 9223372036854775808 : Nat) : Int) := by
  rw [show (9223372036854775808 : Int) = ((9223372036854775808 : Nat) : Int) from rfl, u64_or_nat _ _ (by omega) (by omega)]
  congr 1
  have := Nat.two_pow_add_eq_or_of_lt (i := 63) h 1
  rw [Nat.mul_one] at this
  rw [Nat.or_comm, show (9223372036854775808 : Nat) = 2 ^ 63 from rfl, ← this, Nat.add_comm]

theorem not_u64 (c : Nat) (h : c < 18446744073709551616) : bits .xor .u64 IntKind.u64.max (c : Int) = ((18446744073709551615 - c : Nat) : Int) := by
  show IntKind.u64.wrap ((BitVec.ofInt 64 18446744073709551615 ^^^ BitVec.ofInt 64 (c : Int)).toNat : Int) = _
  have h1 : BitVec.ofInt 64 18446744073709551615 = BitVec.allOnes 64 := by decide
  rw [h1, BitVec.allOnes_xor, BitVec.toNat_not, ofInt_u64 c h, IntKind.wrap_u64]
  omega

set_option maxHeartbeats 400000 in
theorem rank_any (a : Nat) (h : a < 18446744073709551616) (w : World) :
    Calls Tryz.prog 288 #[.int .u64 (a : Int)] w fun e w' => e = .returned (.int .u64 (rankW a : Int)) ∧ w' = w := by
  have hl := Gn.canon_lt a h
  have ha := top_and (Gn.canonW a) hl
  unfold rankW
  by_cases hc : Gn.canonW a < 9223372036854775808
  · rw [if_pos hc] at *
    have ho := top_or (Gn.canonW a) hc
    generalize Gn.canonW a + 9223372036854775808 = r at *
    go_enter Tryz.func288, Tryz.ntmps288
    go_wp2_with (go_at_call 250; refine (canon_any a h _).mono ?_; rintro e w' ⟨rfl, rfl⟩)
    go_ret
    exact ⟨rfl, rfl⟩
  · rw [if_neg hc] at *
    have ho := not_u64 (Gn.canonW a) hl
    have hsg : IntKind.u64.signed = false := rfl
    generalize 18446744073709551615 - Gn.canonW a = r at *
    go_enter Tryz.func288, Tryz.ntmps288
    go_wp2_with (go_at_call 250; refine (canon_any a h _).mono ?_; rintro e w' ⟨rfl, rfl⟩)
    go_ret
    exact ⟨rfl, rfl⟩
end Go.Proofs.YtkfnedhllfdghaaGreatDoor
end

section
namespace Go.Proofs.YtkfnedhllfdghaaGreatDoor
set_option maxRecDepth 20000
open Go.RowKit

def cmpW (x y : Nat) : Int := if x < y then -1 else if y < x then 1 else 0
def ordW (a b : Nat) : Int := cmpW (rankW a) (rankW b)

set_option maxHeartbeats 400000 in
theorem compare_any (x y : Nat) (w : World) :
    Calls Tryz.prog 287 #[.int .u64 (x : Int), .int .u64 (y : Int)] w fun e w' => e = .returned (.int .i64 (cmpW x y)) ∧ w' = w := by
  unfold cmpW
  by_cases h1 : x < y
  · rw [if_pos h1]
    go_enter Tryz.func287, Tryz.ntmps287
    go_wp2
    go_ret
    exact ⟨rfl, rfl⟩
  · rw [if_neg h1]
    by_cases h2 : y < x
    · rw [if_pos h2]
      go_enter Tryz.func287, Tryz.ntmps287
      go_wp2
      go_ret
      exact ⟨rfl, rfl⟩
    · rw [if_neg h2]
      go_enter Tryz.func287, Tryz.ntmps287
      go_wp2
      go_ret
      exact ⟨rfl, rfl⟩

set_option maxHeartbeats 400000 in
theorem order_any (a b : Nat) (ha : a < 18446744073709551616) (hb : b < 18446744073709551616) (w : World) :
    Calls Tryz.prog 265 #[.int .u64 (a : Int), .int .u64 (b : Int)] w fun e w' => e = .returned (.int .i64 (ordW a b)) ∧ w' = w := by
  go_enter Tryz.func265, Tryz.ntmps265
  go_wp2_with (first | (go_at_call 288; refine (rank_any _ (by assumption) _).mono ?_; rintro e w' ⟨rfl, rfl⟩) | (go_at_call 287; refine (compare_any _ _ _).mono ?_; rintro e w' ⟨rfl, rfl⟩))
  go_ret
  exact ⟨rfl, rfl⟩

def anyN (a b : Nat) : Bool := clsN a == 0 || clsN b == 0
set_option maxHeartbeats 400000 in
theorem anyNaN_any (a b : Nat) (ha : a < 18446744073709551616) (hb : b < 18446744073709551616) (w : World) :
    Calls Tryz.prog 264 #[.int .u64 (a : Int), .int .u64 (b : Int)] w fun e w' => e = .returned (.bool (anyN a b)) ∧ w' = w := by
  unfold anyN
  by_cases h1 : clsN a = 0
  · have b1 : ((clsN a : Int) == 0) = true := beqN_t (y := 0) h1
    rw [show (clsN a == 0 || clsN b == 0) = true from by simp [h1]]
    clear h1
    go_enter Tryz.func264, Tryz.ntmps264
    go_wp2_with (go_at_call 269; refine (class_any _ (by assumption) _).mono ?_; rintro e w' ⟨rfl, rfl⟩)
    go_ret
    exact ⟨rfl, rfl⟩
  · have b1 : ((clsN a : Int) == 0) = false := beqN_f (y := 0) h1
    rw [show (clsN a == 0 || clsN b == 0) = (clsN b == 0) from by simp [h1]]
    have b2 : ((clsN b : Int) == 0) = (clsN b == 0) := by
      by_cases h2 : clsN b = 0
      · simp [h2]
      · have e : ((clsN b : Int) == 0) = false := beqN_f (y := 0) h2
        rw [e]; simp [h2]
    clear h1
    go_enter Tryz.func264, Tryz.ntmps264
    go_wp2_with (go_at_call 269; refine (class_any _ (by assumption) _).mono ?_; rintro e w' ⟨rfl, rfl⟩)
    go_ret
    exact ⟨rfl, rfl⟩

def minW (a b : Nat) : Nat := if anyN a b then 9221120237041090561 else if rankW b < rankW a then b else a
def maxW (a b : Nat) : Nat := if anyN a b then 9221120237041090561 else if rankW a < rankW b then b else a
theorem ord_pos {a b : Nat} (h : rankW b < rankW a) : 0 < ordW a b := by unfold ordW cmpW; rw [if_neg (by omega), if_pos h]; omega
theorem ord_pos' {a b : Nat} (h : ¬ rankW b < rankW a) : ¬ 0 < ordW a b := by unfold ordW cmpW; rw [if_neg h]; split <;> omega
theorem ord_neg {a b : Nat} (h : rankW a < rankW b) : ordW a b < 0 := by unfold ordW cmpW; rw [if_pos h]; omega
theorem ord_neg' {a b : Nat} (h : ¬ rankW a < rankW b) : ¬ ordW a b < 0 := by unfold ordW cmpW; rw [if_neg h]; split <;> omega
set_option maxHeartbeats 400000 in
theorem min_any (a b : Nat) (ha : a < 18446744073709551616) (hb : b < 18446744073709551616) (w : World) :
    Calls Tryz.prog 229 #[.int .u64 (a : Int), .int .u64 (b : Int)] w fun e w' => e = .returned (.int .u64 (minW a b : Int)) ∧ w' = w := by
  unfold minW
  cases hn : anyN a b
  · rw [if_neg (by simp)]
    by_cases h1 : rankW b < rankW a
    · rw [if_pos h1]
      have ho := ord_pos h1
      clear h1
      go_enter Tryz.func229, Tryz.ntmps229
      go_wp2_with (first | (go_at_call 264; refine (anyNaN_any a b ha hb _).mono ?_; rintro e w' ⟨rfl, rfl⟩) | (go_at_call 265; refine (order_any a b ha hb _).mono ?_; rintro e w' ⟨rfl, rfl⟩))
      go_ret
      exact ⟨rfl, rfl⟩
    · rw [if_neg h1]
      have ho := ord_pos' h1
      clear h1
      go_enter Tryz.func229, Tryz.ntmps229
      go_wp2_with (first | (go_at_call 264; refine (anyNaN_any a b ha hb _).mono ?_; rintro e w' ⟨rfl, rfl⟩) | (go_at_call 265; refine (order_any a b ha hb _).mono ?_; rintro e w' ⟨rfl, rfl⟩))
      go_ret
      exact ⟨rfl, rfl⟩
  · rw [if_pos rfl]
    go_enter Tryz.func229, Tryz.ntmps229
    go_wp2_with (first | (go_at_call 264; refine (anyNaN_any a b ha hb _).mono ?_; rintro e w' ⟨rfl, rfl⟩) | (go_at_call 265; refine (order_any a b ha hb _).mono ?_; rintro e w' ⟨rfl, rfl⟩))
    go_ret
    exact ⟨rfl, rfl⟩
set_option maxHeartbeats 400000 in
theorem max_any (a b : Nat) (ha : a < 18446744073709551616) (hb : b < 18446744073709551616) (w : World) :
    Calls Tryz.prog 230 #[.int .u64 (a : Int), .int .u64 (b : Int)] w fun e w' => e = .returned (.int .u64 (maxW a b : Int)) ∧ w' = w := by
  unfold maxW
  cases hn : anyN a b
  · rw [if_neg (by simp)]
    by_cases h1 : rankW a < rankW b
    · rw [if_pos h1]
      have ho := ord_neg h1
      clear h1
      go_enter Tryz.func230, Tryz.ntmps230
      go_wp2_with (first | (go_at_call 264; refine (anyNaN_any a b ha hb _).mono ?_; rintro e w' ⟨rfl, rfl⟩) | (go_at_call 265; refine (order_any a b ha hb _).mono ?_; rintro e w' ⟨rfl, rfl⟩))
      go_ret
      exact ⟨rfl, rfl⟩
    · rw [if_neg h1]
      have ho := ord_neg' h1
      clear h1
      go_enter Tryz.func230, Tryz.ntmps230
      go_wp2_with (first | (go_at_call 264; refine (anyNaN_any a b ha hb _).mono ?_; rintro e w' ⟨rfl, rfl⟩) | (go_at_call 265; refine (order_any a b ha hb _).mono ?_; rintro e w' ⟨rfl, rfl⟩))
      go_ret
      exact ⟨rfl, rfl⟩
  · rw [if_pos rfl]
    go_enter Tryz.func230, Tryz.ntmps230
    go_wp2_with (first | (go_at_call 264; refine (anyNaN_any a b ha hb _).mono ?_; rintro e w' ⟨rfl, rfl⟩) | (go_at_call 265; refine (order_any a b ha hb _).mono ?_; rintro e w' ⟨rfl, rfl⟩))
    go_ret
    exact ⟨rfl, rfl⟩

def signq : Question := .extern "math.Floor,Ceil,Trunc,RoundToEven.signallingNaN kept" 2
theorem integral_run (a : Nat) : Extern.MathFloor.toIntegral "math.archFloor" .down #[.float .f64 a] = (match FloatKind.f64.decode a with
    | .nan s t => if FloatKind.f64.format.quiet t = t then pure (.float .f64 a) else do
      let kept ← choose signq
      pure (.float .f64 (if kept == 1 then a else FloatKind.f64.encode (.nan s (FloatKind.f64.format.quiet t))))
    | d => pure (.float .f64 (FloatKind.f64.encode (d.integral .down)))) := rfl
theorem archFloor_ok (a : Nat) (h : Gn.okD (Ieee.double.read a)) (w : World) : (callFunc 289 #[.float .f64 a]).run Tryz.prog w = .ok (.value (.float .f64 (Gn.flrD a))) w := by
  rw [run_callFunc_extern (e := Extern.MathFloor.toIntegral "math.archFloor" .down) Tryz.func289 (by kernel_rfl) (by kernel_rfl) (by kernel_rfl) (by kernel_rfl)]
  unfold Gn.flrD
  have e : ∀ d, FloatKind.f64.decode a = d → Gn.okD d → (Extern.MathFloor.toIntegral "math.archFloor" .down #[.float .f64 a]) = pure (.float .f64 (FloatKind.f64.encode (d.integral .down))) := by
    intro d hd hk
    cases d with
    | nan s t => exact hk.elim
    | number s m i => rw [integral_run, hd]
    | infinity s => rw [integral_run, hd]
  rw [e _ rfl h]
  rfl
theorem nan_canon (a : Nat) (ha : a < 18446744073709551616) (h : Gn.IsNan (Ieee.double.read a)) : Gn.canonW a = 9221120237041090561 := by
  obtain ⟨s, t, hd⟩ := h
  rcases Gn.read_neg a ha with ⟨_, _, _, e⟩ | ⟨ok, _⟩
  · exact e
  · rw [hd] at ok; exact ok.elim
theorem archFloor_nan (a : Nat) (ha : a < 18446744073709551616) (h : Gn.IsNan (Ieee.double.read a)) :
    (∀ w, (callFunc 289 #[.float .f64 a]).run Tryz.prog w = .ok (.value (.float .f64 a)) w) ∨
    (∃ z : World → Nat, (∀ w, z w < 18446744073709551616) ∧ (∀ w, Gn.canonW (z w) = 9221120237041090561) ∧ ∀ w, (callFunc 289 #[.float .f64 a]).run Tryz.prog w = .ok (.value (.float .f64 (z w))) w.drew) := by
  have ca := nan_canon a ha h
  obtain ⟨s, t, hd⟩ := h
  have hd' : FloatKind.f64.decode a = .nan s t := hd
  have hx := fun w => run_callFunc_extern (e := Extern.MathFloor.toIntegral "math.archFloor" .down) Tryz.func289 (by kernel_rfl) (by kernel_rfl) (by kernel_rfl) (by kernel_rfl) #[.float .f64 a] w
  by_cases hq : FloatKind.f64.format.quiet t = t
  · refine .inl fun w => ?_
    rw [hx w, integral_run, hd']
    simp only [hq, if_true]
    rfl
  · refine .inr ?_
    have hy : ∃ y, y < 18446744073709551616 ∧ Gn.canonW y = 9221120237041090561 ∧ y = FloatKind.f64.encode (.nan s (FloatKind.f64.format.quiet t)) := by
      refine ⟨_, Ieee.double.write_lt _, ?_, rfl⟩
      show Gn.canonW (Ieee.double.word s (Ieee.double.infRung + Ieee.double.quiet t % Ieee.double.binade)) = _
      rw [Gn.word_wd, Gn.infr, Gn.bin]
      have h1 : Ieee.double.quiet t % 4503599627370496 < 4503599627370496 := Nat.mod_lt _ (by decide)
      have h2 : 0 < Ieee.double.quiet t % 4503599627370496 := by
        have e1 : Ieee.double.quiet t % 4503599627370496 = Ieee.double.quiet t % 2 ^ 52 := rfl
        rcases Nat.eq_zero_or_pos (Ieee.double.quiet t % 2 ^ 52) with e | e
        · exfalso
          have hb : (Ieee.double.quiet t % 2 ^ 52).testBit 51 = true := by
            rw [Nat.testBit_mod_two_pow]
            show (decide (51 < 52) && (t ||| 2 ^ 51).testBit 51) = true
            rw [Nat.testBit_or, Nat.testBit_two_pow]; simp
          rw [e] at hb; simp at hb
        · omega
      rw [Gn.canon_wd _ _ (by omega), if_pos (by omega)]
    obtain ⟨y, hy, cy, ey⟩ := hy
    refine ⟨fun w => if (signq.cut (w.tape w.drawn signq) == 1) = true then a else y, fun w => ?_, fun w => ?_, fun w => ?_⟩
    · show (if _ then a else y) < _
      split <;> assumption
    · show Gn.canonW (if _ then a else y) = _
      split <;> assumption
    · rw [hx w, integral_run, hd']
      have hf : signq.forced = false := rfl
      simp only [hq, if_false, Sem.run_bind, run_choose_drew, hf]
      rw [ey]
      rfl
def floorW (a : Nat) : Nat := if 9218868437227405312 < a % 9223372036854775808 then 9221120237041090561 else Gn.flrD a
end Go.Proofs.YtkfnedhllfdghaaGreatDoor
end

section
namespace Go.Proofs.YtkfnedhllfdghaaGreatDoor
set_option maxRecDepth 20000
open Go.RowKit

theorem floor_calls_ok (a : Nat) (h : Gn.okD (Ieee.double.read a)) (w : World) :
    Calls Tryz.prog 268 #[.float .f64 a] w fun e w' => e = .returned (.float .f64 (Gn.flrD a)) ∧ w' = w := by
  have hr := archFloor_ok a h
  go_enter Tryz.func268, Tryz.ntmps268
  go_wp2
  go_ret
  exact ⟨rfl, rfl⟩
theorem floor_calls_nan (a : Nat) (ha : a < 18446744073709551616) (h : Gn.IsNan (Ieee.double.read a)) (w : World) :
    Calls Tryz.prog 268 #[.float .f64 a] w fun e w' => ∃ y, e = .returned (.float .f64 y) ∧ y < 18446744073709551616 ∧ Gn.canonW y = 9221120237041090561 ∧ ∃ n, w' = w.drewN n := by
  have ca := nan_canon a ha h
  rcases archFloor_nan a ha h with hr | ⟨z, hz, cz, hr⟩
  · clear h
    go_enter Tryz.func268, Tryz.ntmps268
    go_wp2
    go_ret
    exact ⟨a, rfl, ha, ca, 0, rfl⟩
  · clear h
    go_enter Tryz.func268, Tryz.ntmps268
    go_wp2
    go_ret
    exact ⟨_, rfl, hz _, cz _, 1, rfl⟩

theorem nan_read (a : Nat) (ha : a < 18446744073709551616) (h : 9218868437227405312 < a % 9223372036854775808) : Gn.IsNan (Ieee.double.read a) := by
  obtain ⟨s, r, hr, rfl⟩ := Gn.wd_cases a ha
  rw [Gn.wd_mod s r hr] at h
  rw [Gn.read_wd s r hr]
  exact ⟨_, _, Gn.rd_nan s r h⟩
theorem ok_read (a : Nat) (ha : a < 18446744073709551616) (h : ¬ 9218868437227405312 < a % 9223372036854775808) : Gn.okD (Ieee.double.read a) := by
  obtain ⟨s, r, hr, rfl⟩ := Gn.wd_cases a ha
  rw [Gn.wd_mod s r hr] at h
  rw [Gn.read_wd s r hr]
  exact Gn.rd_ok s r h

set_option maxHeartbeats 400000 in
theorem floor_any (a : Nat) (ha : a < 18446744073709551616) (w : World) :
    Calls Tryz.prog 235 #[.int .u64 (a : Int)] w fun e w' => e = .returned (.int .u64 (floorW a : Int)) ∧ ∃ n, w' = w.drewN n := by
  unfold floorW
  by_cases hn : 9218868437227405312 < a % 9223372036854775808
  · rw [if_pos hn]
    have hd := nan_read a ha hn
    clear hn
    go_enter Tryz.func235, Tryz.ntmps235
    go_wp2_with (first | (go_at_call 263; refine (floatOf_any _ _).mono ?_; rintro e w' ⟨rfl, rfl⟩) | (go_at_call 268; refine (floor_calls_nan a ha hd _).mono ?_; rintro e w' ⟨y, rfl, hy, cy, n, rfl⟩) | (go_at_call 262; refine (bitsOf_any _ (by assumption) _).mono ?_; rintro e w' ⟨rfl, rfl⟩))
    go_ret
    exact ⟨rfl, _, rfl⟩
  · rw [if_neg hn]
    have hd := ok_read a ha hn
    have hc := Gn.flr_canon a hd
    have hl := Gn.flr_lt a
    clear hn
    go_enter Tryz.func235, Tryz.ntmps235
    go_wp2_with (first | (go_at_call 263; refine (floatOf_any _ _).mono ?_; rintro e w' ⟨rfl, rfl⟩) | (go_at_call 268; refine (floor_calls_ok a hd _).mono ?_; rintro e w' ⟨rfl, rfl⟩) | (go_at_call 262; refine (bitsOf_any _ (by assumption) _).mono ?_; rintro e w' ⟨rfl, rfl⟩))
    go_ret
    exact ⟨rfl, 0, rfl⟩

def ofW (n : Int) : Nat := floatOfInt .f64 n
theorem ofW_lt (n : Int) : ofW n < 18446744073709551616 := Ieee.double.write_lt (.number (n < 0) n.natAbs 0)
theorem ofW_canon (n : Int) : Gn.canonW (ofW n) = ofW n := Gn.canon_write (d := .number (n < 0) n.natAbs 0) trivial
set_option maxHeartbeats 400000 in
theorem of_any (n : Int) (w : World) :
    Calls Tryz.prog 267 #[.int .i64 n] w fun e w' => e = .returned (.int .u64 (ofW n : Int)) ∧ w' = w := by
  have hc := ofW_canon n
  have hl := ofW_lt n
  unfold ofW at *
  go_enter Tryz.func267, Tryz.ntmps267
  go_wp2_with (go_at_call 262; refine (bitsOf_any _ (by assumption) _).mono ?_; rintro e w' ⟨rfl, rfl⟩)
  go_ret
  exact ⟨rfl, rfl⟩
end Go.Proofs.YtkfnedhllfdghaaGreatDoor
end

section
namespace Go.Proofs.YtkfnedhllfdghaaGreatDoor
set_option maxRecDepth 20000
open Go.RowKit

def intR (a : Nat) : Value := .tuple #[.int .i64 (if Gn.intOk a then Gn.intV a else 0), .int .i64 (if Gn.intOk a then 0 else 11)]
theorem int_yes {a : Nat} (h : Gn.intOk a = true) : intR a = .tuple #[.int .i64 (Gn.intV a), .int .i64 0] := by unfold intR; rw [if_pos h, if_pos h]
theorem int_no {a : Nat} (h : Gn.intOk a = false) : intR a = .tuple #[.int .i64 0, .int .i64 11] := by unfold intR; rw [h]; rfl

set_option maxHeartbeats 400000 in
theorem int_any (a : Nat) (ha : a < 18446744073709551616) (w : World) :
    Calls Tryz.prog 270 #[.int .u64 (a : Int)] w fun e w' => e = .returned (intR a) ∧ w' = w := by
  by_cases t1 : (FloatKind.f64.format.order a 14114281232179134464 == some .gt || FloatKind.f64.format.order a 14114281232179134464 == some .eq) = true
  · by_cases t2 : (FloatKind.f64.format.order a 4890909195324358656 == some .lt) = true
    · have hs := Gn.int_some ha (by have q := t1; simp at q; first | exact q | (simp; exact q)) (by have q := t2; simp at q; first | exact q | (simp; exact q))
      have hk : Gn.okD (Ieee.double.read a) := by
        obtain ⟨s, r, hr, rfl, _⟩ := Gn.int_num ha (by have q := t1; simp at q; first | exact q | (simp; exact q)) (by have q := t2; simp at q; first | exact q | (simp; exact q))
        rw [Gn.read_wd s r (by omega)]; exact Gn.rd_ok s r (by omega)
      by_cases t3 : (FloatKind.f64.format.order a (Gn.flrD a) == some .eq) = true
      · have hv : Gn.intOk a = true := by unfold Gn.intOk; show (_ && _ && _) = true; rw [Bool.and_eq_true, Bool.and_eq_true]; exact ⟨⟨t1, t2⟩, t3⟩
        rw [int_yes hv]
        have hcv := fun w => run_convert_float_int (P := Tryz.prog) w 290 2 .f64 .i64 a (Gn.intV a) (by kernel_rfl) Tryz.underlying2 hs
        clear hs hv
        go_enter Tryz.func270, Tryz.ntmps270
        go_wp2_with (first | (go_at_call 263; refine (floatOf_any _ _).mono ?_; rintro e w' ⟨rfl, rfl⟩) | (go_at_call 268; refine (floor_calls_ok a hk _).mono ?_; rintro e w' ⟨rfl, rfl⟩))
        go_ret2
        exact ⟨rfl, rfl⟩
      · have hv : Gn.intOk a = false := by unfold Gn.intOk; show (_ && _ && _) = false; rw [Bool.and_eq_false_iff]; exact .inr (by have q := t3; simp at q; first | exact q | (simp; exact q))
        rw [int_no hv]
        have t3' : (FloatKind.f64.format.order a (Gn.flrD a) == some .eq) = false := by simpa using t3
        clear hs hv t3
        go_enter Tryz.func270, Tryz.ntmps270
        go_wp2_with (first | (go_at_call 263; refine (floatOf_any _ _).mono ?_; rintro e w' ⟨rfl, rfl⟩) | (go_at_call 268; refine (floor_calls_ok a hk _).mono ?_; rintro e w' ⟨rfl, rfl⟩))
        go_ret2
        exact ⟨rfl, rfl⟩
    · have hv : Gn.intOk a = false := by unfold Gn.intOk; show (_ && _ && _) = false; rw [Bool.and_eq_false_iff, Bool.and_eq_false_iff]; exact .inl (.inr (by have q := t2; simp at q; first | exact q | (simp; exact q)))
      rw [int_no hv]
      have t2' : (FloatKind.f64.format.order a 4890909195324358656 == some .lt) = false := by simpa using t2
      clear hv t2
      go_enter Tryz.func270, Tryz.ntmps270
      go_wp2_with (first | (go_at_call 263; refine (floatOf_any _ _).mono ?_; rintro e w' ⟨rfl, rfl⟩))
      go_ret2
      exact ⟨rfl, rfl⟩
  · have hv : Gn.intOk a = false := by unfold Gn.intOk; show (_ && _ && _) = false; rw [Bool.and_eq_false_iff, Bool.and_eq_false_iff]; exact .inl (.inl (by have q := t1; simp at q; first | exact q | (simp; exact q)))
    rw [int_no hv]
    have t1' : (FloatKind.f64.format.order a 14114281232179134464 == some .gt || FloatKind.f64.format.order a 14114281232179134464 == some .eq) = false := by simpa using t1
    clear hv t1
    go_enter Tryz.func270, Tryz.ntmps270
    go_wp2_with (first | (go_at_call 263; refine (floatOf_any _ _).mono ?_; rintro e w' ⟨rfl, rfl⟩))
    go_ret2
    exact ⟨rfl, rfl⟩
end Go.Proofs.YtkfnedhllfdghaaGreatDoor
end
