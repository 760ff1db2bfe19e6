import Derived.Test.YtlgcimfbhjidgaaRows
import Derived.Test.YtlgcimfbhjidgaaMgAB
import Derived.WalkKit
import Derived.WalkSpells
import Derived.WalkLawsBesides

section
namespace Go.Proofs.Ytlgcimfbhjidgaa
open Go.RowKit

def fx (a : Nat) : Nat := a / 4503599627370496 % 2048
def fm (a : Nat) : Nat := a % 4503599627370496
def clsN (a : Nat) : Nat := if 9218868437227405312 < a % 9223372036854775808 then 0 else if a % 9223372036854775808 = 9218868437227405312 then 1 else if a % 9223372036854775808 = 0 then 2 else if a % 9223372036854775808 < 4503599627370496 then 3 else 4

theorem fields_x (a : Nat) (h : a < 18446744073709551616) : bits .and .u64 ((a : Int) / 4503599627370496) 2047 = (fx a : Int) := by
  have e : ((a : Int) / 4503599627370496) = ((a / 4503599627370496 : Nat) : Int) := by omega
  rw [e, show (2047 : Int) = ((2047 : Nat) : Int) from rfl, u64_and_nat _ _ (by omega) (by omega)]
  congr 1
  exact Nat.and_two_pow_sub_one_eq_mod _ 11
theorem fields_m (a : Nat) (h : a < 18446744073709551616) : bits .and .u64 (a : Int) 4503599627370495 = (fm a : Int) := by
  rw [show (4503599627370495 : Int) = ((4503599627370495 : Nat) : Int) from rfl, u64_and_nat _ _ h (by omega)]
  congr 1
  exact Nat.and_two_pow_sub_one_eq_mod _ 52

theorem cls_cases (a : Nat) : (fx a = 2047 ∧ fm a ≠ 0 ∧ clsN a = 0) ∨ (fx a = 2047 ∧ fm a = 0 ∧ clsN a = 1) ∨ (fx a = 0 ∧ fm a = 0 ∧ clsN a = 2) ∨ (fx a = 0 ∧ fm a ≠ 0 ∧ clsN a = 3) ∨ (fx a ≠ 2047 ∧ fx a ≠ 0 ∧ clsN a = 4) := by
  unfold fx fm clsN
  by_cases h1 : 9218868437227405312 < a % 9223372036854775808
  · rw [if_pos h1]; omega
  · rw [if_neg h1]
    by_cases h2 : a % 9223372036854775808 = 9218868437227405312
    · rw [if_pos h2]; omega
    · rw [if_neg h2]
      by_cases h3 : a % 9223372036854775808 = 0
      · rw [if_pos h3]; omega
      · rw [if_neg h3]
        by_cases h4 : a % 9223372036854775808 < 4503599627370496
        · rw [if_pos h4]; omega
        · rw [if_neg h4]; omega

theorem beqN_t {x y : Nat} (h : x = y) : ((x : Int) == (y : Int)) = true := by subst h; simp
theorem beqN_f {x y : Nat} (h : x ≠ y) : ((x : Int) == (y : Int)) = false := by rw [beq_eq_false_iff_ne]; omega
theorem bneN_t {x y : Nat} (h : x ≠ y) : ((x : Int) != (y : Int)) = true := by rw [bne_iff_ne]; omega
theorem bneN_f {x y : Nat} (h : x = y) : ((x : Int) != (y : Int)) = false := by subst h; simp

theorem cls_nan (a : Nat) : clsN a = 0 ↔ 9218868437227405312 < a % 9223372036854775808 := by
  unfold clsN
  by_cases h1 : 9218868437227405312 < a % 9223372036854775808
  · simp [h1]
  · simp only [h1, if_false, iff_false]
    repeat (split <;> first | omega | skip)

theorem flip_xor (a : Nat) (h : a < 18446744073709551616) : bits .xor .u64 (a : Int) 9223372036854775808 = (Gn.flipW a : Int) := by
  rw [show (9223372036854775808 : Int) = ((9223372036854775808 : Nat) : Int) from rfl, u64_xor_nat _ _ h (by omega)]
  congr 1
  unfold Gn.flipW
  by_cases h1 : a < 9223372036854775808
  · rw [if_pos h1]
    have := Nat.two_pow_add_eq_or_of_lt (i := 63) h1 1
    have e : a ^^^ 9223372036854775808 = a ||| 9223372036854775808 := by
      apply Nat.eq_of_testBit_eq; intro i
      rw [Nat.testBit_xor, Nat.testBit_or, show (9223372036854775808 : Nat) = 2 ^ 63 from rfl, Nat.testBit_two_pow]
      by_cases hi : 63 = i
      · subst hi; rw [Nat.testBit_lt_two_pow h1]; rfl
      · simp [hi]
    rw [e, Nat.or_comm]
    have h2 : 2 ^ 63 * 1 + a = 2 ^ 63 * 1 ||| a := this
    rw [Nat.mul_one] at h2
    rw [show (9223372036854775808 : Nat) = 2 ^ 63 from rfl, ← h2, Nat.add_comm]
  · rw [if_neg h1]
    obtain ⟨c, rfl, hc⟩ : ∃ c, a = 9223372036854775808 + c ∧ c < 9223372036854775808 := ⟨a - 9223372036854775808, by omega, by omega⟩
    have := Nat.two_pow_add_eq_or_of_lt (i := 63) hc 1
    rw [Nat.mul_one] at this
    rw [Nat.add_sub_cancel_left]
    have e : 9223372036854775808 + c = 2 ^ 63 ||| c := this
    rw [e]
    apply Nat.eq_of_testBit_eq; intro i
    rw [Nat.testBit_xor, Nat.testBit_or, show (9223372036854775808 : Nat) = 2 ^ 63 from rfl, Nat.testBit_two_pow]
    by_cases hi : 63 = i
    · subst hi; rw [Nat.testBit_lt_two_pow hc]; rfl
    · simp [hi]

theorem abs_andNot (a : Nat) (h : a < 18446744073709551616) : bits .andNot .u64 (a : Int) 9223372036854775808 = ((a % 9223372036854775808 : Nat) : Int) := by
  rw [show (9223372036854775808 : Int) = ((9223372036854775808 : Nat) : Int) from rfl, u64_andNot_nat _ _ h (by omega)]
  congr 1
  exact Nat.and_two_pow_sub_one_eq_mod _ 63

def lowW (a : Nat) : Nat := a % 9223372036854775808
end Go.Proofs.Ytlgcimfbhjidgaa
end
