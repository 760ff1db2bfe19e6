import Derived.Test.YtkfnedhllfdghaaGreatDoorMgAB
import Derived.Laws.FloatArith

section
namespace Gn
open Ieee

def flrD (a : Nat) : Nat := double.write ((double.read a).integral .down)
theorem integral_ok {d : Datum} {way : Toward} (h : okD d) : okD (d.integral way) := by cases d <;> exact h
theorem flr_canon (a : Nat) (h : okD (double.read a)) : canonW (flrD a) = flrD a := canon_write (integral_ok h)
theorem flr_lt (a : Nat) : flrD a < 18446744073709551616 := double.write_lt _

/-- what Int tests -/
def intOk (a : Nat) : Bool := (double.order a 14114281232179134464 == some .gt || double.order a 14114281232179134464 == some .eq) && double.order a 4890909195324358656 == some .lt && double.order a (flrD a) == some .eq

theorem cut_zero (s : Bool) (n d : Nat) : Toward.zero.cut s n d = n / 2 ^ d := by
  unfold Toward.cut
  simp only [Nat.one_shiftLeft, Bool.toNat_false, Nat.add_zero]
  by_cases h : d ≤ n.log2 + 2
  · rw [Nat.min_eq_left h]
  · have h1 : n < 2 ^ (n.log2 + 1) := Nat.lt_log2_self
    have h2 : 2 ^ (n.log2 + 1) ≤ 2 ^ (n.log2 + 2) := Nat.pow_le_pow_right (by omega) (by omega)
    have h3 : 2 ^ (n.log2 + 2) ≤ 2 ^ d := Nat.pow_le_pow_right (by omega) (by omega)
    rw [Nat.min_eq_right (by omega), Nat.div_eq_of_lt (by omega), Nat.div_eq_of_lt (by omega)]

/-- a number's amount, cut to a whole one -/
theorem whole_val (m : Nat) (i : Int) (hi : -1074 ≤ i) : (m <<< i.toNat) / 2 ^ (-i).toNat = m * 2 ^ (i + 1074).toNat / 2 ^ 1074 := by
  rw [Nat.shiftLeft_eq]
  by_cases h : 0 ≤ i
  · have e : (i + 1074).toNat = i.toNat + 1074 := by omega
    rw [e, Nat.pow_add, ← Nat.mul_assoc, Nat.mul_div_cancel _ (Nat.two_pow_pos 1074), show (-i).toNat = 0 from by omega]; simp
  · have e : 1074 = (-i).toNat + (i + 1074).toNat := by omega
    rw [show i.toNat = 0 from by omega, Nat.pow_zero, Nat.mul_one]
    conv => rhs; rw [show (2:Nat) ^ 1074 = 2 ^ ((-i).toNat + (i + 1074).toNat) from by rw [← e]]
    rw [Nat.pow_add, Nat.mul_div_mul_right _ _ (Nat.two_pow_pos _)]

theorem rd_low : double.read 14114281232179134464 = .number true 4503599627370496 11 := by decide
theorem rd_high : double.read 4890909195324358656 = .number false 4503599627370496 11 := by decide
theorem pow_63 (k : Nat) : 4503599627370496 * 2 ^ (11 + k) = 9223372036854775808 * 2 ^ k := by
  rw [Nat.pow_add, ← Nat.mul_assoc]
theorem num_low : Num (double.read 14114281232179134464) true (9223372036854775808 * 2 ^ 1074) := ⟨_, _, rd_low, by omega, by rw [show ((11 : Int) + 1074).toNat = 11 + 1074 from rfl]; exact pow_63 1074⟩
theorem num_high : Num (double.read 4890909195324358656) false (9223372036854775808 * 2 ^ 1074) := ⟨_, _, rd_high, by omega, by rw [show ((11 : Int) + 1074).toNat = 11 + 1074 from rfl]; exact pow_63 1074⟩

theorem beq_some {x y : Ordering} : (some x == some y) = decide (x = y) := by cases x <;> cases y <;> rfl

/-- what passes Int's first two tests is a number with an amount of at most 2^63 -/
theorem int_num {a : Nat} (ha : a < 18446744073709551616) (h1 : double.order a 14114281232179134464 = some .gt ∨ double.order a 14114281232179134464 = some .eq) (h2 : double.order a 4890909195324358656 = some .lt) :
    ∃ s r, r < 9218868437227405312 ∧ a = wd s r ∧ -(9223372036854775808 * 2 ^ 1074 : Nat) ≤ sgn s (vl r) ∧ sgn s (vl r) < (9223372036854775808 * 2 ^ 1074 : Nat) := by
  obtain ⟨s, r, hr, rfl⟩ := wd_cases a ha
  unfold Format.order at h1 h2
  rw [read_wd s r hr] at h1 h2
  by_cases hn : 9218868437227405312 < r
  · rw [rd_nan s r hn] at h2; cases h2
  · by_cases he : r = 9218868437227405312
    · subst he
      rw [rd_inf, rd_low] at h1; rw [rd_inf, rd_high] at h2
      cases s
      · cases h2
      · rcases h1 with h1 | h1 <;> cases h1
    · have hr' : r < 9218868437227405312 := by omega
      refine ⟨s, r, hr', rfl, ?_⟩
      rw [order_num (rd_num s r hr') num_low] at h1
      rw [order_num (rd_num s r hr') num_high] at h2
      generalize sgn s (vl r) = v at *
      have e1 : sgn true (9223372036854775808 * 2 ^ 1074) = -(9223372036854775808 * 2 ^ 1074 : Nat) := rfl
      have e2 : sgn false (9223372036854775808 * 2 ^ 1074) = (9223372036854775808 * 2 ^ 1074 : Nat) := rfl
      rw [e1] at h1; rw [e2] at h2
      generalize (9223372036854775808 * 2 ^ 1074 : Nat) = B at *
      refine ⟨?_, ?_⟩
      · rcases Int.lt_trichotomy v (-(B : Int)) with h | h | h
        · rw [cmp_lt h] at h1; rcases h1 with h1 | h1 <;> cases h1
        · omega
        · omega
      · rcases Int.lt_trichotomy v (B : Int) with h | h | h
        · exact h
        · rw [cmp_eq h] at h2; cases h2
        · rw [cmp_gt h] at h2; cases h2

theorem toInt_rd (s : Bool) (r : Nat) (h : r < 9218868437227405312) : (rd s r).toInt .zero = some (sgn s (vl r / 2 ^ 1074)) := by
  obtain ⟨m, i, e, hi, hv⟩ := rd_num s r h
  rw [e]
  show some (signed s (Toward.zero.cut s (m <<< i.toNat) (-i).toNat) 0) = _
  rw [cut_zero, whole_val m i hi, hv]; rfl

def intV (a : Nat) : Int := (Go.floatToIntVal .f64 a .i64).getD 0
theorem int_some {a : Nat} (ha : a < 18446744073709551616) (h1 : double.order a 14114281232179134464 = some .gt ∨ double.order a 14114281232179134464 = some .eq) (h2 : double.order a 4890909195324358656 = some .lt) : Go.floatToIntVal .f64 a .i64 = some (intV a) := by
  obtain ⟨s, r, hr, rfl, b1, b2⟩ := int_num ha h1 h2
  unfold intV
  have e : (Go.FloatKind.f64.decode (wd s r)).toInt .zero = some (sgn s (vl r / 2 ^ 1074)) := by
    show (double.read (wd s r)).toInt .zero = _
    rw [read_wd s r (by omega), toInt_rd s r hr]
  have hp : 0 < 2 ^ 1074 := Nat.two_pow_pos 1074
  generalize 2 ^ 1074 = U at *
  have hb : Go.IntKind.i64.min ≤ sgn s (vl r / U) ∧ sgn s (vl r / U) ≤ Go.IntKind.i64.max := by
    show (-9223372036854775808 : Int) ≤ _ ∧ _ ≤ (9223372036854775807 : Int)
    cases s
    · have b3 : vl r < 9223372036854775808 * U := by
        generalize 9223372036854775808 * U = B at b2 ⊢
        simp only [sgn] at b2; simp at b2; omega
      have := (Nat.div_lt_iff_lt_mul hp).2 b3
      generalize vl r / U = z at *
      simp only [sgn]; simp; omega
    · have b3 : vl r ≤ 9223372036854775808 * U := by
        generalize 9223372036854775808 * U = B at b1 ⊢
        simp only [sgn, if_true] at b1; omega
      have := Nat.div_le_div_right (c := U) b3
      rw [Nat.mul_div_cancel _ hp] at this
      generalize vl r / U = z at *
      simp only [sgn]; simp; omega
  have e' : Go.floatToIntVal .f64 (wd s r) .i64 = some (sgn s (vl r / U)) := by
    unfold Go.floatToIntVal; rw [e]; simp only; rw [if_pos hb]
  rw [e']; rfl
end Gn
end
