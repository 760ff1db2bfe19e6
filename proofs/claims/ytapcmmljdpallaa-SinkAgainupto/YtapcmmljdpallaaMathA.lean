import Derived.Laws.FloatBits
namespace Gn
open Ieee

def SGN : Nat := 9223372036854775808
def INF : Nat := 9218868437227405312
def NAN : Nat := 9221120237041090561
def HLF : Nat := 4503599627370496

theorem sw : double.signWeight = 9223372036854775808 := by decide
theorem bin : double.binade = 4503599627370496 := by decide
theorem infr : double.infRung = 9218868437227405312 := by decide
theorem lp : double.leastPlace = -1074 := by decide

/-- round half even of n / 2^d -/
def rhe (n d : Nat) : Nat := n / 2 ^ d + (if 2 ^ d < 2 * (n % 2 ^ d) ∨ (2 ^ d = 2 * (n % 2 ^ d) ∧ n / 2 ^ d % 2 = 1) then 1 else 0)

theorem cut_eq (neg : Bool) (n d : Nat) : Toward.even.cut neg n d = rhe n d := by
  unfold Toward.cut rhe
  by_cases h : d ≤ n.log2 + 2
  · have : min d (n.log2 + 2) = d := by omega
    simp only [this, Nat.one_shiftLeft]
    congr 1
    generalize 2 ^ d = g
    generalize n % g = r
    generalize n / g = q
    by_cases h1 : g < 2 * r
    · simp [h1]
    · by_cases h2 : g = 2 * r ∧ q % 2 = 1
      · obtain ⟨rfl, h3⟩ := h2; simp [h3]
      · have h4 : ¬ (g < 2 * r ∨ g = 2 * r ∧ q % 2 = 1) := by omega
        rw [if_neg h4]
        simp only [h1, decide_false, Bool.false_or]
        by_cases h5 : g = 2 * r
        · have h6 : ¬ q % 2 = 1 := fun h => h2 ⟨h5, h⟩
          simp [h6]
        · simp [h5]
  · have hm : min d (n.log2 + 2) = n.log2 + 2 := by omega
    have h1 : n < 2 ^ (n.log2 + 1) := Nat.lt_log2_self
    have h2 : 2 ^ (n.log2 + 2) = 2 * 2 ^ (n.log2 + 1) := by rw [Nat.pow_succ, Nat.mul_comm]
    have h3 : 2 ^ (n.log2 + 2) ≤ 2 ^ d := Nat.pow_le_pow_right (by omega) (by omega)
    simp only [hm, Nat.one_shiftLeft]
    have q1 : n / 2 ^ (n.log2 + 2) = 0 := Nat.div_eq_of_lt (by omega)
    have q2 : n % 2 ^ (n.log2 + 2) = n := Nat.mod_eq_of_lt (by omega)
    have q3 : n / 2 ^ d = 0 := Nat.div_eq_of_lt (by omega)
    have q4 : n % 2 ^ d = n := Nat.mod_eq_of_lt (by omega)
    rw [q1, q2, q3, q4, if_neg (by omega)]
    have h5 : ¬ (2 ^ (n.log2 + 2) < 2 * n) := by omega
    simp [h5]

theorem rhe_zero (n : Nat) : rhe n 0 = n := by simp [rhe]; omega

theorem rhe_mul (n d k : Nat) : rhe (n * 2 ^ k) (d + k) = rhe n d := by
  unfold rhe
  have hp : 0 < 2 ^ k := Nat.two_pow_pos k
  rw [Nat.pow_add, Nat.mul_div_mul_right _ _ hp, Nat.mul_mod_mul_right, ← Nat.mul_assoc]
  congr 1
  have e1 : (2 ^ d * 2 ^ k < 2 * (n % 2 ^ d) * 2 ^ k) ↔ (2 ^ d < 2 * (n % 2 ^ d)) := Nat.mul_lt_mul_right hp
  have e2 : (2 ^ d * 2 ^ k = 2 * (n % 2 ^ d) * 2 ^ k) ↔ (2 ^ d = 2 * (n % 2 ^ d)) := Nat.mul_right_cancel_iff hp
  simp only [e1, e2]

theorem rhe_exact (n d : Nat) : rhe (n * 2 ^ d) d = n := by
  have := rhe_mul n 0 d
  rw [Nat.zero_add] at this; rw [this, rhe_zero]

/-- the rung of the nearest number to mag * 2^place -/
def rung (mag : Nat) (place : Int) : Nat :=
  if mag = 0 then 0 else
  let last := max (place + mag.log2 - 52) (-1074)
  min ((last + 1074).toNat * 4503599627370496 + rhe (mag * 2 ^ (place - last).toNat) (last - place).toNat) 9218868437227405312

theorem nearest_eq (neg : Bool) (m : Nat) (e : Int) : double.nearest neg m e = double.word neg (rung m e) := by
  unfold Format.nearest rung
  by_cases h : m = 0
  · simp [h]
  · simp only [h, if_false, cut_eq, bin, infr, lp, Nat.shiftLeft_eq]
    congr 1

theorem rung_le (m : Nat) (e : Int) : rung m e ≤ 9218868437227405312 := by
  unfold rung; split
  · omega
  · exact Nat.min_le_right _ _

theorem log2_mul_pow (m k : Nat) (h : m ≠ 0) : (m * 2 ^ k).log2 = m.log2 + k := by
  rw [Nat.log2_eq_iff (by have := Nat.two_pow_pos k; have := Nat.mul_pos (Nat.pos_of_ne_zero h) this; omega)]
  have h1 : 2 ^ m.log2 ≤ m := Nat.log2_self_le h
  have h2 : m < 2 ^ (m.log2 + 1) := Nat.lt_log2_self
  have hp := Nat.two_pow_pos k
  refine ⟨?_, ?_⟩
  · rw [Nat.pow_add]; exact Nat.mul_le_mul_right _ h1
  · rw [show m.log2 + k + 1 = (m.log2 + 1) + k from by omega, Nat.pow_add]; exact Nat.mul_lt_mul_of_pos_right h2 hp

/-- nearest goes by the value alone -/
theorem rung_shift (m k : Nat) (e : Int) : rung (m * 2 ^ k) (e - k) = rung m e := by
  unfold rung
  by_cases h : m = 0
  · simp [h]
  · have h' : m * 2 ^ k ≠ 0 := Nat.mul_ne_zero h (by have := Nat.two_pow_pos k; omega)
    simp only [h, h', if_false, log2_mul_pow m k h]
    have e1 : max (e - (k : Int) + ((m.log2 + k : Nat) : Int) - 52) (-1074) = max (e + (m.log2 : Int) - 52) (-1074) := by omega
    rw [e1]
    generalize max (e + (m.log2 : Int) - 52) (-1074) = last
    congr 2
    by_cases h1 : last ≤ e - k
    · have a1 : (last - (e - (k:Int))).toNat = 0 := by omega
      have a2 : (last - e).toNat = 0 := by omega
      rw [a1, a2, rhe_zero, rhe_zero, Nat.mul_assoc, ← Nat.pow_add]
      congr 2; omega
    · by_cases h2 : last ≤ e
      · have a1 : (e - (k:Int) - last).toNat = 0 := by omega
        have a2 : (last - e).toNat = 0 := by omega
        rw [a1, a2, rhe_zero, Nat.pow_zero, Nat.mul_one]
        have a3 : k = (e - last).toNat + (last - (e - (k:Int))).toNat := by omega
        generalize (last - (e - (k:Int))).toNat = j at *
        generalize (e - last).toNat = i at *
        subst a3
        rw [Nat.pow_add, ← Nat.mul_assoc, rhe_exact]
      · have a1 : (e - (k:Int) - last).toNat = 0 := by omega
        have a2 : (e - last).toNat = 0 := by omega
        have a3 : (last - (e - (k:Int))).toNat = (last - e).toNat + k := by omega
        rw [a1, a2, a3, Nat.pow_zero, Nat.mul_one, Nat.mul_one, rhe_mul]
end Gn
