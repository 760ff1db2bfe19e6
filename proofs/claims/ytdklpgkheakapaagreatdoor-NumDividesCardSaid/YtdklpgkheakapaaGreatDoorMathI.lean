import Derived.Test.YtdklpgkheakapaaGreatDoorMathH
namespace Gn
open Ieee

/-- the distance of two whole numbers -/
def dist (x y : Nat) : Nat := (x - y) + (y - x)
theorem rhe_err (N k : Nat) : dist N (rhe N k * 2 ^ k) ≤ N % 2 ^ k ∧ dist N (rhe N k * 2 ^ k) ≤ 2 ^ k - N % 2 ^ k ∧ 2 * dist N (rhe N k * 2 ^ k) ≤ 2 ^ k ∧ (N % 2 ^ k = 0 → rhe N k * 2 ^ k = N) := by
  have hp := Nat.two_pow_pos k
  have e := Nat.div_add_mod N (2 ^ k)
  have hr := Nat.mod_lt N hp
  unfold rhe dist
  generalize 2 ^ k = D at *
  generalize N / D = q at *
  generalize N % D = r at *
  rw [Nat.mul_comm] at e
  by_cases c : D < 2 * r ∨ (D = 2 * r ∧ q % 2 = 1)
  · rw [if_pos c, Nat.add_mul, Nat.one_mul]
    generalize q * D = x at *
    omega
  · rw [if_neg c, Nat.add_zero]
    generalize q * D = x at *
    omega
theorem mult_dist (N k c : Nat) : dist N (rhe N k * 2 ^ k) ≤ dist N (c * 2 ^ k) := by
  obtain ⟨h1, h2, _, _⟩ := rhe_err N k
  have hp := Nat.two_pow_pos k
  have e := Nat.div_add_mod N (2 ^ k)
  have hr := Nat.mod_lt N hp
  generalize hx : dist N (rhe N k * 2 ^ k) = x at *
  unfold dist
  generalize 2 ^ k = D at *
  rw [Nat.mul_comm] at e
  rcases Nat.lt_or_ge (N / D) c with h | h
  · have := Nat.mul_le_mul_right D (Nat.succ_le_of_lt h)
    rw [Nat.succ_mul] at this
    generalize N / D * D = y at *
    generalize c * D = z at *
    generalize N % D = r at *
    omega
  · have := Nat.mul_le_mul_right D h
    generalize N / D * D = y at *
    generalize c * D = z at *
    generalize N % D = r at *
    omega

theorem vl_norm (k j : Nat) (hj : j < 4503599627370496) : vl ((k + 1) * 4503599627370496 + j) = (4503599627370496 + j) * 2 ^ k := by
  unfold vl
  rw [if_neg (by omega), show ((k + 1) * 4503599627370496 + j) / 4503599627370496 - 1 = k from by omega, show ((k + 1) * 4503599627370496 + j) % 4503599627370496 = j from by omega]
theorem small_inf {M : Nat} (h : M < 9007199254740992) : M < vl 9218868437227405312 := by
  have h1 := big_inf h
  have := Nat.mul_le_mul_left M UU_pos
  omega
/-- what rounding gives -/
theorem vl_rn (N : Nat) (h0 : N ≠ 0) (hI : rn N < 9218868437227405312) : vl (rn N) = rhe N (N.log2 - 52) * 2 ^ (N.log2 - 52) ∧ (rn N % 4503599627370496 ≠ 0 → 4503599627370496 ≤ rn N → ex (rn N) = N.log2 - 52) := by
  have hlt : N < 2 ^ (N.log2 + 1) := Nat.lt_log2_self
  rcases Nat.lt_or_ge 52 N.log2 with h | h
  · have hU := rung_U N (-1074) h0
    have hk1 : 4503599627370496 ≤ rhe N (N.log2 - 52) := by
      have := kept_ge N (-1074) (-1074 + N.log2 - 52) h0 rfl
      rw [show (-1074 - (-1074 + (N.log2 : Int) - 52)).toNat = 0 from by omega, show (-1074 + (N.log2 : Int) - 52 - -1074).toNat = N.log2 - 52 from by omega, Nat.pow_zero, Nat.mul_one] at this
      exact this
    have hk2 : rhe N (N.log2 - 52) ≤ 9007199254740992 := by
      have := kept_le N (-1074) (-1074 + N.log2 - 52) (by omega)
      rw [show (-1074 - (-1074 + (N.log2 : Int) - 52)).toNat = 0 from by omega, show (-1074 + (N.log2 : Int) - 52 - -1074).toNat = N.log2 - 52 from by omega, Nat.pow_zero, Nat.mul_one] at this
      exact this
    have hV : rungU N (-1074) = (N.log2 - 52) * 4503599627370496 + rhe N (N.log2 - 52) := by
      unfold rungU
      have e1 : max (-1074 + (N.log2 : Int) - 52) (-1074) = -1074 + (N.log2 : Int) - 52 := by omega
      rw [e1, show (-1074 + (N.log2 : Int) - 52 + 1074).toNat = N.log2 - 52 from by omega, show (-1074 - (-1074 + (N.log2 : Int) - 52)).toNat = 0 from by omega, show (-1074 + (N.log2 : Int) - 52 - -1074).toNat = N.log2 - 52 from by omega, Nat.pow_zero, Nat.mul_one]
    have hr : rn N = (N.log2 - 52) * 4503599627370496 + rhe N (N.log2 - 52) := by
      unfold rn at hI ⊢
      rw [hU, hV] at hI ⊢
      rcases Nat.le_total ((N.log2 - 52) * 4503599627370496 + rhe N (N.log2 - 52)) 9218868437227405312 with k | k
      · exact Nat.min_eq_left k
      · rw [Nat.min_eq_right k] at hI; omega
    rw [hr]
    generalize N.log2 - 52 = k at *
    generalize rhe N k = K at *
    rcases Nat.lt_or_eq_of_le hk2 with c | c
    · have e : k * 4503599627370496 + K = (k + 1) * 4503599627370496 + (K - 4503599627370496) := by
        rw [Nat.succ_mul]; generalize k * 4503599627370496 = z; omega
      rw [e, vl_norm k _ (by omega), show 4503599627370496 + (K - 4503599627370496) = K from by omega]
      refine ⟨rfl, fun _ _ => ?_⟩
      unfold ex; omega
    · subst c
      have e : k * 4503599627370496 + 9007199254740992 = (k + 1 + 1) * 4503599627370496 + 0 := by
        omega
      rw [e, vl_norm (k + 1) 0 (by decide), Nat.add_zero]
      refine ⟨?_, fun h1 _ => absurd (by omega) h1⟩
      rw [Nat.pow_succ, Nat.mul_comm (2 ^ k)]
      exact (Nat.mul_assoc 4503599627370496 2 (2 ^ k)).symm
  · have hs : N < 9007199254740992 := by
      refine Nat.lt_of_lt_of_le hlt ?_
      have := pow_le (N.log2 + 1) 53 (by omega)
      exact Nat.le_trans this (by decide)
    have hk : N.log2 - 52 = 0 := by omega
    obtain ⟨e1, e2⟩ := rn_rep (N := N) N 0 (by rw [Nat.pow_zero, Nat.mul_one]) hs (small_inf hs)
    rw [hk, rhe_zero, Nat.pow_zero, Nat.mul_one, e1]
    refine ⟨rfl, fun _ _ => ?_⟩
    have : rn N < 9007199254740992 := by
      rcases Nat.lt_or_ge (rn N) 9007199254740992 with k | k
      · exact k
      · have : vl 9007199254740992 ≤ vl (rn N) := by
          rcases Nat.lt_or_eq_of_le k with j | j
          · exact Nat.le_of_lt (vl_lt j)
          · rw [← j]; exact Nat.le_refl _
        have e : vl 9007199254740992 = 9007199254740992 := by decide
        omega
    unfold ex; omega

/-- no amount is nearer -/
theorem nearest_amount (N p : Nat) (h0 : N ≠ 0) (hI : rn N < 9218868437227405312) : dist N (vl (rn N)) ≤ dist N (vl p) := by
  rw [(vl_rn N h0 hI).1]
  by_cases hk : N.log2 - 52 ≤ ex p
  · rw [vl_mg p, show ex p = (ex p - (N.log2 - 52)) + (N.log2 - 52) from by omega, Nat.pow_add, ← Nat.mul_assoc]
    exact mult_dist N _ _
  · have h1 := mult_dist N (N.log2 - 52) 4503599627370496
    refine Nat.le_trans h1 ?_
    have h2 : vl p ≤ 4503599627370496 * 2 ^ (N.log2 - 52) := by
      rw [vl_mg p, show N.log2 - 52 = (N.log2 - 52 - 1) + 1 from by omega, Nat.pow_succ, Nat.mul_comm (2 ^ _) 2, ← Nat.mul_assoc]
      refine Nat.mul_le_mul (by have := mg_lt p; omega) (pow_le _ _ (by omega))
    have h3 : 4503599627370496 * 2 ^ (N.log2 - 52) ≤ N := by
      have h4 : 2 ^ N.log2 ≤ N := Nat.log2_self_le h0
      rw [show N.log2 = 52 + (N.log2 - 52) from by omega, Nat.pow_add] at h4
      have e52 : (2 : Nat) ^ 52 = 4503599627370496 := by decide
      rw [e52] at h4
      rw [show N.log2 - 52 = 52 + (N.log2 - 52) - 52 from by omega]
      rw [show 52 + (N.log2 - 52) - 52 = N.log2 - 52 from by omega]
      exact h4
    unfold dist
    generalize 4503599627370496 * 2 ^ (N.log2 - 52) = z at *
    omega
end Gn
