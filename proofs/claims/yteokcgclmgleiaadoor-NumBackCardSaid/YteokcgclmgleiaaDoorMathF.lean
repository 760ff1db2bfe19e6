import Derived.Test.YteokcgclmgleiaaDoorMathD
namespace Gn
open Ieee

theorem rhe_ge (n d : Nat) : n / 2 ^ d ≤ rhe n d := by unfold rhe; omega
theorem rhe_le (n d : Nat) : rhe n d ≤ n / 2 ^ d + 1 := by unfold rhe; split <;> omega
theorem rhe_mono {x y : Nat} (h : x ≤ y) (d : Nat) : rhe x d ≤ rhe y d := by
  have hd : 0 < 2 ^ d := Nat.two_pow_pos d
  have hq : x / 2 ^ d ≤ y / 2 ^ d := Nat.div_le_div_right h
  rcases Nat.lt_or_eq_of_le hq with h1 | h1
  · have := rhe_le x d
    have := rhe_ge y d
    omega
  · have e1 := Nat.div_add_mod x (2 ^ d)
    have e2 := Nat.div_add_mod y (2 ^ d)
    unfold rhe
    rw [h1] at *
    generalize 2 ^ d * (y / 2 ^ d) = z at *
    generalize x % 2 ^ d = rx at *
    generalize y % 2 ^ d = ry at *
    generalize y / 2 ^ d = q at *
    generalize 2 ^ d = D at *
    by_cases c1 : D < 2 * rx ∨ (D = 2 * rx ∧ q % 2 = 1)
    · have c2 : D < 2 * ry ∨ (D = 2 * ry ∧ q % 2 = 1) := by omega
      rw [if_pos c1, if_pos c2]; omega
    · rw [if_neg c1]; split <;> omega
theorem rhe_lt_pow (n d k : Nat) (h : n < 2 ^ (d + k)) : rhe n d ≤ 2 ^ k := by
  have h1 : n / 2 ^ d < 2 ^ k := by
    rw [Nat.div_lt_iff_lt_mul (Nat.two_pow_pos d), ← Nat.pow_add, Nat.add_comm k d]; exact h
  have := rhe_le n d
  omega
theorem div_ge_pow (n d k : Nat) (h : 2 ^ (d + k) ≤ n) : 2 ^ k ≤ rhe n d := by
  have h1 : 2 ^ k ≤ n / 2 ^ d := by
    rw [Nat.le_div_iff_mul_le (Nat.two_pow_pos d), ← Nat.pow_add, Nat.add_comm k d]; exact h
  have := rhe_ge n d
  omega

/-- the part that is kept, with the place of its last digit -/
theorem kept_le (m : Nat) (e last : Int) (hl : e + m.log2 - 52 ≤ last) : rhe (m * 2 ^ (e - last).toNat) (last - e).toNat ≤ 9007199254740992 := by
  have h2 : m < 2 ^ (m.log2 + 1) := Nat.lt_log2_self
  refine rhe_lt_pow _ _ 53 ?_
  by_cases h1 : last ≤ e
  · rw [show (last - e).toNat = 0 from by omega, Nat.zero_add]
    have h3 : m * 2 ^ (e - last).toNat < 2 ^ (m.log2 + 1) * 2 ^ (e - last).toNat := Nat.mul_lt_mul_of_pos_right h2 (Nat.two_pow_pos _)
    rw [← Nat.pow_add] at h3
    exact Nat.lt_of_lt_of_le h3 (Nat.pow_le_pow_right (by omega) (by omega))
  · rw [show (e - last).toNat = 0 from by omega, Nat.pow_zero, Nat.mul_one]
    exact Nat.lt_of_lt_of_le h2 (Nat.pow_le_pow_right (by omega) (by omega))
theorem kept_ge (m : Nat) (e last : Int) (h : m ≠ 0) (hl : last = e + m.log2 - 52) : 4503599627370496 ≤ rhe (m * 2 ^ (e - last).toNat) (last - e).toNat := by
  have h2 : 2 ^ m.log2 ≤ m := Nat.log2_self_le h
  refine div_ge_pow _ _ 52 ?_
  by_cases h1 : last ≤ e
  · rw [show (last - e).toNat = 0 from by omega, Nat.zero_add]
    have h3 : 2 ^ m.log2 * 2 ^ (e - last).toNat ≤ m * 2 ^ (e - last).toNat := Nat.mul_le_mul_right _ h2
    rw [← Nat.pow_add] at h3
    refine Nat.le_trans (Nat.pow_le_pow_right (by omega) (by omega)) h3
  · rw [show (e - last).toNat = 0 from by omega, Nat.pow_zero, Nat.mul_one]
    exact Nat.le_trans (Nat.pow_le_pow_right (by omega) (by omega)) h2

/-- the rung before it is cut at the infinity's -/
def rungU (mag : Nat) (place : Int) : Nat :=
  (max (place + mag.log2 - 52) (-1074) + 1074).toNat * 4503599627370496 + rhe (mag * 2 ^ (place - max (place + mag.log2 - 52) (-1074)).toNat) (max (place + mag.log2 - 52) (-1074) - place).toNat
theorem rung_U (m : Nat) (e : Int) (h : m ≠ 0) : rung m e = min (rungU m e) 9218868437227405312 := by
  unfold rung rungU; rw [if_neg h]
theorem log2_mono {m n : Nat} (h : m ≤ n) (h0 : m ≠ 0) : m.log2 ≤ n.log2 := by
  have h1 : 2 ^ m.log2 ≤ m := Nat.log2_self_le h0
  exact (Nat.le_log2 (by omega)).2 (by omega)
theorem rungU_mono {m n : Nat} (h : m ≤ n) (h0 : m ≠ 0) (e : Int) : rungU m e ≤ rungU n e := by
  have hl := log2_mono h h0
  have hn : n ≠ 0 := by omega
  unfold rungU
  by_cases h1 : max (e + (m.log2 : Int) - 52) (-1074) = max (e + (n.log2 : Int) - 52) (-1074)
  · rw [h1]
    refine Nat.add_le_add_left (rhe_mono (Nat.mul_le_mul_right _ h) _) _
  · have a1 := kept_le m e (max (e + (m.log2 : Int) - 52) (-1074)) (by omega)
    have e2 : max (e + (n.log2 : Int) - 52) (-1074) = e + n.log2 - 52 := by omega
    have a2 := kept_ge n e (max (e + (n.log2 : Int) - 52) (-1074)) hn e2
    have a3 : max (e + (m.log2 : Int) - 52) (-1074) < max (e + (n.log2 : Int) - 52) (-1074) := by omega
    have a4 : -1074 ≤ max (e + (m.log2 : Int) - 52) (-1074) := by omega
    generalize rhe (m * 2 ^ (e - max (e + (m.log2 : Int) - 52) (-1074)).toNat) (max (e + (m.log2 : Int) - 52) (-1074) - e).toNat = km at *
    generalize rhe (n * 2 ^ (e - max (e + (n.log2 : Int) - 52) (-1074)).toNat) (max (e + (n.log2 : Int) - 52) (-1074) - e).toNat = kn at *
    generalize max (e + (m.log2 : Int) - 52) (-1074) = lm at *
    generalize max (e + (n.log2 : Int) - 52) (-1074) = ln at *
    have : (lm + 1074).toNat + 1 ≤ (ln + 1074).toNat := by omega
    generalize (lm + 1074).toNat = x at *
    generalize (ln + 1074).toNat = y at *
    omega
theorem rung_mono {m n : Nat} (h : m ≤ n) (e : Int) : rung m e ≤ rung n e := by
  by_cases h0 : m = 0
  · subst h0; unfold rung; simp
  · rw [rung_U m e h0, rung_U n e (by omega)]
    have := rungU_mono h h0 e
    omega

/-- rounding of an amount in units of 2^-1074 -/
def rn (n : Nat) : Nat := rung n (-1074)
theorem rn_le (n : Nat) : rn n ≤ 9218868437227405312 := rung_le _ _
theorem rn_mono {m n : Nat} (h : m ≤ n) : rn m ≤ rn n := rung_mono h _
theorem rung_rn (m : Nat) (e : Int) (h : -1074 ≤ e) : rung m e = rn (m * 2 ^ (e + 1074).toNat) := by
  have := rung_shift m (e + 1074).toNat e
  unfold rn
  rw [← this]; congr 1; omega
theorem log2_of {m k : Nat} (h1 : 2 ^ k ≤ m) (h2 : m < 2 ^ (k + 1)) : m.log2 = k := (Nat.log2_eq_iff (by have := Nat.two_pow_pos k; omega)).2 ⟨h1, h2⟩
theorem rn_vl {r : Nat} (h : r < 9218868437227405312) : rn (vl r) = r := by
  unfold vl
  by_cases h1 : r < 4503599627370496
  · rw [if_pos h1]
    by_cases h0 : r = 0
    · subst h0; rfl
    · have hl : r.log2 < 52 := (Nat.log2_lt h0).2 (by omega)
      unfold rn
      rw [rung_U r _ h0]; unfold rungU
      have e1 : max ((-1074 : Int) + r.log2 - 52) (-1074) = -1074 := by omega
      rw [e1]
      show min (0 * 4503599627370496 + rhe (r * 2 ^ 0) 0) _ = r
      rw [Nat.pow_zero, Nat.mul_one, rhe_zero]; omega
  · rw [if_neg h1]
    have hs := rung_shift (4503599627370496 + r % 4503599627370496) (r / 4503599627370496 - 1) ((r / 4503599627370496 - 1 : Nat) - 1074)
    have e0 : (((r / 4503599627370496 - 1 : Nat) : Int) - 1074 - ((r / 4503599627370496 - 1 : Nat) : Int)) = -1074 := by omega
    rw [e0] at hs
    unfold rn
    rw [hs]
    have hm : r % 4503599627370496 < 4503599627370496 := Nat.mod_lt _ (by decide)
    have hl : (4503599627370496 + r % 4503599627370496).log2 = 52 := log2_of (by show 4503599627370496 ≤ _; omega) (by show _ < 9007199254740992; omega)
    rw [rung_U _ _ (by omega)]; unfold rungU
    rw [hl]
    have e1 : max (((r / 4503599627370496 - 1 : Nat) : Int) - 1074 + ((52 : Nat) : Int) - 52) (-1074) = ((r / 4503599627370496 - 1 : Nat) : Int) - 1074 := by omega
    rw [e1]
    have e2 : (((r / 4503599627370496 - 1 : Nat) : Int) - 1074 - (((r / 4503599627370496 - 1 : Nat) : Int) - 1074)).toNat = 0 := by omega
    have e3 : (((r / 4503599627370496 - 1 : Nat) : Int) - 1074 + 1074).toNat = r / 4503599627370496 - 1 := by omega
    rw [e2, e3, Nat.pow_zero, Nat.mul_one, rhe_zero]
    omega

/-- a sum of two finite numbers -/
def tot (s t : Bool) (r q : Nat) : Int := sgn s (vl r) + sgn t (vl q)
theorem add_fin (s t : Bool) (r q : Nat) (hr : r < 9218868437227405312) (hq : q < 9218868437227405312) :
    addW (wd s r) (wd t q) = wd (if tot s t r q = 0 then s && t else decide (tot s t r q < 0)) (rn (tot s t r q).natAbs) := by
  obtain ⟨m, i, e1, hi, hv⟩ := rd_num s r hr
  obtain ⟨n, j, e2, hj, hu⟩ := rd_num t q hq
  rw [add_ans, read_wd s r (by omega), read_wd t q (by omega), e1, e2]
  show double.write (.number (if signed s m (i - min i j).toNat + signed t n (j - min i j).toNat = 0 then s && t else decide (signed s m (i - min i j).toNat + signed t n (j - min i j).toNat < 0)) (signed s m (i - min i j).toNat + signed t n (j - min i j).toNat).natAbs (min i j)) = _
  have hT : (signed s m (i - min i j).toNat + signed t n (j - min i j).toNat) * 2 ^ (min i j + 1074).toNat = tot s t r q := by
    unfold tot
    rw [Int.add_mul, signed_val s m i _ (by omega) (by omega), signed_val t n j _ (by omega) (by omega), hv, hu]
  have hp : (0 : Int) < 2 ^ (min i j + 1074).toNat := Int.pow_pos (by decide)
  have hna : (tot s t r q).natAbs = (signed s m (i - min i j).toNat + signed t n (j - min i j).toNat).natAbs * 2 ^ (min i j + 1074).toNat := by
    rw [← hT, Int.natAbs_mul, Int.natAbs_pow]; rfl
  rw [write_number, rung_rn _ _ (by omega), ← hna]
  have z : (signed s m (i - min i j).toNat + signed t n (j - min i j).toNat = 0) ↔ tot s t r q = 0 := by
    rw [← hT]
    constructor
    · intro h; rw [h]; simp
    · intro h; rcases Int.mul_eq_zero.1 h with h | h
      · exact h
      · omega
  have l : (signed s m (i - min i j).toNat + signed t n (j - min i j).toNat < 0) ↔ tot s t r q < 0 := by
    rw [← hT]
    constructor
    · intro h; exact Int.mul_neg_of_neg_of_pos h hp
    · intro h
      rcases Int.lt_or_le (signed s m (i - min i j).toNat + signed t n (j - min i j).toNat) 0 with k | k
      · exact k
      · have := Int.mul_nonneg k (Int.le_of_lt hp); omega
  simp only [z, l]

/-- a product of two finite numbers -/
theorem mul_fin (s t : Bool) (r q : Nat) (hr : r < 9218868437227405312) (hq : q < 9218868437227405312) :
    mulW (wd s r) (wd t q) = wd (s ^^ t) (rung (vl r * vl q) (-2148)) := by
  obtain ⟨m, i, e1, hi, hv⟩ := rd_num s r hr
  obtain ⟨n, j, e2, hj, hu⟩ := rd_num t q hq
  rw [mul_ans, read_wd s r (by omega), read_wd t q (by omega), e1, e2]
  show double.write (.number (s ^^ t) (m * n) (i + j)) = _
  rw [write_number]
  congr 1
  have := rung_shift (m * n) ((i + 1074).toNat + (j + 1074).toNat) (i + j)
  rw [← this]
  congr 1
  · rw [← hv, ← hu, Nat.pow_add]
    simp only [Nat.mul_assoc, Nat.mul_left_comm]
  · omega
end Gn
