import Derived.Test.YtdklpgkheakapaaGreatDoorTimB
import Derived.Test.YtdklpgkheakapaaGreatDoorMathI
namespace Gn
open Ieee
theorem r_parts (r : Nat) (h : 4503599627370496 ≤ r) : r = ex r * 4503599627370496 + mg r ∧ 4503599627370496 ≤ mg r ∧ mg r < 9007199254740992 := by
  have hm := mg_lt r
  unfold mg ex at *
  rw [if_neg (by omega)] at hm ⊢
  omega
theorem rn_at (N k : Nat) (hne : N ≠ 0) (hlog : N.log2 = 52 + k) : rn N = min (k * 4503599627370496 + rhe N k) 9218868437227405312 := by
  unfold rn rung
  rw [if_neg hne, hlog]
  simp only
  rw [show max ((-1074 : Int) + ((52 + k : Nat) : Int) - 52) (-1074) = (k : Int) - 1074 by omega, show ((k : Int) - 1074 + 1074).toNat = k by omega, show ((-1074 : Int) - ((k : Int) - 1074)).toNat = 0 by omega, show ((k : Int) - 1074 - -1074).toNat = k by omega, Nat.pow_zero, Nat.mul_one]
/-- a number and less than half of its last bit more -/
theorem rn_up (r v : Nat) (hr : r < 9218868437227405312) (h1 : 1 ≤ ex r) (hv : 2 * v < 2 ^ ex r) : rn (vl r + v) = r := by
  have hbig : 4503599627370496 ≤ r := by unfold ex at h1; omega
  obtain ⟨e1, e2, e3⟩ := r_parts r hbig
  have hp := Nat.two_pow_pos (ex r)
  have hN : vl r + v = mg r * 2 ^ ex r + v := by rw [vl_mg]
  have hlog : (mg r * 2 ^ ex r + v).log2 = 52 + ex r := by
    apply log2_of
    · rw [Nat.pow_add, show (2 : Nat) ^ 52 = 4503599627370496 by decide]
      have := Nat.mul_le_mul_right (2 ^ ex r) e2
      omega
    · rw [show 52 + ex r + 1 = 53 + ex r by omega, Nat.pow_add, show (2 : Nat) ^ 53 = 9007199254740992 by decide]
      have : (mg r + 1) * 2 ^ ex r ≤ 9007199254740992 * 2 ^ ex r := Nat.mul_le_mul_right _ (by omega)
      rw [Nat.add_mul] at this
      omega
  have hne : mg r * 2 ^ ex r + v ≠ 0 := by
    have := Nat.mul_le_mul_right (2 ^ ex r) e2
    omega
  have hdiv : (mg r * 2 ^ ex r + v) / 2 ^ ex r = mg r := by rw [Nat.mul_comm, Nat.mul_add_div hp, Nat.div_eq_of_lt (by omega), Nat.add_zero]
  have hmod : (mg r * 2 ^ ex r + v) % 2 ^ ex r = v := by rw [Nat.mul_comm (mg r), Nat.mul_add_mod, Nat.mod_eq_of_lt (by omega)]
  have hrhe : rhe (mg r * 2 ^ ex r + v) (ex r) = mg r := by
    unfold rhe
    rw [hdiv, hmod, if_neg (by omega), Nat.add_zero]
  rw [hN, rn_at _ _ hne hlog, hrhe]
  exact (Nat.min_eq_left (by omega)).trans e1.symm
theorem dist_le_of {x y d : Nat} (h : dist x y ≤ d) : x ≤ y + d ∧ y ≤ x + d := by unfold dist at h; omega
/-- a number and less than a quarter of its last bit less -/
theorem rn_down (r v : Nat) (hr : r < 9218868437227405312) (h1 : 2 ≤ ex r) (hv : 4 * v < 2 ^ ex r) : rn (vl r - v) = r := by
  have hbig : 4503599627370496 ≤ r := by unfold ex at h1; omega
  obtain ⟨e1, e2, e3⟩ := r_parts r hbig
  have hp := Nat.two_pow_pos (ex r)
  have hvr : vl r = mg r * 2 ^ ex r := vl_mg r
  have hge := Nat.mul_le_mul_right (2 ^ ex r) e2
  have hI : rn (vl r - v) < 9218868437227405312 := by
    have := rn_mono (show vl r - v ≤ vl r by omega)
    rw [rn_vl hr] at this
    omega
  have hd := nearest_amount (vl r - v) r (by omega) hI
  have hd2 : dist (vl r - v) (vl r) = v := by unfold dist; omega
  rw [hd2] at hd
  obtain ⟨d1, d2⟩ := dist_le_of hd
  have h2p : 2 ^ ex r = 2 * 2 ^ (ex r - 1) := by rw [← Nat.pow_succ']; congr 1; omega
  obtain ⟨k, hk⟩ : ∃ k, ex r = k + 1 := ⟨ex r - 1, by omega⟩
  obtain ⟨j, hj⟩ : ∃ j, mg r = 4503599627370496 + j := ⟨mg r - 4503599627370496, by omega⟩
  have hjl : j < 4503599627370496 := by omega
  -- the neighbours
  have up : vl r + 2 ^ ex r ≤ vl (r + 1) := by
    by_cases hj1 : j + 1 < 4503599627370496
    · have e := vl_norm (ex r) (j + 1) hj1
      rw [show (ex r + 1) * 4503599627370496 + (j + 1) = r + 1 by omega] at e
      rw [e, hvr, hj, ← Nat.add_assoc, Nat.add_mul (4503599627370496 + j) 1, Nat.one_mul]
      exact Nat.le_refl _
    · have e := vl_norm (ex r + 1) 0 (by decide)
      rw [show (ex r + 1 + 1) * 4503599627370496 + 0 = r + 1 by omega] at e
      rw [e, hvr, hj, show j = 4503599627370495 by omega, Nat.pow_succ]
      omega
  have down : vl (r - 1) + 2 ^ (ex r - 1) ≤ vl r := by
    by_cases hj1 : j = 0
    · have e := vl_norm k 4503599627370495 (by decide)
      rw [show (k + 1) * 4503599627370496 + 4503599627370495 = r - 1 by omega] at e
      rw [e, hvr, hj, hj1, hk, show k + 1 - 1 = k by omega, Nat.pow_succ]
      omega
    · have e := vl_norm (ex r) (j - 1) (by omega)
      rw [show (ex r + 1) * 4503599627370496 + (j - 1) = r - 1 by omega] at e
      rw [e, hvr, hj]
      have : (4503599627370496 + j) * 2 ^ ex r = (4503599627370496 + (j - 1)) * 2 ^ ex r + 2 ^ ex r := by
        rw [show 4503599627370496 + j = (4503599627370496 + (j - 1)) + 1 by omega, Nat.add_mul _ 1, Nat.one_mul]
      omega
  rcases Nat.lt_trichotomy (rn (vl r - v)) r with h | h | h
  · have : vl (rn (vl r - v)) ≤ vl (r - 1) := by
      rcases Nat.lt_or_eq_of_le (show rn (vl r - v) ≤ r - 1 by omega) with h9 | h9
      · exact Nat.le_of_lt (vl_lt h9)
      · rw [h9]; exact Nat.le_refl _
    omega
  · exact h
  · have : vl (r + 1) ≤ vl (rn (vl r - v)) := by
      rcases Nat.lt_or_eq_of_le (show r + 1 ≤ rn (vl r - v) by omega) with h9 | h9
      · exact Nat.le_of_lt (vl_lt h9)
      · rw [← h9]; exact Nat.le_refl _
    omega

theorem sgn_add (s : Bool) (x y : Nat) : sgn s x + sgn s y = sgn s (x + y) := by cases s <;> simp [sgn] <;> omega
theorem sgn_sub (s : Bool) (x y : Nat) (h : y ≤ x) : sgn s x + sgn (!s) y = sgn s (x - y) := by cases s <;> simp [sgn] <;> omega
theorem sgn_natAbs (s : Bool) (x : Nat) : (sgn s x).natAbs = x := by cases s <;> simp [sgn]
theorem sgn_sign (s : Bool) (x : Nat) (h : x ≠ 0) (b : Bool) : (if sgn s x = 0 then b else decide (sgn s x < 0)) = s := by
  cases s
  · rw [if_neg (by simp [sgn]; omega)]; simp [sgn]
  · rw [if_neg (by simp [sgn]; omega)]; simp [sgn]; omega
theorem add_same (s : Bool) (r q : Nat) (hr : r < 9218868437227405312) (hq : q < 9218868437227405312) (h0 : r ≠ 0) : addW (wd s r) (wd s q) = wd s (rn (vl r + vl q)) := by
  have hp : 0 < vl r := vl_pos (by omega)
  rw [add_fin s s r q hr hq]
  unfold tot
  rw [sgn_add, sgn_sign s _ (by omega), sgn_natAbs]
theorem add_diff (s : Bool) (r q : Nat) (hr : r < 9218868437227405312) (hq : q < 9218868437227405312) (h : q < r) : addW (wd s r) (wd (!s) q) = wd s (rn (vl r - vl q)) := by
  have hp := vl_lt h
  rw [add_fin s (!s) r q hr hq]
  unfold tot
  rw [sgn_sub s _ _ (by omega), sgn_sign s _ (by omega), sgn_natAbs]
theorem add_opp (s : Bool) (r : Nat) (hr : r < 9218868437227405312) : addW (wd s r) (wd (!s) r) = 0 := by
  rw [add_fin s (!s) r r hr hr]
  unfold tot
  rw [sgn_sub s _ _ (Nat.le_refl _), Nat.sub_self, show sgn s 0 = 0 by cases s <;> rfl, if_pos rfl, show (0 : Int).natAbs = 0 from rfl]
  have : rn 0 = 0 := by have := rn_vl (r := 0) (by decide); rw [vl_zero] at this; exact this
  rw [this]
  cases s <;> rfl
theorem rn_scaled (M k : Nat) : rn (M * 2 ^ k) = rung M ((k : Int) - 1074) := by
  rw [rung_rn M _ (by omega), show ((k : Int) - 1074 + 1074).toNat = k by omega]
end Gn
