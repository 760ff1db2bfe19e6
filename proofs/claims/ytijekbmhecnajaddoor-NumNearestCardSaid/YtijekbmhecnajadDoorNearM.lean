import Derived.Test.YtijekbmhecnajadDoorOrdF
import Derived.Test.YtijekbmhecnajadDoorMathJ
namespace Go.Proofs.YtijekbmhecnajadDoor
open Gn

theorem lt_wd' (s t : Bool) (r q : Nat) (hr : r ≤ 9218868437227405312) (hq : q ≤ 9218868437227405312) : ltW (wd s r) (wd t q) = decide (sgn s (vl r) < sgn t (vl q)) := by
  unfold ltW; rw [order_wd s t r q hr hq, cmp_is_lt]
theorem sgn_abs (T : Int) (b : Bool) : sgn (if T = 0 then b else decide (T < 0)) T.natAbs = T := by
  by_cases h : T = 0
  · rw [if_pos h, h]; cases b <;> rfl
  · rw [if_neg h]
    by_cases k : T < 0
    · rw [decide_eq_true k]; simp only [sgn]; simp; omega
    · rw [decide_eq_false k]; simp only [sgn]; simp; omega
/-- a sum that is an amount -/
theorem add_exact (s t : Bool) (r q n : Nat) (T : Int) (hr : r < 9218868437227405312) (hq : q < 9218868437227405312) (hT : tot s t r q = T) (hn : T.natAbs = n) (he : vl (rn n) = n) :
    ∃ v, addW (wd s r) (wd t q) = wd v (rn n) ∧ sgn v (vl (rn n)) = T := by
  have h := add_fin s t r q hr hq
  rw [hT, hn] at h
  refine ⟨_, h, ?_⟩
  rw [he, ← hn]; exact sgn_abs T _
theorem sub_wd (x : Nat) (t : Bool) (q : Nat) (hq : q < 9218868437227405312) : subW x (wd t q) = addW x (wd (!t) q) := by
  unfold subW; rw [neg_wd t q (by omega), if_neg (by omega)]
theorem sgn_not' (t : Bool) (v : Nat) : sgn (!t) v = - sgn t v := by cases t <;> simp [sgn]

theorem wdf (r : Nat) : wd false r = r := rfl
theorem vl4 : vl 9218868437227405312 = 4 * vl 9209861237972664320 := by
  have a1 := vl_norm 2046 0 (by decide)
  have a2 := vl_norm 2044 0 (by decide)
  rw [show (2046 + 1) * 4503599627370496 + 0 = 9218868437227405312 from by decide, pow_split 2 2044 2046 rfl] at a1
  rw [show (2044 + 1) * 4503599627370496 + 0 = 9209861237972664320 from by decide] at a2
  rw [a1, a2]
  generalize (2 : Nat) ^ 2044 = X
  rw [show (2 : Nat) ^ 2 = 4 from by decide, Nat.mul_left_comm]
theorem ulp_of (k j : Nat) (h1 : 1 ≤ j) (h2 : j < 4503599627370496) : vl ((k + 1) * 4503599627370496 + j) = vl ((k + 1) * 4503599627370496 + j - 1) + 2 ^ k := by
  have e : (k + 1) * 4503599627370496 + j - 1 = (k + 1) * 4503599627370496 + (j - 1) := by omega
  rw [e, vl_norm k j h2, vl_norm k (j - 1) (by omega), show 4503599627370496 + j = (4503599627370496 + (j - 1)) + 1 from by omega, Nat.succ_mul]
theorem near_main (s t : Bool) (r q N p : Nat) (hqr : q ≤ r) (hr : r < 9209861237972664320) (hNT : (tot s t r q).natAbs = N) (h0 : N ≠ 0) (hpN : rn N = p) (hp : p < 9218868437227405312) (hn : 4503599627370496 ≤ p) (hm : p % 4503599627370496 ≠ 0) :
    addW (wd s r) (wd t q) = wd s p ∧ ltW (subW p (p - 1)) (addW (absW (subW (wd t q) (subW (wd s p) (wd s r)))) (absW (subW (wd t q) (subW (wd s p) (wd s r))))) = false := by
  have hvq : vl q ≤ vl r := by rcases Nat.lt_or_eq_of_le hqr with k | k; exact Nat.le_of_lt (vl_lt k); rw [k]; exact Nat.le_refl _
  have hR : 4 * vl r < vl 9218868437227405312 := by
    have := vl_lt hr; rw [vl4]; omega
  have hrI : r < 9218868437227405312 := by omega
  have hqI : q < 9218868437227405312 := by omega
  have hN : N = vl r + vl q ∨ N + vl q = vl r := by
    rw [← hNT]; unfold tot; cases s <;> cases t <;> simp only [sgn] <;> simp <;> omega
  have hS : tot s t r q = sgn s N := by
    rw [← hNT]; unfold tot at *; cases s <;> cases t <;> simp only [sgn] at * <;> simp at * <;> omega
  obtain ⟨⟨e1, e2⟩, ⟨z1, z2⟩, hEq⟩ := two_sum r q N hqr hN h0 (by omega) hR
  obtain ⟨hv, hex⟩ := vl_rn N h0 (by omega)
  have herr := (rhe_err N (N.log2 - 52)).2.2.1
  rw [← hv] at herr
  rw [hpN] at e1 e2 z1 z2 hEq hex herr
  have hexp := hex hm hn
  clear hex hv
  have hsum : addW (wd s r) (wd t q) = wd s p := by
    rw [add_fin s t r q hrI hqI, hNT, hpN, hS]
    have : (if sgn s N = 0 then s && t else decide (sgn s N < 0)) = s := by
      cases s
      · rw [sgn_f, if_neg (by omega)]; exact decide_eq_false (by omega)
      · rw [sgn_t, if_neg (by omega)]; exact decide_eq_true (by omega)
    rw [this]
  refine ⟨hsum, ?_⟩
  -- the sum less the greater one
  have hZ : tot s (!s) p r = sgn s (vl p) - sgn s (vl r) := by unfold tot; rw [sgn_not']; omega
  have hZn : (sgn s (vl p) - sgn s (vl r)).natAbs = dist (vl p) (vl r) := by
    unfold dist; cases s <;> simp only [sgn] <;> simp <;> omega
  obtain ⟨v, w1, w2⟩ := add_exact s (!s) p r _ _ hp hrI hZ hZn z1
  rw [sub_wd _ s r hrI, w1]
  -- what is left out
  have hE : tot t (!v) q (rn (dist (vl p) (vl r))) = sgn s N - sgn s (vl p) := by
    rw [← hS]; unfold tot; rw [sgn_not', w2]; omega
  have hEn : (sgn s N - sgn s (vl p)).natAbs = dist N (vl p) := by
    unfold dist; cases s <;> simp only [sgn] <;> simp <;> omega
  obtain ⟨u, x1, _⟩ := add_exact t (!v) q (rn (dist (vl p) (vl r))) _ _ hqI z2 hE hEn e1
  rw [sub_wd _ v _ z2, x1, abs_wd u _ (by omega), if_neg (by omega)]
  -- twice it
  have hd2 : vl (rn (2 * vl (rn (dist N (vl p))))) = 2 * vl (rn (dist N (vl p))) ∧ rn (2 * vl (rn (dist N (vl p)))) < 9218868437227405312 := by
    rcases dbl (rn (dist N (vl p))) with k | k
    · rw [e1] at k; omega
    · exact k
  rw [e1] at hd2
  have hD : tot false false (rn (dist N (vl p))) (rn (dist N (vl p))) = ((2 * dist N (vl p) : Nat) : Int) := by
    unfold tot; rw [sgn_f, e1]; omega
  obtain ⟨y, y1, y2⟩ := add_exact false false (rn (dist N (vl p))) (rn (dist N (vl p))) (2 * dist N (vl p)) _ e2 e2 hD (Int.natAbs_natCast _) hd2.1
  rw [wdf] at y1
  rw [y1]
  -- the last bit
  obtain ⟨k, j, hj1, hj2, hpk⟩ : ∃ k j, 1 ≤ j ∧ j < 4503599627370496 ∧ p = (k + 1) * 4503599627370496 + j := ⟨p / 4503599627370496 - 1, p % 4503599627370496, by omega, Nat.mod_lt _ (by decide), by omega⟩
  have hu := ulp_of k j hj1 hj2
  rw [← hpk] at hu
  have hexk : ex p = k := by unfold ex; omega
  have hpow : 2 ^ k < vl 9218868437227405312 := by
    have := vl_lt hp; omega
  obtain ⟨l1, l2⟩ := rn_rep (N := 2 ^ k) 1 k (by rw [Nat.one_mul]) (by decide) hpow
  have hL : tot false true p (p - 1) = ((2 ^ k : Nat) : Int) := by
    unfold tot; rw [sgn_f, sgn_t, hu]; omega
  obtain ⟨x, x1, x2⟩ := add_exact false true p (p - 1) (2 ^ k) _ hp (by omega) hL (Int.natAbs_natCast _) l1
  rw [wdf] at x1
  have hsb := sub_wd p false (p - 1) (by omega)
  rw [wdf, Bool.not_false] at hsb
  rw [hsb, x1, lt_wd' _ _ _ _ (by omega) (by omega), x2, y2]
  refine decide_eq_false ?_
  rw [hexk] at hexp
  rw [← hexp] at herr
  omega
end Go.Proofs.YtijekbmhecnajadDoor
