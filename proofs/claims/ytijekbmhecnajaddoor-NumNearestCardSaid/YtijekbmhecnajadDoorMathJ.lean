import Derived.Test.YtijekbmhecnajadDoorMathI
namespace Gn
open Ieee

/-- a number of at most 2^53 units of 2^k is told exactly -/
theorem rn_rep' {N : Nat} (M k : Nat) (hN : N = M * 2 ^ k) (hM : M ≤ 9007199254740992) (hI : N < vl 9218868437227405312) : vl (rn N) = N ∧ rn N < 9218868437227405312 := by
  rcases Nat.lt_or_eq_of_le hM with h | h
  · exact rn_rep M k hN h hI
  · refine rn_rep 4503599627370496 (k + 1) ?_ (by decide) hI
    rw [hN, h, Nat.pow_succ, Nat.mul_comm (2 ^ k)]
    exact Nat.mul_assoc 4503599627370496 2 (2 ^ k)
theorem div_of_mult {x k j : Nat} (h : j ≤ k) : x * 2 ^ k = x * 2 ^ (k - j) * 2 ^ j := by
  rw [Nat.mul_assoc, ← Nat.pow_add, Nat.sub_add_cancel h]

/-- amounts: r the greater one, q the lesser; N is their sum or difference; what rounding leaves out, and the sum less r, are told exactly -/
theorem two_sum (r q N : Nat) (hqr : q ≤ r) (hN : N = vl r + vl q ∨ N + vl q = vl r) (h0 : N ≠ 0) (hI : rn N < 9218868437227405312) (hR : 4 * vl r < vl 9218868437227405312) :
    (vl (rn (dist N (vl (rn N)))) = dist N (vl (rn N)) ∧ rn (dist N (vl (rn N))) < 9218868437227405312) ∧ (vl (rn (dist (vl (rn N)) (vl r))) = dist (vl (rn N)) (vl r) ∧ rn (dist (vl (rn N)) (vl r)) < 9218868437227405312) ∧ dist N (vl (rn N)) ≤ vl q := by
  have hvq : vl q ≤ vl r := by rcases Nat.lt_or_eq_of_le hqr with k | k; exact Nat.le_of_lt (vl_lt k); rw [k]; exact Nat.le_refl _
  have he := ex_mono hqr
  have hd : dist N (vl r) = vl q := by unfold dist; omega
  have hE := nearest_amount N r h0 hI
  rw [hd] at hE
  obtain ⟨hv, _⟩ := vl_rn N h0 hI
  obtain ⟨_, _, r3, r4⟩ := rhe_err N (N.log2 - 52)
  rw [← hv] at r3 r4
  -- N in units of 2^(ex q)
  obtain ⟨n1, hn1⟩ : ∃ n1, N = n1 * 2 ^ ex q := by
    rcases hN with h | h
    · exact ⟨mg r * 2 ^ (ex r - ex q) + mg q, by rw [Nat.add_mul, ← div_of_mult he, ← vl_mg, ← vl_mg]; exact h⟩
    · exact ⟨mg r * 2 ^ (ex r - ex q) - mg q, by rw [Nat.sub_mul, ← div_of_mult he, ← vl_mg, ← vl_mg]; omega⟩
  have hmq := mg_lt q
  have hmr := mg_lt r
  have dle : dist (vl (rn N)) (vl r) ≤ vl q + dist N (vl (rn N)) := by
    have : dist N (vl r) = vl q := hd
    unfold dist at *; omega
  have bnd : ∀ x, x ≤ 2 * vl q → x < vl 9218868437227405312 := fun x hx => by omega
  by_cases hk : N.log2 - 52 ≤ ex q
  · -- exact
    have hm : N % 2 ^ (N.log2 - 52) = 0 := by
      have e9 : N = n1 * 2 ^ (ex q - (N.log2 - 52)) * 2 ^ (N.log2 - 52) := by rw [← div_of_mult hk]; exact hn1
      generalize N.log2 - 52 = k at e9 ⊢
      rw [e9]; exact Nat.mul_mod_left _ _
    have e0 := r4 hm
    have z : dist N (vl (rn N)) = 0 := by rw [e0]; unfold dist; omega
    have e1 : dist (vl (rn N)) (vl r) = vl q := by rw [e0]; exact hd
    rw [z, e1]
    refine ⟨⟨rfl, by decide⟩, ?_, Nat.zero_le _⟩
    exact rn_rep (mg q) (ex q) (vl_mg q) hmq (bnd _ (by omega))
  · have hs : vl (rn N) = rhe N (N.log2 - 52) * 2 ^ (N.log2 - 52 - ex q) * 2 ^ ex q := by rw [hv]; exact div_of_mult (by omega)
    have hp := Nat.two_pow_pos (ex q)
    refine ⟨?_, ?_, hE⟩
    · -- what is left out
      have e : dist N (vl (rn N)) = dist n1 (rhe N (N.log2 - 52) * 2 ^ (N.log2 - 52 - ex q)) * 2 ^ ex q := by
        unfold dist
        rw [hs, Nat.add_mul, Nat.sub_mul, Nat.sub_mul, ← hn1]
      refine rn_rep _ (ex q) e ?_ (bnd _ (by omega))
      rw [e, vl_mg q] at hE
      have := Nat.le_of_mul_le_mul_right hE hp
      omega
    · by_cases hk2 : N.log2 - 52 ≤ ex r
      · -- in units of 2^k
        have e : dist (vl (rn N)) (vl r) = dist (rhe N (N.log2 - 52)) (mg r * 2 ^ (ex r - (N.log2 - 52))) * 2 ^ (N.log2 - 52) := by
          unfold dist
          rw [Nat.add_mul, Nat.sub_mul, Nat.sub_mul, ← div_of_mult hk2, ← vl_mg, ← hv]
        refine rn_rep _ _ e ?_ (bnd _ (by omega))
        have hpk := Nat.two_pow_pos (N.log2 - 52)
        have hq2 : vl q ≤ 4503599627370496 * 2 ^ (N.log2 - 52) := by
          rw [vl_mg q, show N.log2 - 52 = (N.log2 - 52 - 1) + 1 from by omega, Nat.pow_succ, Nat.mul_comm (2 ^ _) 2, ← Nat.mul_assoc]
          exact Nat.mul_le_mul (by omega) (pow_le _ _ (by omega))
        have hlt : dist (vl (rn N)) (vl r) < 4503599627370497 * 2 ^ (N.log2 - 52) := by
          rw [show (4503599627370497 : Nat) = 4503599627370496 + 1 from rfl, Nat.succ_mul]
          generalize 4503599627370496 * 2 ^ (N.log2 - 52) = z at *
          omega
        rw [e] at hlt
        have := Nat.lt_of_mul_lt_mul_right hlt
        omega
      · -- one place above r's
        have hkr : N.log2 - 52 = ex r + 1 := by
          have h1 : N < 2 ^ (ex r + 54) := by
            have h2 : N ≤ 2 * vl r := by omega
            have h3 : 2 * vl r < 2 ^ (ex r + 54) := by
              rw [vl_mg r, show ex r + 54 = 54 + ex r from by omega, Nat.pow_add, ← Nat.mul_assoc]
              refine Nat.mul_lt_mul_of_pos_right ?_ (Nat.two_pow_pos _)
              have : (2 : Nat) ^ 54 = 18014398509481984 := by decide
              omega
            omega
          have := (Nat.log2_lt h0).2 h1
          omega
        have e : dist (vl (rn N)) (vl r) = dist (rhe N (N.log2 - 52) * 2) (mg r) * 2 ^ ex r := by
          unfold dist
          rw [Nat.add_mul, Nat.sub_mul, Nat.sub_mul, ← vl_mg, hv, hkr, Nat.mul_assoc, Nat.pow_succ, Nat.mul_comm (2 ^ ex r) 2]
        refine rn_rep' _ _ e ?_ (bnd _ (by omega))
        have hp2 := Nat.two_pow_pos (ex r)
        have hq2 : vl q + 2 ^ ex r ≤ 9007199254740992 * 2 ^ ex r := by
          have : vl q ≤ mg q * 2 ^ ex r := by rw [vl_mg q]; exact Nat.mul_le_mul_left _ (pow_le _ _ he)
          have h5 := Nat.mul_le_mul_right (2 ^ ex r) (Nat.succ_le_of_lt hmq)
          rw [Nat.succ_mul] at h5
          generalize mg q * 2 ^ ex r = z at *
          generalize 9007199254740992 * 2 ^ ex r = y at *
          omega
        have hhalf : dist N (vl (rn N)) ≤ 2 ^ ex r := by
          rw [hkr, Nat.pow_succ] at r3; omega
        have hle : dist (vl (rn N)) (vl r) ≤ 9007199254740992 * 2 ^ ex r := by
          generalize 9007199254740992 * 2 ^ ex r = y at *
          omega
        rw [e] at hle
        exact Nat.le_of_mul_le_mul_right hle hp2
end Gn
