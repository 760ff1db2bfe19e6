import Derived.Test.YteokcgclmgleiaaDoorMathF
namespace Gn
open Ieee

/-- a rung's significand and its place above 2^-1074 -/
def mg (r : Nat) : Nat := if r < 4503599627370496 then r else 4503599627370496 + r % 4503599627370496
def ex (r : Nat) : Nat := r / 4503599627370496 - 1
theorem vl_mg (r : Nat) : vl r = mg r * 2 ^ ex r := by
  unfold vl mg ex
  by_cases h : r < 4503599627370496
  · rw [if_pos h, if_pos h, show r / 4503599627370496 - 1 = 0 from by omega]; simp
  · rw [if_neg h, if_neg h]
theorem mg_lt (r : Nat) : mg r < 9007199254740992 := by
  unfold mg; split
  · omega
  · have : r % 4503599627370496 < 4503599627370496 := Nat.mod_lt _ (by decide)
    omega
theorem ex_mono {r q : Nat} (h : r ≤ q) : ex r ≤ ex q := by
  unfold ex
  have := Nat.div_le_div_right (c := 4503599627370496) h
  omega

/-- what has at most 53 digits is a rung's amount -/
theorem rep (k : Nat) : ∀ M : Nat, M < 9007199254740992 → ∃ d, vl d = M * 2 ^ k := by
  induction k with
  | zero =>
    intro M hM
    refine ⟨M, ?_⟩
    unfold vl
    by_cases h : M < 4503599627370496
    · rw [if_pos h]; simp
    · rw [if_neg h, show M / 4503599627370496 - 1 = 0 from by omega]; simp; omega
  | succ k ih =>
    intro M hM
    by_cases h : M < 4503599627370496
    · obtain ⟨d, hd⟩ := ih (2 * M) (by omega)
      exact ⟨d, by rw [hd, Nat.pow_succ, Nat.mul_comm 2 M, Nat.mul_assoc, Nat.mul_comm 2]⟩
    · refine ⟨(k + 2) * 4503599627370496 + (M - 4503599627370496), ?_⟩
      unfold vl
      rw [if_neg (by omega)]
      have e1 : ((k + 2) * 4503599627370496 + (M - 4503599627370496)) / 4503599627370496 - 1 = k + 1 := by omega
      have e2 : ((k + 2) * 4503599627370496 + (M - 4503599627370496)) % 4503599627370496 = M - 4503599627370496 := by omega
      rw [e1, e2, show 4503599627370496 + (M - 4503599627370496) = M from by omega]
/-- it is told exactly -/
theorem rn_rep {N : Nat} (M k : Nat) (hN : N = M * 2 ^ k) (hM : M < 9007199254740992) (hI : N < vl 9218868437227405312) : vl (rn N) = N ∧ rn N < 9218868437227405312 := by
  obtain ⟨d, hd⟩ := rep k M hM
  rw [← hN] at hd
  have hdI : d < 9218868437227405312 := vl_lt_iff.1 (by rw [hd]; exact hI)
  rw [← hd, rn_vl hdI]
  exact ⟨rfl, hdI⟩

theorem dbl (r : Nat) : vl 9218868437227405312 ≤ 2 * vl r ∨ (vl (rn (2 * vl r)) = 2 * vl r ∧ rn (2 * vl r) < 9218868437227405312) := by
  rcases Nat.lt_or_ge (2 * vl r) (vl 9218868437227405312) with h | h
  · right
    exact rn_rep (mg r) (ex r + 1) (by rw [vl_mg r, Nat.pow_succ, Nat.mul_comm 2, Nat.mul_assoc]) (mg_lt r) h
  · exact .inl h

/-- Sterbenz: the difference of near amounts is an amount -/
theorem near {r q : Nat} (h1 : vl q ≤ vl r) (h2 : vl r ≤ 2 * vl q) (hI : r < 9218868437227405312) : vl (rn (vl r - vl q)) = vl r - vl q ∧ rn (vl r - vl q) < 9218868437227405312 := by
  have hqr : q ≤ r := by
    rcases Nat.lt_or_ge r q with h | h
    · have := vl_lt h; omega
    · exact h
  have he := ex_mono hqr
  have hI' := vl_lt hI
  have e : vl r - vl q = (mg r * 2 ^ (ex r - ex q) - mg q) * 2 ^ ex q := by
    rw [Nat.sub_mul, Nat.mul_assoc, ← Nat.pow_add, Nat.sub_add_cancel he, ← vl_mg, ← vl_mg]
  refine rn_rep (mg r * 2 ^ (ex r - ex q) - mg q) (ex q) e ?_ (by omega)
  have h3 : vl r - vl q ≤ vl q := by omega
  rw [e, vl_mg q] at h3
  have := Nat.le_of_mul_le_mul_right h3 (Nat.two_pow_pos (ex q))
  have := mg_lt q
  omega

theorem sgn_f (v : Nat) : sgn false v = (v : Int) := rfl
theorem sgn_t (v : Nat) : sgn true v = -(v : Int) := rfl

/-- a difference of near numbers, and back -/
theorem back_near {r q : Nat} (hr : r < 9218868437227405312) (hq : q < 9218868437227405312) (h1 : vl q ≤ 2 * vl r) (h2 : vl r ≤ 2 * vl q) : addW (addW (wd false r) (wd true q)) (wd false q) = wd false r := by
  rw [add_fin false true r q hr hq]
  have hT : tot false true r q = (vl r : Int) - (vl q : Int) := by unfold tot; rw [sgn_f, sgn_t]; omega
  rw [hT]
  rcases Nat.lt_trichotomy (vl r) (vl q) with h | h | h
  · have hn : ((vl r : Int) - (vl q : Int)).natAbs = vl q - vl r := by omega
    obtain ⟨e1, e2⟩ := near (r := q) (q := r) (by omega) h1 hq
    rw [if_neg (by omega), hn, decide_eq_true (show (vl r : Int) - (vl q : Int) < 0 from by omega), add_fin true false _ q e2 hq]
    have hT2 : tot true false (rn (vl q - vl r)) q = (vl r : Int) := by unfold tot; rw [sgn_f, sgn_t, e1]; omega
    rw [hT2]
    by_cases h0 : vl r = 0
    · rw [if_pos (by omega), h0]
      have : r = 0 := by
        rcases Nat.eq_zero_or_pos r with k | k
        · exact k
        · have := vl_pos k; omega
      subst this; rfl
    · rw [if_neg (by omega), decide_eq_false (by omega), Int.natAbs_natCast, rn_vl hr]
  · have e : r = q := vl_inj h
    subst e
    rw [if_pos (by omega), show ((vl r : Int) - (vl r : Int)).natAbs = 0 from by omega]
    show addW (wd false 0) (wd false r) = _
    rw [add_fin false false 0 r (by omega) hr]
    have hT2 : tot false false 0 r = (vl r : Int) := by unfold tot; rw [sgn_f, sgn_f, vl_zero]; omega
    rw [hT2, Int.natAbs_natCast, rn_vl hr]
    by_cases h0 : vl r = 0
    · rw [if_pos (by omega)]; rfl
    · rw [if_neg (by omega), decide_eq_false (by omega)]
  · have hn : ((vl r : Int) - (vl q : Int)).natAbs = vl r - vl q := by omega
    obtain ⟨e1, e2⟩ := near (r := r) (q := q) (by omega) h2 hr
    rw [if_neg (by omega), hn, decide_eq_false (show ¬ (vl r : Int) - (vl q : Int) < 0 from by omega), add_fin false false _ q e2 hq]
    have hT2 : tot false false (rn (vl r - vl q)) q = (vl r : Int) := by unfold tot; rw [sgn_f, sgn_f, e1]; omega
    rw [hT2, Int.natAbs_natCast, rn_vl hr, if_neg (by omega), decide_eq_false (by omega)]
end Gn
