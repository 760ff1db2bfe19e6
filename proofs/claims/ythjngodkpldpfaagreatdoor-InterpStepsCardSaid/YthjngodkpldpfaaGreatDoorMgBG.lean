import Derived.Test.YthjngodkpldpfaaGreatDoorMgBF

section
namespace Go.Proofs.YthjngodkpldpfaaGreatDoor
open Go.RowKit
open Gn

theorem odd_mod {M j : Nat} (ho : M % 2 = 1) (hj : j < 1074) : M * 2 ^ j % UU ≠ 0 := by
  intro h
  obtain ⟨d, hd⟩ : ∃ d, d + 1 + j = 1074 := ⟨1073 - j, by omega⟩
  have hU : UU = 2 ^ d * 2 * 2 ^ j := by
    rw [← UU_def, ← hd, Nat.pow_add, Nat.pow_succ]
  rw [hU, Nat.mul_mod_mul_right] at h
  have hp := Nat.two_pow_pos j
  rcases Nat.mul_eq_zero.1 h with h | h
  · have h2 := Nat.dvd_of_mod_eq_zero h
    have h3 : 2 ∣ M := Nat.dvd_trans (Nat.dvd_mul_left _ _) h2
    omega
  · omega
theorem val_at (M j k : Nat) (h : j = 1074 + k) : M * 2 ^ j = M * 2 ^ k * UU := by
  rw [h, Nat.pow_add, UU_def, Nat.mul_comm UU, ← Nat.mul_assoc]
theorem fin_int (s : Bool) (r M i : Nat) (hr : r < 9218868437227405312) (h : M * 2 ^ i = mg r) (hM : M = 0 ∨ M % 2 = 1) : finR s M ((ex r : Int) - 1074 + (i : Int)) = intR (wd s r) := by
  have hv : vl r = M * 2 ^ (i + ex r) := by rw [vl_mg, ← h, Nat.pow_add, Nat.mul_assoc]
  have hok := intOk_wd s r hr
  have hU := UU_pos
  by_cases h0 : M = 0
  · subst h0
    rw [Nat.zero_mul] at hv
    have hk : intOk (wd s r) = true := by
      rw [hok, hv]; refine decide_eq_true ⟨Nat.zero_mod _, ?_, ?_⟩ <;> cases s <;> simp only [sgn] <;> simp <;> omega
    rw [fin_zero, int_yes hk, intV_wd s r hk hr, hv, Nat.zero_div]
    cases s <;> rfl
  · have ho : M % 2 = 1 := by omega
    by_cases h1 : (ex r : Int) - 1074 + (i : Int) < 0
    · have hk : intOk (wd s r) = false := by
        rw [hok, hv]; exact decide_eq_false (fun k => odd_mod ho (by omega) k.1)
      rw [fin_out s M _ h0 (.inl h1), int_no hk]
    · obtain ⟨k, hk⟩ : ∃ k : Nat, i + ex r = 1074 + k := ⟨i + ex r - 1074, by omega⟩
      have hY := val_at M (i + ex r) k hk
      rw [show (ex r : Int) - 1074 + (i : Int) = (k : Int) from by omega]
      rw [hY] at hv
      have hmod : vl r % UU = 0 := by rw [hv]; exact Nat.mul_mod_left _ _
      have hdiv : vl r / UU = M * 2 ^ k := by rw [hv]; exact Nat.mul_div_cancel _ hU
      have k1 : vl r ≤ 9223372036854775808 * UU ↔ M * 2 ^ k ≤ 9223372036854775808 := by rw [hv]; exact Nat.mul_le_mul_right_iff hU
      have k2 : vl r < 9223372036854775808 * UU ↔ M * 2 ^ k < 9223372036854775808 := by rw [hv]; exact Nat.mul_lt_mul_right hU
      have s0 : sgn false (vl r) = (vl r : Int) := rfl
      have s1 : sgn true (vl r) = -(vl r : Int) := rfl
      have hc : 0 < 9223372036854775808 * UU := by omega
      have hok2 : (s = false ∧ intOk (wd s r) = decide (M * 2 ^ k < 9223372036854775808)) ∨ (s = true ∧ intOk (wd s r) = decide (M * 2 ^ k ≤ 9223372036854775808)) := by
        rw [hok]
        clear hok hdiv hv
        generalize M * 2 ^ k = Y at *
        generalize 9223372036854775808 * UU = c9 at *
        cases s
        · refine .inl ⟨rfl, decide_eq_decide.2 ?_⟩
          rw [s0]
          generalize vl r = v at *
          exact ⟨fun z => k2.1 (by omega), fun z => ⟨hmod, by omega, by have := k2.2 z; omega⟩⟩
        · refine .inr ⟨rfl, decide_eq_decide.2 ?_⟩
          rw [s1]
          generalize vl r = v at *
          exact ⟨fun z => k1.1 (by omega), fun z => ⟨hmod, by have := k1.2 z; omega, by omega⟩⟩
      by_cases h2 : 63 < (k : Int)
      · rw [fin_out s M _ h0 (.inr h2)]
        have h3 : 2 ^ 64 ≤ 2 ^ k := Nat.pow_le_pow_right (by omega) (by omega)
        have h4 : 2 ^ k ≤ M * 2 ^ k := Nat.le_mul_of_pos_left _ (by omega)
        have hk : intOk (wd s r) = false := by
          rcases hok2 with ⟨_, z⟩ | ⟨_, z⟩ <;> (rw [z]; exact decide_eq_false (by have : (2 : Nat) ^ 64 = 18446744073709551616 := by decide
                                                                                  omega))
        rw [int_no hk]
      · unfold finR
        rw [if_neg h0, if_neg (by omega), show ((k : Int)).toNat = k from by omega]
        rcases hok2 with ⟨rfl, hok2⟩ | ⟨rfl, hok2⟩
        · rw [if_neg (by simp)]
          by_cases h5 : M * 2 ^ k < 9223372036854775808
          · have hk : intOk (wd false r) = true := by rw [hok2]; exact decide_eq_true h5
            rw [if_pos h5, int_yes hk, intV_wd false r hk hr, hdiv]; rfl
          · have hk : intOk (wd false r) = false := by rw [hok2]; exact decide_eq_false h5
            rw [if_neg h5, int_no hk]
        · rw [if_pos rfl]
          by_cases h5 : M * 2 ^ k ≤ 9223372036854775808
          · have hk : intOk (wd true r) = true := by rw [hok2]; exact decide_eq_true h5
            rw [if_pos h5, int_yes hk, intV_wd true r hk hr, hdiv]; rfl
          · have hk : intOk (wd true r) = false := by rw [hok2]; exact decide_eq_false h5
            rw [if_neg h5, int_no hk]
theorem intOk_big (s : Bool) (r : Nat) (hr : r < 9223372036854775808) (h : 9218868437227405312 ≤ r) : intOk (wd s r) = false := by
  cases hk : intOk (wd s r) with
  | false => rfl
  | true =>
    exfalso
    unfold intOk at hk
    simp only [Bool.and_eq_true, Bool.or_eq_true, beq_iff_eq] at hk
    obtain ⟨s', r', hr', he, _⟩ := int_num (wd_lt s r hr) hk.1.1 hk.1.2
    have := (wd_inj hr (by omega) he).2
    omega
theorem rint_any (a : Nat) (h : a < 18446744073709551616) (w : World) :
    Calls Tryz.prog 67 #[.int .u64 (a : Int)] w fun e w' => e = .returned (intR a) ∧ Below w.heap.size w w' := by
  have hf : bits .andNot .u64 (a : Int) 9223372036854775808 = (lowW a : Int) := abs_andNot a h
  obtain ⟨s, r, hr, rfl⟩ := wd_cases a h
  have hl : lowW (wd s r) = r := wd_mod s r hr
  by_cases hi : 9218868437227405312 ≤ r
  · have := rint_big _ hf (by rw [hl]; exact decide_eq_true (by omega)) w
    rw [int_no (intOk_big s r hr hi)]
    exact this
  · obtain ⟨tm, te⟩ := tk_wd s r (by omega)
    have hex : ex r ≤ 2046 := by unfold ex; omega
    refine (rint_walk _ (mg r) _ h hf (by rw [hl]; exact decide_eq_false (by omega)) tm te (by omega) (by omega) (mg_lt r) s (top_wd s r hr) w).mono ?_
    rintro e w' ⟨⟨M, i, h1, h2, rfl⟩, hb⟩
    exact ⟨by rw [fin_int s r M i (by omega) h1 h2], hb⟩
end Go.Proofs.YthjngodkpldpfaaGreatDoor
end
