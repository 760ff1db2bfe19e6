import Derived.Test.YthjngodkpldpfaaGreatDoorMgAB

section
namespace Gn
open Ieee
/-- a quotient's digits, and one more that is 1 where anything is left over -/
def st (m n k : Nat) : Nat := 2 * (m * 2 ^ k / n) + (m * 2 ^ k % n != 0).toNat
theorem four_dm (Q c d : Nat) (hc : c < 4) : (4 * Q + c) / 2 ^ (d + 2) = Q / 2 ^ d ∧ (4 * Q + c) % 2 ^ (d + 2) = 4 * (Q % 2 ^ d) + c := by
  have hp := Nat.two_pow_pos d
  have hm := Nat.mod_lt Q hp
  have hd := Nat.div_add_mod Q (2 ^ d)
  have e4 : (2 : Nat) ^ (d + 2) = 4 * 2 ^ d := by rw [Nat.pow_succ, Nat.pow_succ]; omega
  have e : 4 * Q + c = (4 * (Q % 2 ^ d) + c) + 2 ^ (d + 2) * (Q / 2 ^ d) := by
    rw [e4, Nat.mul_assoc]; omega
  have hlt : 4 * (Q % 2 ^ d) + c < 2 ^ (d + 2) := by rw [e4]; omega
  have hp1 := Nat.two_pow_pos (d + 2)
  rw [e]
  exact ⟨by rw [Nat.add_mul_div_left _ _ hp1, Nat.div_eq_of_lt hlt, Nat.zero_add], by rw [Nat.add_mul_mod_self_left, Nat.mod_eq_of_lt hlt]⟩
theorem rhe_four (Q c d : Nat) (hc : 1 ≤ c) (hc3 : c ≤ 3) : rhe (4 * Q + c) (d + 1 + 2) = Q / 2 ^ (d + 1) + (if 2 ^ d ≤ Q % 2 ^ (d + 1) then 1 else 0) := by
  have e := four_dm Q c (d + 1) (by omega)
  unfold rhe
  rw [e.1, e.2]
  have hp : (2 : Nat) ^ (d + 1 + 2) = 8 * 2 ^ d := by rw [Nat.pow_succ, Nat.pow_succ, Nat.pow_succ]; omega
  rw [hp]
  by_cases h : 2 ^ d ≤ Q % 2 ^ (d + 1)
  · rw [if_pos h, if_pos (by omega)]
  · rw [if_neg h, if_neg (by omega)]
theorem log2_four (Q c : Nat) (hc : c < 4) (h0 : Q ≠ 0) : (4 * Q + c).log2 = Q.log2 + 2 := by
  rw [Nat.log2_eq_iff (by omega)]
  have h1 : 2 ^ Q.log2 ≤ Q := Nat.log2_self_le h0
  have h2 : Q < 2 ^ (Q.log2 + 1) := Nat.lt_log2_self
  have e1 : (2 : Nat) ^ (Q.log2 + 2) = 4 * 2 ^ Q.log2 := by rw [Nat.pow_succ, Nat.pow_succ]; omega
  have e2 : (2 : Nat) ^ (Q.log2 + 2 + 1) = 4 * 2 ^ (Q.log2 + 1) := by rw [Nat.pow_succ, Nat.pow_succ, Nat.pow_succ]; omega
  omega
theorem rung_four (Q c : Nat) (E : Int) (hc : 1 ≤ c) (hc3 : c ≤ 3) (hQ : 53 ≤ Q.log2) : rung (4 * Q + c) E = rung (4 * Q + 2) E := by
  have h0 : Q ≠ 0 := by rintro rfl; simp at hQ
  unfold rung
  rw [if_neg (by omega), if_neg (by omega), log2_four Q c (by omega) h0, log2_four Q 2 (by omega) h0]
  simp only
  generalize hl : max (E + ((Q.log2 + 2 : Nat) : Int) - 52) (-1074) = last
  obtain ⟨d, hd⟩ : ∃ d : Nat, (last - E).toNat = d + 1 + 2 := ⟨(last - E).toNat - 3, by omega⟩
  rw [show (E - last).toNat = 0 by omega, hd, Nat.pow_zero, Nat.mul_one, Nat.mul_one, rhe_four Q c d hc hc3, rhe_four Q 2 d (by omega) (by omega)]
theorem two_dm (X n : Nat) (hn : 0 < n) : ∃ t, 2 * X / n = 2 * (X / n) + t ∧ 2 * X % n + t * n = 2 * (X % n) ∧ t ≤ 1 := by
  have hd := Nat.div_add_mod X n
  have hm := Nat.mod_lt X hn
  by_cases h : n ≤ 2 * (X % n)
  · refine ⟨1, ?_⟩
    have e : 2 * X = (2 * (X % n) - n) + n * (2 * (X / n) + 1) := by
      rw [Nat.mul_add, Nat.mul_left_comm]; omega
    rw [e, Nat.add_mul_div_left _ _ hn, Nat.add_mul_mod_self_left, Nat.div_eq_of_lt (by omega), Nat.mod_eq_of_lt (by omega)]
    omega
  · refine ⟨0, ?_⟩
    have e : 2 * X = (2 * (X % n)) + n * (2 * (X / n)) := by
      rw [Nat.mul_left_comm]; omega
    rw [e, Nat.add_mul_div_left _ _ hn, Nat.add_mul_mod_self_left, Nat.div_eq_of_lt (by omega), Nat.mod_eq_of_lt (by omega)]
    omega
theorem st_of (m n k : Nat) : (m * 2 ^ k % n = 0 ∧ st m n k = 2 * (m * 2 ^ k / n)) ∨ (m * 2 ^ k % n ≠ 0 ∧ st m n k = 2 * (m * 2 ^ k / n) + 1) := by
  unfold st
  by_cases h : m * 2 ^ k % n = 0
  · exact .inl ⟨h, by simp [h]⟩
  · exact .inr ⟨h, by simp [h]⟩
theorem st_next (m n k : Nat) (e : Int) (hn : 0 < n) (hQ : 53 ≤ (m * 2 ^ k / n).log2) : rung (st m n (k + 1)) (e - ((k + 1 : Nat) : Int) - 1) = rung (st m n k) (e - (k : Int) - 1) := by
  have hX : m * 2 ^ (k + 1) = 2 * (m * 2 ^ k) := by rw [Nat.pow_succ]; rw [← Nat.mul_assoc, Nat.mul_comm]
  have h1 := st_of m n k
  have h2 := st_of m n (k + 1)
  rw [hX] at h2
  obtain ⟨t, t1, t2, t3⟩ := two_dm (m * 2 ^ k) n hn
  generalize m * 2 ^ k = X at *
  have es := rung_shift (st m n k) 1 (e - (k : Int) - 1)
  rw [← es, show e - ((k + 1 : Nat) : Int) - 1 = e - (k : Int) - 1 - ((1 : Nat) : Int) by omega, Nat.pow_one]
  have hm := Nat.mod_lt X hn
  have hm2 := Nat.mod_lt (2 * X) hn
  have ht : t = 0 ∨ t = 1 := by omega
  rcases h1 with ⟨a, b⟩ | ⟨a, b⟩
  · have : st m n (k + 1) = st m n k * 2 := by
      rcases ht with rfl | rfl <;> omega
    rw [this]
  · rw [b, show (2 * (X / n) + 1) * 2 = 4 * (X / n) + 2 by omega]
    have : ∃ c, 1 ≤ c ∧ c ≤ 3 ∧ st m n (k + 1) = 4 * (X / n) + c := by
      rcases ht with rfl | rfl
      · exact ⟨1, by omega, by omega, by omega⟩
      · rcases h2 with ⟨c, d⟩ | ⟨c, d⟩
        · exact ⟨2, by omega, by omega, by omega⟩
        · exact ⟨3, by omega, by omega, by omega⟩
    obtain ⟨c, c1, c2, c3⟩ := this
    rw [c3]
    exact rung_four _ c _ c1 c2 hQ
theorem st_more (m n k : Nat) (e : Int) (hn : 0 < n) (hQ : 53 ≤ (m * 2 ^ k / n).log2) (j : Nat) : rung (st m n (k + j)) (e - ((k + j : Nat) : Int) - 1) = rung (st m n k) (e - (k : Int) - 1) := by
  induction j with
  | zero => rfl
  | succ j ih =>
    rw [← ih]
    refine st_next m n (k + j) e hn (Nat.le_trans hQ (log2_mono ?_ ?_))
    · exact Nat.div_le_div_right (Nat.mul_le_mul_left _ (Nat.pow_le_pow_right (by omega) (by omega)))
    · intro h; rw [h] at hQ; simp at hQ
theorem enough (m n : Nat) (hm : m ≠ 0) (hn : 0 < n) : 53 ≤ (m * 2 ^ (54 + n.log2 - m.log2) / n).log2 := by
  have h1 : 2 ^ m.log2 ≤ m := Nat.log2_self_le hm
  have h2 : n < 2 ^ (n.log2 + 1) := Nat.lt_log2_self
  have h3 : 2 ^ (54 + n.log2) ≤ m * 2 ^ (54 + n.log2 - m.log2) := by
    refine Nat.le_trans ?_ (Nat.mul_le_mul_right _ h1)
    rw [← Nat.pow_add]
    exact Nat.pow_le_pow_right (by omega) (by omega)
  have h4 : 2 ^ 53 * n ≤ m * 2 ^ (54 + n.log2 - m.log2) := by
    refine Nat.le_trans (Nat.mul_le_mul_left _ (Nat.le_of_lt h2)) (Nat.le_trans ?_ h3)
    rw [← Nat.pow_add]
    exact Nat.pow_le_pow_right (by omega) (by omega)
  have h5 : 2 ^ 53 ≤ m * 2 ^ (54 + n.log2 - m.log2) / n := (Nat.le_div_iff_mul_le hn).mpr h4
  have h6 := Nat.two_pow_pos 53
  rw [Nat.le_log2 (by omega)]
  exact h5
end Gn
end
