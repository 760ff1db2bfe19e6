import Derived.Test.YtdklpgkheakapaaGreatDoorDivD
namespace Go.Proofs.YtdklpgkheakapaaGreatDoor
open Go.RowKit Gn

theorem mg_log {r : Nat} (h : mg r ≠ 0) : (mg r).log2 ≤ 52 := by
  have := mg_lt r
  have h1 := (Nat.log2_lt h (k := 53)).2 (by rw [p53]; exact this)
  omega
theorem big_q (m n K : Nat) (hm : m ≠ 0) (hl : m.log2 ≤ 52) (hK : K = 123 - m.log2) (hn0 : 0 < n) (hn : n < 9007199254740992) : 53 ≤ (m * 2 ^ K / n).log2 ∧ (m * 2 ^ K / n).log2 ≤ 126 := by
  obtain ⟨h1, h2, h3⟩ := pow_split m K K hm hl hK
  have g2 := h2 (Nat.le_refl _)
  have g3 := h3 (Nat.le_refl _)
  have h4 : 2 ^ 53 * n ≤ m * 2 ^ K := by
    refine Nat.le_trans (Nat.mul_le_mul_left _ (show n ≤ 2 ^ 53 by rw [p53]; omega)) (Nat.le_trans ?_ g2)
    decide
  have h5 : 2 ^ 53 ≤ m * 2 ^ K / n := (Nat.le_div_iff_mul_le hn0).mpr h4
  have h6 : m * 2 ^ K / n ≤ m * 2 ^ K := Nat.div_le_self _ _
  have h7 := Nat.two_pow_pos 53
  have h8 : m * 2 ^ K / n ≠ 0 := by omega
  refine ⟨(Nat.le_log2 h8).2 h5, ?_⟩
  have h9 := (Nat.log2_lt h8 (k := 124)).2 (by omega)
  omega
theorem rounded_st (v : Bool) (m n K : Nat) (e f : Int) (he1 : -4400 ≤ e - K - f) (he2 : e - K - f ≤ 4400) (hm : m ≠ 0) (hl : m.log2 ≤ 52) (hK : K = 123 - m.log2) (hn0 : 0 < n) (hn : n < 9007199254740992) (w : World) :
    Calls Tryz.prog 48 #[.int .u64 (sg v : Int), wn (m * 2 ^ K / n), .int .i64 (e - K - f), .bool (decide (0 < m * 2 ^ K % n))] w fun e' w' => e' = .returned (.int .u64 (wd v (rung (st m n K) (e - f - (K : Int) - 1)) : Int)) ∧ Below w.heap.size w w' := by
  obtain ⟨b1, b2⟩ := big_q m n K hm hl hK hn0 hn
  have ee : e - f - (K : Int) - 1 = (e - K - f) - 1 := by omega
  rw [ee]
  rcases st_of m n K with ⟨h1, h2⟩ | ⟨h1, h2⟩
  · rw [h2, h1, show decide (0 < 0) = false from rfl]
    have h9 := rung_shift (m * 2 ^ K / n) 1 (e - K - f)
    rw [Nat.pow_one, Nat.mul_comm, show ((1 : Nat) : Int) = 1 from rfl] at h9
    rw [h9]
    have h0 : m * 2 ^ K / n ≠ 0 := by intro h; rw [h] at b1; simp at b1
    exact rounded_W v _ _ h0 he1 he2 b2 w
  · rw [h2, show decide (0 < m * 2 ^ K % n) = true from decide_eq_true (by omega)]
    exact rounded_r v _ _ he1 he2 b2 b1 w
theorem rdiv_any (a b : Nat) (ha : a < 18446744073709551616) (hb : b < 18446744073709551616) (w : World) :
    Calls Tryz.prog 17 #[.int .u64 (a : Int), .int .u64 (b : Int)] w fun e w' => e = .returned (.int .u64 (divW a b : Int)) ∧ Below w.heap.size w w' := by
  obtain ⟨s, r, hr, rfl⟩ := wd_cases a ha
  obtain ⟨t, q, hq, rfl⟩ := wd_cases b hb
  have F := mulF s t r q hr hq
  rcases (show 9218868437227405312 < r ∨ 9218868437227405312 < q ∨ (r = 9218868437227405312 ∧ q = 9218868437227405312) ∨ (r = 0 ∧ q = 0) ∨ (r = 9218868437227405312 ∧ q < 9218868437227405312) ∨ (r < 9218868437227405312 ∧ r ≠ 0 ∧ q = 0) ∨ (q = 9218868437227405312 ∧ r < 9218868437227405312) ∨ (r = 0 ∧ q < 9218868437227405312 ∧ q ≠ 0) ∨ (r < 9218868437227405312 ∧ q < 9218868437227405312 ∧ r ≠ 0 ∧ q ≠ 0) by omega) with h | h | ⟨h1, h2⟩ | ⟨h1, h2⟩ | ⟨h1, h2⟩ | ⟨h1, h2, h3⟩ | ⟨h1, h2⟩ | ⟨h1, h2, h3⟩ | ⟨h1, h2, h3, h4⟩
  · rw [div_n1 s t r q hr h]; exact rdiv_nan _ _ _ _ _ F (.inl (.inl h)) w
  · rw [div_n2 s t r q hq h]; exact rdiv_nan _ _ _ _ _ F (.inl (.inr h)) w
  · subst h1; subst h2; rw [div_ii]; exact rdiv_nan _ _ _ _ _ F (.inr (.inl ⟨rfl, rfl⟩)) w
  · subst h1; subst h2; rw [div_zz]; exact rdiv_nan _ _ _ _ _ F (.inr (.inr ⟨rfl, rfl⟩)) w
  · subst h1; rw [div_if s t q h2]; exact rdiv_inf _ _ _ _ _ _ F (or_inf _) (.inl ⟨rfl, h2⟩) w
  · subst h3; rw [div_fz s t r h1 (mg_pos h2)]; exact rdiv_inf _ _ _ _ _ _ F (or_inf _) (.inr ⟨h2, h1, rfl⟩) w
  · subst h1; rw [div_fi s t r h2, wd_nought]; exact rdiv_zero _ _ _ _ _ F (.inl ⟨rfl, h2⟩) w
  · subst h1; rw [div_zf s t q h2 (mg_pos h3), wd_nought]; exact rdiv_zero _ _ _ _ _ F (.inr ⟨rfl, h3, h2⟩) w
  · have p1 := mg_pos h3
    have p2 := mg_pos h4
    rw [div_num s t r q (123 - (mg r).log2) h1 h2 p1 p2 rfl (mg_log p1) (mg_log p2)]
    obtain ⟨m1, m2⟩ := tk_wd s r h1
    obtain ⟨n1, n2⟩ := tk_wd t q h2
    have l1 := mg_lt r
    have l2 := mg_lt q
    have x1 := ex_le h1
    have x2 := ex_le h2
    have hl := mg_log p1
    exact rdiv_num _ _ _ _ _ _ _ _ (123 - (mg r).log2) _ _ ha hb F ⟨h1, h2, h3, h4⟩ m1 m2 n1 n2 (by omega) (by omega) (by omega) (by omega) p1 hl (by omega) (by omega) (by omega) rfl (fun w1 => rounded_st (s ^^ t) (mg r) (mg q) _ _ _ (by omega) (by omega) p1 hl rfl (by omega) l2 w1) w
end Go.Proofs.YtdklpgkheakapaaGreatDoor
