import Derived.Test.YtdklpgkheakapaaGreatDoorDivA
namespace Go.Proofs.YtdklpgkheakapaaGreatDoor
open Go.RowKit
open Gn

/-- the ways to round with a rest, as the walk parts them -/
theorem up_ways_r (P Q : Prop) (C D : Nat) (odd : Int) (h1 : D ≤ C → P) (h2 : ¬ D ≤ C → Q) :
    (P ∧ (decide (D < C) = true ∨ (decide (D < C) = false ∧ C = D ∧ true = true) ∨ (decide (D < C) = false ∧ C = D ∧ true = false ∧ (odd == 1) = true)))
      ∨ (Q ∧ ((decide (D < C) = false ∧ C = D ∧ true = false ∧ (odd == 1) = false) ∨ (decide (D < C) = false ∧ Hid (¬ (hiN C = hiN D ∧ loN C = loN D))))) := by
  by_cases a : D < C
  · exact .inl ⟨h1 (by omega), .inl (decide_eq_true a)⟩
  · by_cases c : C = D
    · exact .inl ⟨h1 (by omega), .inr (.inl ⟨decide_eq_false a, c, rfl⟩)⟩
    · exact .inr ⟨h2 (by omega), .inr ⟨decide_eq_false a, hl_ne c⟩⟩
theorem odd_dm (W n : Nat) : (2 * W + 1) / 2 ^ (n + 1) = W / 2 ^ n ∧ (2 * W + 1) % 2 ^ (n + 1) = 2 * (W % 2 ^ n) + 1 := by
  have hp := Nat.two_pow_pos n
  have hm := Nat.mod_lt W hp
  have hd := Nat.div_add_mod W (2 ^ n)
  have e : 2 * W + 1 = (2 * (W % 2 ^ n) + 1) + 2 ^ (n + 1) * (W / 2 ^ n) := by
    rw [Nat.pow_succ, Nat.mul_comm (2 ^ n) 2, Nat.mul_assoc]; omega
  have hlt : 2 * (W % 2 ^ n) + 1 < 2 ^ (n + 1) := by rw [Nat.pow_succ]; omega
  have hp1 := Nat.two_pow_pos (n + 1)
  rw [e]
  exact ⟨by rw [Nat.add_mul_div_left _ _ hp1, Nat.div_eq_of_lt hlt, Nat.zero_add], by rw [Nat.add_mul_mod_self_left, Nat.mod_eq_of_lt hlt]⟩
theorem rhe_odd (W n k : Nat) (hn : n = k + 1) : rhe (2 * W + 1) (n + 1) = if 2 ^ k ≤ W % 2 ^ n then W / 2 ^ n + 1 else W / 2 ^ n := by
  subst hn
  have e := odd_dm W (k + 1)
  unfold rhe
  rw [e.1, e.2]
  have hp : (2 : Nat) ^ (k + 1 + 1) = 4 * 2 ^ k := by rw [Nat.pow_succ, Nat.pow_succ]; omega
  rw [hp]
  by_cases h : 2 ^ k ≤ W % 2 ^ (k + 1)
  · rw [if_pos h, if_pos (by omega)]
  · rw [if_neg h, if_neg (by omega), Nat.add_zero]
theorem log2_odd (W : Nat) (h0 : W ≠ 0) : (2 * W + 1).log2 = W.log2 + 1 := by
  rw [Nat.log2_eq_iff (by omega)]
  have h1 : 2 ^ W.log2 ≤ W := Nat.log2_self_le h0
  have h2 : W < 2 ^ (W.log2 + 1) := Nat.lt_log2_self
  rw [Nat.pow_succ 2 (W.log2 + 1), Nat.pow_succ] at *
  omega
theorem rungU_odd (W n : Nat) (e q : Int) (h0 : W ≠ 0) (hmax : max (e + (W.log2 : Int) - 52) (-1074) = q) (hqe : q - e = (n : Int)) :
    rungU (2 * W + 1) (e - 1) = (q + 1074).toNat * 4503599627370496 + rhe (2 * W + 1) (n + 1) := by
  unfold rungU
  rw [log2_odd W h0, show max (e - 1 + ((W.log2 + 1 : Nat) : Int) - 52) (-1074) = q from by omega, show (e - 1 - q).toNat = 0 from by omega, show (q - (e - 1)).toNat = n + 1 from by omega, Nat.pow_zero, Nat.mul_one]

theorem rounded_mid_r (v : Bool) (W n : Nat) (e q : Int) (h0 : W ≠ 0) (he1 : -4400 ≤ e) (he2 : e ≤ 4400) (hL : W.log2 ≤ 126) (hq : e + (W.log2 : Int) - 52 = q) (hq1 : -1074 ≤ q) (hqe : q - e = (n : Int)) (hn0 : 1 ≤ n) (w : World) :
    Calls Tryz.prog 48 #[.int .u64 (sg v : Int), wn W, .int .i64 e, .bool true] w fun e' w' => e' = .returned (.int .u64 (wd v (rung (2 * W + 1) (e - 1)) : Int)) ∧ Below w.heap.size w w' := by
  have hbl : bl W = W.log2 + 1 := by unfold bl; rw [if_neg h0]
  have hW : W < 18446744073709551616 * 18446744073709551616 := Nat.lt_trans (pow127 hL) p127
  have hK1 := kept_le W e q (by omega)
  have hK2 := kept_ge (2 * W + 1) (e - 1) q (by omega) (by rw [log2_odd W h0]; omega)
  have e1 := rungU_odd W n e q h0 (by omega) hqe
  rw [show (e - q).toNat = 0 from by omega, show (q - e).toNat = n from by omega, Nat.pow_zero, Nat.mul_one] at hK1
  rw [show (e - 1 - q).toNat = 0 from by omega, show (q - (e - 1)).toNat = n + 1 from by omega, Nat.pow_zero, Nat.mul_one] at hK2
  have hV := rhe_ge W n
  have hsm : W / 2 ^ n < 18446744073709551616 := by omega
  have hlo := lo_small hsm
  have hdm := Nat.div_add_mod W (2 ^ n)
  have er := rhe_odd W n (n - 1) (by omega)
  rw [rung_U _ _ (by omega), e1]
  refine rounded_right (sg v) W n e q true he1 he2 (by omega) hW w (by rw [hbl]; omega) hq1 hqe hn0 (by omega) (W / 2 ^ n) (W / 2 ^ n * 2 ^ n) (W % 2 ^ n) (n - 1) (2 ^ (n - 1)) (by omega) (by omega) rfl ((W / 2 ^ n % 2 : Nat) : Int) (by rw [hlo]; exact odd_and _ hsm) _ ?_ rfl rfl (by rw [Nat.mul_comm] at hdm; show _ = _; omega) (by rw [Nat.mul_comm] at hdm; show _ ≤ _; omega)
  refine up_ways_r _ _ _ _ _ (fun h => ?_) (fun h => ?_)
  · rw [if_pos h] at er
    refine fin_of v q _ _ (fun hq2 => ?_) (fun hq2 => by omega)
    rw [hlo, er, show ((W / 2 ^ n : Nat) : Int) + 1 = ((W / 2 ^ n + 1 : Nat) : Int) from by omega, wrap_nat _ (by omega), show (q + 1074) * 4503599627370496 + ((W / 2 ^ n + 1 : Nat) : Int) = (((q + 1074).toNat * 4503599627370496 + (W / 2 ^ n + 1) : Nat) : Int) from by omega]
    exact wrap_nat _ (by omega)
  · rw [if_neg h] at er
    refine fin_of v q _ _ (fun hq2 => ?_) (fun hq2 => by omega)
    rw [hlo, er, show (q + 1074) * 4503599627370496 + ((W / 2 ^ n : Nat) : Int) = (((q + 1074).toNat * 4503599627370496 + (W / 2 ^ n) : Nat) : Int) from by omega]
    exact wrap_nat _ (by omega)
theorem rounded_far_r (v : Bool) (W n : Nat) (e : Int) (h0 : W ≠ 0) (he1 : -4400 ≤ e) (he2 : e ≤ 4400) (hL : W.log2 ≤ 126) (hn : -1074 - e = (n : Int)) (h128 : 128 ≤ n) (w : World) :
    Calls Tryz.prog 48 #[.int .u64 (sg v : Int), wn W, .int .i64 e, .bool true] w fun e' w' => e' = .returned (.int .u64 (wd v (rung (2 * W + 1) (e - 1)) : Int)) ∧ Below w.heap.size w w' := by
  have hbl : bl W = W.log2 + 1 := by unfold bl; rw [if_neg h0]
  have h1 := pow127 hL
  have h2 := p127
  have hp : 2 ^ 127 ≤ 2 ^ (n - 1) := Nat.pow_le_pow_right (by omega) (by omega)
  have hp2 : 2 ^ 128 ≤ 2 ^ n := Nat.pow_le_pow_right (by omega) (by omega)
  have hp3 : (2 : Nat) ^ 127 < 2 ^ 128 := by decide
  have hlt : W < 2 ^ n := by omega
  have er := rhe_odd W n (n - 1) (by omega)
  rw [Nat.mod_eq_of_lt hlt, Nat.div_eq_of_lt hlt, if_neg (by omega)] at er
  have e1 : rung (2 * W + 1) (e - 1) = 0 := by
    rw [rung_U _ _ (by omega), rungU_odd W n e (-1074) h0 (by omega) hn, er]
    rfl
  rw [e1, wd_nought]
  exact rounded_far (sg v) W e true he1 he2 (by omega) (show W < 18446744073709551616 * 18446744073709551616 by omega) (by rw [hbl]; omega) (by omega) w
theorem rounded_low_r (v : Bool) (W n : Nat) (e : Int) (h0 : W ≠ 0) (he1 : -4400 ≤ e) (he2 : e ≤ 4400) (hL : W.log2 ≤ 126) (hq : e + (W.log2 : Int) - 52 < -1074) (hqe : -1074 - e = (n : Int)) (hn0 : 1 ≤ n) (hn : n ≤ 127) (w : World) :
    Calls Tryz.prog 48 #[.int .u64 (sg v : Int), wn W, .int .i64 e, .bool true] w fun e' w' => e' = .returned (.int .u64 (wd v (rung (2 * W + 1) (e - 1)) : Int)) ∧ Below w.heap.size w w' := by
  have hbl : bl W = W.log2 + 1 := by unfold bl; rw [if_neg h0]
  have h1 := pow127 hL
  have h2 := p127
  have hK1 := kept_le W e (-1074) (by omega)
  have e1 := rungU_odd W n e (-1074) h0 (by omega) hqe
  rw [show ((-1074 : Int) + 1074).toNat = 0 from rfl, Nat.zero_mul, Nat.zero_add] at e1
  rw [show (e - -1074).toNat = 0 from by omega, show (-1074 - e).toNat = n from by omega, Nat.pow_zero, Nat.mul_one] at hK1
  have hV := rhe_ge W n
  have hsm : W / 2 ^ n < 18446744073709551616 := by omega
  have hlo := lo_small hsm
  have hdm := Nat.div_add_mod W (2 ^ n)
  have er := rhe_odd W n (n - 1) (by omega)
  have hle : rhe (2 * W + 1) (n + 1) ≤ W / 2 ^ n + 1 := by rw [er]; split <;> omega
  rw [rung_U _ _ (by omega), e1, Nat.min_eq_left (by omega)]
  refine rounded_low (sg v) W n e true he1 he2 (by omega) (show W < 18446744073709551616 * 18446744073709551616 by omega) w (by rw [hbl]; omega) hqe hn0 hn (W / 2 ^ n) (W / 2 ^ n * 2 ^ n) (W % 2 ^ n) (n - 1) (2 ^ (n - 1)) (by omega) (by omega) rfl ((W / 2 ^ n % 2 : Nat) : Int) (by rw [hlo]; exact odd_and _ hsm) _ (W / 2 ^ n + 1)
    (by rw [hlo, show ((W / 2 ^ n : Nat) : Int) + 1 = ((W / 2 ^ n + 1 : Nat) : Int) from by omega]; exact wrap_nat _ (by omega)) (wrap_nat _ (by omega)) (decide_eq_false (by omega)) (by rw [hlo]; exact wrap_nat _ (by omega)) (by rw [hlo]; exact decide_eq_false (by omega)) ?_ rfl rfl (by rw [Nat.mul_comm] at hdm; show _ = _; omega) (by rw [Nat.mul_comm] at hdm; show _ ≤ _; omega)
  refine up_ways_r _ _ _ _ _ (fun h => ?_) (fun h => ?_)
  · rw [er, if_pos h]
    exact or_sign v _ (by omega)
  · rw [er, if_neg h, hlo]
    exact or_sign v _ (by omega)
/-- the document's rounding of W 2^e and a rest below 2^e -/
theorem rounded_r (v : Bool) (W : Nat) (e : Int) (he1 : -4400 ≤ e) (he2 : e ≤ 4400) (hL : W.log2 ≤ 126) (hL2 : 53 ≤ W.log2) (w : World) :
    Calls Tryz.prog 48 #[.int .u64 (sg v : Int), wn W, .int .i64 e, .bool true] w fun e' w' => e' = .returned (.int .u64 (wd v (rung (2 * W + 1) (e - 1)) : Int)) ∧ Below w.heap.size w w' := by
  have h0 : W ≠ 0 := by rintro rfl; simp at hL2
  by_cases hq : -1074 ≤ e + (W.log2 : Int) - 52
  · exact rounded_mid_r v W (W.log2 - 52) e _ h0 he1 he2 hL rfl hq (by omega) (by omega) w
  · by_cases hf : 127 < -1074 - e
    · exact rounded_far_r v W (-1074 - e).toNat e h0 he1 he2 hL (by omega) (by omega) w
    · exact rounded_low_r v W (-1074 - e).toNat e h0 he1 he2 hL (by omega) (by omega) (by omega) (by omega) w
end Go.Proofs.YtdklpgkheakapaaGreatDoor
