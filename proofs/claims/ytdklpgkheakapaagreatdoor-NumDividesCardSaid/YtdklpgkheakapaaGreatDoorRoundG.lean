import Derived.Test.YtdklpgkheakapaaGreatDoorRoundF
import Derived.Test.YtdklpgkheakapaaGreatDoorRoundD
namespace Go.Proofs.YtdklpgkheakapaaGreatDoor
open Go.RowKit
open Gn

theorem pow127 {W : Nat} (hL : W.log2 ≤ 126) : W < 2 ^ 127 := by
  have := Nat.lt_log2_self (n := W)
  have h2 := Nat.pow_le_pow_right (n := 2) (by omega) (show W.log2 + 1 ≤ 127 by omega)
  omega
theorem p127 : (2 : Nat) ^ 127 < 18446744073709551616 * 18446744073709551616 := by decide
theorem wd_nought (v : Bool) : wd v 0 = sg v := by cases v <;> rfl
/-- far below the least amount -/
theorem rounded_W_far (v : Bool) (W n : Nat) (e : Int) (h0 : W ≠ 0) (he1 : -4400 ≤ e) (he2 : e ≤ 4400) (hL : W.log2 ≤ 126) (hn : -1074 - e = (n : Int)) (h128 : 128 ≤ n) (w : World) :
    Calls Tryz.prog 48 #[.int .u64 (sg v : Int), wn W, .int .i64 e, .bool false] w fun e' w' => e' = .returned (.int .u64 (wd v (rung W e) : Int)) ∧ Below w.heap.size w w' := by
  have hbl : bl W = W.log2 + 1 := by unfold bl; rw [if_neg h0]
  have h1 := pow127 hL
  have h2 := p127
  have hp : 2 ^ 127 ≤ 2 ^ (n - 1) := Nat.pow_le_pow_right (by omega) (by omega)
  have hp2 : 2 ^ 128 ≤ 2 ^ n := Nat.pow_le_pow_right (by omega) (by omega)
  have hp3 : (2 : Nat) ^ 127 < 2 ^ 128 := by decide
  have hlt : W < 2 ^ n := by omega
  have er : rhe W n = 0 := by
    rw [rhe_down W n (n - 1) (by omega) (by rw [Nat.mod_eq_of_lt hlt, Nat.div_eq_of_lt hlt]; omega), Nat.div_eq_of_lt hlt]
  have e1 : rung W e = 0 := by
    rw [rung_U W e h0]
    unfold rungU
    rw [show max (e + (W.log2 : Int) - 52) (-1074) = -1074 from by omega, show (e - -1074).toNat = 0 from by omega, show (-1074 - e).toNat = n from by omega, Nat.pow_zero, Nat.mul_one, er]
    rfl
  rw [e1, wd_nought]
  exact rounded_far (sg v) W e false he1 he2 (by omega) (show W < 18446744073709551616 * 18446744073709551616 by omega) (by rw [hbl]; omega) (by omega) w
/-- exact: what is shifted up -/
theorem shift_lt {W n : Nat} (L k : Nat) (h : W < 2 ^ (L + 1)) (hk : L + 1 + n ≤ k) : W * 2 ^ n < 2 ^ k := by
  have h3 : W * 2 ^ n < 2 ^ (L + 1) * 2 ^ n := Nat.mul_lt_mul_of_pos_right h (Nat.two_pow_pos _)
  rw [← Nat.pow_add] at h3
  exact Nat.lt_of_lt_of_le h3 (Nat.pow_le_pow_right (by omega) hk)
theorem p53 : (2 : Nat) ^ 53 = 9007199254740992 := by decide
theorem rounded_W_left (v : Bool) (W n : Nat) (e q : Int) (h0 : W ≠ 0) (he1 : -4400 ≤ e) (he2 : e ≤ 4400) (hL : W.log2 ≤ 126) (hq : e + (W.log2 : Int) - 52 = q) (hq1 : -1074 ≤ q) (hn : q - e = -(n : Int)) (w : World) :
    Calls Tryz.prog 48 #[.int .u64 (sg v : Int), wn W, .int .i64 e, .bool false] w fun e' w' => e' = .returned (.int .u64 (wd v (rung W e) : Int)) ∧ Below w.heap.size w w' := by
  have hbl : bl W = W.log2 + 1 := by unfold bl; rw [if_neg h0]
  have h1 := pow127 hL
  have h2 := p127
  have hs := shift_lt (W := W) (n := n) W.log2 53 Nat.lt_log2_self (by omega)
  rw [p53] at hs
  have hK2 := kept_ge W e q h0 hq.symm
  rw [show (e - q).toNat = n from by omega, show (q - e).toNat = 0 from by omega, rhe_zero] at hK2
  have e1 : rungU W e = (q + 1074).toNat * 4503599627370496 + W * 2 ^ n := by
    unfold rungU
    rw [show max (e + (W.log2 : Int) - 52) (-1074) = q from by omega, show (e - q).toNat = n from by omega, show (q - e).toNat = 0 from by omega, rhe_zero]
  rw [rung_U W e h0, e1]
  by_cases hq2 : q ≤ 971
  · rw [Nat.min_eq_left (by omega)]
    exact rounded_left (sg v) W n e q false ((q + 1074).toNat * 4503599627370496 + W * 2 ^ n) he1 he2 (by omega) (show W < 18446744073709551616 * 18446744073709551616 by omega) w (by rw [hbl]; omega) hq1 hq2 hn (by omega)
      (show W * 2 ^ n < 18446744073709551616 * 18446744073709551616 by omega) ((q + 1074).toNat * 4503599627370496) (by omega) (wrap_nat _ (by omega)) (W * 2 ^ n) (lo_small (by omega)) (wrap_nat ((q + 1074).toNat * 4503599627370496 + W * 2 ^ n) (by omega)) (decide_eq_false (by omega)) _ (or_sign v _ (by omega))
  · rw [Nat.min_eq_right (by omega)]
    exact rounded_left_inf (sg v) W n e q false he1 he2 (by omega) (show W < 18446744073709551616 * 18446744073709551616 by omega) w (by rw [hbl]; omega) (by omega) hn (by omega) (show W * 2 ^ n < 18446744073709551616 * 18446744073709551616 by omega) _ (or_sign v 9218868437227405312 (by decide))
theorem rounded_W_left_low (v : Bool) (W n : Nat) (e : Int) (h0 : W ≠ 0) (he1 : -4400 ≤ e) (he2 : e ≤ 4400) (hL : W.log2 ≤ 126) (hq : e + (W.log2 : Int) - 52 < -1074) (hn : -1074 - e = -(n : Int)) (w : World) :
    Calls Tryz.prog 48 #[.int .u64 (sg v : Int), wn W, .int .i64 e, .bool false] w fun e' w' => e' = .returned (.int .u64 (wd v (rung W e) : Int)) ∧ Below w.heap.size w w' := by
  have hbl : bl W = W.log2 + 1 := by unfold bl; rw [if_neg h0]
  have h1 := pow127 hL
  have h2 := p127
  have hs := shift_lt (W := W) (n := n) W.log2 53 Nat.lt_log2_self (by omega)
  rw [p53] at hs
  have e1 : rungU W e = W * 2 ^ n := by
    unfold rungU
    rw [show max (e + (W.log2 : Int) - 52) (-1074) = -1074 from by omega, show (e - -1074).toNat = n from by omega, show (-1074 - e).toNat = 0 from by omega, rhe_zero, show ((-1074 : Int) + 1074).toNat = 0 from rfl, Nat.zero_mul, Nat.zero_add]
  rw [rung_U W e h0, e1, Nat.min_eq_left (by omega)]
  exact rounded_left_low (sg v) W n e false he1 he2 (by omega) (show W < 18446744073709551616 * 18446744073709551616 by omega) w (by rw [hbl]; omega) hn (by omega) (show W * 2 ^ n < 18446744073709551616 * 18446744073709551616 by omega) (W * 2 ^ n) (lo_small (by omega)) (wrap_nat _ (by omega)) (decide_eq_false (by omega)) _ (or_sign v _ (by omega))
theorem rounded_W_low (v : Bool) (W n : Nat) (e : Int) (h0 : W ≠ 0) (he1 : -4400 ≤ e) (he2 : e ≤ 4400) (hL : W.log2 ≤ 126) (hq : e + (W.log2 : Int) - 52 < -1074) (hqe : -1074 - e = (n : Int)) (hn0 : 1 ≤ n) (hn : n ≤ 127) (w : World) :
    Calls Tryz.prog 48 #[.int .u64 (sg v : Int), wn W, .int .i64 e, .bool false] w fun e' w' => e' = .returned (.int .u64 (wd v (rung W e) : Int)) ∧ Below w.heap.size w w' := by
  have hbl : bl W = W.log2 + 1 := by unfold bl; rw [if_neg h0]
  have h1 := pow127 hL
  have h2 := p127
  have hK1 := kept_le W e (-1074) (by omega)
  have e1 : rungU W e = rhe W n := by
    unfold rungU; rw [show max (e + (W.log2 : Int) - 52) (-1074) = -1074 from by omega, show (e - -1074).toNat = 0 from by omega, show (-1074 - e).toNat = n from by omega, Nat.pow_zero, Nat.mul_one, show ((-1074 : Int) + 1074).toNat = 0 from rfl, Nat.zero_mul, Nat.zero_add]
  rw [show (e - -1074).toNat = 0 from by omega, show (-1074 - e).toNat = n from by omega, Nat.pow_zero, Nat.mul_one] at hK1
  have hV := rhe_ge W n
  have hsm : W / 2 ^ n < 18446744073709551616 := by omega
  have hlo := lo_small hsm
  have hdm := Nat.div_add_mod W (2 ^ n)
  rw [rung_U W e h0, e1, Nat.min_eq_left (by omega)]
  refine rounded_low (sg v) W n e false he1 he2 (by omega) (show W < 18446744073709551616 * 18446744073709551616 by omega) w (by rw [hbl]; omega) hqe hn0 hn (W / 2 ^ n) (W / 2 ^ n * 2 ^ n) (W % 2 ^ n) (n - 1) (2 ^ (n - 1)) (by omega) (by omega) rfl ((W / 2 ^ n % 2 : Nat) : Int) (by rw [hlo]; exact odd_and _ hsm) _ (W / 2 ^ n + 1)
    (by rw [hlo, show ((W / 2 ^ n : Nat) : Int) + 1 = ((W / 2 ^ n + 1 : Nat) : Int) from by omega]; exact wrap_nat _ (by omega)) (wrap_nat _ (by omega)) (decide_eq_false (by omega)) (by rw [hlo]; exact wrap_nat _ (by omega)) (by rw [hlo]; exact decide_eq_false (by omega)) ?_ rfl rfl (by rw [Nat.mul_comm] at hdm; show _ = _; omega) (by rw [Nat.mul_comm] at hdm; show _ ≤ _; omega)
  refine up_ways _ _ (W / 2 ^ n) _ _ _ rfl (fun h => ?_) (fun h => ?_)
  · rw [rhe_up W n (n - 1) (by omega) h]
    exact or_sign v _ (by omega)
  · rw [rhe_down W n (n - 1) (by omega) h, hlo]
    exact or_sign v _ (by omega)
/-- the document's rounding of W 2^e without a rest -/
theorem rounded_W (v : Bool) (W : Nat) (e : Int) (h0 : W ≠ 0) (he1 : -4400 ≤ e) (he2 : e ≤ 4400) (hL : W.log2 ≤ 126) (w : World) :
    Calls Tryz.prog 48 #[.int .u64 (sg v : Int), wn W, .int .i64 e, .bool false] w fun e' w' => e' = .returned (.int .u64 (wd v (rung W e) : Int)) ∧ Below w.heap.size w w' := by
  by_cases hq : -1074 ≤ e + (W.log2 : Int) - 52
  · by_cases hL2 : W.log2 ≤ 52
    · exact rounded_W_left v W (52 - W.log2) e _ h0 he1 he2 hL rfl hq (by omega) w
    · exact rounded_mid v W (W.log2 - 52) e _ h0 he1 he2 hL rfl hq (by omega) (by omega) w
  · by_cases hn : -1074 - e ≤ 0
    · exact rounded_W_left_low v W (e + 1074).toNat e h0 he1 he2 hL (by omega) (by omega) w
    · by_cases hf : 127 < -1074 - e
      · exact rounded_W_far v W (-1074 - e).toNat e h0 he1 he2 hL (by omega) (by omega) w
      · exact rounded_W_low v W (-1074 - e).toNat e h0 he1 he2 hL (by omega) (by omega) (by omega) (by omega) w
end Go.Proofs.YtdklpgkheakapaaGreatDoor
