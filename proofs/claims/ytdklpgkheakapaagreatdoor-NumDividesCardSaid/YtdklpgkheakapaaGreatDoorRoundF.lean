import Derived.Test.YtdklpgkheakapaaGreatDoorRoundC
import Derived.Test.YtdklpgkheakapaaGreatDoorRoundE
namespace Go.Proofs.YtdklpgkheakapaaGreatDoor
open Go.RowKit
open Gn

abbrev sg (v : Bool) : Nat := if v then 9223372036854775808 else 0
theorem fin_of (v : Bool) (q E : Int) (R : Nat) (hR : q ≤ 971 → E = (R : Int)) (hbig : 971 < q → 9218868437227405312 ≤ R) : Fin4 (sg v) q E (wd v (min R 9218868437227405312)) := by
  refine ⟨fun h => ?_, fun h1 h2 => ?_⟩
  · have : 9218868437227405312 ≤ R := by
      by_cases hq : q ≤ 971
      · have := hR hq; omega
      · exact hbig (by omega)
    rw [Nat.min_eq_right this]
    exact or_sign v 9218868437227405312 (by decide)
  · have := hR h1
    rw [Nat.min_eq_left (by omega), this]
    exact or_sign v R (by omega)
theorem hl_ne {C D : Nat} (h : C ≠ D) : ¬ (hiN C = hiN D ∧ loN C = loN D) := by
  unfold hiN loN; omega
theorem lo_small {V : Nat} (h : V < 18446744073709551616) : loN V = V := by unfold loN; omega
theorem odd_and (V : Nat) (h : V < 18446744073709551616) : bits .and .u64 (V : Int) 1 = ((V % 2 : Nat) : Int) := by
  rw [show (1 : Int) = ((1 : Nat) : Int) from rfl, u64_and_nat _ _ h (by omega), Nat.and_one_is_mod]

/-- the ways to round, as the walk parts them -/
theorem up_ways (P Q : Prop) (V C D : Nat) (odd : Int) (hodd : odd = ((V % 2 : Nat) : Int))
    (h1 : (D < C ∨ (D = C ∧ V % 2 = 1)) → P) (h2 : ¬ (D < C ∨ (D = C ∧ V % 2 = 1)) → Q) :
    (P ∧ (decide (D < C) = true ∨ (decide (D < C) = false ∧ C = D ∧ false = true) ∨ (decide (D < C) = false ∧ C = D ∧ false = false ∧ (odd == 1) = true)))
      ∨ (Q ∧ ((decide (D < C) = false ∧ C = D ∧ false = false ∧ (odd == 1) = false) ∨ (decide (D < C) = false ∧ Hid (¬ (hiN C = hiN D ∧ loN C = loN D))))) := by
  by_cases a : D < C
  · exact .inl ⟨h1 (.inl a), .inl (decide_eq_true a)⟩
  · by_cases c : C = D
    · by_cases o : V % 2 = 1
      · exact .inl ⟨h1 (.inr ⟨c.symm, o⟩), .inr (.inr ⟨decide_eq_false a, c, rfl, by rw [hodd, o]; rfl⟩)⟩
      · exact .inr ⟨h2 (by omega), .inl ⟨decide_eq_false a, c, rfl, by rw [hodd, show V % 2 = 0 from by omega]; rfl⟩⟩
    · exact .inr ⟨h2 (by omega), .inr ⟨decide_eq_false a, hl_ne c⟩⟩
theorem rhe_up (W n k : Nat) (hn : n = k + 1) (h : 2 ^ k < W % 2 ^ n ∨ (2 ^ k = W % 2 ^ n ∧ W / 2 ^ n % 2 = 1)) : rhe W n = W / 2 ^ n + 1 := by
  unfold rhe
  rw [if_pos]
  subst hn
  rw [Nat.pow_succ] at h ⊢
  omega
theorem rhe_down (W n k : Nat) (hn : n = k + 1) (h : ¬ (2 ^ k < W % 2 ^ n ∨ (2 ^ k = W % 2 ^ n ∧ W / 2 ^ n % 2 = 1))) : rhe W n = W / 2 ^ n := by
  unfold rhe
  rw [if_neg, Nat.add_zero]
  subst hn
  rw [Nat.pow_succ] at h ⊢
  omega

/-- the document's rounding of W 2^e, at a place q, n below it -/
theorem rounded_mid (v : Bool) (W n : Nat) (e q : Int) (h0 : W ≠ 0) (he1 : -4400 ≤ e) (he2 : e ≤ 4400) (hL : W.log2 ≤ 126) (hq : e + (W.log2 : Int) - 52 = q) (hq1 : -1074 ≤ q) (hqe : q - e = (n : Int)) (hn0 : 1 ≤ n) (w : World) :
    Calls Tryz.prog 48 #[.int .u64 (sg v : Int), wn W, .int .i64 e, .bool false] w fun e' w' => e' = .returned (.int .u64 (wd v (rung W e) : Int)) ∧ Below w.heap.size w w' := by
  have hbl : bl W = W.log2 + 1 := by unfold bl; rw [if_neg h0]
  have hW : W < 18446744073709551616 * 18446744073709551616 := by
    have := Nat.lt_log2_self (n := W)
    have h2 := Nat.pow_le_pow_right (n := 2) (by omega) (show W.log2 + 1 ≤ 127 by omega)
    have h3 : (2 : Nat) ^ 127 < 18446744073709551616 * 18446744073709551616 := by decide
    omega
  have hmax : max (e + (W.log2 : Int) - 52) (-1074) = q := by omega
  have hK1 := kept_le W e q (by omega)
  have hK2 := kept_ge W e q h0 hq.symm
  have e1 : rungU W e = (q + 1074).toNat * 4503599627370496 + rhe W n := by
    unfold rungU; rw [hmax, show (e - q).toNat = 0 from by omega, show (q - e).toNat = n from by omega, Nat.pow_zero, Nat.mul_one]
  rw [show (e - q).toNat = 0 from by omega, show (q - e).toNat = n from by omega, Nat.pow_zero, Nat.mul_one] at hK1 hK2
  have hV := rhe_ge W n
  have hsm : W / 2 ^ n < 18446744073709551616 := by omega
  have hlo := lo_small hsm
  have hdm := Nat.div_add_mod W (2 ^ n)
  rw [rung_U W e h0, e1]
  refine rounded_right (sg v) W n e q false he1 he2 (by omega) hW w (by rw [hbl]; omega) hq1 hqe hn0 (by omega) (W / 2 ^ n) (W / 2 ^ n * 2 ^ n) (W % 2 ^ n) (n - 1) (2 ^ (n - 1)) (by omega) (by omega) rfl ((W / 2 ^ n % 2 : Nat) : Int) (by rw [hlo]; exact odd_and _ hsm) _ ?_ rfl rfl (by rw [Nat.mul_comm] at hdm; show _ = _; omega) (by rw [Nat.mul_comm] at hdm; show _ ≤ _; omega)
  refine up_ways _ _ (W / 2 ^ n) _ _ _ rfl (fun h => ?_) (fun h => ?_)
  · have e2 := rhe_up W n (n - 1) (by omega) h
    refine fin_of v q _ _ (fun hq2 => ?_) (fun hq2 => by omega)
    rw [hlo, e2, show ((W / 2 ^ n : Nat) : Int) + 1 = ((W / 2 ^ n + 1 : Nat) : Int) from by omega, wrap_nat _ (by omega), show (q + 1074) * 4503599627370496 + ((W / 2 ^ n + 1 : Nat) : Int) = (((q + 1074).toNat * 4503599627370496 + (W / 2 ^ n + 1) : Nat) : Int) from by omega]
    exact wrap_nat _ (by omega)
  · have e2 := rhe_down W n (n - 1) (by omega) h
    refine fin_of v q _ _ (fun hq2 => ?_) (fun hq2 => by omega)
    rw [hlo, e2, show (q + 1074) * 4503599627370496 + ((W / 2 ^ n : Nat) : Int) = (((q + 1074).toNat * 4503599627370496 + (W / 2 ^ n) : Nat) : Int) from by omega]
    exact wrap_nat _ (by omega)
end Go.Proofs.YtdklpgkheakapaaGreatDoor
