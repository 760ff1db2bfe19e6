import Derived.Test.YthjngodkpldpfaaGreatDoorMgBD
import Derived.Test.YthjngodkpldpfaaGreatDoorMgBE
import Derived.Test.YthjngodkpldpfaaGreatDoorMgBB
import Derived.Test.YthjngodkpldpfaaGreatDoorMgBA

section
namespace Go.Proofs.YthjngodkpldpfaaGreatDoor
open Go.RowKit
open Gn

/-- the ways to round with a rest, as the walk parts them -/
theorem up_ways_r (P Q : Prop) (C D : Nat) (odd : Int) (h1 : D ≤ C → P) (h2 : ¬ D ≤ C → Q) :
    (P ∧ (decide (D < C) = true ∨ (decide (D < C) = false ∧ C = D ∧ true = true) ∨ (decide (D < C) = false ∧ C = D ∧ true = false ∧ (odd == 1) = true)))
      ∨ (Q ∧ ((decide (D < C) = false ∧ C = D ∧ true = false ∧ (odd == 1) = false) ∨ (decide (D < C) = false ∧ Hid (¬ (hiN C = hiN D ∧ loN C = loN D))))) := by
  by_cases a : D < C
  · exact .inl ⟨h1 (by omega), .inl (decide_eq_true a)⟩
  · by_cases c : C = D
    · exact .inl ⟨h1 (by omega), .inr (.inl ⟨decide_eq_false a, c, rfl⟩)⟩
    · exact .inr ⟨h2 (by omega), .inr ⟨decide_eq_false a, hl_ne c⟩⟩
theorem odd_dm (W n : Nat) : (2 * W + 1) / 2 ^ (n + 1) = W / 2 ^ n ∧ (2 * W + 1) % 2 ^ (n + 1) = 2 * (W % 2 ^ n) + 1 := by
  have hp := Nat.two_pow_pos n
  have hm := Nat.mod_lt W hp
  have hd := Nat.div_add_mod W (2 ^ n)
  have e : 2 * W + 1 = (2 * (W % 2 ^ n) + 1) + 2 ^ (n + 1) * (W / 2 ^ n) := by
    rw [Nat.pow_succ, Nat.mul_comm (2 ^ n) 2, Nat.mul_assoc]; omega
  have hlt : 2 * (W % 2 ^ n) + 1 < 2 ^ (n + 1) := by rw [Nat.pow_succ]; omega
  have hp1 := Nat.two_pow_pos (n + 1)
  rw [e]
  exact ⟨by rw [Nat.add_mul_div_left _ _ hp1, Nat.div_eq_of_lt hlt, Nat.zero_add], by rw [Nat.add_mul_mod_self_left, Nat.mod_eq_of_lt hlt]⟩
theorem rhe_odd (W n k : Nat) (hn : n = k + 1) : rhe (2 * W + 1) (n + 1) = if 2 ^ k ≤ W % 2 ^ n then W / 2 ^ n + 1 else W / 2 ^ n := by
  subst hn
  have e := odd_dm W (k + 1)
  unfold rhe
  rw [e.1, e.2]
  have hp : (2 : Nat) ^ (k + 1 + 1) = 4 * 2 ^ k := by rw [Nat.pow_succ, Nat.pow_succ]; omega
  rw [hp]
  by_cases h : 2 ^ k ≤ W % 2 ^ (k + 1)
  · rw [if_pos h, if_pos (by omega)]
  · rw [if_neg h, if_neg (by omega), Nat.add_zero]
theorem log2_odd (W : Nat) (h0 : W ≠ 0) : (2 * W + 1).log2 = W.log2 + 1 := by
  rw [Nat.log2_eq_iff (by omega)]
  have h1 : 2 ^ W.log2 ≤ W := Nat.log2_self_le h0
  have h2 : W < 2 ^ (W.log2 + 1) := Nat.lt_log2_self
  rw [Nat.pow_succ 2 (W.log2 + 1), Nat.pow_succ] at *
  omega
theorem rungU_odd (W n : Nat) (e q : Int) (h0 : W ≠ 0) (hmax : max (e + (W.log2 : Int) - 52) (-1074) = q) (hqe : q - e = (n : Int)) :
    rungU (2 * W + 1) (e - 1) = (q + 1074).toNat * 4503599627370496 + rhe (2 * W + 1) (n + 1) := by
  unfold rungU
  rw [log2_odd W h0, show max (e - 1 + ((W.log2 + 1 : Nat) : Int) - 52) (-1074) = q from by omega, show (e - 1 - q).toNat = 0 from by omega, show (q - (e - 1)).toNat = n + 1 from by omega, Nat.pow_zero, Nat.mul_one]

theorem rounded_mid_r (v : Bool) (W n : Nat) (e q : Int) (h0 : W ≠ 0) (he1 : -4400 ≤ e) (he2 : e ≤ 4400) (hL : W.log2 ≤ 126) (hq : e + (W.log2 : Int) - 52 = q) (hq1 : -1074 ≤ q) (hqe : q - e = (n : Int)) (hn0 : 1 ≤ n) (w : World) :
    Calls Tryz.prog 97 #[.int .u64 (sg v : Int), wn W, .int .i64 e, .bool true] w fun e' w' => e' = .returned (.int .u64 (wd v (rung (2 * W + 1) (e - 1)) : Int)) ∧ Below w.heap.size w w' := by
  have hbl : bl W = W.log2 + 1 := by unfold bl; rw [if_neg h0]
  have hW : W < 18446744073709551616 * 18446744073709551616 := Nat.lt_trans (pow127 hL) p127
  have hK1 := kept_le W e q (by omega)
  have hK2 := kept_ge (2 * W + 1) (e - 1) q (by omega) (by rw [log2_odd W h0]; omega)
  have e1 := rungU_odd W n e q h0 (by omega) hqe
  rw [show (e - q).toNat = 0 from by omega, show (q - e).toNat = n from by omega, Nat.pow_zero, Nat.mul_one] at hK1
  rw [show (e - 1 - q).toNat = 0 from by omega, show (q - (e - 1)).toNat = n + 1 from by omega, Nat.pow_zero, Nat.mul_one] at hK2
  have hV := rhe_ge W n
  have hsm : W / 2 ^ n < 18446744073709551616 := by omega
  have hlo := lo_small hsm
  have hdm := Nat.div_add_mod W (2 ^ n)
  have er := rhe_odd W n (n - 1) (by omega)
  rw [rung_U _ _ (by omega), e1]
  refine rounded_right (sg v) W n e q true he1 he2 (by omega) hW w (by rw [hbl]; omega) hq1 hqe hn0 (by omega) (W / 2 ^ n) (W / 2 ^ n * 2 ^ n) (W % 2 ^ n) (n - 1) (2 ^ (n - 1)) (by omega) (by omega) rfl ((W / 2 ^ n % 2 : Nat) : Int) (by rw [hlo]; exact odd_and _ hsm) _ ?_ rfl rfl (by rw [Nat.mul_comm] at hdm; show _ = _; omega) (by rw [Nat.mul_comm] at hdm; show _ ≤ _; omega)
  refine up_ways_r _ _ _ _ _ (fun h => ?_) (fun h => ?_)
  · rw [if_pos h] at er
    refine fin_of v q _ _ (fun hq2 => ?_) (fun hq2 => by omega)
    rw [hlo, er, show ((W / 2 ^ n : Nat) : Int) + 1 = ((W / 2 ^ n + 1 : Nat) : Int) from by omega, wrap_nat _ (by omega), show (q + 1074) * 4503599627370496 + ((W / 2 ^ n + 1 : Nat) : Int) = (((q + 1074).toNat * 4503599627370496 + (W / 2 ^ n + 1) : Nat) : Int) from by omega]
    exact wrap_nat _ (by omega)
  · rw [if_neg h] at er
    refine fin_of v q _ _ (fun hq2 => ?_) (fun hq2 => by omega)
    rw [hlo, er, show (q + 1074) * 4503599627370496 + ((W / 2 ^ n : Nat) : Int) = (((q + 1074).toNat * 4503599627370496 + (W / 2 ^ n) : Nat) : Int) from by omega]
    exact wrap_nat _ (by omega)
theorem rounded_far_r (v : Bool) (W n : Nat) (e : Int) (h0 : W ≠ 0) (he1 : -4400 ≤ e) (he2 : e ≤ 4400) (hL : W.log2 ≤ 126) (hn : -1074 - e = (n : Int)) (h128 : 128 ≤ n) (w : World) :
    Calls Tryz.prog 97 #[.int .u64 (sg v : Int), wn W, .int .i64 e, .bool true] w fun e' w' => e' = .returned (.int .u64 (wd v (rung (2 * W + 1) (e - 1)) : Int)) ∧ Below w.heap.size w w' := by
  have hbl : bl W = W.log2 + 1 := by unfold bl; rw [if_neg h0]
  have h1 := pow127 hL
  have h2 := p127
  have hp : 2 ^ 127 ≤ 2 ^ (n - 1) := Nat.pow_le_pow_right (by omega) (by omega)
  have hp2 : 2 ^ 128 ≤ 2 ^ n := Nat.pow_le_pow_right (by omega) (by omega)
  have hp3 : (2 : Nat) ^ 127 < 2 ^ 128 := by decide
  have hlt : W < 2 ^ n := by omega
  have er := rhe_odd W n (n - 1) (by omega)
  rw [Nat.mod_eq_of_lt hlt, Nat.div_eq_of_lt hlt, if_neg (by omega)] at er
  have e1 : rung (2 * W + 1) (e - 1) = 0 := by
    rw [rung_U _ _ (by omega), rungU_odd W n e (-1074) h0 (by omega) hn, er]
    rfl
  rw [e1, wd_nought]
  exact rounded_far (sg v) W e true he1 he2 (by omega) (show W < 18446744073709551616 * 18446744073709551616 by omega) (by rw [hbl]; omega) (by omega) w
theorem rounded_low_r (v : Bool) (W n : Nat) (e : Int) (h0 : W ≠ 0) (he1 : -4400 ≤ e) (he2 : e ≤ 4400) (hL : W.log2 ≤ 126) (hq : e + (W.log2 : Int) - 52 < -1074) (hqe : -1074 - e = (n : Int)) (hn0 : 1 ≤ n) (hn : n ≤ 127) (w : World) :
    Calls Tryz.prog 97 #[.int .u64 (sg v : Int), wn W, .int .i64 e, .bool true] w fun e' w' => e' = .returned (.int .u64 (wd v (rung (2 * W + 1) (e - 1)) : Int)) ∧ Below w.heap.size w w' := by
  have hbl : bl W = W.log2 + 1 := by unfold bl; rw [if_neg h0]
  have h1 := pow127 hL
  have h2 := p127
  have hK1 := kept_le W e (-1074) (by omega)
  have e1 := rungU_odd W n e (-1074) h0 (by omega) hqe
  rw [show ((-1074 : Int) + 1074).toNat = 0 from rfl, Nat.zero_mul, Nat.zero_add] at e1
  rw [show (e - -1074).toNat = 0 from by omega, show (-1074 - e).toNat = n from by omega, Nat.pow_zero, Nat.mul_one] at hK1
  have hV := rhe_ge W n
  have hsm : W / 2 ^ n < 18446744073709551616 := by omega
  have hlo := lo_small hsm
  have hdm := Nat.div_add_mod W (2 ^ n)
  have er := rhe_odd W n (n - 1) (by omega)
  have hle : rhe (2 * W + 1) (n + 1) ≤ W / 2 ^ n + 1 := by rw [er]; split <;> omega
  rw [rung_U _ _ (by omega), e1, Nat.min_eq_left (by omega)]
  refine rounded_low (sg v) W n e true he1 he2 (by omega) (show W < 18446744073709551616 * 18446744073709551616 by omega) w (by rw [hbl]; omega) hqe hn0 hn (W / 2 ^ n) (W / 2 ^ n * 2 ^ n) (W % 2 ^ n) (n - 1) (2 ^ (n - 1)) (by omega) (by omega) rfl ((W / 2 ^ n % 2 : Nat) : Int) (by rw [hlo]; exact odd_and _ hsm) _ (W / 2 ^ n + 1)
    (by rw [hlo, show ((W / 2 ^ n : Nat) : Int) + 1 = ((W / 2 ^ n + 1 : Nat) : Int) from by omega]; exact wrap_nat _ (by omega)) (wrap_nat _ (by omega)) (decide_eq_false (by omega)) (by rw [hlo]; exact wrap_nat _ (by omega)) (by rw [hlo]; exact decide_eq_false (by omega)) ?_ rfl rfl (by rw [Nat.mul_comm] at hdm; show _ = _; omega) (by rw [Nat.mul_comm] at hdm; show _ ≤ _; omega)
  refine up_ways_r _ _ _ _ _ (fun h => ?_) (fun h => ?_)
  · rw [er, if_pos h]
    exact or_sign v _ (by omega)
  · rw [er, if_neg h, hlo]
    exact or_sign v _ (by omega)
/-- the document's rounding of W 2^e and a rest below 2^e -/
theorem rounded_r (v : Bool) (W : Nat) (e : Int) (he1 : -4400 ≤ e) (he2 : e ≤ 4400) (hL : W.log2 ≤ 126) (hL2 : 53 ≤ W.log2) (w : World) :
    Calls Tryz.prog 97 #[.int .u64 (sg v : Int), wn W, .int .i64 e, .bool true] w fun e' w' => e' = .returned (.int .u64 (wd v (rung (2 * W + 1) (e - 1)) : Int)) ∧ Below w.heap.size w w' := by
  have h0 : W ≠ 0 := by rintro rfl; simp at hL2
  by_cases hq : -1074 ≤ e + (W.log2 : Int) - 52
  · exact rounded_mid_r v W (W.log2 - 52) e _ h0 he1 he2 hL rfl hq (by omega) (by omega) w
  · by_cases hf : 127 < -1074 - e
    · exact rounded_far_r v W (-1074 - e).toNat e h0 he1 he2 hL (by omega) (by omega) w
    · exact rounded_low_r v W (-1074 - e).toNat e h0 he1 he2 hL (by omega) (by omega) (by omega) (by omega) w
end Go.Proofs.YthjngodkpldpfaaGreatDoor
end

section
namespace Gn
open Ieee
theorem div_n1 (s t : Bool) (r q : Nat) (hr : r < 9223372036854775808) (h : 9218868437227405312 < r) : divW (wd s r) (wd t q) = 9221120237041090561 := by
  rw [div_ans, read_wd s r hr]
  have e : rd s r = .nan s (r - 9218868437227405312) := by unfold rd; rw [if_neg (by omega), if_neg (by omega), if_neg (by omega)]
  rw [e]
  cases double.read (wd t q) <;> rfl
theorem div_n2 (s t : Bool) (r q : Nat) (hq : q < 9223372036854775808) (h : 9218868437227405312 < q) : divW (wd s r) (wd t q) = 9221120237041090561 := by
  rw [div_ans, read_wd t q hq]
  have e : rd t q = .nan t (q - 9218868437227405312) := by unfold rd; rw [if_neg (by omega), if_neg (by omega), if_neg (by omega)]
  rw [e]
  cases double.read (wd s r) <;> rfl
theorem div_ii (s t : Bool) : divW (wd s 9218868437227405312) (wd t 9218868437227405312) = 9221120237041090561 := by
  rw [div_ans, read_wd s _ (by decide), read_wd t _ (by decide), rd_inf, rd_inf]; rfl
theorem div_zz (s t : Bool) : divW (wd s 0) (wd t 0) = 9221120237041090561 := by
  rw [div_ans, read_wd s _ (by decide), read_wd t _ (by decide), rd_zero, rd_zero]; rfl
theorem rd_mg (s : Bool) (r : Nat) (hr : r < 9218868437227405312) : rd s r = .number s (mg r) ((ex r : Int) - 1074) := by
  unfold rd mg ex
  by_cases h : r < 4503599627370496
  · rw [if_pos h, if_pos h, show r / 4503599627370496 - 1 = 0 by omega]; rfl
  · rw [if_neg h, if_neg h, if_pos hr]
    congr 1
theorem div_if (s t : Bool) (q : Nat) (hq : q < 9218868437227405312) : divW (wd s 9218868437227405312) (wd t q) = wd (s ^^ t) 9218868437227405312 := by
  rw [div_ans, read_wd s _ (by decide), read_wd t q (by omega), rd_inf, rd_mg t q hq, ← ans_inf]
  rfl
theorem div_fz (s t : Bool) (r : Nat) (hr : r < 9218868437227405312) (h0 : mg r ≠ 0) : divW (wd s r) (wd t 0) = wd (s ^^ t) 9218868437227405312 := by
  rw [div_ans, read_wd s r (by omega), read_wd t _ (by decide), rd_mg s r hr, rd_zero, ← ans_inf]
  show ans (if mg r = 0 then none else some (.infinity (s ^^ t))) = _
  rw [if_neg h0]
theorem div_fi (s t : Bool) (r : Nat) (hr : r < 9218868437227405312) : divW (wd s r) (wd t 9218868437227405312) = wd (s ^^ t) 0 := by
  rw [div_ans, read_wd s r (by omega), read_wd t _ (by decide), rd_mg s r hr, rd_inf]
  show double.write (.number (s ^^ t) 0 0) = _
  rw [write_number]; rfl
theorem div_rd {s t : Bool} {m n a b : Nat} {i j : Int} (hn : n ≠ 0) (ha : double.read a = .number s m i) (hb : double.read b = .number t n j) :
    divW a b = wd (s ^^ t) (rung (st m n (54 + n.log2 - m.log2)) (i - j - ((54 + n.log2 - m.log2 : Nat) : Int) - 1)) := by
  rw [div_ans, ha, hb]
  have e : Datum.quotient (double.fractionBits + 2) (.number s m i) (.number t n j) = some (.number (s ^^ t) (st m n (54 + n.log2 - m.log2)) (i - j - ((54 + n.log2 - m.log2 : Nat) : Int) - 1)) := by
    unfold Datum.quotient st
    simp only [hn, if_false, ← Nat.shiftLeft_eq]
    rfl
  rw [e]
  show double.write (.number _ _ _) = _
  rw [write_number]
theorem div_zf (s t : Bool) (q : Nat) (hq : q < 9218868437227405312) (h0 : mg q ≠ 0) : divW (wd s 0) (wd t q) = wd (s ^^ t) 0 := by
  rw [div_rd h0 (by rw [read_wd s _ (by decide)]; exact rd_zero s) (by rw [read_wd t q (by omega)]; exact rd_mg t q hq)]
  have e : ∀ k, st 0 (mg q) k = 0 := fun k => by unfold st; simp
  rw [e]
  rfl
theorem div_num (s t : Bool) (r q K : Nat) (hr : r < 9218868437227405312) (hq : q < 9218868437227405312) (h1 : mg r ≠ 0) (h2 : mg q ≠ 0) (hK : K = 123 - (mg r).log2) (hl1 : (mg r).log2 ≤ 52) (hl2 : (mg q).log2 ≤ 52) :
    divW (wd s r) (wd t q) = wd (s ^^ t) (rung (st (mg r) (mg q) K) (((ex r : Int) - 1074) - ((ex q : Int) - 1074) - (K : Int) - 1)) := by
  rw [div_rd h2 (by rw [read_wd s r (by omega)]; exact rd_mg s r hr) (by rw [read_wd t q (by omega)]; exact rd_mg t q hq)]
  have h := st_more (mg r) (mg q) (54 + (mg q).log2 - (mg r).log2) (((ex r : Int) - 1074) - ((ex q : Int) - 1074)) (by omega) (enough _ _ h1 (by omega)) (K - (54 + (mg q).log2 - (mg r).log2))
  rw [show 54 + (mg q).log2 - (mg r).log2 + (K - (54 + (mg q).log2 - (mg r).log2)) = K by omega] at h
  rw [h]
end Gn
end

section
namespace Go.Proofs.YthjngodkpldpfaaGreatDoor
open Go.RowKit Gn

set_option maxHeartbeats 1000000 in
theorem rdiv_nan (a b x y z : Nat) (F : MulF a b x y z) (h : (9218868437227405312 < x ∨ 9218868437227405312 < y) ∨ (x = 9218868437227405312 ∧ y = 9218868437227405312) ∨ (x = 0 ∧ y = 0)) (w : World) :
    Calls Tryz.prog 55 #[.int .u64 (a : Int), .int .u64 (b : Int)] w fun e w' => e = .returned (.int .u64 9221120237041090561) ∧ Below w.heap.size w w' := by
  obtain ⟨hx, hy, hz⟩ := F
  rcases (show (9218868437227405312 < x) ∨ (¬ 9218868437227405312 < x ∧ 9218868437227405312 < y) ∨ (¬ 9218868437227405312 < x ∧ ¬ 9218868437227405312 < y ∧ x = 9218868437227405312 ∧ y = 9218868437227405312) ∨ (¬ 9218868437227405312 < x ∧ ¬ 9218868437227405312 < y ∧ x = 0 ∧ y = 0) by omega) with h1 | h1 | h1 | h1
  · have b1 : decide ((9218868437227405312 : Int) < (x : Int)) = true := by simp; omega
    clear h1
    clear h
    go_enter Tryz.func55, Tryz.ntmps55
    go_wp2
    go_ret
    exact ⟨rfl, Below.refl _ _⟩
  · have b1 : decide ((9218868437227405312 : Int) < (x : Int)) = false := by simp; omega
    have b2 : decide ((9218868437227405312 : Int) < (y : Int)) = true := by simp; omega
    clear h1
    clear h
    go_enter Tryz.func55, Tryz.ntmps55
    go_wp2
    go_ret
    exact ⟨rfl, Below.refl _ _⟩
  · have b1 : decide ((9218868437227405312 : Int) < (x : Int)) = false := by simp; omega
    have b2 : decide ((9218868437227405312 : Int) < (y : Int)) = false := by simp; omega
    have b3 : ((x : Int) == 9218868437227405312) = true := eqB_t (y := 9218868437227405312) (by omega)
    have b4 : ((y : Int) == 9218868437227405312) = true := eqB_t (y := 9218868437227405312) (by omega)
    clear h1
    clear h
    go_enter Tryz.func55, Tryz.ntmps55
    go_wp2
    go_ret
    exact ⟨rfl, Below.refl _ _⟩
  · have b1 : decide ((9218868437227405312 : Int) < (x : Int)) = false := by simp; omega
    have b2 : decide ((9218868437227405312 : Int) < (y : Int)) = false := by simp; omega
    have b3 : ((x : Int) == 9218868437227405312) = false := beqN_f (y := 9218868437227405312) (by omega)
    have b4 : ((x : Int) == 0) = true := eqB_t (y := 0) (by omega)
    have b5 : ((y : Int) == 0) = true := eqB_t (y := 0) (by omega)
    clear h1
    clear h
    go_enter Tryz.func55, Tryz.ntmps55
    go_wp2
    go_ret
    exact ⟨rfl, Below.refl _ _⟩
set_option maxHeartbeats 1000000 in
theorem rdiv_inf (a b x y z W : Nat) (F : MulF a b x y z) (hW : bits .or .u64 (z : Int) 9218868437227405312 = (W : Int)) (h : (x = 9218868437227405312 ∧ y < 9218868437227405312) ∨ (x ≠ 0 ∧ x < 9218868437227405312 ∧ y = 0)) (w : World) :
    Calls Tryz.prog 55 #[.int .u64 (a : Int), .int .u64 (b : Int)] w fun e w' => e = .returned (.int .u64 (W : Int)) ∧ Below w.heap.size w w' := by
  obtain ⟨hx, hy, hz⟩ := F
  rcases (show (x = 9218868437227405312 ∧ y < 9218868437227405312) ∨ (x ≠ 0 ∧ x < 9218868437227405312 ∧ y = 0) by omega) with h1 | h1
  · have b1 : decide ((9218868437227405312 : Int) < (x : Int)) = false := by simp; omega
    have b2 : decide ((9218868437227405312 : Int) < (y : Int)) = false := by simp; omega
    have b3 : ((x : Int) == 9218868437227405312) = true := eqB_t (y := 9218868437227405312) (by omega)
    have b4 : ((y : Int) == 9218868437227405312) = false := beqN_f (y := 9218868437227405312) (by omega)
    have b5 : ((x : Int) == 0) = false := beqN_f (y := 0) (by omega)
    clear h1
    clear h
    go_enter Tryz.func55, Tryz.ntmps55
    go_wp2
    go_ret
    exact ⟨rfl, Below.refl _ _⟩
  · have b1 : decide ((9218868437227405312 : Int) < (x : Int)) = false := by simp; omega
    have b2 : decide ((9218868437227405312 : Int) < (y : Int)) = false := by simp; omega
    have b3 : ((x : Int) == 9218868437227405312) = false := beqN_f (y := 9218868437227405312) (by omega)
    have b4 : ((x : Int) == 0) = false := beqN_f (y := 0) (by omega)
    have b5 : ((y : Int) == 0) = true := eqB_t (y := 0) (by omega)
    clear h1
    clear h
    go_enter Tryz.func55, Tryz.ntmps55
    go_wp2
    go_ret
    exact ⟨rfl, Below.refl _ _⟩
set_option maxHeartbeats 1000000 in
theorem rdiv_zero (a b x y z : Nat) (F : MulF a b x y z) (h : (y = 9218868437227405312 ∧ x < 9218868437227405312) ∨ (x = 0 ∧ y ≠ 0 ∧ y < 9218868437227405312)) (w : World) :
    Calls Tryz.prog 55 #[.int .u64 (a : Int), .int .u64 (b : Int)] w fun e w' => e = .returned (.int .u64 (z : Int)) ∧ Below w.heap.size w w' := by
  obtain ⟨hx, hy, hz⟩ := F
  rcases (show (y = 9218868437227405312 ∧ x = 0) ∨ (y = 9218868437227405312 ∧ x ≠ 0 ∧ x < 9218868437227405312) ∨ (x = 0 ∧ y ≠ 0 ∧ y < 9218868437227405312) by omega) with h1 | h1 | h1
  · have b1 : decide ((9218868437227405312 : Int) < (x : Int)) = false := by simp; omega
    have b2 : decide ((9218868437227405312 : Int) < (y : Int)) = false := by simp; omega
    have b3 : ((x : Int) == 9218868437227405312) = false := beqN_f (y := 9218868437227405312) (by omega)
    have b4 : ((x : Int) == 0) = true := eqB_t (y := 0) (by omega)
    have b5 : ((y : Int) == 9218868437227405312) = true := eqB_t (y := 9218868437227405312) (by omega)
    have b6 : ((y : Int) == 0) = false := beqN_f (y := 0) (by omega)
    clear h1
    clear h
    go_enter Tryz.func55, Tryz.ntmps55
    go_wp2
    go_ret
    exact ⟨rfl, Below.refl _ _⟩
  · have b1 : decide ((9218868437227405312 : Int) < (x : Int)) = false := by simp; omega
    have b2 : decide ((9218868437227405312 : Int) < (y : Int)) = false := by simp; omega
    have b3 : ((x : Int) == 9218868437227405312) = false := beqN_f (y := 9218868437227405312) (by omega)
    have b4 : ((x : Int) == 0) = false := beqN_f (y := 0) (by omega)
    have b5 : ((y : Int) == 9218868437227405312) = true := eqB_t (y := 9218868437227405312) (by omega)
    have b6 : ((y : Int) == 0) = false := beqN_f (y := 0) (by omega)
    clear h1
    clear h
    go_enter Tryz.func55, Tryz.ntmps55
    go_wp2
    go_ret
    exact ⟨rfl, Below.refl _ _⟩
  · have b1 : decide ((9218868437227405312 : Int) < (x : Int)) = false := by simp; omega
    have b2 : decide ((9218868437227405312 : Int) < (y : Int)) = false := by simp; omega
    have b3 : ((x : Int) == 9218868437227405312) = false := beqN_f (y := 9218868437227405312) (by omega)
    have b4 : ((x : Int) == 0) = true := eqB_t (y := 0) (by omega)
    have b5 : ((y : Int) == 9218868437227405312) = false := beqN_f (y := 9218868437227405312) (by omega)
    have b6 : ((y : Int) == 0) = false := beqN_f (y := 0) (by omega)
    clear h1
    clear h
    go_enter Tryz.func55, Tryz.ntmps55
    go_wp2
    go_ret
    exact ⟨rfl, Below.refl _ _⟩
end Go.Proofs.YthjngodkpldpfaaGreatDoor
end

section
namespace Go.Proofs.YthjngodkpldpfaaGreatDoor
open Go.RowKit Gn

theorem pow_split (m j K : Nat) (hm : m ≠ 0) (hl : m.log2 ≤ 52) (hK : K = 123 - m.log2) : (j < K → m * 2 ^ j < 2 ^ 123) ∧ (K ≤ j → 2 ^ 123 ≤ m * 2 ^ j) ∧ (j ≤ K → m * 2 ^ j < 2 ^ 124) := by
  have h1 : 2 ^ m.log2 ≤ m := Nat.log2_self_le hm
  have h2 : m < 2 ^ (m.log2 + 1) := Nat.lt_log2_self
  refine ⟨fun h => ?_, fun h => ?_, fun h => ?_⟩
  · exact shift_lt m.log2 123 h2 (by omega)
  · refine Nat.le_trans ?_ (Nat.mul_le_mul_right _ h1)
    rw [← Nat.pow_add]
    exact Nat.pow_le_pow_right (by omega) (by omega)
  · exact shift_lt m.log2 124 h2 (by omega)
theorem top_zero (V : Nat) (h : V < 2 ^ 123) : hiN V / 576460752303423488 = 0 := by
  have e : (2 : Nat) ^ 123 = 576460752303423488 * 18446744073709551616 := by decide
  unfold hiN
  omega
theorem top_one (V : Nat) (h : 2 ^ 123 ≤ V) (h2 : V < 2 ^ 124) : hiN V / 576460752303423488 = 1 := by
  have e : (2 : Nat) ^ 123 = 576460752303423488 * 18446744073709551616 := by decide
  have e2 : (2 : Nat) ^ 124 = 2 * 576460752303423488 * 18446744073709551616 := by decide
  unfold hiN
  omega
set_option maxHeartbeats 2000000 in
set_option maxRecDepth 8000 in
theorem rdiv_num (a b x y z m n W K : Nat) (e f : Int) (ha : a < 18446744073709551616) (hb : b < 18446744073709551616) (F : MulF a b x y z) (h : x < 9218868437227405312 ∧ y < 9218868437227405312 ∧ x ≠ 0 ∧ y ≠ 0) (hm : tkM a = m) (he : tkE a = e) (hn : tkM b = n) (hf : tkE b = f)
    (he1 : -1074 ≤ e) (he2 : e ≤ 971) (hf1 : -1074 ≤ f) (hf2 : f ≤ 971) (hm0 : m ≠ 0) (hml : m.log2 ≤ 52) (hm2 : m < 18446744073709551616) (hn0 : 0 < n) (hn2 : n < 9007199254740992) (hK : K = 123 - m.log2)
    (HR : Hid (∀ w1 : World, Calls Tryz.prog 97 #[.int .u64 (z : Int), wn (m * 2 ^ K / n), .int .i64 (e - K - f), .bool (decide (0 < m * 2 ^ K % n))] w1 fun e' w' => e' = .returned (.int .u64 (W : Int)) ∧ Below w1.heap.size w1 w')) (w : World) :
    Calls Tryz.prog 55 #[.int .u64 (a : Int), .int .u64 (b : Int)] w fun e w' => e = .returned (.int .u64 (W : Int)) ∧ Below w.heap.size w w' := by
  obtain ⟨hx, hy, hz⟩ := F
  have b1 : decide ((9218868437227405312 : Int) < (x : Int)) = false := by simp; omega
  have b2 : decide ((9218868437227405312 : Int) < (y : Int)) = false := by simp; omega
  have b3 : ((x : Int) == 9218868437227405312) = false := beqN_f (y := 9218868437227405312) (by omega)
  have b4 : ((x : Int) == 0) = false := beqN_f (y := 0) (by omega)
  have b5 : ((y : Int) == 9218868437227405312) = false := beqN_f (y := 9218868437227405312) (by omega)
  have b6 : ((y : Int) == 0) = false := beqN_f (y := 0) (by omega)
  have HA : Hid (∀ w1 : World, Calls Tryz.prog 64 #[.int .u64 (a : Int)] w1 fun e' w' => e' = .returned (.tuple #[.int .u64 (m : Int), .int .i64 e]) ∧ w' = w1) := fun w1 => taken_as a m e ha hm he w1
  have HB : Hid (∀ w1 : World, Calls Tryz.prog 64 #[.int .u64 (b : Int)] w1 fun e' w' => e' = .returned (.tuple #[.int .u64 (n : Int), .int .i64 f]) ∧ w' = w1) := fun w1 => taken_as b n f hb hn hf w1
  have HS := (show Hid (∀ j, (j < K → m * 2 ^ j < 2 ^ 123) ∧ (K ≤ j → 2 ^ 123 ≤ m * 2 ^ j) ∧ (j ≤ K → m * 2 ^ j < 2 ^ 124)) from fun j => pow_split m j K hm0 hml hK)
  have hK2 : K ≤ 123 := by omega
  have hz0 : (hiN m : Int) = 0 := by unfold hiN; omega
  have hz1 : (loN m : Int) = (m : Int) := by unfold loN; omega
  clear h hm he hn hf hK
  go_enter Tryz.func55, Tryz.ntmps55
  go_wp2_with fail
  refine (HA.out w).mono ?_
  rintro e1 w1 ⟨rfl, rfl⟩
  go_wp2_with fail
  refine (HB.out _).mono ?_
  rintro e1 w1 ⟨rfl, rfl⟩
  go_wp2_with fail
  go_loopw [9] (fun v wr => ∃ j : Nat, v = .int .i64 (e - (j : Int)) ∧ j ≤ K ∧ Hid (Box wr w1.heap.size (m * 2 ^ j)) ∧ Hid (Below w1.heap.size w1 wr)) (fun v _ => (intOf v - (e - (K : Int))).toNat)
  case atStart =>
    refine ⟨0, by simp, by omega, ?_, ?_⟩
    · rw [Nat.pow_zero, Nat.mul_one]
      exact ⟨by rw [hz0]; simp [go_sem], by rw [hz1]; simp [go_sem], by simp [go_sem], by simp [go_sem], by simp⟩
    · exact (Below.refl _ _).alloc (Nat.le_refl _) _
  case round =>
    obtain ⟨j, rfl, hj, HB, HBL⟩ := hrel
    obtain ⟨V, hV⟩ : ∃ V, V = m * 2 ^ j := ⟨_, rfl⟩
    have hs := HS.out j
    rw [← hV] at HB hs
    obtain ⟨x0, x1, x2, x3, x4⟩ := HB.out
    have HVV := (show Hid (V = m * 2 ^ j) from hV)
    clear hV
    by_cases hjK : j < K
    · have ht := top_zero V (hs.1 hjK)
      have hti : (hiN V : Int) / 576460752303423488 = 0 := by omega
      have hlt : Hid (V < 2 ^ 124) := hs.2.2 hj
      clear hs ht
      go_wp2_with fail
      refine (left_one V hlt.out _).mono ?_
      rintro e' w2 ⟨rfl, hb2⟩
      have M := HB.out.keep hb2 HB.out.lt
      have S := (show Hid (Box w2 w1.heap.size V) from M)
      have MB := (show Hid (Below w1.heap.size w1 w2) from bt HBL.out hb2)
      obtain ⟨z0, z1, z2, z3, z4⟩ := M
      clear x0 x1 x2 x3 x4 hb2 HB HBL
      go_wp2_with fail
      refine ⟨⟨j + 1, by first | rfl | (congr 1; omega), by omega, ?_, ?_⟩, by simp [intOf]; omega⟩
      · have e9 : m * 2 ^ (j + 1) = 2 * V := by rw [HVV.out, Nat.pow_succ, ← Nat.mul_assoc, Nat.mul_comm]
        rw [e9]; exact box_set S.out
      · exact (MB.out.setCell (by simp) _).setCell (by simp) _
    · have hjj : j = K := by omega
      have ht := top_one V (hs.2.1 (by omega)) (hs.2.2 hj)
      have hti : (hiN V : Int) / 576460752303423488 = 1 := by omega
      have hlt : Hid (V < 2 ^ 124) := hs.2.2 hj
      clear hs ht
      subst hjj
      rw [← HVV.out] at HR
      have HQ : Hid (∀ w9 : World, Calls Tryz.prog 101 #[wn V, .int .u64 (n : Int)] w9 fun e w' => e = .returned (.tuple #[wn (V / n), .bool (decide (0 < V % n))]) ∧ Below w9.heap.size w9 w') := fun w9 => by_any V n hlt.out hn0 hn2 w9
      generalize V / n = Q at HR HQ
      generalize decide (0 < V % n) = R at HR HQ
      go_wp2_with fail
      refine (HQ.out _).mono ?_
      rintro e' w2 ⟨rfl, hb2⟩
      have MB := (show Hid (Below w1.heap.size w1 w2) from bt HBL.out hb2)
      have hle : w1.heap.size ≤ w2.heap.size := MB.out.size
      clear x0 x1 x2 x3 x4 hb2 HB HBL HQ
      go_wp2_with fail
      refine (HR.out _).mono ?_
      rintro e' w3 ⟨rfl, hb3⟩
      go_wp2_with fail
      go_ret
      exact ⟨rfl, (MB.out.alloc hle _).trans (hb3.mono (by simp; omega))⟩
end Go.Proofs.YthjngodkpldpfaaGreatDoor
end

section
namespace Go.Proofs.YthjngodkpldpfaaGreatDoor
open Go.RowKit Gn

theorem mg_log {r : Nat} (h : mg r ≠ 0) : (mg r).log2 ≤ 52 := by
  have := mg_lt r
  have h1 := (Nat.log2_lt h (k := 53)).2 (by rw [p53]; exact this)
  omega
theorem big_q (m n K : Nat) (hm : m ≠ 0) (hl : m.log2 ≤ 52) (hK : K = 123 - m.log2) (hn0 : 0 < n) (hn : n < 9007199254740992) : 53 ≤ (m * 2 ^ K / n).log2 ∧ (m * 2 ^ K / n).log2 ≤ 126 := by
  obtain ⟨h1, h2, h3⟩ := pow_split m K K hm hl hK
  have g2 := h2 (Nat.le_refl _)
  have g3 := h3 (Nat.le_refl _)
  have h4 : 2 ^ 53 * n ≤ m * 2 ^ K := by
    refine Nat.le_trans (Nat.mul_le_mul_left _ (show n ≤ 2 ^ 53 by rw [p53]; omega)) (Nat.le_trans ?_ g2)
    decide
  have h5 : 2 ^ 53 ≤ m * 2 ^ K / n := (Nat.le_div_iff_mul_le hn0).mpr h4
  have h6 : m * 2 ^ K / n ≤ m * 2 ^ K := Nat.div_le_self _ _
  have h7 := Nat.two_pow_pos 53
  have h8 : m * 2 ^ K / n ≠ 0 := by omega
  refine ⟨(Nat.le_log2 h8).2 h5, ?_⟩
  have h9 := (Nat.log2_lt h8 (k := 124)).2 (by omega)
  omega
theorem rounded_st (v : Bool) (m n K : Nat) (e f : Int) (he1 : -4400 ≤ e - K - f) (he2 : e - K - f ≤ 4400) (hm : m ≠ 0) (hl : m.log2 ≤ 52) (hK : K = 123 - m.log2) (hn0 : 0 < n) (hn : n < 9007199254740992) (w : World) :
    Calls Tryz.prog 97 #[.int .u64 (sg v : Int), wn (m * 2 ^ K / n), .int .i64 (e - K - f), .bool (decide (0 < m * 2 ^ K % n))] w fun e' w' => e' = .returned (.int .u64 (wd v (rung (st m n K) (e - f - (K : Int) - 1)) : Int)) ∧ Below w.heap.size w w' := by
  obtain ⟨b1, b2⟩ := big_q m n K hm hl hK hn0 hn
  have ee : e - f - (K : Int) - 1 = (e - K - f) - 1 := by omega
  rw [ee]
  rcases st_of m n K with ⟨h1, h2⟩ | ⟨h1, h2⟩
  · rw [h2, h1, show decide (0 < 0) = false from rfl]
    have h9 := rung_shift (m * 2 ^ K / n) 1 (e - K - f)
    rw [Nat.pow_one, Nat.mul_comm, show ((1 : Nat) : Int) = 1 from rfl] at h9
    rw [h9]
    have h0 : m * 2 ^ K / n ≠ 0 := by intro h; rw [h] at b1; simp at b1
    exact rounded_W v _ _ h0 he1 he2 b2 w
  · rw [h2, show decide (0 < m * 2 ^ K % n) = true from decide_eq_true (by omega)]
    exact rounded_r v _ _ he1 he2 b2 b1 w
theorem rdiv_any (a b : Nat) (ha : a < 18446744073709551616) (hb : b < 18446744073709551616) (w : World) :
    Calls Tryz.prog 55 #[.int .u64 (a : Int), .int .u64 (b : Int)] w fun e w' => e = .returned (.int .u64 (divW a b : Int)) ∧ Below w.heap.size w w' := by
  obtain ⟨s, r, hr, rfl⟩ := wd_cases a ha
  obtain ⟨t, q, hq, rfl⟩ := wd_cases b hb
  have F := mulF s t r q hr hq
  rcases (show 9218868437227405312 < r ∨ 9218868437227405312 < q ∨ (r = 9218868437227405312 ∧ q = 9218868437227405312) ∨ (r = 0 ∧ q = 0) ∨ (r = 9218868437227405312 ∧ q < 9218868437227405312) ∨ (r < 9218868437227405312 ∧ r ≠ 0 ∧ q = 0) ∨ (q = 9218868437227405312 ∧ r < 9218868437227405312) ∨ (r = 0 ∧ q < 9218868437227405312 ∧ q ≠ 0) ∨ (r < 9218868437227405312 ∧ q < 9218868437227405312 ∧ r ≠ 0 ∧ q ≠ 0) by omega) with h | h | ⟨h1, h2⟩ | ⟨h1, h2⟩ | ⟨h1, h2⟩ | ⟨h1, h2, h3⟩ | ⟨h1, h2⟩ | ⟨h1, h2, h3⟩ | ⟨h1, h2, h3, h4⟩
  · rw [div_n1 s t r q hr h]; exact rdiv_nan _ _ _ _ _ F (.inl (.inl h)) w
  · rw [div_n2 s t r q hq h]; exact rdiv_nan _ _ _ _ _ F (.inl (.inr h)) w
  · subst h1; subst h2; rw [div_ii]; exact rdiv_nan _ _ _ _ _ F (.inr (.inl ⟨rfl, rfl⟩)) w
  · subst h1; subst h2; rw [div_zz]; exact rdiv_nan _ _ _ _ _ F (.inr (.inr ⟨rfl, rfl⟩)) w
  · subst h1; rw [div_if s t q h2]; exact rdiv_inf _ _ _ _ _ _ F (or_inf _) (.inl ⟨rfl, h2⟩) w
  · subst h3; rw [div_fz s t r h1 (mg_pos h2)]; exact rdiv_inf _ _ _ _ _ _ F (or_inf _) (.inr ⟨h2, h1, rfl⟩) w
  · subst h1; rw [div_fi s t r h2, wd_nought]; exact rdiv_zero _ _ _ _ _ F (.inl ⟨rfl, h2⟩) w
  · subst h1; rw [div_zf s t q h2 (mg_pos h3), wd_nought]; exact rdiv_zero _ _ _ _ _ F (.inr ⟨rfl, h3, h2⟩) w
  · have p1 := mg_pos h3
    have p2 := mg_pos h4
    rw [div_num s t r q (123 - (mg r).log2) h1 h2 p1 p2 rfl (mg_log p1) (mg_log p2)]
    obtain ⟨m1, m2⟩ := tk_wd s r h1
    obtain ⟨n1, n2⟩ := tk_wd t q h2
    have l1 := mg_lt r
    have l2 := mg_lt q
    have x1 := ex_le h1
    have x2 := ex_le h2
    have hl := mg_log p1
    exact rdiv_num _ _ _ _ _ _ _ _ (123 - (mg r).log2) _ _ ha hb F ⟨h1, h2, h3, h4⟩ m1 m2 n1 n2 (by omega) (by omega) (by omega) (by omega) p1 hl (by omega) (by omega) (by omega) rfl (fun w1 => rounded_st (s ^^ t) (mg r) (mg q) _ _ _ (by omega) (by omega) p1 hl rfl (by omega) l2 w1) w
end Go.Proofs.YthjngodkpldpfaaGreatDoor
end

section
namespace Go.Proofs.YthjngodkpldpfaaGreatDoor
open Go.RowKit
open Gn

theorem rnd_W (v : Bool) (M : Nat) (h0 : M ≠ 0) (hM : M < 18446744073709551616) : Rnd (sg v : Int) (M : Int) (wd v (rung M 0)) := ⟨fun w => by
  have hl : M.log2 ≤ 126 := by
    have := (Nat.log2_lt (n := M) (k := 64) h0).2 hM; omega
  have := rounded_W v M 0 h0 (by decide) (by decide) hl w
  unfold wn at this
  rw [show hiN M = 0 from by unfold hiN; omega, show loN M = M from lo_small hM] at this
  exact this⟩
set_option maxHeartbeats 400000 in
theorem rof_zero (w : World) : Calls Tryz.prog 59 #[.int .i64 0] w fun e w' => e = .returned (.int .u64 0) ∧ Below w.heap.size w w' := by
  go_enter Tryz.func59, Tryz.ntmps59
  go_wp2_with fail
  go_ret
  exact ⟨rfl, Below.refl _ _⟩
set_option maxHeartbeats 400000 in
theorem rof_neg (n : Int) (M x : Nat) (h0 : (n == 0) = false) (h1 : n < 0) (hM : IntKind.u64.wrap (wrap64 (-n)) = (M : Int)) (hR : Rnd 9223372036854775808 (M : Int) x) (w : World) :
    Calls Tryz.prog 59 #[.int .i64 n] w fun e w' => e = .returned (.int .u64 (x : Int)) ∧ Below w.heap.size w w' := by
  go_enter Tryz.func59, Tryz.ntmps59
  go_wp2_with fail
  refine (hR.run _).mono ?_
  rintro e' w1 ⟨rfl, hb1⟩
  go_wp2_with fail
  go_ret
  exact ⟨rfl, hb1⟩
set_option maxHeartbeats 400000 in
theorem rof_pos (M x : Nat) (h0 : ((M : Int) == 0) = false) (hM : IntKind.u64.wrap (M : Int) = (M : Int)) (hR : Rnd 0 (M : Int) x) (w : World) :
    Calls Tryz.prog 59 #[.int .i64 (M : Int)] w fun e w' => e = .returned (.int .u64 (x : Int)) ∧ Below w.heap.size w w' := by
  go_enter Tryz.func59, Tryz.ntmps59
  go_wp2_with fail
  refine (hR.run _).mono ?_
  rintro e' w1 ⟨rfl, hb1⟩
  go_wp2_with fail
  go_ret
  exact ⟨rfl, hb1⟩
theorem of_rung (n : Int) : Go.floatOfInt .f64 n = wd (decide (n < 0)) (rung n.natAbs 0) := by
  show Ieee.double.write (.number (decide (n < 0)) n.natAbs 0) = _
  rw [write_number]
theorem rof_any (n : Int) (h1 : -9223372036854775808 ≤ n) (h2 : n < 9223372036854775808) (w : World) :
    Calls Tryz.prog 59 #[.int .i64 n] w fun e w' => e = .returned (.int .u64 (ofW n : Int)) ∧ Below w.heap.size w w' := by
  unfold ofW
  rw [of_rung]
  by_cases h0 : n = 0
  · subst h0
    rw [show wd (decide ((0 : Int) < 0)) (rung (0 : Int).natAbs 0) = 0 from by decide]
    exact rof_zero w
  · by_cases hn : n < 0
    · rw [decide_eq_true hn]
      refine rof_neg n n.natAbs _ (by rw [beq_eq_false_iff_ne]; exact h0) hn (by simp only [wrap64, IntKind.wrap_u64]; omega) (rnd_W true n.natAbs (by omega) (by omega)) w
    · obtain ⟨M, rfl⟩ : ∃ M : Nat, n = (M : Int) := ⟨n.toNat, by omega⟩
      rw [decide_eq_false hn, Int.natAbs_natCast]
      exact rof_pos M _ (by rw [beq_eq_false_iff_ne]; exact h0) (wrap_nat _ (by omega)) (rnd_W false M (by omega) (by omega)) w
end Go.Proofs.YthjngodkpldpfaaGreatDoor
end

section
namespace Go.Proofs.YthjngodkpldpfaaGreatDoor
open Go.RowKit
open Gn

set_option maxHeartbeats 400000 in
theorem rint_big (a : Nat) (hf : bits .andNot .u64 (a : Int) 9223372036854775808 = (lowW a : Int)) (hi : decide ((9218868437227405312 : Int) ≤ (lowW a : Int)) = true) (w : World) :
    Calls Tryz.prog 67 #[.int .u64 (a : Int)] w fun e w' => e = .returned (.tuple #[.int .i64 0, .int .i64 11]) ∧ Below w.heap.size w w' := by
  go_enter Tryz.func67, Tryz.ntmps67
  go_wp2_with fail
  go_ret2
  exact ⟨rfl, Below.refl _ _⟩
abbrev ti (x y : Int) : Value := .tuple #[.int .i64 x, .int .i64 y]
def finR (s : Bool) (M : Nat) (E : Int) : Value :=
  if M = 0 then ti 0 0 else if E < 0 ∨ 63 < E then ti 0 11
  else if s then (if M * 2 ^ E.toNat ≤ 9223372036854775808 then ti (-((M * 2 ^ E.toNat : Nat) : Int)) 0 else ti 0 11)
  else (if M * 2 ^ E.toNat < 9223372036854775808 then ti ((M * 2 ^ E.toNat : Nat) : Int) 0 else ti 0 11)
theorem fin_zero (s : Bool) (E : Int) : finR s 0 E = ti 0 0 := by unfold finR; rw [if_pos rfl]
theorem fin_out (s : Bool) (M : Nat) (E : Int) (h0 : M ≠ 0) (h : E < 0 ∨ 63 < E) : finR s M E = ti 0 11 := by unfold finR; rw [if_neg h0, if_pos h]
/-- what the last tests see -/
theorem fin_in (s : Bool) (M k : Nat) (h0 : M ≠ 0) (hk : k ≤ 63) (Y : Nat) (hY : M * 2 ^ k = Y) :
    (s = true ∧ ((((hiN Y : Int) == 0) = true ∧ decide ((loN Y : Int) ≤ 9223372036854775808) = true ∧ finR s M (k : Int) = ti (-(loN Y : Int)) 0 ∧ loN Y ≤ 9223372036854775808) ∨ (((hiN Y : Int) == 0) = true ∧ decide ((loN Y : Int) ≤ 9223372036854775808) = false ∧ finR s M (k : Int) = ti 0 11) ∨ (((hiN Y : Int) == 0) = false ∧ finR s M (k : Int) = ti 0 11)))
    ∨ (s = false ∧ ((((hiN Y : Int) == 0) = true ∧ decide ((loN Y : Int) < 9223372036854775808) = true ∧ finR s M (k : Int) = ti (loN Y : Int) 0 ∧ loN Y < 9223372036854775808) ∨ (((hiN Y : Int) == 0) = true ∧ decide ((loN Y : Int) < 9223372036854775808) = false ∧ finR s M (k : Int) = ti 0 11) ∨ (((hiN Y : Int) == 0) = false ∧ finR s M (k : Int) = ti 0 11))) := by
  have hnot : ¬ ((k : Int) < 0 ∨ 63 < (k : Int)) := by omega
  have hd : Y = hiN Y * 18446744073709551616 + loN Y := by unfold hiN loN; omega
  have hll : loN Y < 18446744073709551616 := by unfold loN; omega
  cases s
  · right
    have e : finR false M (k : Int) = if Y < 9223372036854775808 then ti (Y : Int) 0 else ti 0 11 := by
      unfold finR; rw [if_neg h0, if_neg hnot, if_neg (by simp), show ((k : Int)).toNat = k from by omega, hY]
    rw [e]
    refine ⟨rfl, ?_⟩
    by_cases a : hiN Y = 0
    · rw [a] at hd
      rw [show loN Y = Y from by omega, show ((hiN Y : Int) == 0) = true from beqN_t (y := 0) a]
      by_cases b : Y < 9223372036854775808
      · rw [if_pos b]; exact .inl ⟨rfl, decide_eq_true (by omega), rfl, b⟩
      · rw [if_neg b]; exact .inr (.inl ⟨rfl, decide_eq_false (by omega), rfl⟩)
    · rw [if_neg (by omega)]; exact .inr (.inr ⟨beqN_f (y := 0) a, rfl⟩)
  · left
    have e : finR true M (k : Int) = if Y ≤ 9223372036854775808 then ti (-(Y : Int)) 0 else ti 0 11 := by
      unfold finR; rw [if_neg h0, if_neg hnot, if_pos rfl, show ((k : Int)).toNat = k from by omega, hY]
    rw [e]
    refine ⟨rfl, ?_⟩
    by_cases a : hiN Y = 0
    · rw [a] at hd
      rw [show loN Y = Y from by omega, show ((hiN Y : Int) == 0) = true from beqN_t (y := 0) a]
      by_cases b : Y ≤ 9223372036854775808
      · rw [if_pos b]; exact .inl ⟨rfl, decide_eq_true (by omega), rfl, b⟩
      · rw [if_neg b]; exact .inr (.inl ⟨rfl, decide_eq_false (by omega), rfl⟩)
    · rw [if_neg (by omega)]; exact .inr (.inr ⟨beqN_f (y := 0) a, rfl⟩)
theorem odd_i {a m0 : Nat} {M i : Nat} (hm0 : m0 < 9007199254740992) (h : M * 2 ^ i = m0) (h0 : M ≠ 0) (_ : a = a) : i ≤ 52 := by
  have h1 : 2 ^ i ≤ M * 2 ^ i := Nat.le_mul_of_pos_left _ (by omega)
  rcases Nat.lt_or_ge i 53 with k | k
  · omega
  · exfalso
    have := Nat.pow_le_pow_right (n := 2) (by omega) k
    rw [p53] at this; omega
theorem neg_wrap (L : Nat) (h : L ≤ 9223372036854775808) : wrap64 (-wrap64 (L : Int)) = -(L : Int) := by
  simp only [wrap64]; omega
set_option maxRecDepth 8000 in
set_option maxHeartbeats 2000000 in
theorem rint_walk (a m0 : Nat) (e0 : Int) (h : a < 18446744073709551616) (hf : bits .andNot .u64 (a : Int) 9223372036854775808 = (lowW a : Int)) (hi : decide ((9218868437227405312 : Int) ≤ (lowW a : Int)) = false) (hm : tkM a = m0) (he : tkE a = e0) (he1 : -1074 ≤ e0) (he2 : e0 ≤ 2000) (hm0 : Hid (m0 < 9007199254740992)) (s : Bool) (hs : bits .and .u64 (a : Int) 9223372036854775808 = if s then 9223372036854775808 else 0) (w : World) :
    Calls Tryz.prog 67 #[.int .u64 (a : Int)] w fun e w' => (∃ M i : Nat, M * 2 ^ i = m0 ∧ (M = 0 ∨ M % 2 = 1) ∧ e = .returned (finR s M (e0 + (i : Int)))) ∧ Below w.heap.size w w' := by
  go_enter Tryz.func67, Tryz.ntmps67
  go_wp2_with (go_at_call 64; refine (taken_as a m0 _ h hm he _).mono ?_; rintro e w' ⟨rfl, rfl⟩)
  go_loopw [5, 6] (fun m e wr => ∃ M i : Nat, m = .int .u64 (M : Int) ∧ e = .int .i64 (e0 + (i : Int)) ∧ i ≤ 53 ∧ Hid (M * 2 ^ i = m0) ∧ wr = w') (fun m _ _ => (intOf m).toNat)
  case atStart =>
    exact ⟨m0, 0, rfl, by simp, by omega, by show _ = _; simp, rfl⟩
  case round =>
    obtain ⟨M, i, rfl, rfl, hi53, hMi, rfl⟩ := hrel
    by_cases h0 : M = 0
    · subst h0
      go_wp2_with fail
      go_ret2
      exact ⟨⟨0, i, hMi.out, .inl rfl, by rw [fin_zero]; rfl⟩, Below.refl _ _⟩
    · have hM53 : Hid (M < 18446744073709551616) := by
        have h1 : M ≤ M * 2 ^ i := Nat.le_mul_of_pos_right _ (Nat.two_pow_pos i)
        have h2 := hm0.out
        rw [hMi.out] at h1
        show _ < _
        omega
      by_cases ho : M % 2 = 1
      · have hodd : bits .and .u64 (M : Int) 1 = 1 := by
          rw [odd_and M hM53.out, ho]; rfl
        have hp : 0 < M := by omega
        have hz : ((M : Int) == 0) = false := beqN_f (y := 0) h0
        have HO : Hid (M % 2 = 1) := ho
        have H0 : Hid (M ≠ 0) := h0
        clear h0 ho
        by_cases hE : e0 + (i : Int) < 0
        · have hfin : Hid (finR s M (e0 + (i : Int)) = ti 0 11) := fin_out s M _ H0.out (.inl hE)
          go_wp2_with fail
          go_ret2
          exact ⟨⟨M, i, hMi.out, .inr HO.out, by rw [hfin.out]; rfl⟩, (Below.refl _ _).alloc (Nat.le_refl _) _⟩
        · by_cases hE2 : 63 < e0 + (i : Int)
          · have hfin : Hid (finR s M (e0 + (i : Int)) = ti 0 11) := fin_out s M _ H0.out (.inr hE2)
            go_wp2_with fail
            go_ret2
            exact ⟨⟨M, i, hMi.out, .inr HO.out, by rw [hfin.out]; rfl⟩, (Below.refl _ _).alloc (Nat.le_refl _) _⟩
          · obtain ⟨k, hk⟩ : ∃ k : Nat, e0 + (i : Int) = (k : Int) := ⟨(e0 + (i : Int)).toNat, by omega⟩
            have hk63 : k ≤ 63 := by omega
            have hfin := fin_in s M k H0.out hk63 _ rfl
            have HL : Hid (∀ wx : World, Calls Tryz.prog 96 #[.agg #[.int .u64 0, .int .u64 (M : Int)], .int .i64 (k : Int)] wx fun e w' => e = .returned (wn (M * 2 ^ k)) ∧ Below wx.heap.size wx w') := by
              intro wx
              have h2 : M * 2 ^ k < 18446744073709551616 * 18446744073709551616 := by
                have h3 := Nat.pow_le_pow_right (n := 2) (by omega) hk63
                have h4 : (2 : Nat) ^ 63 = 9223372036854775808 := by decide
                rw [h4] at h3
                have h5 := Nat.mul_le_mul (Nat.le_of_lt hM53.out) h3
                omega
              have := left_n M k (by omega) h2 wx
              unfold wn at this
              rw [show hiN M = 0 from by have := hM53.out; unfold hiN; omega, show loN M = M from lo_small hM53.out] at this
              exact this
            rw [hk] at hE2 ⊢
            have hkk : Hid (e0 + (i : Int) = (k : Int)) := hk
            clear hE hk
            generalize M * 2 ^ k = Y at *
            have HF : Hid _ := hfin
            clear hfin
            go_wp2_with fail
            refine (HL.out _).mono ?_
            rintro e' w2 ⟨rfl, hb2⟩
            obtain ⟨t0, t1, t2, t3, t4⟩ := keep2 (B := wr.heap.size) (x := .int .u64 0) (y := .int .u64 (M : Int)) hb2 (by simp) (by simp) (by simp) (by simp) (by simp)
            have B2 := ((Below.refl wr.heap.size wr).alloc (Nat.le_refl _) _).trans (hb2.mono (by simp))
            rcases HF.out with ⟨rfl, ⟨c1, c2, c3, c4⟩ | ⟨c1, c2, c3⟩ | ⟨c1, c3⟩⟩ | ⟨rfl, ⟨c1, c2, c3, c4⟩ | ⟨c1, c2, c3⟩ | ⟨c1, c3⟩⟩
            · rw [← neg_wrap (loN Y) c4] at c3
              have C3 : Hid _ := c3
              clear HF HL hb2 c3 c4
              go_wp2_with fail
              go_ret2
              exact ⟨⟨M, i, hMi.out, .inr HO.out, by rw [hkk.out, C3.out]; rfl⟩, (B2.setCell (p := ⟨wr.heap.size, 0, none⟩) (Nat.le_refl _) _).setCell (p := ⟨wr.heap.size, 1, none⟩) (Nat.le_refl _) _⟩
            all_goals
              have C3 : Hid _ := c3
              clear HF HL hb2 c3
              go_wp2_with fail
              go_ret2
              exact ⟨⟨M, i, hMi.out, .inr HO.out, by rw [hkk.out, C3.out]; rfl⟩, (B2.setCell (p := ⟨wr.heap.size, 0, none⟩) (Nat.le_refl _) _).setCell (p := ⟨wr.heap.size, 1, none⟩) (Nat.le_refl _) _⟩
      · have hev : bits .and .u64 (M : Int) 1 = 0 := by
          rw [odd_and M hM53.out, show M % 2 = 0 from by omega]; rfl
        have hp : 0 < M := by omega
        obtain ⟨K, hK⟩ : ∃ K : Nat, M = 2 * K := ⟨M / 2, by omega⟩
        have hK2 : (M : Int) / 2 = (K : Int) := by omega
        have hlt : Hid (K < M) := (by omega : K < M)
        have hnx : Hid (K * 2 ^ (i + 1) = m0) := by
          show _ = _
          rw [← hMi.out, hK, Nat.pow_succ, Nat.mul_comm (2 ^ i) 2, ← Nat.mul_assoc, Nat.mul_comm K 2]
        have hi54 : i + 1 ≤ 53 := by
          have := odd_i (a := 0) hm0.out hnx.out (by omega) rfl; omega
        clear hK ho h0
        go_wp2_with fail
        exact ⟨⟨K, i + 1, rfl, by congr 1; omega, hi54, hnx, trivial⟩, by simp only [intOf]; have := hlt.out; omega⟩
end Go.Proofs.YthjngodkpldpfaaGreatDoor
end
