import Derived.Test.YtdklpgkheakapaaGreatDoorAddB
namespace Gn
open Ieee
theorem add_n1 (s t : Bool) (r q : Nat) (hr : r < 9223372036854775808) (h : 9218868437227405312 < r) : addW (wd s r) (wd t q) = 9221120237041090561 := by
  rw [add_ans, read_wd s r hr]
  have e : rd s r = .nan s (r - 9218868437227405312) := by unfold rd; rw [if_neg (by omega), if_neg (by omega), if_neg (by omega)]
  rw [e]
  cases double.read (wd t q) <;> rfl
theorem add_n2 (s t : Bool) (r q : Nat) (hq : q < 9223372036854775808) (h : 9218868437227405312 < q) : addW (wd s r) (wd t q) = 9221120237041090561 := by
  rw [add_ans, read_wd t q hq]
  have e : rd t q = .nan t (q - 9218868437227405312) := by unfold rd; rw [if_neg (by omega), if_neg (by omega), if_neg (by omega)]
  rw [e]
  cases double.read (wd s r) <;> rfl
theorem add_ii (s t : Bool) : addW (wd s 9218868437227405312) (wd t 9218868437227405312) = if s = t then wd s 9218868437227405312 else 9221120237041090561 := by
  rw [add_ans, read_wd s _ (by decide), read_wd t _ (by decide), rd_inf, rd_inf]
  cases s <;> cases t <;> decide
theorem rd_finite {s : Bool} {r : Nat} (hr : r < 9218868437227405312) : ∃ m e, rd s r = .number s m e := by
  unfold rd
  by_cases h : r < 4503599627370496
  · rw [if_pos h]; exact ⟨r, _, rfl⟩
  · rw [if_neg h, if_pos hr]; exact ⟨_, _, rfl⟩
theorem add_if (s t : Bool) (q : Nat) (hq : q < 9218868437227405312) : addW (wd s 9218868437227405312) (wd t q) = wd s 9218868437227405312 := by
  obtain ⟨m, e, he⟩ := rd_finite (s := t) hq
  rw [add_ans, read_wd s _ (by decide), read_wd t q (by omega), rd_inf, he, ← ans_inf]
  rfl
theorem add_fi (s t : Bool) (q : Nat) (hq : q < 9218868437227405312) : addW (wd s q) (wd t 9218868437227405312) = wd t 9218868437227405312 := by
  obtain ⟨m, e, he⟩ := rd_finite (s := s) hq
  rw [add_ans, read_wd t _ (by decide), read_wd s q (by omega), rd_inf, he, ← ans_inf]
  rfl
theorem sgn_z (s : Bool) : sgn s 0 = 0 := by cases s <;> rfl
theorem add_zf (s t : Bool) (q : Nat) (hq : q < 9218868437227405312) (h0 : q ≠ 0) : addW (wd s 0) (wd t q) = wd t q := by
  have hp : 0 < vl q := vl_pos (by omega)
  rw [add_fin s t 0 q (by decide) hq]
  unfold tot
  rw [vl_zero, sgn_z, Int.zero_add, sgn_sign t _ (by omega), sgn_natAbs, rn_vl hq]
theorem add_fz (s t : Bool) (q : Nat) (hq : q < 9218868437227405312) (h0 : q ≠ 0) : addW (wd s q) (wd t 0) = wd s q := by
  have hp : 0 < vl q := vl_pos (by omega)
  rw [add_fin s t q 0 hq (by decide)]
  unfold tot
  rw [vl_zero, sgn_z, Int.add_zero, sgn_sign s _ (by omega), sgn_natAbs, rn_vl hq]
theorem add_zz (s t : Bool) : addW (wd s 0) (wd t 0) = wd (s && t) 0 := by
  rw [add_fin s t 0 0 (by decide) (by decide)]
  unfold tot
  rw [vl_zero, sgn_z, sgn_z, Int.zero_add, if_pos rfl, show (0 : Int).natAbs = 0 from rfl]
  have : rn 0 = 0 := by have := rn_vl (r := 0) (by decide); rw [vl_zero] at this; exact this
  rw [this]
/-- the two amounts over one place -/
theorem common {r q d : Nat} (hd : ex r = ex q + d) : vl r = mg r * 2 ^ d * 2 ^ ex q ∧ vl q = mg q * 2 ^ ex q := by
  refine ⟨?_, vl_mg q⟩
  rw [vl_mg, hd, Nat.pow_add, Nat.mul_comm (2 ^ ex q), Nat.mul_assoc]
theorem small_q {q k : Nat} (h : ex q + 65 ≤ k) : 4 * vl q < 2 ^ k := by
  have h1 := mg_lt q
  have hp := Nat.two_pow_pos (ex q)
  have h2 : (2 : Nat) ^ (ex q + 65) ≤ 2 ^ k := Nat.pow_le_pow_right (by decide) h
  rw [Nat.pow_add, show (2 : Nat) ^ 65 = 36893488147419103232 by decide] at h2
  rw [vl_mg]
  have h3 : mg q * 2 ^ ex q ≤ 9007199254740992 * 2 ^ ex q := Nat.mul_le_mul_right _ (by omega)
  omega
end Gn
namespace Go.Proofs.YtdklpgkheakapaaGreatDoor
open Go.RowKit Gn
theorem and_zero (s t : Bool) : bits .and .u64 (wd s 0 : Int) (wd t 0 : Int) = (wd (s && t) 0 : Int) := by cases s <;> cases t <;> decide
theorem sg_top (s : Bool) (r : Nat) (hr : r < 9223372036854775808) : bits .and .u64 (wd s r : Int) 9223372036854775808 = (sg s : Int) := by rw [top_wd s r hr]; cases s <;> rfl

theorem radd_main (s t : Bool) (r q : Nat) (hr : r < 9218868437227405312) (hq : q < 9218868437227405312) (h0 : q ≠ 0) (hqr : q ≤ r) (w : World) :
    Calls Tryz.prog 11 #[.int .u64 (wd s r : Int), .int .u64 (wd t q : Int)] w fun e w' => e = .returned (.int .u64 (addW (wd s r) (wd t q) : Int)) ∧ Below w.heap.size w w' := by
  have F := addF s t r q (by omega) (by omega)
  have ha := wd_lt s r (by omega)
  have hb := wd_lt t q (by omega)
  obtain ⟨m1, m2⟩ := tk_wd s r hr
  obtain ⟨n1, n2⟩ := tk_wd t q hq
  have hex := ex_mono hqr
  obtain ⟨d, hd⟩ : ∃ d, ex r = ex q + d := ⟨ex r - ex q, by omega⟩
  have x1 := ex_le hr
  have M : AddM (wd s r) (wd t q) (mg r) (mg q) (sg s) (sg t) d ((ex q : Int) - 1074) := ⟨fun w1 => taken_as _ _ _ ha m1 (by rw [m2, hd]; omega) w1, fun w1 => taken_as _ _ _ hb n1 n2 w1, mg_lt r, mg_lt q⟩
  have hfin : r < 9218868437227405312 ∧ q < 9218868437227405312 ∧ r ≠ 0 ∧ q ≠ 0 := ⟨hr, hq, by omega, h0⟩
  obtain ⟨c1, c2⟩ := common hd
  have hml := mg_lt r
  have hnl := mg_lt q
  have hmp := mg_pos (r := r) (by omega)
  have hnp := mg_pos h0
  have hpd := Nat.two_pow_pos d
  have hpq := Nat.two_pow_pos (ex q)
  by_cases hfar : 64 < d
  · have hsm := small_q (q := q) (k := ex r) (by omega)
    have e : addW (wd s r) (wd t q) = wd s r := by
      by_cases hst : s = t
      · subst hst
        rw [add_same s r q hr hq (by omega), rn_up r (vl q) hr (by omega) (by omega)]
      · have : t = !s := by cases s <;> cases t <;> simp at hst ⊢
        subst this
        have hlt : q < r := by
          rcases Nat.lt_or_eq_of_le hqr with h9 | h9
          · exact h9
          · rw [h9] at hd; omega
        rw [add_diff s r q hr hq hlt, rn_down r (vl q) hr (by omega) (by omega)]
    rw [e]
    exact radd_far _ _ _ _ _ _ _ _ _ _ F M hfin hqr (by omega) (by omega) (by omega) hfar w
  · have hW : mg r * 2 ^ d + mg q < 2 ^ 127 := by
      have h2 : (2 : Nat) ^ d ≤ 2 ^ 64 := Nat.pow_le_pow_right (by decide) (by omega)
      have e64 : (2 : Nat) ^ 64 = 18446744073709551616 := by decide
      have h3 : mg r * 2 ^ d ≤ 9007199254740992 * 18446744073709551616 := Nat.mul_le_mul (by omega) (by omega)
      have e127 : (9007199254740992 * 18446744073709551616 + 9007199254740992 : Nat) < 2 ^ 127 := by decide
      omega
    have log_le : ∀ V : Nat, V ≠ 0 → V < 2 ^ 127 → V.log2 ≤ 126 := fun V hV hlt => by
      have := (Nat.log2_lt hV).2 hlt
      omega
    by_cases hst : s = t
    · subst hst
      rw [add_same s r q hr hq (by omega), c1, c2, ← Nat.add_mul, rn_scaled]
      exact radd_same _ _ _ _ _ _ _ _ _ _ _ F M hfin hqr (by omega) (by omega) (by omega) (by omega) (sg_top s r (by omega)) (sg_top s q (by omega)) rfl (fun w1 => rounded_W s (mg r * 2 ^ d + mg q) _ (by omega) (by omega) (by omega) (log_le _ (by omega) hW) w1) w
    · have : t = !s := by cases s <;> cases t <;> simp at hst ⊢
      subst this
      have hss : sg s ≠ sg (!s) := by cases s <;> decide
      by_cases heq : r = q
      · subst heq
        rw [add_opp s r hr]
        exact radd_opp _ _ _ _ _ _ _ _ _ _ F M hfin (by omega) (by omega) (by omega) (by omega) (sg_top s r (by omega)) (sg_top (!s) r (by omega)) hss rfl w
      · have hlt : q < r := by omega
        have hvl := vl_lt hlt
        have hle : mg q < mg r * 2 ^ d := by
          rw [c1, c2] at hvl
          exact Nat.lt_of_mul_lt_mul_right hvl
        rw [add_diff s r q hr hq hlt, c1, c2, ← Nat.sub_mul, rn_scaled]
        exact radd_diff _ _ _ _ _ _ _ _ _ _ _ F M hfin hqr (by omega) (by omega) (by omega) (by omega) (sg_top s r (by omega)) (sg_top (!s) q (by omega)) hss (by omega) heq (fun w1 => rounded_W s (mg r * 2 ^ d - mg q) _ (by omega) (by omega) (by omega) (log_le _ (by omega) (by omega)) w1) w

theorem radd_any (a b : Nat) (ha : a < 18446744073709551616) (hb : b < 18446744073709551616) (w : World) :
    Calls Tryz.prog 11 #[.int .u64 (a : Int), .int .u64 (b : Int)] w fun e w' => e = .returned (.int .u64 (addW a b : Int)) ∧ Below w.heap.size w w' := by
  obtain ⟨s, r, hr, rfl⟩ := wd_cases a ha
  obtain ⟨t, q, hq, rfl⟩ := wd_cases b hb
  have F := addF s t r q hr hq
  by_cases h1 : 9218868437227405312 < r
  · rw [add_n1 s t r q hr h1]; exact radd_n1 _ _ _ _ F h1 w
  by_cases h2 : 9218868437227405312 < q
  · rw [add_n2 s t r q hq h2]; exact radd_n2 _ _ _ _ F ⟨h1, h2⟩ w
  by_cases h3 : r = 9218868437227405312
  · subst h3
    by_cases h4 : q = 9218868437227405312
    · subst h4
      rw [add_ii]
      by_cases hst : s = t
      · subst hst; rw [if_pos rfl]; exact radd_i1 _ _ _ _ F ⟨rfl, rfl, rfl⟩ w
      · rw [if_neg hst]; exact radd_n3 _ _ _ _ F ⟨rfl, rfl, fun h => hst (wd_inj (by decide) (by decide) h).1⟩ w
    · rw [add_if s t q (by omega)]; exact radd_i2 _ _ _ _ F ⟨rfl, by omega⟩ w
  by_cases h4 : q = 9218868437227405312
  · subst h4; rw [add_fi s t r (by omega)]; exact radd_i3 _ _ _ _ F ⟨by omega, rfl⟩ w
  by_cases h5 : r = 0
  · subst h5
    by_cases h6 : q = 0
    · subst h6; rw [add_zz]; exact radd_z1 _ _ _ _ F _ (and_zero s t) ⟨rfl, rfl⟩ w
    · rw [add_zf s t q (by omega) h6]; exact radd_z2 _ _ _ _ F ⟨rfl, by omega, h6⟩ w
  by_cases h6 : q = 0
  · subst h6; rw [add_fz s t r (by omega) h5]; exact radd_z3 _ _ _ _ F ⟨by omega, h5, rfl⟩ w
  rcases Nat.lt_or_ge r q with h7 | h7
  · rw [add_comm (wd s r)]
    exact radd_lt _ _ _ _ _ F ⟨by omega, by omega, h5, h6⟩ h7 (fun w1 => radd_main t s q r (by omega) (by omega) h5 (by omega) w1) w
  · exact radd_main s t r q (by omega) (by omega) h6 h7 w

set_option maxHeartbeats 400000 in
theorem rsub_any (a b : Nat) (ha : a < 18446744073709551616) (hb : b < 18446744073709551616) (w : World) :
    Calls Tryz.prog 13 #[.int .u64 (a : Int), .int .u64 (b : Int)] w fun e w' => e = .returned (.int .u64 (subW a b : Int)) ∧ Below w.heap.size w w' := by
  have hn : negW b < 18446744073709551616 := neg_lt b hb
  have HS : Hid (subW a b = addW a (negW b)) := (show subW a b = addW a (negW b) from rfl)
  go_enter Tryz.func13, Tryz.ntmps13
  go_wp2_with fail
  refine (rneg_any b hb _).mono ?_
  rintro e wx ⟨rfl, hwx⟩
  rw [hwx]
  clear hwx wx
  go_wp2_with fail
  refine (radd_any a (negW b) ha hn w).mono ?_
  rintro e w1 ⟨rfl, hb1⟩
  go_wp2_with fail
  go_ret
  exact ⟨by rw [HS.out]; rfl, hb1⟩
end Go.Proofs.YtdklpgkheakapaaGreatDoor
