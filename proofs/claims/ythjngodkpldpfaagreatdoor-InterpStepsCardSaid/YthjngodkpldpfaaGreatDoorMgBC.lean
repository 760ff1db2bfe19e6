import Derived.Test.YthjngodkpldpfaaGreatDoorMgBB
import Derived.Test.YthjngodkpldpfaaGreatDoorMgAC

section
namespace Gn
open Ieee
theorem mul_n1 (s t : Bool) (r q : Nat) (hr : r < 9223372036854775808) (h : 9218868437227405312 < r) : mulW (wd s r) (wd t q) = 9221120237041090561 := by
  rw [mul_ans, read_wd s r hr]
  have e : rd s r = .nan s (r - 9218868437227405312) := by unfold rd; rw [if_neg (by omega), if_neg (by omega), if_neg (by omega)]
  rw [e]
  cases double.read (wd t q) <;> rfl
theorem mul_n2 (s t : Bool) (r q : Nat) (hq : q < 9223372036854775808) (h : 9218868437227405312 < q) : mulW (wd s r) (wd t q) = 9221120237041090561 := by
  rw [mul_ans, read_wd t q hq]
  have e : rd t q = .nan t (q - 9218868437227405312) := by unfold rd; rw [if_neg (by omega), if_neg (by omega), if_neg (by omega)]
  rw [e]
  cases double.read (wd s r) <;> rfl
theorem rd_zero (s : Bool) : rd s 0 = .number s 0 (-1074) := by unfold rd; rw [if_pos (by decide)]
theorem mul_iz (s t : Bool) : mulW (wd s 9218868437227405312) (wd t 0) = 9221120237041090561 := by
  rw [mul_ans, read_wd s _ (by decide), read_wd t _ (by decide), rd_inf, rd_zero]; rfl
theorem mul_zi (s t : Bool) : mulW (wd s 0) (wd t 9218868437227405312) = 9221120237041090561 := by
  rw [mul_ans, read_wd s _ (by decide), read_wd t _ (by decide), rd_inf, rd_zero]; rfl
theorem mul_ii (s t : Bool) : mulW (wd s 9218868437227405312) (wd t 9218868437227405312) = wd (s ^^ t) 9218868437227405312 := by
  rw [mul_ans, read_wd s _ (by decide), read_wd t _ (by decide), rd_inf, rd_inf]
  cases s <;> cases t <;> decide
theorem rd_fin {s : Bool} {r : Nat} (hr : r < 9218868437227405312) (h0 : r ≠ 0) : ∃ m e, m ≠ 0 ∧ rd s r = .number s m e := by
  unfold rd
  by_cases h : r < 4503599627370496
  · rw [if_pos h]; exact ⟨r, _, h0, rfl⟩
  · rw [if_neg h, if_pos hr]; exact ⟨_, _, by omega, rfl⟩
theorem ans_inf (s : Bool) : ans (some (.infinity s)) = wd s 9218868437227405312 := by cases s <;> decide
theorem mul_if (s t : Bool) (q : Nat) (hq : q < 9218868437227405312) (h0 : q ≠ 0) : mulW (wd s 9218868437227405312) (wd t q) = wd (s ^^ t) 9218868437227405312 := by
  obtain ⟨m, e, hm, he⟩ := rd_fin (s := t) hq h0
  rw [mul_ans, read_wd s _ (by decide), read_wd t q (by omega), rd_inf, he, ← ans_inf]
  show ans (if m = 0 then none else some (.infinity (s ^^ t))) = _
  rw [if_neg hm]
theorem mul_fi (s t : Bool) (q : Nat) (hq : q < 9218868437227405312) (h0 : q ≠ 0) : mulW (wd s q) (wd t 9218868437227405312) = wd (s ^^ t) 9218868437227405312 := by
  obtain ⟨m, e, hm, he⟩ := rd_fin (s := s) hq h0
  rw [mul_ans, read_wd t _ (by decide), read_wd s q (by omega), rd_inf, he, ← ans_inf]
  show ans (if m = 0 then none else some (.infinity (t ^^ s))) = _
  rw [if_neg hm, Bool.xor_comm]
theorem mul_z (s t : Bool) (r q : Nat) (hr : r < 9218868437227405312) (hq : q < 9218868437227405312) (h : r = 0 ∨ q = 0) : mulW (wd s r) (wd t q) = wd (s ^^ t) 0 := by
  rw [mul_fin s t r q hr hq]
  have e : vl r * vl q = 0 := by
    rcases h with rfl | rfl
    · rw [vl_zero, Nat.zero_mul]
    · rw [vl_zero, Nat.mul_zero]
  rw [e]
  rfl
theorem mul_num (s t : Bool) (r q : Nat) (hr : r < 9218868437227405312) (hq : q < 9218868437227405312) : mulW (wd s r) (wd t q) = wd (s ^^ t) (rung (mg r * mg q) (((ex r : Int) - 1074) + ((ex q : Int) - 1074))) := by
  rw [mul_fin s t r q hr hq, vl_mg, vl_mg]
  congr 1
  have h := rung_shift (mg r * mg q) (ex r + ex q) ((ex r : Int) - 1074 + ((ex q : Int) - 1074))
  rw [← h]
  congr 1
  · rw [Nat.pow_add]; ac_rfl
  · omega
end Gn
namespace Go.Proofs.YthjngodkpldpfaaGreatDoor
open Go.RowKit Gn
theorem xor_top (s t : Bool) (r q : Nat) (hr : r < 9223372036854775808) (hq : q < 9223372036854775808) : bits .and .u64 (bits .xor .u64 (wd s r : Int) (wd t q : Int)) 9223372036854775808 = (sg (s ^^ t) : Int) := by
  have ha := wd_lt s r hr
  have hb := wd_lt t q hq
  have hx : wd s r ^^^ wd t q < 18446744073709551616 := Nat.xor_lt_two_pow (n := 64) ha hb
  have h1 := top_wd s r hr
  have h2 := top_wd t q hq
  rw [show (9223372036854775808 : Int) = ((9223372036854775808 : Nat) : Int) from rfl, u64_and_nat _ _ ha (by decide)] at h1
  rw [show (9223372036854775808 : Int) = ((9223372036854775808 : Nat) : Int) from rfl, u64_and_nat _ _ hb (by decide)] at h2
  rw [u64_xor_nat _ _ ha hb, show (9223372036854775808 : Int) = ((9223372036854775808 : Nat) : Int) from rfl, u64_and_nat _ _ hx (by decide), Nat.and_xor_distrib_right]
  have e1 : wd s r &&& 9223372036854775808 = sg s := by apply Int.ofNat.inj; show ((wd s r &&& 9223372036854775808 : Nat) : Int) = _; rw [h1]; cases s <;> rfl
  have e2 : wd t q &&& 9223372036854775808 = sg t := by apply Int.ofNat.inj; show ((wd t q &&& 9223372036854775808 : Nat) : Int) = _; rw [h2]; cases t <;> rfl
  rw [e1, e2]
  cases s <;> cases t <;> decide
theorem or_inf (v : Bool) : bits .or .u64 (sg v : Int) 9218868437227405312 = (wd v 9218868437227405312 : Int) := by cases v <;> decide

/-- the answer of Mul at two words, as its ways need it -/
structure MulF (a b x y z : Nat) : Prop where
  hx : bits .andNot .u64 (a : Int) 9223372036854775808 = (x : Int)
  hy : bits .andNot .u64 (b : Int) 9223372036854775808 = (y : Int)
  hz : bits .and .u64 (bits .xor .u64 (a : Int) (b : Int)) 9223372036854775808 = (z : Int)
theorem mulF (s t : Bool) (r q : Nat) (hr : r < 9223372036854775808) (hq : q < 9223372036854775808) : MulF (wd s r) (wd t q) r q (sg (s ^^ t)) :=
  ⟨by rw [abs_andNot _ (wd_lt s r hr), wd_mod s r hr], by rw [abs_andNot _ (wd_lt t q hq), wd_mod t q hq], xor_top s t r q hr hq⟩
theorem eqB_t {x y : Nat} (h : x = y) : ((x : Int) == (y : Int)) = true := by subst h; simp

set_option maxHeartbeats 1000000 in
theorem rmul_nan (a b x y z : Nat) (F : MulF a b x y z) (h : (9218868437227405312 < x ∨ 9218868437227405312 < y) ∨ (x = 9218868437227405312 ∧ y = 0) ∨ (x = 0 ∧ y = 9218868437227405312)) (w : World) :
    Calls Tryz.prog 54 #[.int .u64 (a : Int), .int .u64 (b : Int)] w fun e w' => e = .returned (.int .u64 9221120237041090561) ∧ Below w.heap.size w w' := by
  obtain ⟨hx, hy, hz⟩ := F
  rcases (show 9218868437227405312 < x ∨ (¬ 9218868437227405312 < x ∧ 9218868437227405312 < y) ∨ (¬ 9218868437227405312 < x ∧ ¬ 9218868437227405312 < y ∧ x = 9218868437227405312 ∧ y = 0) ∨ (¬ 9218868437227405312 < x ∧ ¬ 9218868437227405312 < y ∧ x ≠ 9218868437227405312 ∧ x = 0 ∧ y = 9218868437227405312) by omega) with h1 | ⟨h1, h2⟩ | ⟨h1, h2, h3, h4⟩ | ⟨h1, h2, h3, h4, h5⟩
  · have b1 : decide ((9218868437227405312 : Int) < (x : Int)) = true := by simp; omega
    clear h h1
    go_enter Tryz.func54, Tryz.ntmps54
    go_wp2
    go_ret
    exact ⟨rfl, Below.refl _ _⟩
  · have b1 : decide ((9218868437227405312 : Int) < (x : Int)) = false := by simp; omega
    have b2 : decide ((9218868437227405312 : Int) < (y : Int)) = true := by simp; omega
    clear h h1 h2
    go_enter Tryz.func54, Tryz.ntmps54
    go_wp2
    go_ret
    exact ⟨rfl, Below.refl _ _⟩
  · have b1 : decide ((9218868437227405312 : Int) < (x : Int)) = false := by simp; omega
    have b2 : decide ((9218868437227405312 : Int) < (y : Int)) = false := by simp; omega
    have b3 : ((x : Int) == 9218868437227405312) = true := eqB_t (y := 9218868437227405312) h3
    have b4 : ((y : Int) == 0) = true := eqB_t (y := 0) h4
    clear h h1 h2 h3 h4
    go_enter Tryz.func54, Tryz.ntmps54
    go_wp2
    go_ret
    exact ⟨rfl, Below.refl _ _⟩
  · have b1 : decide ((9218868437227405312 : Int) < (x : Int)) = false := by simp; omega
    have b2 : decide ((9218868437227405312 : Int) < (y : Int)) = false := by simp; omega
    have b3 : ((x : Int) == 9218868437227405312) = false := beqN_f (y := 9218868437227405312) h3
    have b4 : ((x : Int) == 0) = true := eqB_t (y := 0) h4
    have b5 : ((y : Int) == 9218868437227405312) = true := eqB_t (y := 9218868437227405312) h5
    clear h h1 h2 h3 h4 h5
    go_enter Tryz.func54, Tryz.ntmps54
    go_wp2
    go_ret
    exact ⟨rfl, Below.refl _ _⟩
end Go.Proofs.YthjngodkpldpfaaGreatDoor
end

section
namespace Gn
open Ieee
theorem r_parts (r : Nat) (h : 4503599627370496 ≤ r) : r = ex r * 4503599627370496 + mg r ∧ 4503599627370496 ≤ mg r ∧ mg r < 9007199254740992 := by
  have hm := mg_lt r
  unfold mg ex at *
  rw [if_neg (by omega)] at hm ⊢
  omega
theorem rn_at (N k : Nat) (hne : N ≠ 0) (hlog : N.log2 = 52 + k) : rn N = min (k * 4503599627370496 + rhe N k) 9218868437227405312 := by
  unfold rn rung
  rw [if_neg hne, hlog]
  simp only
  rw [show max ((-1074 : Int) + ((52 + k : Nat) : Int) - 52) (-1074) = (k : Int) - 1074 by omega, show ((k : Int) - 1074 + 1074).toNat = k by omega, show ((-1074 : Int) - ((k : Int) - 1074)).toNat = 0 by omega, show ((k : Int) - 1074 - -1074).toNat = k by omega, Nat.pow_zero, Nat.mul_one]
/-- a number and less than half of its last bit more -/
theorem rn_up (r v : Nat) (hr : r < 9218868437227405312) (h1 : 1 ≤ ex r) (hv : 2 * v < 2 ^ ex r) : rn (vl r + v) = r := by
  have hbig : 4503599627370496 ≤ r := by unfold ex at h1; omega
  obtain ⟨e1, e2, e3⟩ := r_parts r hbig
  have hp := Nat.two_pow_pos (ex r)
  have hN : vl r + v = mg r * 2 ^ ex r + v := by rw [vl_mg]
  have hlog : (mg r * 2 ^ ex r + v).log2 = 52 + ex r := by
    apply log2_of
    · rw [Nat.pow_add, show (2 : Nat) ^ 52 = 4503599627370496 by decide]
      have := Nat.mul_le_mul_right (2 ^ ex r) e2
      omega
    · rw [show 52 + ex r + 1 = 53 + ex r by omega, Nat.pow_add, show (2 : Nat) ^ 53 = 9007199254740992 by decide]
      have : (mg r + 1) * 2 ^ ex r ≤ 9007199254740992 * 2 ^ ex r := Nat.mul_le_mul_right _ (by omega)
      rw [Nat.add_mul] at this
      omega
  have hne : mg r * 2 ^ ex r + v ≠ 0 := by
    have := Nat.mul_le_mul_right (2 ^ ex r) e2
    omega
  have hdiv : (mg r * 2 ^ ex r + v) / 2 ^ ex r = mg r := by rw [Nat.mul_comm, Nat.mul_add_div hp, Nat.div_eq_of_lt (by omega), Nat.add_zero]
  have hmod : (mg r * 2 ^ ex r + v) % 2 ^ ex r = v := by rw [Nat.mul_comm (mg r), Nat.mul_add_mod, Nat.mod_eq_of_lt (by omega)]
  have hrhe : rhe (mg r * 2 ^ ex r + v) (ex r) = mg r := by
    unfold rhe
    rw [hdiv, hmod, if_neg (by omega), Nat.add_zero]
  rw [hN, rn_at _ _ hne hlog, hrhe]
  exact (Nat.min_eq_left (by omega)).trans e1.symm
theorem dist_le_of {x y d : Nat} (h : dist x y ≤ d) : x ≤ y + d ∧ y ≤ x + d := by unfold dist at h; omega
/-- a number and less than a quarter of its last bit less -/
theorem rn_down (r v : Nat) (hr : r < 9218868437227405312) (h1 : 2 ≤ ex r) (hv : 4 * v < 2 ^ ex r) : rn (vl r - v) = r := by
  have hbig : 4503599627370496 ≤ r := by unfold ex at h1; omega
  obtain ⟨e1, e2, e3⟩ := r_parts r hbig
  have hp := Nat.two_pow_pos (ex r)
  have hvr : vl r = mg r * 2 ^ ex r := vl_mg r
  have hge := Nat.mul_le_mul_right (2 ^ ex r) e2
  have hI : rn (vl r - v) < 9218868437227405312 := by
    have := rn_mono (show vl r - v ≤ vl r by omega)
    rw [rn_vl hr] at this
    omega
  have hd := nearest_amount (vl r - v) r (by omega) hI
  have hd2 : dist (vl r - v) (vl r) = v := by unfold dist; omega
  rw [hd2] at hd
  obtain ⟨d1, d2⟩ := dist_le_of hd
  have h2p : 2 ^ ex r = 2 * 2 ^ (ex r - 1) := by rw [← Nat.pow_succ']; congr 1; omega
  obtain ⟨k, hk⟩ : ∃ k, ex r = k + 1 := ⟨ex r - 1, by omega⟩
  obtain ⟨j, hj⟩ : ∃ j, mg r = 4503599627370496 + j := ⟨mg r - 4503599627370496, by omega⟩
  have hjl : j < 4503599627370496 := by omega
  -- the neighbours
  have up : vl r + 2 ^ ex r ≤ vl (r + 1) := by
    by_cases hj1 : j + 1 < 4503599627370496
    · have e := vl_norm (ex r) (j + 1) hj1
      rw [show (ex r + 1) * 4503599627370496 + (j + 1) = r + 1 by omega] at e
      rw [e, hvr, hj, ← Nat.add_assoc, Nat.add_mul (4503599627370496 + j) 1, Nat.one_mul]
      exact Nat.le_refl _
    · have e := vl_norm (ex r + 1) 0 (by decide)
      rw [show (ex r + 1 + 1) * 4503599627370496 + 0 = r + 1 by omega] at e
      rw [e, hvr, hj, show j = 4503599627370495 by omega, Nat.pow_succ]
      omega
  have down : vl (r - 1) + 2 ^ (ex r - 1) ≤ vl r := by
    by_cases hj1 : j = 0
    · have e := vl_norm k 4503599627370495 (by decide)
      rw [show (k + 1) * 4503599627370496 + 4503599627370495 = r - 1 by omega] at e
      rw [e, hvr, hj, hj1, hk, show k + 1 - 1 = k by omega, Nat.pow_succ]
      omega
    · have e := vl_norm (ex r) (j - 1) (by omega)
      rw [show (ex r + 1) * 4503599627370496 + (j - 1) = r - 1 by omega] at e
      rw [e, hvr, hj]
      have : (4503599627370496 + j) * 2 ^ ex r = (4503599627370496 + (j - 1)) * 2 ^ ex r + 2 ^ ex r := by
        rw [show 4503599627370496 + j = (4503599627370496 + (j - 1)) + 1 by omega, Nat.add_mul _ 1, Nat.one_mul]
      omega
  rcases Nat.lt_trichotomy (rn (vl r - v)) r with h | h | h
  · have : vl (rn (vl r - v)) ≤ vl (r - 1) := by
      rcases Nat.lt_or_eq_of_le (show rn (vl r - v) ≤ r - 1 by omega) with h9 | h9
      · exact Nat.le_of_lt (vl_lt h9)
      · rw [h9]; exact Nat.le_refl _
    omega
  · exact h
  · have : vl (r + 1) ≤ vl (rn (vl r - v)) := by
      rcases Nat.lt_or_eq_of_le (show r + 1 ≤ rn (vl r - v) by omega) with h9 | h9
      · exact Nat.le_of_lt (vl_lt h9)
      · rw [← h9]; exact Nat.le_refl _
    omega

theorem sgn_add (s : Bool) (x y : Nat) : sgn s x + sgn s y = sgn s (x + y) := by cases s <;> simp [sgn] <;> omega
theorem sgn_sub (s : Bool) (x y : Nat) (h : y ≤ x) : sgn s x + sgn (!s) y = sgn s (x - y) := by cases s <;> simp [sgn] <;> omega
theorem sgn_natAbs (s : Bool) (x : Nat) : (sgn s x).natAbs = x := by cases s <;> simp [sgn]
theorem sgn_sign (s : Bool) (x : Nat) (h : x ≠ 0) (b : Bool) : (if sgn s x = 0 then b else decide (sgn s x < 0)) = s := by
  cases s
  · rw [if_neg (by simp [sgn]; omega)]; simp [sgn]
  · rw [if_neg (by simp [sgn]; omega)]; simp [sgn]; omega
theorem add_same (s : Bool) (r q : Nat) (hr : r < 9218868437227405312) (hq : q < 9218868437227405312) (h0 : r ≠ 0) : addW (wd s r) (wd s q) = wd s (rn (vl r + vl q)) := by
  have hp : 0 < vl r := vl_pos (by omega)
  rw [add_fin s s r q hr hq]
  unfold tot
  rw [sgn_add, sgn_sign s _ (by omega), sgn_natAbs]
theorem add_diff (s : Bool) (r q : Nat) (hr : r < 9218868437227405312) (hq : q < 9218868437227405312) (h : q < r) : addW (wd s r) (wd (!s) q) = wd s (rn (vl r - vl q)) := by
  have hp := vl_lt h
  rw [add_fin s (!s) r q hr hq]
  unfold tot
  rw [sgn_sub s _ _ (by omega), sgn_sign s _ (by omega), sgn_natAbs]
theorem add_opp (s : Bool) (r : Nat) (hr : r < 9218868437227405312) : addW (wd s r) (wd (!s) r) = 0 := by
  rw [add_fin s (!s) r r hr hr]
  unfold tot
  rw [sgn_sub s _ _ (Nat.le_refl _), Nat.sub_self, show sgn s 0 = 0 by cases s <;> rfl, if_pos rfl, show (0 : Int).natAbs = 0 from rfl]
  have : rn 0 = 0 := by have := rn_vl (r := 0) (by decide); rw [vl_zero] at this; exact this
  rw [this]
  cases s <;> rfl
theorem rn_scaled (M k : Nat) : rn (M * 2 ^ k) = rung M ((k : Int) - 1074) := by
  rw [rung_rn M _ (by omega), show ((k : Int) - 1074 + 1074).toNat = k by omega]
end Gn
end

section
namespace Go.Proofs.YthjngodkpldpfaaGreatDoor
open Go.RowKit Gn

set_option maxHeartbeats 1000000 in
theorem rmul_inf (a b x y z W : Nat) (F : MulF a b x y z) (hW : bits .or .u64 (z : Int) 9218868437227405312 = (W : Int)) (h : x ≤ 9218868437227405312 ∧ y ≤ 9218868437227405312 ∧ ((x = 9218868437227405312 ∧ y ≠ 0) ∨ (x ≠ 0 ∧ x ≠ 9218868437227405312 ∧ y = 9218868437227405312))) (w : World) :
    Calls Tryz.prog 54 #[.int .u64 (a : Int), .int .u64 (b : Int)] w fun e w' => e = .returned (.int .u64 (W : Int)) ∧ Below w.heap.size w w' := by
  obtain ⟨hx, hy, hz⟩ := F
  rcases (show (x = 9218868437227405312 ∧ y ≠ 0) ∨ (x ≠ 0 ∧ x ≠ 9218868437227405312 ∧ y = 9218868437227405312) from h.2.2) with h1 | h1
  · have b1 : decide ((9218868437227405312 : Int) < (x : Int)) = false := by simp; omega
    have b2 : decide ((9218868437227405312 : Int) < (y : Int)) = false := by simp; omega
    have b3 : ((x : Int) == 9218868437227405312) = true := eqB_t (y := 9218868437227405312) (by omega)
    have b6 : ((y : Int) == 0) = false := beqN_f (y := 0) (by omega)
    have b4 : ((x : Int) == 0) = false := beqN_f (y := 0) (by omega)
    clear h1
    clear h
    go_enter Tryz.func54, Tryz.ntmps54
    go_wp2
    go_ret
    exact ⟨rfl, Below.refl _ _⟩
  · have b1 : decide ((9218868437227405312 : Int) < (x : Int)) = false := by simp; omega
    have b2 : decide ((9218868437227405312 : Int) < (y : Int)) = false := by simp; omega
    have b3 : ((x : Int) == 9218868437227405312) = false := beqN_f (y := 9218868437227405312) (by omega)
    have b4 : ((x : Int) == 0) = false := beqN_f (y := 0) (by omega)
    have b5 : ((y : Int) == 9218868437227405312) = true := eqB_t (y := 9218868437227405312) (by omega)
    have b6 : ((y : Int) == 0) = false := beqN_f (y := 0) (by omega)
    clear h1
    clear h
    go_enter Tryz.func54, Tryz.ntmps54
    go_wp2
    go_ret
    exact ⟨rfl, Below.refl _ _⟩
set_option maxHeartbeats 1000000 in
theorem rmul_zero (a b x y z : Nat) (F : MulF a b x y z) (h : x < 9218868437227405312 ∧ y < 9218868437227405312 ∧ (x = 0 ∨ (x ≠ 0 ∧ y = 0))) (w : World) :
    Calls Tryz.prog 54 #[.int .u64 (a : Int), .int .u64 (b : Int)] w fun e w' => e = .returned (.int .u64 (z : Int)) ∧ Below w.heap.size w w' := by
  obtain ⟨hx, hy, hz⟩ := F
  rcases (show x = 0 ∨ (x ≠ 0 ∧ y = 0) from h.2.2) with h1 | h1
  · have b1 : decide ((9218868437227405312 : Int) < (x : Int)) = false := by simp; omega
    have b2 : decide ((9218868437227405312 : Int) < (y : Int)) = false := by simp; omega
    have b3 : ((x : Int) == 9218868437227405312) = false := beqN_f (y := 9218868437227405312) (by omega)
    have b4 : ((x : Int) == 0) = true := eqB_t (y := 0) (by omega)
    have b5 : ((y : Int) == 9218868437227405312) = false := beqN_f (y := 9218868437227405312) (by omega)
    clear h1
    clear h
    go_enter Tryz.func54, Tryz.ntmps54
    go_wp2
    go_ret
    exact ⟨rfl, Below.refl _ _⟩
  · have b1 : decide ((9218868437227405312 : Int) < (x : Int)) = false := by simp; omega
    have b2 : decide ((9218868437227405312 : Int) < (y : Int)) = false := by simp; omega
    have b3 : ((x : Int) == 9218868437227405312) = false := beqN_f (y := 9218868437227405312) (by omega)
    have b4 : ((x : Int) == 0) = false := beqN_f (y := 0) (by omega)
    have b5 : ((y : Int) == 9218868437227405312) = false := beqN_f (y := 9218868437227405312) (by omega)
    have b6 : ((y : Int) == 0) = true := eqB_t (y := 0) (by omega)
    clear h1
    clear h
    go_enter Tryz.func54, Tryz.ntmps54
    go_wp2
    go_ret
    exact ⟨rfl, Below.refl _ _⟩
set_option maxHeartbeats 1000000 in
theorem rmul_num (a b x y z m n W : Nat) (e f : Int) (ha : a < 18446744073709551616) (hb : b < 18446744073709551616) (F : MulF a b x y z) (h : x < 9218868437227405312 ∧ y < 9218868437227405312 ∧ x ≠ 0 ∧ y ≠ 0) (hm : tkM a = m) (he : tkE a = e) (hn : tkM b = n) (hf : tkE b = f)
    (he1 : -1074 ≤ e) (he2 : e ≤ 971) (hf1 : -1074 ≤ f) (hf2 : f ≤ 971) (hm2 : m < 18446744073709551616) (hn2 : n < 18446744073709551616)
    (HR : Hid (∀ w1 : World, Calls Tryz.prog 97 #[.int .u64 (z : Int), wn (m * n), .int .i64 (e + f), .bool false] w1 fun e' w' => e' = .returned (.int .u64 (W : Int)) ∧ Below w1.heap.size w1 w')) (w : World) :
    Calls Tryz.prog 54 #[.int .u64 (a : Int), .int .u64 (b : Int)] w fun e w' => e = .returned (.int .u64 (W : Int)) ∧ Below w.heap.size w w' := by
  obtain ⟨hx, hy, hz⟩ := F
  have b1 : decide ((9218868437227405312 : Int) < (x : Int)) = false := by simp; omega
  have b2 : decide ((9218868437227405312 : Int) < (y : Int)) = false := by simp; omega
  have b3 : ((x : Int) == 9218868437227405312) = false := beqN_f (y := 9218868437227405312) (by omega)
  have b4 : ((x : Int) == 0) = false := beqN_f (y := 0) (by omega)
  have b5 : ((y : Int) == 9218868437227405312) = false := beqN_f (y := 9218868437227405312) (by omega)
  have b6 : ((y : Int) == 0) = false := beqN_f (y := 0) (by omega)
  have HA : Hid (∀ w1 : World, Calls Tryz.prog 64 #[.int .u64 (a : Int)] w1 fun e' w' => e' = .returned (.tuple #[.int .u64 (m : Int), .int .i64 e]) ∧ w' = w1) := fun w1 => taken_as a m e ha hm he w1
  have HB : Hid (∀ w1 : World, Calls Tryz.prog 64 #[.int .u64 (b : Int)] w1 fun e' w' => e' = .returned (.tuple #[.int .u64 (n : Int), .int .i64 f]) ∧ w' = w1) := fun w1 => taken_as b n f hb hn hf w1
  clear h hm he hn hf
  go_enter Tryz.func54, Tryz.ntmps54
  go_wp2_with fail
  refine (HA.out w).mono ?_
  rintro e1 w1 ⟨rfl, rfl⟩
  go_wp2_with fail
  refine (HB.out _).mono ?_
  rintro e1 w1 ⟨rfl, rfl⟩
  go_wp2_with fail
  refine (times_any m n hm2 hn2 _).mono ?_
  rintro e1 w1 ⟨rfl, hb1⟩
  go_wp2_with fail
  refine (HR.out _).mono ?_
  rintro e1 w2 ⟨rfl, hb2⟩
  go_wp2_with fail
  go_ret
  exact ⟨rfl, bt hb1 hb2⟩

theorem mg_pos {r : Nat} (h : r ≠ 0) : mg r ≠ 0 := by
  unfold mg; split <;> omega
theorem ex_le {r : Nat} (h : r < 9218868437227405312) : ex r ≤ 2045 := by unfold ex; omega
theorem rmul_any (a b : Nat) (ha : a < 18446744073709551616) (hb : b < 18446744073709551616) (w : World) :
    Calls Tryz.prog 54 #[.int .u64 (a : Int), .int .u64 (b : Int)] w fun e w' => e = .returned (.int .u64 (mulW a b : Int)) ∧ Below w.heap.size w w' := by
  obtain ⟨s, r, hr, rfl⟩ := wd_cases a ha
  obtain ⟨t, q, hq, rfl⟩ := wd_cases b hb
  have F := mulF s t r q hr hq
  rcases (show 9218868437227405312 < r ∨ 9218868437227405312 < q ∨ (r = 9218868437227405312 ∧ q = 0) ∨ (r = 0 ∧ q = 9218868437227405312) ∨ (r = 9218868437227405312 ∧ q = 9218868437227405312) ∨ (r = 9218868437227405312 ∧ q < 9218868437227405312 ∧ q ≠ 0) ∨ (q = 9218868437227405312 ∧ r < 9218868437227405312 ∧ r ≠ 0) ∨ (r < 9218868437227405312 ∧ q < 9218868437227405312 ∧ (r = 0 ∨ q = 0)) ∨ (r < 9218868437227405312 ∧ q < 9218868437227405312 ∧ r ≠ 0 ∧ q ≠ 0) by omega) with h | h | ⟨h1, h2⟩ | ⟨h1, h2⟩ | ⟨h1, h2⟩ | ⟨h1, h2, h3⟩ | ⟨h1, h2, h3⟩ | ⟨h1, h2, h3⟩ | ⟨h1, h2, h3, h4⟩
  · rw [mul_n1 s t r q hr h]; exact rmul_nan _ _ _ _ _ F (.inl (.inl h)) w
  · rw [mul_n2 s t r q hq h]; exact rmul_nan _ _ _ _ _ F (.inl (.inr h)) w
  · subst h1; subst h2; rw [mul_iz]; exact rmul_nan _ _ _ _ _ F (.inr (.inl ⟨rfl, rfl⟩)) w
  · subst h1; subst h2; rw [mul_zi]; exact rmul_nan _ _ _ _ _ F (.inr (.inr ⟨rfl, rfl⟩)) w
  · subst h1; subst h2; rw [mul_ii]; exact rmul_inf _ _ _ _ _ _ F (or_inf _) ⟨by omega, by omega, .inl ⟨rfl, by omega⟩⟩ w
  · subst h1; rw [mul_if s t q h2 h3]; exact rmul_inf _ _ _ _ _ _ F (or_inf _) ⟨by omega, by omega, .inl ⟨rfl, h3⟩⟩ w
  · subst h1; rw [mul_fi s t r h2 h3]; exact rmul_inf _ _ _ _ _ _ F (or_inf _) ⟨by omega, by omega, .inr ⟨h3, by omega, rfl⟩⟩ w
  · rw [mul_z s t r q h1 h2 h3, wd_nought]; exact rmul_zero _ _ _ _ _ F ⟨h1, h2, by omega⟩ w
  · rw [mul_num s t r q h1 h2]
    obtain ⟨m1, m2⟩ := tk_wd s r h1
    obtain ⟨n1, n2⟩ := tk_wd t q h2
    have l1 := mg_lt r
    have l2 := mg_lt q
    have p1 := mg_pos h3
    have p2 := mg_pos h4
    have x1 := ex_le h1
    have x2 := ex_le h2
    have hne : mg r * mg q ≠ 0 := Nat.mul_ne_zero p1 p2
    have hlog : (mg r * mg q).log2 ≤ 126 := by
      have : mg r * mg q < 2 ^ 127 := by
        have h9 : mg r * mg q ≤ 9007199254740992 * 9007199254740992 := Nat.mul_le_mul (by omega) (by omega)
        have e9 : (9007199254740992 * 9007199254740992 : Nat) < 2 ^ 127 := by decide
        omega
      have := (Nat.log2_lt hne).2 this
      omega
    exact rmul_num _ _ _ _ _ _ _ _ _ _ ha hb F ⟨h1, h2, h3, h4⟩ m1 m2 n1 n2 (by omega) (by omega) (by omega) (by omega) (by omega) (by omega) (fun w1 => rounded_W (s ^^ t) (mg r * mg q) _ hne (by omega) (by omega) hlog w1) w
end Go.Proofs.YthjngodkpldpfaaGreatDoor
end
