import Derived.Test.YtdklpgkheakapaaGreatDoorTimA
namespace Gn
open Ieee
theorem mul_n1 (s t : Bool) (r q : Nat) (hr : r < 9223372036854775808) (h : 9218868437227405312 < r) : mulW (wd s r) (wd t q) = 9221120237041090561 := by
  rw [mul_ans, read_wd s r hr]
  have e : rd s r = .nan s (r - 9218868437227405312) := by unfold rd; rw [if_neg (by omega), if_neg (by omega), if_neg (by omega)]
  rw [e]
  cases double.read (wd t q) <;> rfl
theorem mul_n2 (s t : Bool) (r q : Nat) (hq : q < 9223372036854775808) (h : 9218868437227405312 < q) : mulW (wd s r) (wd t q) = 9221120237041090561 := by
  rw [mul_ans, read_wd t q hq]
  have e : rd t q = .nan t (q - 9218868437227405312) := by unfold rd; rw [if_neg (by omega), if_neg (by omega), if_neg (by omega)]
  rw [e]
  cases double.read (wd s r) <;> rfl
theorem rd_zero (s : Bool) : rd s 0 = .number s 0 (-1074) := by unfold rd; rw [if_pos (by decide)]
theorem mul_iz (s t : Bool) : mulW (wd s 9218868437227405312) (wd t 0) = 9221120237041090561 := by
  rw [mul_ans, read_wd s _ (by decide), read_wd t _ (by decide), rd_inf, rd_zero]; rfl
theorem mul_zi (s t : Bool) : mulW (wd s 0) (wd t 9218868437227405312) = 9221120237041090561 := by
  rw [mul_ans, read_wd s _ (by decide), read_wd t _ (by decide), rd_inf, rd_zero]; rfl
theorem mul_ii (s t : Bool) : mulW (wd s 9218868437227405312) (wd t 9218868437227405312) = wd (s ^^ t) 9218868437227405312 := by
  rw [mul_ans, read_wd s _ (by decide), read_wd t _ (by decide), rd_inf, rd_inf]
  cases s <;> cases t <;> decide
theorem rd_fin {s : Bool} {r : Nat} (hr : r < 9218868437227405312) (h0 : r ≠ 0) : ∃ m e, m ≠ 0 ∧ rd s r = .number s m e := by
  unfold rd
  by_cases h : r < 4503599627370496
  · rw [if_pos h]; exact ⟨r, _, h0, rfl⟩
  · rw [if_neg h, if_pos hr]; exact ⟨_, _, by omega, rfl⟩
theorem ans_inf (s : Bool) : ans (some (.infinity s)) = wd s 9218868437227405312 := by cases s <;> decide
theorem mul_if (s t : Bool) (q : Nat) (hq : q < 9218868437227405312) (h0 : q ≠ 0) : mulW (wd s 9218868437227405312) (wd t q) = wd (s ^^ t) 9218868437227405312 := by
  obtain ⟨m, e, hm, he⟩ := rd_fin (s := t) hq h0
  rw [mul_ans, read_wd s _ (by decide), read_wd t q (by omega), rd_inf, he, ← ans_inf]
  show ans (if m = 0 then none else some (.infinity (s ^^ t))) = _
  rw [if_neg hm]
theorem mul_fi (s t : Bool) (q : Nat) (hq : q < 9218868437227405312) (h0 : q ≠ 0) : mulW (wd s q) (wd t 9218868437227405312) = wd (s ^^ t) 9218868437227405312 := by
  obtain ⟨m, e, hm, he⟩ := rd_fin (s := s) hq h0
  rw [mul_ans, read_wd t _ (by decide), read_wd s q (by omega), rd_inf, he, ← ans_inf]
  show ans (if m = 0 then none else some (.infinity (t ^^ s))) = _
  rw [if_neg hm, Bool.xor_comm]
theorem mul_z (s t : Bool) (r q : Nat) (hr : r < 9218868437227405312) (hq : q < 9218868437227405312) (h : r = 0 ∨ q = 0) : mulW (wd s r) (wd t q) = wd (s ^^ t) 0 := by
  rw [mul_fin s t r q hr hq]
  have e : vl r * vl q = 0 := by
    rcases h with rfl | rfl
    · rw [vl_zero, Nat.zero_mul]
    · rw [vl_zero, Nat.mul_zero]
  rw [e]
  rfl
theorem mul_num (s t : Bool) (r q : Nat) (hr : r < 9218868437227405312) (hq : q < 9218868437227405312) : mulW (wd s r) (wd t q) = wd (s ^^ t) (rung (mg r * mg q) (((ex r : Int) - 1074) + ((ex q : Int) - 1074))) := by
  rw [mul_fin s t r q hr hq, vl_mg, vl_mg]
  congr 1
  have h := rung_shift (mg r * mg q) (ex r + ex q) ((ex r : Int) - 1074 + ((ex q : Int) - 1074))
  rw [← h]
  congr 1
  · rw [Nat.pow_add]; ac_rfl
  · omega
end Gn
namespace Go.Proofs.YtdklpgkheakapaaGreatDoor
open Go.RowKit Gn
theorem xor_top (s t : Bool) (r q : Nat) (hr : r < 9223372036854775808) (hq : q < 9223372036854775808) : bits .and .u64 (bits .xor .u64 (wd s r : Int) (wd t q : Int)) 9223372036854775808 = (sg (s ^^ t) : Int) := by
  have ha := wd_lt s r hr
  have hb := wd_lt t q hq
  have hx : wd s r ^^^ wd t q < 18446744073709551616 := Nat.xor_lt_two_pow (n := 64) ha hb
  have h1 := top_wd s r hr
  have h2 := top_wd t q hq
  rw [show (9223372036854775808 : Int) = ((9223372036854775808 : Nat) : Int) from rfl, u64_and_nat _ _ ha (by decide)] at h1
  rw [show (9223372036854775808 : Int) = ((9223372036854775808 : Nat) : Int) from rfl, u64_and_nat _ _ hb (by decide)] at h2
  rw [u64_xor_nat _ _ ha hb, show (9223372036854775808 : Int) = ((9223372036854775808 : Nat) : Int) from rfl, u64_and_nat _ _ hx (by decide), Nat.and_xor_distrib_right]
  have e1 : wd s r &&& 9223372036854775808 = sg s := by apply Int.ofNat.inj; show ((wd s r &&& 9223372036854775808 : Nat) : Int) = _; rw [h1]; cases s <;> rfl
  have e2 : wd t q &&& 9223372036854775808 = sg t := by apply Int.ofNat.inj; show ((wd t q &&& 9223372036854775808 : Nat) : Int) = _; rw [h2]; cases t <;> rfl
  rw [e1, e2]
  cases s <;> cases t <;> decide
theorem or_inf (v : Bool) : bits .or .u64 (sg v : Int) 9218868437227405312 = (wd v 9218868437227405312 : Int) := by cases v <;> decide

/-- the answer of Mul at two words, as its ways need it -/
structure MulF (a b x y z : Nat) : Prop where
  hx : bits .andNot .u64 (a : Int) 9223372036854775808 = (x : Int)
  hy : bits .andNot .u64 (b : Int) 9223372036854775808 = (y : Int)
  hz : bits .and .u64 (bits .xor .u64 (a : Int) (b : Int)) 9223372036854775808 = (z : Int)
theorem mulF (s t : Bool) (r q : Nat) (hr : r < 9223372036854775808) (hq : q < 9223372036854775808) : MulF (wd s r) (wd t q) r q (sg (s ^^ t)) :=
  ⟨by rw [abs_andNot _ (wd_lt s r hr), wd_mod s r hr], by rw [abs_andNot _ (wd_lt t q hq), wd_mod t q hq], xor_top s t r q hr hq⟩
theorem eqB_t {x y : Nat} (h : x = y) : ((x : Int) == (y : Int)) = true := by subst h; simp

set_option maxHeartbeats 1000000 in
theorem rmul_nan (a b x y z : Nat) (F : MulF a b x y z) (h : (9218868437227405312 < x ∨ 9218868437227405312 < y) ∨ (x = 9218868437227405312 ∧ y = 0) ∨ (x = 0 ∧ y = 9218868437227405312)) (w : World) :
    Calls Tryz.prog 15 #[.int .u64 (a : Int), .int .u64 (b : Int)] w fun e w' => e = .returned (.int .u64 9221120237041090561) ∧ Below w.heap.size w w' := by
  obtain ⟨hx, hy, hz⟩ := F
  rcases (show 9218868437227405312 < x ∨ (¬ 9218868437227405312 < x ∧ 9218868437227405312 < y) ∨ (¬ 9218868437227405312 < x ∧ ¬ 9218868437227405312 < y ∧ x = 9218868437227405312 ∧ y = 0) ∨ (¬ 9218868437227405312 < x ∧ ¬ 9218868437227405312 < y ∧ x ≠ 9218868437227405312 ∧ x = 0 ∧ y = 9218868437227405312) by omega) with h1 | ⟨h1, h2⟩ | ⟨h1, h2, h3, h4⟩ | ⟨h1, h2, h3, h4, h5⟩
  · have b1 : decide ((9218868437227405312 : Int) < (x : Int)) = true := by simp; omega
    clear h h1
    go_enter Tryz.func15, Tryz.ntmps15
    go_wp2
    go_ret
    exact ⟨rfl, Below.refl _ _⟩
  · have b1 : decide ((9218868437227405312 : Int) < (x : Int)) = false := by simp; omega
    have b2 : decide ((9218868437227405312 : Int) < (y : Int)) = true := by simp; omega
    clear h h1 h2
    go_enter Tryz.func15, Tryz.ntmps15
    go_wp2
    go_ret
    exact ⟨rfl, Below.refl _ _⟩
  · have b1 : decide ((9218868437227405312 : Int) < (x : Int)) = false := by simp; omega
    have b2 : decide ((9218868437227405312 : Int) < (y : Int)) = false := by simp; omega
    have b3 : ((x : Int) == 9218868437227405312) = true := eqB_t (y := 9218868437227405312) h3
    have b4 : ((y : Int) == 0) = true := eqB_t (y := 0) h4
    clear h h1 h2 h3 h4
    go_enter Tryz.func15, Tryz.ntmps15
    go_wp2
    go_ret
    exact ⟨rfl, Below.refl _ _⟩
  · have b1 : decide ((9218868437227405312 : Int) < (x : Int)) = false := by simp; omega
    have b2 : decide ((9218868437227405312 : Int) < (y : Int)) = false := by simp; omega
    have b3 : ((x : Int) == 9218868437227405312) = false := beqN_f (y := 9218868437227405312) h3
    have b4 : ((x : Int) == 0) = true := eqB_t (y := 0) h4
    have b5 : ((y : Int) == 9218868437227405312) = true := eqB_t (y := 9218868437227405312) h5
    clear h h1 h2 h3 h4 h5
    go_enter Tryz.func15, Tryz.ntmps15
    go_wp2
    go_ret
    exact ⟨rfl, Below.refl _ _⟩
end Go.Proofs.YtdklpgkheakapaaGreatDoor
