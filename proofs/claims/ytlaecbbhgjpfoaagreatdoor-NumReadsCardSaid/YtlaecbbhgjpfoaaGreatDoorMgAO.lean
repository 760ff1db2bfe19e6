import Derived.Test.YtlaecbbhgjpfoaaGreatDoorMgAJ
import Derived.Test.YtlaecbbhgjpfoaaGreatDoorMgAC

section
namespace Go.Proofs.YtlaecbbhgjpfoaaGreatDoor
open Go.RowKit

theorem or_sgn (v : Bool) (b : Nat) (h : b < 9223372036854775808) : bits .or .u64 ((if v then 9223372036854775808 else 0 : Nat) : Int) (b : Int) = (Gn.wd v b : Int) := by
  cases v
  · rw [if_neg (by simp), u64_or_nat _ _ (by decide) (by omega), Nat.zero_or]; rfl
  · rw [if_pos rfl, u64_or_nat _ _ (by decide) (by omega)]
    have := Nat.two_pow_add_eq_or_of_lt (i := 63) h 1
    rw [Nat.mul_one] at this
    have e : 9223372036854775808 ||| b = 9223372036854775808 + b := this.symm
    rw [e]; rfl
/-- a whole number below 2^53, as the document rounds it -/
theorem rounded_M (v : Bool) (M : Nat) (h0 : M ≠ 0) (hM : M < 9007199254740992) (w : World) :
    Calls Tryz.prog 11 #[.int .u64 ((if v then 9223372036854775808 else 0 : Nat) : Int), .agg #[.int .u64 0, .int .u64 (M : Int)], .int .i64 0, .bool false] w fun e' w' => e' = .returned (.int .u64 (Gn.wd v (Gn.rn (M * Gn.UU)) : Int)) ∧ Below w.heap.size w w' := by
  have hl : M.log2 ≤ 52 := by
    have := (Nat.log2_lt (n := M) (k := 53) h0).2 (by rw [show (2 : Nat) ^ 53 = 9007199254740992 from by decide]; exact hM); omega
  have hbl : bl M = M.log2 + 1 := by unfold bl; rw [if_neg h0]
  have g1 : 2 ^ M.log2 ≤ M := Nat.log2_self_le h0
  have g2 : M < 2 ^ (M.log2 + 1) := Nat.lt_log2_self
  have hsh : M * 2 ^ (52 - M.log2) < 9007199254740992 := by
    have h3 : M * 2 ^ (52 - M.log2) < 2 ^ (M.log2 + 1) * 2 ^ (52 - M.log2) := Nat.mul_lt_mul_of_pos_right g2 (Nat.two_pow_pos _)
    rw [← Nat.pow_add, show M.log2 + 1 + (52 - M.log2) = 53 from by omega, show (2 : Nat) ^ 53 = 9007199254740992 from by decide] at h3
    exact h3
  have hrn : Gn.rn (M * Gn.UU) = (M.log2 + 1022) * 4503599627370496 + M * 2 ^ (52 - M.log2) := by
    have e1 := Gn.rung_rn M 0 (by omega)
    rw [show ((0 : Int) + 1074).toNat = 1074 from rfl, Gn.UU_def] at e1
    rw [← e1, Gn.rung_U M 0 h0]
    unfold Gn.rungU
    have e2 : max ((0 : Int) + (M.log2 : Int) - 52) (-1074) = (M.log2 : Int) - 52 := by omega
    rw [e2, show ((M.log2 : Int) - 52 + 1074).toNat = M.log2 + 1022 from by omega, show ((0 : Int) - ((M.log2 : Int) - 52)).toNat = 52 - M.log2 from by omega, show ((M.log2 : Int) - 52 - 0).toNat = 0 from by omega, Gn.rhe_zero]
    exact Nat.min_eq_left (by omega)
  have hlt := (Gn.rn_whole hM).2
  have hhi : hiN M = 0 := by unfold hiN; omega
  have hlo : loN M = M := by unfold loN; omega
  have hlo2 : loN (M * 2 ^ (52 - M.log2)) = M * 2 ^ (52 - M.log2) := by unfold loN; omega
  have := rounded_left (if v then 9223372036854775808 else 0) M (52 - M.log2) 0 ((M.log2 : Int) - 52) false (Gn.rn (M * Gn.UU)) (by decide) (by decide) (by omega) (show M < 18446744073709551616 * 18446744073709551616 by omega) w (by rw [hbl]; omega) (by omega) (by omega) (by omega) (by omega)
    (show M * 2 ^ (52 - M.log2) < 18446744073709551616 * 18446744073709551616 by omega) ((M.log2 + 1022) * 4503599627370496) (by omega) (wrap_nat _ (by omega)) (M * 2 ^ (52 - M.log2)) hlo2 (by rw [hrn]; exact wrap_nat _ (by omega)) (decide_eq_false (by omega)) _ (or_sgn v _ (by omega))
  unfold wn at this
  rw [hhi, hlo] at this
  exact this
end Go.Proofs.YtlaecbbhgjpfoaaGreatDoor
end

section
namespace Go.Proofs.YtlaecbbhgjpfoaaGreatDoor
open Go.RowKit

set_option maxHeartbeats 2000000 in
/-- without rounding, at the least place -/
theorem rounded_left_low (s W n : Nat) (e : Int) (rest : Bool) (_h1 : -4400 ≤ e) (_h2 : e ≤ 4400) (hL : bl W ≤ 128) (HW : Hid (W < 18446744073709551616 * 18446744073709551616)) (w : World)
    (hq : e + (bl W : Int) - 53 < -1074) (hqe : -1074 - e = -(n : Int)) (hn : n ≤ 127) (HN : Hid (W * 2 ^ n < 18446744073709551616 * 18446744073709551616))
    (m : Nat) (hmw : loN (W * 2 ^ n) = m) (g4 : IntKind.u64.wrap (m : Int) = (m : Int)) (g5 : decide ((9218868437227405312 : Int) ≤ (m : Int)) = false) (r : Nat) (hr : bits .or .u64 (s : Int) (m : Int) = (r : Int)) :
    Calls Tryz.prog 11 #[.int .u64 (s : Int), wn W, .int .i64 e, .bool rest] w fun e' w' => e' = .returned (.int .u64 (r : Int)) ∧ Below w.heap.size w w' := by
  go_enter Tryz.func11, Tryz.ntmps11
  go_wp2_with fail
  refine (length_n W HW.out _).mono ?_
  rintro e' w1 ⟨rfl, hb1⟩
  obtain ⟨p0, p1, p2, p3, p4⟩ := keep2 (B := w.heap.size) hb1 (by simp) (by simp; rfl) (by simp; rfl) (by simp) (by simp)
  go_wp2_with fail
  refine (left_n W n hn HN.out _).mono ?_
  rintro e' w2 ⟨rfl, hb2⟩
  clear HN HW
  generalize W * 2 ^ n = V at *
  obtain ⟨t0, t1, t2, t3, t4⟩ := keep2 (B := w1.heap.size) hb2 (by simp) (by simp; rfl) (by simp; rfl) (by simp) (by simp)
  go_wp2_with fail
  go_ret
  have B1 := ((Below.refl w.heap.size w).alloc (Nat.le_refl _) _).trans (hb1.mono (by simp))
  have hs1 := B1.size
  have B3 := (B1.alloc hs1 _).trans (hb2.mono (by simp; omega))
  exact ⟨rfl, (B3.setCell (p := ⟨w1.heap.size, 0, none⟩) hs1 _).setCell (p := ⟨w1.heap.size, 1, none⟩) hs1 _⟩
set_option maxHeartbeats 2000000 in
/-- without rounding, beyond the greatest place -/
theorem rounded_left_inf (s W n : Nat) (e q : Int) (rest : Bool) (_h1 : -4400 ≤ e) (_h2 : e ≤ 4400) (hL : bl W ≤ 128) (HW : Hid (W < 18446744073709551616 * 18446744073709551616)) (w : World)
    (hq : e + (bl W : Int) - 53 = q) (hq2 : 971 < q) (hqe : q - e = -(n : Int)) (hn : n ≤ 127) (HN : Hid (W * 2 ^ n < 18446744073709551616 * 18446744073709551616))
    (r : Nat) (hr : bits .or .u64 (s : Int) 9218868437227405312 = (r : Int)) :
    Calls Tryz.prog 11 #[.int .u64 (s : Int), wn W, .int .i64 e, .bool rest] w fun e' w' => e' = .returned (.int .u64 (r : Int)) ∧ Below w.heap.size w w' := by
  go_enter Tryz.func11, Tryz.ntmps11
  go_wp2_with fail
  refine (length_n W HW.out _).mono ?_
  rintro e' w1 ⟨rfl, hb1⟩
  obtain ⟨p0, p1, p2, p3, p4⟩ := keep2 (B := w.heap.size) hb1 (by simp) (by simp; rfl) (by simp; rfl) (by simp) (by simp)
  go_wp2_with fail
  refine (left_n W n hn HN.out _).mono ?_
  rintro e' w2 ⟨rfl, hb2⟩
  clear HN HW
  generalize W * 2 ^ n = V at *
  obtain ⟨t0, t1, t2, t3, t4⟩ := keep2 (B := w1.heap.size) hb2 (by simp) (by simp; rfl) (by simp; rfl) (by simp) (by simp)
  go_wp2_with fail
  go_ret
  have B1 := ((Below.refl w.heap.size w).alloc (Nat.le_refl _) _).trans (hb1.mono (by simp))
  have hs1 := B1.size
  have B3 := (B1.alloc hs1 _).trans (hb2.mono (by simp; omega))
  exact ⟨rfl, (B3.setCell (p := ⟨w1.heap.size, 0, none⟩) hs1 _).setCell (p := ⟨w1.heap.size, 1, none⟩) hs1 _⟩
end Go.Proofs.YtlaecbbhgjpfoaaGreatDoor
end
