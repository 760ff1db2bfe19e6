import Derived.Test.YtdklpgkheakapaaGreatDoorRoundB
namespace Go.Proofs.YtdklpgkheakapaaGreatDoor
open Go.RowKit

set_option maxHeartbeats 2000000 in
/-- without rounding, at the least place -/
theorem rounded_left_low (s W n : Nat) (e : Int) (rest : Bool) (_h1 : -4400 ≤ e) (_h2 : e ≤ 4400) (hL : bl W ≤ 128) (HW : Hid (W < 18446744073709551616 * 18446744073709551616)) (w : World)
    (hq : e + (bl W : Int) - 53 < -1074) (hqe : -1074 - e = -(n : Int)) (hn : n ≤ 127) (HN : Hid (W * 2 ^ n < 18446744073709551616 * 18446744073709551616))
    (m : Nat) (hmw : loN (W * 2 ^ n) = m) (g4 : IntKind.u64.wrap (m : Int) = (m : Int)) (g5 : decide ((9218868437227405312 : Int) ≤ (m : Int)) = false) (r : Nat) (hr : bits .or .u64 (s : Int) (m : Int) = (r : Int)) :
    Calls Tryz.prog 48 #[.int .u64 (s : Int), wn W, .int .i64 e, .bool rest] w fun e' w' => e' = .returned (.int .u64 (r : Int)) ∧ Below w.heap.size w w' := by
  go_enter Tryz.func48, Tryz.ntmps48
  go_wp2_with fail
  refine (length_n W HW.out _).mono ?_
  rintro e' w1 ⟨rfl, hb1⟩
  obtain ⟨p0, p1, p2, p3, p4⟩ := keep2 (B := w.heap.size) hb1 (by simp) (by simp; rfl) (by simp; rfl) (by simp) (by simp)
  go_wp2_with fail
  refine (left_n W n hn HN.out _).mono ?_
  rintro e' w2 ⟨rfl, hb2⟩
  clear HN HW
  generalize W * 2 ^ n = V at *
  obtain ⟨t0, t1, t2, t3, t4⟩ := keep2 (B := w1.heap.size) hb2 (by simp) (by simp; rfl) (by simp; rfl) (by simp) (by simp)
  go_wp2_with fail
  go_ret
  have B1 := ((Below.refl w.heap.size w).alloc (Nat.le_refl _) _).trans (hb1.mono (by simp))
  have hs1 := B1.size
  have B3 := (B1.alloc hs1 _).trans (hb2.mono (by simp; omega))
  exact ⟨rfl, (B3.setCell (p := ⟨w1.heap.size, 0, none⟩) hs1 _).setCell (p := ⟨w1.heap.size, 1, none⟩) hs1 _⟩
set_option maxHeartbeats 2000000 in
/-- without rounding, beyond the greatest place -/
theorem rounded_left_inf (s W n : Nat) (e q : Int) (rest : Bool) (_h1 : -4400 ≤ e) (_h2 : e ≤ 4400) (hL : bl W ≤ 128) (HW : Hid (W < 18446744073709551616 * 18446744073709551616)) (w : World)
    (hq : e + (bl W : Int) - 53 = q) (hq2 : 971 < q) (hqe : q - e = -(n : Int)) (hn : n ≤ 127) (HN : Hid (W * 2 ^ n < 18446744073709551616 * 18446744073709551616))
    (r : Nat) (hr : bits .or .u64 (s : Int) 9218868437227405312 = (r : Int)) :
    Calls Tryz.prog 48 #[.int .u64 (s : Int), wn W, .int .i64 e, .bool rest] w fun e' w' => e' = .returned (.int .u64 (r : Int)) ∧ Below w.heap.size w w' := by
  go_enter Tryz.func48, Tryz.ntmps48
  go_wp2_with fail
  refine (length_n W HW.out _).mono ?_
  rintro e' w1 ⟨rfl, hb1⟩
  obtain ⟨p0, p1, p2, p3, p4⟩ := keep2 (B := w.heap.size) hb1 (by simp) (by simp; rfl) (by simp; rfl) (by simp) (by simp)
  go_wp2_with fail
  refine (left_n W n hn HN.out _).mono ?_
  rintro e' w2 ⟨rfl, hb2⟩
  clear HN HW
  generalize W * 2 ^ n = V at *
  obtain ⟨t0, t1, t2, t3, t4⟩ := keep2 (B := w1.heap.size) hb2 (by simp) (by simp; rfl) (by simp; rfl) (by simp) (by simp)
  go_wp2_with fail
  go_ret
  have B1 := ((Below.refl w.heap.size w).alloc (Nat.le_refl _) _).trans (hb1.mono (by simp))
  have hs1 := B1.size
  have B3 := (B1.alloc hs1 _).trans (hb2.mono (by simp; omega))
  exact ⟨rfl, (B3.setCell (p := ⟨w1.heap.size, 0, none⟩) hs1 _).setCell (p := ⟨w1.heap.size, 1, none⟩) hs1 _⟩
end Go.Proofs.YtdklpgkheakapaaGreatDoor
