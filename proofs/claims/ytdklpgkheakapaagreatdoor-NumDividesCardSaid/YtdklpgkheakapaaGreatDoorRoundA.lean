import Derived.Test.YtdklpgkheakapaaGreatDoorWideD
import Derived.Deep.RegionWith
namespace Go.Proofs.YtdklpgkheakapaaGreatDoor
open Go.RowKit

abbrev wn (V : Nat) : Value := .agg #[.int .u64 (hiN V : Int), .int .u64 (loN V : Int)]
theorem wW_wn (V : Nat) : wW V = wn V := rfl
theorem length_n (W : Nat) (hW : W < 18446744073709551616 * 18446744073709551616) (w : World) :
    Calls Tryz.prog 64 #[wn W] w fun e w' => e = .returned (.int .i64 (bl W : Int)) ∧ Below w.heap.size w w' := by
  have := length_W W hW w; rw [wW_wn] at this; exact this
theorem left_n (W n : Nat) (hn : n ≤ 127) (hW : W * 2 ^ n < 18446744073709551616 * 18446744073709551616) (w : World) :
    Calls Tryz.prog 47 #[wn W, .int .i64 (n : Int)] w fun e w' => e = .returned (wn (W * 2 ^ n)) ∧ Below w.heap.size w w' := by
  have := left_W W n hn hW w; rw [wW_wn, wW_wn] at this; exact this
theorem right_n (W n : Nat) (hn : n ≤ 127) (h0 : 1 ≤ n) (hW : W < 18446744073709551616 * 18446744073709551616) (w : World) :
    Calls Tryz.prog 65 #[wn W, .int .i64 (n : Int)] w fun e w' => e = .returned (wn (W / 2 ^ n)) ∧ Below w.heap.size w w' := by
  have := right_W W n hn h0 hW w; rw [wW_wn, wW_wn] at this; exact this
theorem minus_n (W V : Nat) (h : V ≤ W) (hW : W < 18446744073709551616 * 18446744073709551616) (w : World) :
    Calls Tryz.prog 50 #[wn W, wn V] w fun e w' => e = .returned (wn (W - V)) ∧ Below w.heap.size w w' := by
  have := minus_W W V h hW w; rw [wW_wn, wW_wn, wW_wn] at this; exact this
theorem less_n (W V : Nat) (w : World) :
    Calls Tryz.prog 66 #[wn W, wn V] w fun e w' => e = .returned (.bool (decide (W < V))) ∧ Below w.heap.size w w' := by
  have := less_W W V w; rw [wW_wn, wW_wn] at this; exact this

/-- the facts of a box that a later world keeps -/
theorem keep2 {a b : World} {B : Nat} {x y : Value} (hb : Below a.heap.size a b) (hB : B < a.heap.size) (h0 : a.cell? ⟨B, 0, none⟩ = some x) (h1 : a.cell? ⟨B, 1, none⟩ = some y) (f0 : a.frozen? ⟨B, 0, none⟩ = false) (f1 : a.frozen? ⟨B, 1, none⟩ = false) :
    b.cell? ⟨B, 0, none⟩ = some x ∧ b.cell? ⟨B, 1, none⟩ = some y ∧ b.frozen? ⟨B, 0, none⟩ = false ∧ b.frozen? ⟨B, 1, none⟩ = false ∧ B < b.heap.size :=
  ⟨by rw [hb.cell (p := ⟨B, 0, none⟩) hB]; exact h0, by rw [hb.cell (p := ⟨B, 1, none⟩) hB]; exact h1, by rw [hb.frozen (p := ⟨B, 0, none⟩) hB]; exact f0, by rw [hb.frozen (p := ⟨B, 1, none⟩) hB]; exact f1, Nat.lt_of_lt_of_le hB hb.size⟩

set_option maxHeartbeats 2000000 in
theorem rounded_far (s W : Nat) (e : Int) (rest : Bool) (h1 : -4400 ≤ e) (h2 : e ≤ 4400) (hL : bl W ≤ 128) (HW : Hid (W < 18446744073709551616 * 18446744073709551616))
    (hq : e + (bl W : Int) - 53 < -1074) (hn : (127 : Int) < -1074 - e) (w : World) :
    Calls Tryz.prog 48 #[.int .u64 (s : Int), wn W, .int .i64 e, .bool rest] w fun e' w' => e' = .returned (.int .u64 (s : Int)) ∧ Below w.heap.size w w' := by
  go_enter Tryz.func48, Tryz.ntmps48
  go_wp2_with fail
  refine (length_n W HW.out _).mono ?_
  rintro e' w1 ⟨rfl, hb1⟩
  go_wp2_with fail
  go_ret
  exact ⟨rfl, ((Below.refl _ _).alloc (Nat.le_refl _) _).trans (hb1.mono (by simp))⟩
set_option maxHeartbeats 2000000 in
/-- without rounding: the amount is shifted up -/
theorem rounded_left (s W n : Nat) (e q : Int) (rest : Bool) (b : Nat) (_h1 : -4400 ≤ e) (_h2 : e ≤ 4400) (hL : bl W ≤ 128) (HW : Hid (W < 18446744073709551616 * 18446744073709551616)) (w : World)
    (hq : e + (bl W : Int) - 53 = q) (hq1 : -1074 ≤ q) (hq2 : q ≤ 971) (hqe : q - e = -(n : Int)) (hn : n ≤ 127) (HN : Hid (W * 2 ^ n < 18446744073709551616 * 18446744073709551616))
    (x : Nat) (hx : (q + 1074) * 4503599627370496 = (x : Int)) (hx2 : IntKind.u64.wrap (x : Int) = (x : Int)) (m : Nat) (hmw : loN (W * 2 ^ n) = m) (hb : IntKind.u64.wrap ((x : Int) + (m : Int)) = (b : Int)) (hbi : decide ((9218868437227405312 : Int) ≤ (b : Int)) = false) (r : Nat) (hr : bits .or .u64 (s : Int) (b : Int) = (r : Int)) :
    Calls Tryz.prog 48 #[.int .u64 (s : Int), wn W, .int .i64 e, .bool rest] w fun e' w' => e' = .returned (.int .u64 (r : Int)) ∧ Below w.heap.size w w' := by
  go_enter Tryz.func48, Tryz.ntmps48
  go_wp2_with fail
  refine (length_n W HW.out _).mono ?_
  rintro e' w1 ⟨rfl, hb1⟩
  obtain ⟨p0, p1, p2, p3, p4⟩ := keep2 (B := w.heap.size) hb1 (by simp) (by simp; rfl) (by simp; rfl) (by simp) (by simp)
  go_wp2_with fail
  refine (left_n W n hn HN.out _).mono ?_
  rintro e' w2 ⟨rfl, hb2⟩
  clear HN HW
  generalize W * 2 ^ n = V at *
  obtain ⟨t0, t1, t2, t3, t4⟩ := keep2 (B := w1.heap.size) hb2 (by simp) (by simp; rfl) (by simp; rfl) (by simp) (by simp)
  go_wp2_with fail
  go_ret
  have B1 := ((Below.refl w.heap.size w).alloc (Nat.le_refl _) _).trans (hb1.mono (by simp))
  have hs1 := B1.size
  have B3 := (B1.alloc hs1 _).trans (hb2.mono (by simp; omega))
  exact ⟨rfl, (B3.setCell (p := ⟨w1.heap.size, 0, none⟩) hs1 _).setCell (p := ⟨w1.heap.size, 1, none⟩) hs1 _⟩
end Go.Proofs.YtdklpgkheakapaaGreatDoor
