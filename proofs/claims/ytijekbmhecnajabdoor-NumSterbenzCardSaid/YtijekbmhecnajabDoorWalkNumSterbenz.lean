import Derived.Test.YtijekbmhecnajabDoorOrdF
import Derived.Test.YtijekbmhecnajabDoorMathG
import Derived.Test.YtijekbmhecnajabDoorWalkJ
namespace Go.Proofs.YtijekbmhecnajabDoor
open Go.RowKit

theorem wd_false (r : Nat) : Gn.wd false r = r := rfl
theorem lt_pos {x q : Nat} (hx : x ≤ 9218868437227405312) (hq : q ≤ 9218868437227405312) : ltW x q = decide (Gn.vl x < Gn.vl q) := by
  have := order_wd false false x q hx hq
  unfold ltW
  rw [show (x : Nat) = Gn.wd false x from rfl, show (q : Nat) = Gn.wd false q from rfl, this, cmp_is_lt]
  have e : Gn.sgn false (Gn.vl x) < Gn.sgn false (Gn.vl q) ↔ Gn.vl x < Gn.vl q := by rw [Gn.sgn_f, Gn.sgn_f]; omega
  simp only [e]; rfl
theorem dbl_word {r : Nat} (hr : r < 9218868437227405312) (h0 : r ≠ 0) : Gn.addW r r = Gn.rn (2 * Gn.vl r) := by
  have := Gn.add_fin false false r r hr hr
  have hT : Gn.tot false false r r = ((2 * Gn.vl r : Nat) : Int) := by unfold Gn.tot; rw [Gn.sgn_f]; omega
  have hp := Gn.vl_pos (Nat.pos_of_ne_zero h0)
  rw [hT, if_neg (by omega), Int.natAbs_natCast, decide_eq_false (by omega)] at this
  rw [wd_false, wd_false] at this
  exact this
theorem near_of {r q : Nat} (hr : r < 9218868437227405312) (hq : q < 9218868437227405312) (h0 : r ≠ 0) (h : ltW (Gn.addW r r) q = false) : Gn.vl q ≤ 2 * Gn.vl r := by
  rw [dbl_word hr h0, lt_pos (Gn.rn_le _) (by omega)] at h
  have h1 : ¬ Gn.vl (Gn.rn (2 * Gn.vl r)) < Gn.vl q := of_decide_eq_false h
  have := Gn.vl_lt hq
  rcases Gn.dbl r with h2 | ⟨h2, _⟩ <;> omega
theorem sub_pos' {q : Nat} (hq : q < 9218868437227405312) (a : Nat) : Gn.subW a q = Gn.addW a (Gn.wd true q) := by
  unfold Gn.subW
  rw [show Gn.negW q = Gn.wd true q from by
    have := Gn.neg_wd false q (by omega); rw [if_neg (by omega), wd_false] at this; exact this]
theorem sterbenz {r q : Nat} (hr : r < 9218868437227405312) (hq : q < 9218868437227405312) (h0 : r ≠ 0) (h0' : q ≠ 0) (h1 : ltW (Gn.addW r r) q = false) (h2 : ltW (Gn.addW q q) r = false) : Gn.addW (Gn.subW r q) q = r := by
  rw [sub_pos' hq]
  have := Gn.back_near hr hq (near_of hr hq h0 h1) (near_of hq hr h0' h2)
  rw [wd_false, wd_false] at this
  exact this

set_option maxHeartbeats 1000000 in
theorem numSterbenz_a0 (a : Nat) (b : Nat) (h1 : ((a : Int) == 0) = true) (w : World) (hT : TabC w) :
    Calls Tryd.prog 5 #[.int .u64 (a : Int), .int .u64 (b : Int)] w fun e w' => e = .returned (.bool true) ∧ Below w.heap.size w w' := by
  go_enter Tryd.func5, Tryd.ntmps5
  go_wp2_with (first
    | (go_at_call 12; refine (add_any _ _ _).mono ?_; rintro e wx ⟨rfl, nx, rfl⟩)
    | (go_at_call 11; refine (sub_any _ _ (by omega) _).mono ?_; rintro e wx ⟨rfl, nx, rfl⟩)
    | (go_at_call 15; refine (less_any _ _ _).mono ?_; rintro e wx ⟨rfl, rfl⟩)
    | (go_at_call 9; refine (awake_true _ (hT)).mono ?_; rintro e w2 ⟨rfl, hb2⟩))
  go_ret
  exact ⟨rfl, hb2⟩
set_option maxHeartbeats 1000000 in
theorem numSterbenz_b0 (a : Nat) (b : Nat) (h1 : ((a : Int) == 0) = false) (h2 : ((b : Int) == 0) = true) (w : World) (hT : TabC w) :
    Calls Tryd.prog 5 #[.int .u64 (a : Int), .int .u64 (b : Int)] w fun e w' => e = .returned (.bool true) ∧ Below w.heap.size w w' := by
  go_enter Tryd.func5, Tryd.ntmps5
  go_wp2_with (first
    | (go_at_call 12; refine (add_any _ _ _).mono ?_; rintro e wx ⟨rfl, nx, rfl⟩)
    | (go_at_call 11; refine (sub_any _ _ (by omega) _).mono ?_; rintro e wx ⟨rfl, nx, rfl⟩)
    | (go_at_call 15; refine (less_any _ _ _).mono ?_; rintro e wx ⟨rfl, rfl⟩)
    | (go_at_call 9; refine (awake_true _ (hT)).mono ?_; rintro e w2 ⟨rfl, hb2⟩))
  go_ret
  exact ⟨rfl, hb2⟩
set_option maxHeartbeats 1000000 in
theorem numSterbenz_ai (a : Nat) (b : Nat) (h1 : ((a : Int) == 0) = false) (h2 : ((b : Int) == 0) = false) (h3 : (9218868437227405312 : Int) ≤ a) (w : World) (hT : TabC w) :
    Calls Tryd.prog 5 #[.int .u64 (a : Int), .int .u64 (b : Int)] w fun e w' => e = .returned (.bool true) ∧ Below w.heap.size w w' := by
  go_enter Tryd.func5, Tryd.ntmps5
  go_wp2_with (first
    | (go_at_call 12; refine (add_any _ _ _).mono ?_; rintro e wx ⟨rfl, nx, rfl⟩)
    | (go_at_call 11; refine (sub_any _ _ (by omega) _).mono ?_; rintro e wx ⟨rfl, nx, rfl⟩)
    | (go_at_call 15; refine (less_any _ _ _).mono ?_; rintro e wx ⟨rfl, rfl⟩)
    | (go_at_call 9; refine (awake_true _ (hT)).mono ?_; rintro e w2 ⟨rfl, hb2⟩))
  go_ret
  exact ⟨rfl, hb2⟩
set_option maxHeartbeats 1000000 in
theorem numSterbenz_bi (a : Nat) (b : Nat) (h1 : ((a : Int) == 0) = false) (h2 : ((b : Int) == 0) = false) (h3 : (a : Int) < 9218868437227405312) (h4 : (9218868437227405312 : Int) ≤ b) (w : World) (hT : TabC w) :
    Calls Tryd.prog 5 #[.int .u64 (a : Int), .int .u64 (b : Int)] w fun e w' => e = .returned (.bool true) ∧ Below w.heap.size w w' := by
  go_enter Tryd.func5, Tryd.ntmps5
  go_wp2_with (first
    | (go_at_call 12; refine (add_any _ _ _).mono ?_; rintro e wx ⟨rfl, nx, rfl⟩)
    | (go_at_call 11; refine (sub_any _ _ (by omega) _).mono ?_; rintro e wx ⟨rfl, nx, rfl⟩)
    | (go_at_call 15; refine (less_any _ _ _).mono ?_; rintro e wx ⟨rfl, rfl⟩)
    | (go_at_call 9; refine (awake_true _ (hT)).mono ?_; rintro e w2 ⟨rfl, hb2⟩))
  go_ret
  exact ⟨rfl, hb2⟩
set_option maxHeartbeats 1000000 in
theorem numSterbenz_l1 (a : Nat) (b : Nat) (h1 : ((a : Int) == 0) = false) (h2 : ((b : Int) == 0) = false) (h3 : (a : Int) < 9218868437227405312) (h4 : (b : Int) < 9218868437227405312) (h5 : ltW (Gn.addW a a) b = true) (w : World) (hT : TabC w) :
    Calls Tryd.prog 5 #[.int .u64 (a : Int), .int .u64 (b : Int)] w fun e w' => e = .returned (.bool true) ∧ Below w.heap.size w w' := by
  go_enter Tryd.func5, Tryd.ntmps5
  go_wp2_with (first
    | (go_at_call 12; refine (add_any _ _ _).mono ?_; rintro e wx ⟨rfl, nx, rfl⟩)
    | (go_at_call 11; refine (sub_any _ _ (by omega) _).mono ?_; rintro e wx ⟨rfl, nx, rfl⟩)
    | (go_at_call 15; refine (less_any _ _ _).mono ?_; rintro e wx ⟨rfl, rfl⟩)
    | (go_at_call 9; refine (awake_true _ (hT)).mono ?_; rintro e w2 ⟨rfl, hb2⟩))
  go_ret
  exact ⟨rfl, bt hb2 (bd _ _)⟩
set_option maxHeartbeats 1000000 in
theorem numSterbenz_l2 (a : Nat) (b : Nat) (h1 : ((a : Int) == 0) = false) (h2 : ((b : Int) == 0) = false) (h3 : (a : Int) < 9218868437227405312) (h4 : (b : Int) < 9218868437227405312) (h5 : ltW (Gn.addW a a) b = false) (h6 : ltW (Gn.addW b b) a = true) (w : World) (hT : TabC w) :
    Calls Tryd.prog 5 #[.int .u64 (a : Int), .int .u64 (b : Int)] w fun e w' => e = .returned (.bool true) ∧ Below w.heap.size w w' := by
  go_enter Tryd.func5, Tryd.ntmps5
  go_wp2_with (first
    | (go_at_call 12; refine (add_any _ _ _).mono ?_; rintro e wx ⟨rfl, nx, rfl⟩)
    | (go_at_call 11; refine (sub_any _ _ (by omega) _).mono ?_; rintro e wx ⟨rfl, nx, rfl⟩)
    | (go_at_call 15; refine (less_any _ _ _).mono ?_; rintro e wx ⟨rfl, rfl⟩)
    | (go_at_call 9; refine (awake_true _ (hT)).mono ?_; rintro e w2 ⟨rfl, hb2⟩))
  go_ret
  exact ⟨rfl, bt hb2 (bd _ _)⟩
theorem add_is (x y z : Nat) (h : Gn.addW x y = z) (w : World) : Calls Tryd.prog 12 #[.int .u64 (x : Int), .int .u64 (y : Int)] w fun e w' => e = .returned (.int .u64 (z : Int)) ∧ ∃ n, w' = w.drewN n := by
  rw [← h]; exact add_any x y w
set_option maxHeartbeats 1000000 in
theorem numSterbenz_in (a : Nat) (b : Nat) (ha : a < 18446744073709551616) (hb : b < 18446744073709551616) (h1 : ((a : Int) == 0) = false) (h2 : ((b : Int) == 0) = false) (h3 : (decide ((9218868437227405312 : Int) ≤ (a : Int))) = false) (h4 : (decide ((9218868437227405312 : Int) ≤ (b : Int))) = false) (h5 : ltW (Gn.addW a a) b = false) (h6 : ltW (Gn.addW b b) a = false) (h7 : Gn.addW (Gn.subW a b) b = a) (h8 : Gn.addW (Gn.subW b a) a = b) (w : World) (hT : TabC w) :
    Calls Tryd.prog 5 #[.int .u64 (a : Int), .int .u64 (b : Int)] w fun e w' => e = .returned (.bool true) ∧ Below w.heap.size w w' := by
  have H7 : Hid (Gn.addW (Gn.subW a b) b = a) := h7
  have H8 : Hid (Gn.addW (Gn.subW b a) a = b) := h8
  have HA : Hid (a < 18446744073709551616) := ha
  have HB : Hid (b < 18446744073709551616) := hb
  clear h7 h8 ha hb
  go_enter Tryd.func5, Tryd.ntmps5
  go_wp2_with fail
  refine (awake_true _ hT).mono ?_
  rintro e w2 ⟨rfl, hb2⟩
  go_wp2_with fail
  refine (add_any _ _ _).mono ?_
  rintro e wx ⟨rfl, n1, rfl⟩
  go_wp2_with fail
  refine (less_any _ _ _).mono ?_
  rintro e wx ⟨rfl, rfl⟩
  go_wp2_with fail
  refine (add_any _ _ _).mono ?_
  rintro e wx ⟨rfl, n2, rfl⟩
  go_wp2_with fail
  refine (less_any _ _ _).mono ?_
  rintro e wx ⟨rfl, rfl⟩
  go_wp2_with fail
  refine (sub_any _ _ HB.out _).mono ?_
  rintro e wx ⟨rfl, n3, rfl⟩
  go_wp2_with fail
  refine (add_is _ _ _ H7.out _).mono ?_
  rintro e wx ⟨rfl, n4, rfl⟩
  go_wp2_with fail
  refine (sub_any _ _ HA.out _).mono ?_
  rintro e wx ⟨rfl, n5, rfl⟩
  go_wp2_with fail
  refine (add_is _ _ _ H8.out _).mono ?_
  rintro e wx ⟨rfl, n6, rfl⟩
  go_wp2_with fail
  go_ret
  exact ⟨rfl, bt hb2 (bd _ _)⟩
theorem numSterbenz_walk (a : Nat) (ha : a < 18446744073709551616) (b : Nat) (hb : b < 18446744073709551616) (w : World) (hT : TabC w) :
    Calls Tryd.prog 5 #[.int .u64 (a : Int), .int .u64 (b : Int)] w fun e w' => e = .returned (.bool true) ∧ Below w.heap.size w w' := by
  by_cases h1 : a = 0
  · exact numSterbenz_a0 a b (beqN_t (y := 0) h1) w hT
  by_cases h2 : b = 0
  · exact numSterbenz_b0 a b (beqN_f (y := 0) h1) (beqN_t (y := 0) h2) w hT
  rcases Nat.lt_or_ge a 9218868437227405312 with h3 | h3
  · rcases Nat.lt_or_ge b 9218868437227405312 with h4 | h4
    · cases h5 : ltW (Gn.addW a a) b
      · cases h6 : ltW (Gn.addW b b) a
        · exact numSterbenz_in a b ha hb (beqN_f (y := 0) h1) (beqN_f (y := 0) h2) (decide_eq_false (by omega)) (decide_eq_false (by omega)) h5 h6 (sterbenz h3 h4 h1 h2 h5 h6) (sterbenz h4 h3 h2 h1 h6 h5) w hT
        · exact numSterbenz_l2 a b (beqN_f (y := 0) h1) (beqN_f (y := 0) h2) (by omega) (by omega) h5 h6 w hT
      · exact numSterbenz_l1 a b (beqN_f (y := 0) h1) (beqN_f (y := 0) h2) (by omega) (by omega) h5 w hT
    · exact numSterbenz_bi a b (beqN_f (y := 0) h1) (beqN_f (y := 0) h2) (by omega) (by omega) w hT
  · exact numSterbenz_ai a b (beqN_f (y := 0) h1) (beqN_f (y := 0) h2) (by omega) w hT
end Go.Proofs.YtijekbmhecnajabDoor
