import Derived.Test.YtijekbmhecnajacDoorCountM
import Derived.Test.YtijekbmhecnajacDoorWalkJ
namespace Go.Proofs.YtijekbmhecnajacDoor
open Go.RowKit

/-- what is told of the first number -/
def First (a : Nat) : Prop := intR a = .tuple #[.int .i64 0, .int .i64 11] ∨ (intR a = .tuple #[.int .i64 (Gn.intV a), .int .i64 0] ∧ decide ((Gn.absW a : Int) ≤ 4845873199050653696) = false) ∨ (intR a = .tuple #[.int .i64 (Gn.intV a), .int .i64 0] ∧ decide ((Gn.absW a : Int) ≤ 4845873199050653696) = true ∧ eqW (ofW (Gn.intV a)) a = true)
theorem first_of (a : Nat) (ha : a < 18446744073709551616) : First a := by
  cases h : Gn.intOk a
  · exact .inl (int_no h)
  · cases k : decide ((Gn.absW a : Int) ≤ 4845873199050653696)
    · exact .inr (.inl ⟨int_yes h, k⟩)
    · exact .inr (.inr ⟨int_yes h, k, of_int ha h⟩)
set_option maxHeartbeats 2000000 in
theorem numCounts_c1 (a : Nat) (ha : a < 18446744073709551616) (n m : Int) (h1 : n < -33554432) (hF : First a) (w : World) (hT : TabC w) :
    Calls Tryd.prog 8 #[.int .u64 (a : Int), .int .i64 n, .int .i64 m] w fun e w' => e = .returned (.bool true) ∧ Below w.heap.size w w' := by
  rcases hF with f1 | ⟨f1, f2⟩ | ⟨f1, f2, f3⟩
  all_goals
    go_enter Tryd.func8, Tryd.ntmps8
    go_wp2_with (first
      | (go_at_call 17; refine (int_any _ (by assumption) _).mono ?_; rintro e wx ⟨rfl, rfl⟩)
      | (go_at_call 16; refine (abs_any _ (by assumption) _).mono ?_; rintro e wx ⟨rfl, rfl⟩)
      | (go_at_call 19; refine (of_any _ _).mono ?_; rintro e wx ⟨rfl, rfl⟩)
      | (go_at_call 14; refine (equal_any _ _ _).mono ?_; rintro e wx ⟨rfl, rfl⟩)
      | (go_at_call 13; refine (less_any _ _ _).mono ?_; rintro e wx ⟨rfl, rfl⟩)
      | (go_at_call 20; refine (add_any _ _ _).mono ?_; rintro e wx ⟨rfl, nx, rfl⟩)
      | (go_at_call 21; refine (mul_any _ _ _).mono ?_; rintro e wx ⟨rfl, nx, rfl⟩)
      | (go_at_call 10; refine (awake_true _ (hT)).mono ?_; rintro e w2 ⟨rfl, hb2⟩))
    go_ret
    exact ⟨rfl, hb2⟩
set_option maxHeartbeats 2000000 in
theorem numCounts_c2 (a : Nat) (ha : a < 18446744073709551616) (n m : Int) (h1 : 33554432 < n) (hF : First a) (w : World) (hT : TabC w) :
    Calls Tryd.prog 8 #[.int .u64 (a : Int), .int .i64 n, .int .i64 m] w fun e w' => e = .returned (.bool true) ∧ Below w.heap.size w w' := by
  rcases hF with f1 | ⟨f1, f2⟩ | ⟨f1, f2, f3⟩
  all_goals
    go_enter Tryd.func8, Tryd.ntmps8
    go_wp2_with (first
      | (go_at_call 17; refine (int_any _ (by assumption) _).mono ?_; rintro e wx ⟨rfl, rfl⟩)
      | (go_at_call 16; refine (abs_any _ (by assumption) _).mono ?_; rintro e wx ⟨rfl, rfl⟩)
      | (go_at_call 19; refine (of_any _ _).mono ?_; rintro e wx ⟨rfl, rfl⟩)
      | (go_at_call 14; refine (equal_any _ _ _).mono ?_; rintro e wx ⟨rfl, rfl⟩)
      | (go_at_call 13; refine (less_any _ _ _).mono ?_; rintro e wx ⟨rfl, rfl⟩)
      | (go_at_call 20; refine (add_any _ _ _).mono ?_; rintro e wx ⟨rfl, nx, rfl⟩)
      | (go_at_call 21; refine (mul_any _ _ _).mono ?_; rintro e wx ⟨rfl, nx, rfl⟩)
      | (go_at_call 10; refine (awake_true _ (hT)).mono ?_; rintro e w2 ⟨rfl, hb2⟩))
    go_ret
    exact ⟨rfl, hb2⟩
set_option maxHeartbeats 2000000 in
theorem numCounts_c3 (a : Nat) (ha : a < 18446744073709551616) (n m : Int) (h1 : -33554432 ≤ n) (h2 : n ≤ 33554432) (h3 : m < -33554432) (hF : First a) (w : World) (hT : TabC w) :
    Calls Tryd.prog 8 #[.int .u64 (a : Int), .int .i64 n, .int .i64 m] w fun e w' => e = .returned (.bool true) ∧ Below w.heap.size w w' := by
  rcases hF with f1 | ⟨f1, f2⟩ | ⟨f1, f2, f3⟩
  all_goals
    go_enter Tryd.func8, Tryd.ntmps8
    go_wp2_with (first
      | (go_at_call 17; refine (int_any _ (by assumption) _).mono ?_; rintro e wx ⟨rfl, rfl⟩)
      | (go_at_call 16; refine (abs_any _ (by assumption) _).mono ?_; rintro e wx ⟨rfl, rfl⟩)
      | (go_at_call 19; refine (of_any _ _).mono ?_; rintro e wx ⟨rfl, rfl⟩)
      | (go_at_call 14; refine (equal_any _ _ _).mono ?_; rintro e wx ⟨rfl, rfl⟩)
      | (go_at_call 13; refine (less_any _ _ _).mono ?_; rintro e wx ⟨rfl, rfl⟩)
      | (go_at_call 20; refine (add_any _ _ _).mono ?_; rintro e wx ⟨rfl, nx, rfl⟩)
      | (go_at_call 21; refine (mul_any _ _ _).mono ?_; rintro e wx ⟨rfl, nx, rfl⟩)
      | (go_at_call 10; refine (awake_true _ (hT)).mono ?_; rintro e w2 ⟨rfl, hb2⟩))
    go_ret
    exact ⟨rfl, hb2⟩
set_option maxHeartbeats 2000000 in
theorem numCounts_c4 (a : Nat) (ha : a < 18446744073709551616) (n m : Int) (h1 : -33554432 ≤ n) (h2 : n ≤ 33554432) (h3 : 33554432 < m) (hF : First a) (w : World) (hT : TabC w) :
    Calls Tryd.prog 8 #[.int .u64 (a : Int), .int .i64 n, .int .i64 m] w fun e w' => e = .returned (.bool true) ∧ Below w.heap.size w w' := by
  rcases hF with f1 | ⟨f1, f2⟩ | ⟨f1, f2, f3⟩
  all_goals
    go_enter Tryd.func8, Tryd.ntmps8
    go_wp2_with (first
      | (go_at_call 17; refine (int_any _ (by assumption) _).mono ?_; rintro e wx ⟨rfl, rfl⟩)
      | (go_at_call 16; refine (abs_any _ (by assumption) _).mono ?_; rintro e wx ⟨rfl, rfl⟩)
      | (go_at_call 19; refine (of_any _ _).mono ?_; rintro e wx ⟨rfl, rfl⟩)
      | (go_at_call 14; refine (equal_any _ _ _).mono ?_; rintro e wx ⟨rfl, rfl⟩)
      | (go_at_call 13; refine (less_any _ _ _).mono ?_; rintro e wx ⟨rfl, rfl⟩)
      | (go_at_call 20; refine (add_any _ _ _).mono ?_; rintro e wx ⟨rfl, nx, rfl⟩)
      | (go_at_call 21; refine (mul_any _ _ _).mono ?_; rintro e wx ⟨rfl, nx, rfl⟩)
      | (go_at_call 10; refine (awake_true _ (hT)).mono ?_; rintro e w2 ⟨rfl, hb2⟩))
    go_ret
    exact ⟨rfl, hb2⟩
set_option maxHeartbeats 2000000 in
theorem numCounts_c5 (a : Nat) (ha : a < 18446744073709551616) (n m : Int) (h1 : -33554432 ≤ n) (h2 : n ≤ 33554432) (h3 : -33554432 ≤ m) (h4 : m ≤ 33554432) (hF : First a) (w : World) (hT : TabC w) :
    Calls Tryd.prog 8 #[.int .u64 (a : Int), .int .i64 n, .int .i64 m] w fun e w' => e = .returned (.bool true) ∧ Below w.heap.size w w' := by
  have hs := add_of n m (by omega) (by omega)
  have hp := mul_of n m (by omega) (by omega)
  have hl := lt_of n m (by omega) (by omega)
  obtain ⟨b1, b2⟩ := mul_bd n m (by omega) (by omega)
  have l1 := Gn.add_lt (ofW n) (ofW m)
  have l2 := Gn.mul_lt (ofW n) (ofW m)
  rcases hF with f1 | ⟨f1, f2⟩ | ⟨f1, f2, f3⟩
  all_goals
    go_enter Tryd.func8, Tryd.ntmps8
    go_wp2_with (first
      | (go_at_call 17; refine (int_any _ (by assumption) _).mono ?_; rintro e wx ⟨rfl, rfl⟩)
      | (go_at_call 16; refine (abs_any _ (by assumption) _).mono ?_; rintro e wx ⟨rfl, rfl⟩)
      | (go_at_call 19; refine (of_any _ _).mono ?_; rintro e wx ⟨rfl, rfl⟩)
      | (go_at_call 14; refine (equal_any _ _ _).mono ?_; rintro e wx ⟨rfl, rfl⟩)
      | (go_at_call 13; refine (less_any _ _ _).mono ?_; rintro e wx ⟨rfl, rfl⟩)
      | (go_at_call 20; refine (add_any _ _ _).mono ?_; rintro e wx ⟨rfl, nx, rfl⟩)
      | (go_at_call 21; refine (mul_any _ _ _).mono ?_; rintro e wx ⟨rfl, nx, rfl⟩)
      | (go_at_call 10; refine (awake_true _ (hT)).mono ?_; rintro e w2 ⟨rfl, hb2⟩))
    go_ret
    exact ⟨rfl, bt hb2 (bd _ _)⟩
theorem numCounts_walk (a : Nat) (ha : a < 18446744073709551616) (n : Int) (_n1 : -9223372036854775808 ≤ n) (_n2 : n ≤ 9223372036854775807) (m : Int) (_m1 : -9223372036854775808 ≤ m) (_m2 : m ≤ 9223372036854775807) (w : World) (hT : TabC w) :
    Calls Tryd.prog 8 #[.int .u64 (a : Int), .int .i64 n, .int .i64 m] w fun e w' => e = .returned (.bool true) ∧ Below w.heap.size w w' := by
  have hF := first_of a ha
  rcases Int.lt_or_le n (-33554432) with h1 | h1
  · exact numCounts_c1 a ha n m h1 hF w hT
  · rcases Int.lt_or_le 33554432 n with h2 | h2
    · exact numCounts_c2 a ha n m h2 hF w hT
    · rcases Int.lt_or_le m (-33554432) with h3 | h3
      · exact numCounts_c3 a ha n m h1 h2 h3 hF w hT
      · rcases Int.lt_or_le 33554432 m with h4 | h4
        · exact numCounts_c4 a ha n m h1 h2 h4 hF w hT
        · exact numCounts_c5 a ha n m h1 h2 h3 h4 hF w hT
end Go.Proofs.YtijekbmhecnajacDoor
