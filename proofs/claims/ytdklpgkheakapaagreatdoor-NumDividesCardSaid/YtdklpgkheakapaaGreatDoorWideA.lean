import Derived.Test.YtdklpgkheakapaaGreatDoorWalkJ
import Derived.Test.YtdklpgkheakapaaGreatDoorMathF
namespace Go.Proofs.YtdklpgkheakapaaGreatDoor
open Go.RowKit

/-- a whole number of 128 bits as the struct of its two halves -/
abbrev wv (hi lo : Nat) : Value := .agg #[.int .u64 (hi : Int), .int .u64 (lo : Int)]
def wW (W : Nat) : Value := wv (W / 18446744073709551616) (W % 18446744073709551616)
theorem wW_of (hi lo : Nat) (h : lo < 18446744073709551616) : wW (hi * 18446744073709551616 + lo) = wv hi lo := by
  unfold wW
  rw [show (hi * 18446744073709551616 + lo) / 18446744073709551616 = hi from by omega, show (hi * 18446744073709551616 + lo) % 18446744073709551616 = lo from by omega]
theorem wrap_nat (x : Nat) (h : x < 18446744073709551616) : IntKind.u64.wrap (x : Int) = (x : Int) := by
  rw [IntKind.wrap_u64]; omega
theorem wrap_mod (x : Nat) : IntKind.u64.wrap (x : Int) = ((x % 18446744073709551616 : Nat) : Int) := by
  rw [IntKind.wrap_u64]; omega
theorem pow64 (n : Nat) (h : n ≤ 64) : 2 ^ n * 2 ^ (64 - n) = 18446744073709551616 := by
  rw [← Nat.pow_add, show n + (64 - n) = 64 from by omega]

set_option maxHeartbeats 400000 in
theorem left_big (hi lo n x : Nat) (h1 : (64 : Int) ≤ (n : Int)) (h2 : (n : Int) ≤ 127) (hx : IntKind.u64.wrap ((lo : Int) * 2 ^ (n - 64)) = (x : Int)) (w : World) :
    Calls Tryz.prog 47 #[wv hi lo, .int .i64 (n : Int)] w fun e w' => e = .returned (wv x 0) ∧ Below w.heap.size w w' := by
  go_enter Tryz.func47, Tryz.ntmps47
  go_wp2
  exact bodyPost_ret (v := wv x 0) (by simp [results, Tryz.results47, go_sem]) rfl ⟨rfl, ((Below.refl _ _).alloc (Nat.le_refl _) _).alloc (by simp) _⟩
set_option maxHeartbeats 400000 in
theorem left_zero (hi lo : Nat) (w : World) :
    Calls Tryz.prog 47 #[wv hi lo, .int .i64 0] w fun e w' => e = .returned (wv hi lo) ∧ Below w.heap.size w w' := by
  go_enter Tryz.func47, Tryz.ntmps47
  go_wp2
  exact bodyPost_ret (v := wv hi lo) (by simp [results, Tryz.results47, go_sem]) rfl ⟨rfl, ((Below.refl _ _).alloc (Nat.le_refl _) _).alloc (by simp) _⟩
set_option maxHeartbeats 400000 in
theorem left_mid (hi lo n x y : Nat) (h1 : (n : Int) < 64) (h2 : ((n : Int) == 0) = false) (hx : bits .or .u64 (IntKind.u64.wrap ((hi : Int) * 2 ^ n)) ((lo : Int) / 2 ^ (64 - n)) = (x : Int)) (hy : IntKind.u64.wrap ((lo : Int) * 2 ^ n) = (y : Int)) (w : World) :
    Calls Tryz.prog 47 #[wv hi lo, .int .i64 (n : Int)] w fun e w' => e = .returned (wv x y) ∧ Below w.heap.size w w' := by
  go_enter Tryz.func47, Tryz.ntmps47
  go_wp2
  go_region
  all_goals go_wp2
  exact bodyPost_ret (v := wv x y) (by simp [results, Tryz.results47, go_sem]) rfl ⟨rfl, (((Below.refl _ _).alloc (Nat.le_refl _) _).alloc (by simp) _).drew⟩
set_option maxHeartbeats 400000 in
theorem right_big (hi lo n x : Nat) (h1 : (64 : Int) ≤ (n : Int)) (h2 : (n : Int) ≤ 127) (hx : (hi : Int) / 2 ^ (n - 64) = (x : Int)) (w : World) :
    Calls Tryz.prog 65 #[wv hi lo, .int .i64 (n : Int)] w fun e w' => e = .returned (wv 0 x) ∧ Below w.heap.size w w' := by
  go_enter Tryz.func65, Tryz.ntmps65
  go_wp2
  exact bodyPost_ret (v := wv 0 x) (by simp [results, Tryz.results65, go_sem]) rfl ⟨rfl, ((Below.refl _ _).alloc (Nat.le_refl _) _).alloc (by simp) _⟩
set_option maxHeartbeats 400000 in
theorem right_mid (hi lo n x y : Nat) (h1 : (n : Int) < 64) (h2 : ((n : Int) == 0) = false) (hx : (hi : Int) / 2 ^ n = (x : Int)) (hy : bits .or .u64 ((lo : Int) / 2 ^ n) (IntKind.u64.wrap ((hi : Int) * 2 ^ (64 - n))) = (y : Int)) (w : World) :
    Calls Tryz.prog 65 #[wv hi lo, .int .i64 (n : Int)] w fun e w' => e = .returned (wv x y) ∧ Below w.heap.size w w' := by
  go_enter Tryz.func65, Tryz.ntmps65
  go_wp2
  go_region
  all_goals go_wp2
  exact bodyPost_ret (v := wv x y) (by simp [results, Tryz.results65, go_sem]) rfl ⟨rfl, (((Below.refl _ _).alloc (Nat.le_refl _) _).alloc (by simp) _).drew⟩
end Go.Proofs.YtdklpgkheakapaaGreatDoor
