import Derived.Test.YtdklpgkheakapaaGreatDoorDivB
namespace Go.Proofs.YtdklpgkheakapaaGreatDoor
open Go.RowKit Gn

set_option maxHeartbeats 1000000 in
theorem rdiv_nan (a b x y z : Nat) (F : MulF a b x y z) (h : (9218868437227405312 < x ∨ 9218868437227405312 < y) ∨ (x = 9218868437227405312 ∧ y = 9218868437227405312) ∨ (x = 0 ∧ y = 0)) (w : World) :
    Calls Tryz.prog 17 #[.int .u64 (a : Int), .int .u64 (b : Int)] w fun e w' => e = .returned (.int .u64 9221120237041090561) ∧ Below w.heap.size w w' := by
  obtain ⟨hx, hy, hz⟩ := F
  rcases (show (9218868437227405312 < x) ∨ (¬ 9218868437227405312 < x ∧ 9218868437227405312 < y) ∨ (¬ 9218868437227405312 < x ∧ ¬ 9218868437227405312 < y ∧ x = 9218868437227405312 ∧ y = 9218868437227405312) ∨ (¬ 9218868437227405312 < x ∧ ¬ 9218868437227405312 < y ∧ x = 0 ∧ y = 0) by omega) with h1 | h1 | h1 | h1
  · have b1 : decide ((9218868437227405312 : Int) < (x : Int)) = true := by simp; omega
    clear h1
    clear h
    go_enter Tryz.func17, Tryz.ntmps17
    go_wp2
    go_ret
    exact ⟨rfl, Below.refl _ _⟩
  · have b1 : decide ((9218868437227405312 : Int) < (x : Int)) = false := by simp; omega
    have b2 : decide ((9218868437227405312 : Int) < (y : Int)) = true := by simp; omega
    clear h1
    clear h
    go_enter Tryz.func17, Tryz.ntmps17
    go_wp2
    go_ret
    exact ⟨rfl, Below.refl _ _⟩
  · have b1 : decide ((9218868437227405312 : Int) < (x : Int)) = false := by simp; omega
    have b2 : decide ((9218868437227405312 : Int) < (y : Int)) = false := by simp; omega
    have b3 : ((x : Int) == 9218868437227405312) = true := eqB_t (y := 9218868437227405312) (by omega)
    have b4 : ((y : Int) == 9218868437227405312) = true := eqB_t (y := 9218868437227405312) (by omega)
    clear h1
    clear h
    go_enter Tryz.func17, Tryz.ntmps17
    go_wp2
    go_ret
    exact ⟨rfl, Below.refl _ _⟩
  · have b1 : decide ((9218868437227405312 : Int) < (x : Int)) = false := by simp; omega
    have b2 : decide ((9218868437227405312 : Int) < (y : Int)) = false := by simp; omega
    have b3 : ((x : Int) == 9218868437227405312) = false := beqN_f (y := 9218868437227405312) (by omega)
    have b4 : ((x : Int) == 0) = true := eqB_t (y := 0) (by omega)
    have b5 : ((y : Int) == 0) = true := eqB_t (y := 0) (by omega)
    clear h1
    clear h
    go_enter Tryz.func17, Tryz.ntmps17
    go_wp2
    go_ret
    exact ⟨rfl, Below.refl _ _⟩
set_option maxHeartbeats 1000000 in
theorem rdiv_inf (a b x y z W : Nat) (F : MulF a b x y z) (hW : bits .or .u64 (z : Int) 9218868437227405312 = (W : Int)) (h : (x = 9218868437227405312 ∧ y < 9218868437227405312) ∨ (x ≠ 0 ∧ x < 9218868437227405312 ∧ y = 0)) (w : World) :
    Calls Tryz.prog 17 #[.int .u64 (a : Int), .int .u64 (b : Int)] w fun e w' => e = .returned (.int .u64 (W : Int)) ∧ Below w.heap.size w w' := by
  obtain ⟨hx, hy, hz⟩ := F
  rcases (show (x = 9218868437227405312 ∧ y < 9218868437227405312) ∨ (x ≠ 0 ∧ x < 9218868437227405312 ∧ y = 0) by omega) with h1 | h1
  · have b1 : decide ((9218868437227405312 : Int) < (x : Int)) = false := by simp; omega
    have b2 : decide ((9218868437227405312 : Int) < (y : Int)) = false := by simp; omega
    have b3 : ((x : Int) == 9218868437227405312) = true := eqB_t (y := 9218868437227405312) (by omega)
    have b4 : ((y : Int) == 9218868437227405312) = false := beqN_f (y := 9218868437227405312) (by omega)
    have b5 : ((x : Int) == 0) = false := beqN_f (y := 0) (by omega)
    clear h1
    clear h
    go_enter Tryz.func17, Tryz.ntmps17
    go_wp2
    go_ret
    exact ⟨rfl, Below.refl _ _⟩
  · have b1 : decide ((9218868437227405312 : Int) < (x : Int)) = false := by simp; omega
    have b2 : decide ((9218868437227405312 : Int) < (y : Int)) = false := by simp; omega
    have b3 : ((x : Int) == 9218868437227405312) = false := beqN_f (y := 9218868437227405312) (by omega)
    have b4 : ((x : Int) == 0) = false := beqN_f (y := 0) (by omega)
    have b5 : ((y : Int) == 0) = true := eqB_t (y := 0) (by omega)
    clear h1
    clear h
    go_enter Tryz.func17, Tryz.ntmps17
    go_wp2
    go_ret
    exact ⟨rfl, Below.refl _ _⟩
set_option maxHeartbeats 1000000 in
theorem rdiv_zero (a b x y z : Nat) (F : MulF a b x y z) (h : (y = 9218868437227405312 ∧ x < 9218868437227405312) ∨ (x = 0 ∧ y ≠ 0 ∧ y < 9218868437227405312)) (w : World) :
    Calls Tryz.prog 17 #[.int .u64 (a : Int), .int .u64 (b : Int)] w fun e w' => e = .returned (.int .u64 (z : Int)) ∧ Below w.heap.size w w' := by
  obtain ⟨hx, hy, hz⟩ := F
  rcases (show (y = 9218868437227405312 ∧ x = 0) ∨ (y = 9218868437227405312 ∧ x ≠ 0 ∧ x < 9218868437227405312) ∨ (x = 0 ∧ y ≠ 0 ∧ y < 9218868437227405312) by omega) with h1 | h1 | h1
  · have b1 : decide ((9218868437227405312 : Int) < (x : Int)) = false := by simp; omega
    have b2 : decide ((9218868437227405312 : Int) < (y : Int)) = false := by simp; omega
    have b3 : ((x : Int) == 9218868437227405312) = false := beqN_f (y := 9218868437227405312) (by omega)
    have b4 : ((x : Int) == 0) = true := eqB_t (y := 0) (by omega)
    have b5 : ((y : Int) == 9218868437227405312) = true := eqB_t (y := 9218868437227405312) (by omega)
    have b6 : ((y : Int) == 0) = false := beqN_f (y := 0) (by omega)
    clear h1
    clear h
    go_enter Tryz.func17, Tryz.ntmps17
    go_wp2
    go_ret
    exact ⟨rfl, Below.refl _ _⟩
  · have b1 : decide ((9218868437227405312 : Int) < (x : Int)) = false := by simp; omega
    have b2 : decide ((9218868437227405312 : Int) < (y : Int)) = false := by simp; omega
    have b3 : ((x : Int) == 9218868437227405312) = false := beqN_f (y := 9218868437227405312) (by omega)
    have b4 : ((x : Int) == 0) = false := beqN_f (y := 0) (by omega)
    have b5 : ((y : Int) == 9218868437227405312) = true := eqB_t (y := 9218868437227405312) (by omega)
    have b6 : ((y : Int) == 0) = false := beqN_f (y := 0) (by omega)
    clear h1
    clear h
    go_enter Tryz.func17, Tryz.ntmps17
    go_wp2
    go_ret
    exact ⟨rfl, Below.refl _ _⟩
  · have b1 : decide ((9218868437227405312 : Int) < (x : Int)) = false := by simp; omega
    have b2 : decide ((9218868437227405312 : Int) < (y : Int)) = false := by simp; omega
    have b3 : ((x : Int) == 9218868437227405312) = false := beqN_f (y := 9218868437227405312) (by omega)
    have b4 : ((x : Int) == 0) = true := eqB_t (y := 0) (by omega)
    have b5 : ((y : Int) == 9218868437227405312) = false := beqN_f (y := 9218868437227405312) (by omega)
    have b6 : ((y : Int) == 0) = false := beqN_f (y := 0) (by omega)
    clear h1
    clear h
    go_enter Tryz.func17, Tryz.ntmps17
    go_wp2
    go_ret
    exact ⟨rfl, Below.refl _ _⟩
end Go.Proofs.YtdklpgkheakapaaGreatDoor
