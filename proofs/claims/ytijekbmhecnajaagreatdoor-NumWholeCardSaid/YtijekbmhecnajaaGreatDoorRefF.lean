import Derived.Test.YtijekbmhecnajaaGreatDoorRoundG
import Derived.Test.YtijekbmhecnajaaGreatDoorRefE
namespace Go.Proofs.YtijekbmhecnajaaGreatDoor
open Go.RowKit
open Gn

theorem rnd_W (v : Bool) (M : Nat) (h0 : M ≠ 0) (hM : M < 18446744073709551616) : Rnd (sg v : Int) (M : Int) (wd v (rung M 0)) := ⟨fun w => by
  have hl : M.log2 ≤ 126 := by
    have := (Nat.log2_lt (n := M) (k := 64) h0).2 hM; omega
  have := rounded_W v M 0 h0 (by decide) (by decide) hl w
  unfold wn at this
  rw [show hiN M = 0 from by unfold hiN; omega, show loN M = M from lo_small hM] at this
  exact this⟩
set_option maxHeartbeats 400000 in
theorem rof_zero (w : World) : Calls Tryz.prog 41 #[.int .i64 0] w fun e w' => e = .returned (.int .u64 0) ∧ Below w.heap.size w w' := by
  go_enter Tryz.func41, Tryz.ntmps41
  go_wp2_with fail
  go_ret
  exact ⟨rfl, Below.refl _ _⟩
set_option maxHeartbeats 400000 in
theorem rof_neg (n : Int) (M x : Nat) (h0 : (n == 0) = false) (h1 : n < 0) (hM : IntKind.u64.wrap (wrap64 (-n)) = (M : Int)) (hR : Rnd 9223372036854775808 (M : Int) x) (w : World) :
    Calls Tryz.prog 41 #[.int .i64 n] w fun e w' => e = .returned (.int .u64 (x : Int)) ∧ Below w.heap.size w w' := by
  go_enter Tryz.func41, Tryz.ntmps41
  go_wp2_with fail
  refine (hR.run _).mono ?_
  rintro e' w1 ⟨rfl, hb1⟩
  go_wp2_with fail
  go_ret
  exact ⟨rfl, hb1⟩
set_option maxHeartbeats 400000 in
theorem rof_pos (M x : Nat) (h0 : ((M : Int) == 0) = false) (hM : IntKind.u64.wrap (M : Int) = (M : Int)) (hR : Rnd 0 (M : Int) x) (w : World) :
    Calls Tryz.prog 41 #[.int .i64 (M : Int)] w fun e w' => e = .returned (.int .u64 (x : Int)) ∧ Below w.heap.size w w' := by
  go_enter Tryz.func41, Tryz.ntmps41
  go_wp2_with fail
  refine (hR.run _).mono ?_
  rintro e' w1 ⟨rfl, hb1⟩
  go_wp2_with fail
  go_ret
  exact ⟨rfl, hb1⟩
theorem of_rung (n : Int) : Go.floatOfInt .f64 n = wd (decide (n < 0)) (rung n.natAbs 0) := by
  show Ieee.double.write (.number (decide (n < 0)) n.natAbs 0) = _
  rw [write_number]
theorem rof_any (n : Int) (h1 : -9223372036854775808 ≤ n) (h2 : n < 9223372036854775808) (w : World) :
    Calls Tryz.prog 41 #[.int .i64 n] w fun e w' => e = .returned (.int .u64 (ofW n : Int)) ∧ Below w.heap.size w w' := by
  unfold ofW
  rw [of_rung]
  by_cases h0 : n = 0
  · subst h0
    rw [show wd (decide ((0 : Int) < 0)) (rung (0 : Int).natAbs 0) = 0 from by decide]
    exact rof_zero w
  · by_cases hn : n < 0
    · rw [decide_eq_true hn]
      refine rof_neg n n.natAbs _ (by rw [beq_eq_false_iff_ne]; exact h0) hn (by simp only [wrap64, IntKind.wrap_u64]; omega) (rnd_W true n.natAbs (by omega) (by omega)) w
    · obtain ⟨M, rfl⟩ : ∃ M : Nat, n = (M : Int) := ⟨n.toNat, by omega⟩
      rw [decide_eq_false hn, Int.natAbs_natCast]
      exact rof_pos M _ (by rw [beq_eq_false_iff_ne]; exact h0) (wrap_nat _ (by omega)) (rnd_W false M (by omega) (by omega)) w
end Go.Proofs.YtijekbmhecnajaaGreatDoor
