import Derived.Test.YtdklpgkheakapaaGreatDoorDivE
namespace Go.Proofs.YtdklpgkheakapaaGreatDoor
open Go.RowKit

set_option maxHeartbeats 1000000 in
theorem numDivides_walk (a : Nat) (ha : a < 18446744073709551616) (b : Nat) (hb : b < 18446744073709551616) (w : World) (hT : TabC w) :
    Calls Tryz.prog 5 #[.int .u64 (a : Int), .int .u64 (b : Int)] w fun e w' => e = .returned (.bool true) ∧ Below w.heap.size w w' := by
  go_enter Tryz.func5, Tryz.ntmps5
  go_wp2_with fail
  refine (awake_true w hT).mono ?_
  rintro e w1 ⟨rfl, hb1⟩
  go_wp2_with fail
  refine (div_any a b _).mono ?_
  rintro e w2 ⟨rfl, n, rfl⟩
  go_wp2_with fail
  refine (rdiv_any a b ha hb _).mono ?_
  rintro e w3 ⟨rfl, hb3⟩
  have hbb := bt (bt hb1 (bd _ n)) hb3
  generalize Gn.divW a b = z
  clear hb1 hb3 hT
  go_wp2_with fail
  go_ret
  exact ⟨by simp, hbb⟩
end Go.Proofs.YtdklpgkheakapaaGreatDoor
