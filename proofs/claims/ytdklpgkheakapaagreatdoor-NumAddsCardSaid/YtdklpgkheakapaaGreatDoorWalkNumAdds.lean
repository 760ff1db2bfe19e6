import Derived.Test.YtdklpgkheakapaaGreatDoorAddC
namespace Go.Proofs.YtdklpgkheakapaaGreatDoor
open Go.RowKit

set_option maxHeartbeats 1000000 in
theorem numAdds_walk (a : Nat) (ha : a < 18446744073709551616) (b : Nat) (hb : b < 18446744073709551616) (w : World) (hT : TabC w) :
    Calls Tryz.prog 3 #[.int .u64 (a : Int), .int .u64 (b : Int)] w fun e w' => e = .returned (.bool true) ∧ Below w.heap.size w w' := by
  go_enter Tryz.func3, Tryz.ntmps3
  go_wp2_with fail
  refine (awake_true w hT).mono ?_
  rintro e w1 ⟨rfl, hb1⟩
  go_wp2_with fail
  refine (add_any a b _).mono ?_
  rintro e w2 ⟨rfl, n, rfl⟩
  go_wp2_with fail
  refine (radd_any a b ha hb _).mono ?_
  rintro e w3 ⟨rfl, hb3⟩
  have hbb := bt (bt hb1 (bd _ n)) hb3
  generalize Gn.addW a b = z
  clear hb1 hb3 hT
  go_wp2_with fail
  refine (sub_any a b hb _).mono ?_
  rintro e w4 ⟨rfl, n4, rfl⟩
  go_wp2_with fail
  refine (rsub_any a b ha hb _).mono ?_
  rintro e w5 ⟨rfl, hb5⟩
  have hbc := bt (bt hbb (bd _ n4)) hb5
  generalize Gn.subW a b = y
  clear hbb hb5
  go_wp2_with fail
  go_ret
  exact ⟨by simp, hbc⟩
end Go.Proofs.YtdklpgkheakapaaGreatDoor
