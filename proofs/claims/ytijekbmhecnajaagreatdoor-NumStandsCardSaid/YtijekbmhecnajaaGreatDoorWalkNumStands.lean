import Derived.Test.YtijekbmhecnajaaGreatDoorRefB
namespace Go.Proofs.YtijekbmhecnajaaGreatDoor
open Go.RowKit

set_option maxHeartbeats 1000000 in
theorem numStands_walk (a : Nat) (ha : a < 18446744073709551616) (b : Nat) (hb : b < 18446744073709551616) (w : World) (hT : TabC w) :
    Calls Tryz.prog 7 #[.int .u64 (a : Int), .int .u64 (b : Int)] w fun e w' => e = .returned (.bool true) ∧ Below w.heap.size w w' := by
  go_enter Tryz.func7, Tryz.ntmps7
  go_wp2_with (first
    | (go_at_call 32; refine (less_any _ _ _).mono ?_; rintro e wx ⟨rfl, rfl⟩)
    | (go_at_call 34; refine (equal_any _ _ _).mono ?_; rintro e wx ⟨rfl, rfl⟩)
    | (go_at_call 36; refine (order_any _ _ (by assumption) (by assumption) _).mono ?_; rintro e wx ⟨rfl, rfl⟩)
    | (go_at_call 9; refine (awake_true _ (hT)).mono ?_; rintro e w2 ⟨rfl, hb2⟩)
    | (go_at_call 33; refine (rless_any _ _ (by assumption) (by assumption) _).mono ?_; rintro e wx ⟨rfl, rfl⟩)
    | (go_at_call 35; refine (requal_any _ _ (by assumption) (by assumption) _).mono ?_; rintro e wx ⟨rfl, rfl⟩)
    | (go_at_call 37; refine (rorder_any _ _ (by assumption) (by assumption) _).mono ?_; rintro e wx ⟨rfl, rfl⟩))
  go_ret
  exact ⟨rfl, hb2⟩
end Go.Proofs.YtijekbmhecnajaaGreatDoor
