import Derived.Test.YtijekbmhecnajaaGreatDoorRefE
namespace Go.Proofs.YtijekbmhecnajaaGreatDoor
open Go.RowKit

set_option maxHeartbeats 2000000 in
theorem numPicks_walk (a : Nat) (ha : a < 18446744073709551616) (b : Nat) (hb : b < 18446744073709551616) (w : World) (hT : TabC w) :
    Calls Tryz.prog 6 #[.int .u64 (a : Int), .int .u64 (b : Int)] w fun e w' => e = .returned (.bool true) ∧ Below w.heap.size w w' := by
  go_enter Tryz.func6, Tryz.ntmps6
  go_wp2_with (first
    | (go_at_call 18; refine (canon_any _ (by assumption) _).mono ?_; rintro e wx ⟨rfl, rfl⟩)
    | (go_at_call 20; refine (class_any _ (by assumption) _).mono ?_; rintro e wx ⟨rfl, rfl⟩)
    | (go_at_call 22; refine (neg_any _ (by assumption) _).mono ?_; rintro e wx ⟨rfl, rfl⟩)
    | (go_at_call 24; refine (abs_any _ (by assumption) _).mono ?_; rintro e wx ⟨rfl, rfl⟩)
    | (go_at_call 26; refine (floor_any _ (by assumption) _).mono ?_; rintro e wx ⟨rfl, nx, rfl⟩)
    | (go_at_call 28; refine (min_any _ _ (by assumption) (by assumption) _).mono ?_; rintro e wx ⟨rfl, rfl⟩)
    | (go_at_call 30; refine (max_any _ _ (by assumption) (by assumption) _).mono ?_; rintro e wx ⟨rfl, rfl⟩)
    | (go_at_call 9; refine (awake_true _ (hT)).mono ?_; rintro e w2 ⟨rfl, hb2⟩)
    | (go_at_call 19; refine (rcanon_any _ (by assumption) _).mono ?_; rintro e wx ⟨rfl, rfl⟩)
    | (go_at_call 21; refine (rclass_any _ (by assumption) _).mono ?_; rintro e wx ⟨rfl, rfl⟩)
    | (go_at_call 23; refine (rneg_any _ (by assumption) _).mono ?_; rintro e wx ⟨rfl, rfl⟩)
    | (go_at_call 25; refine (rabs_any _ (by assumption) _).mono ?_; rintro e wx ⟨rfl, rfl⟩)
    | (go_at_call 27; refine (rfloor_any _ (by assumption) _).mono ?_; rintro e w3 ⟨rfl, hb3⟩)
    | (go_at_call 29; refine (rmin_any _ _ (by assumption) (by assumption) _).mono ?_; rintro e wx ⟨rfl, rfl⟩)
    | (go_at_call 31; refine (rmax_any _ _ (by assumption) (by assumption) _).mono ?_; rintro e wx ⟨rfl, rfl⟩))
  go_ret
  refine ⟨rfl, ?_⟩
  have s2 := hb2.size
  exact (below_drewN' hb2 nx).trans (hb3.mono s2)
end Go.Proofs.YtijekbmhecnajaaGreatDoor
