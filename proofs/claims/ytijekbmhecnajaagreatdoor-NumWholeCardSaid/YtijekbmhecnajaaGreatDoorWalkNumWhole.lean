import Derived.Test.YtijekbmhecnajaaGreatDoorRefH
namespace Go.Proofs.YtijekbmhecnajaaGreatDoor
open Go.RowKit

theorem int_two (a : Nat) : ∃ x y : Int, intR a = .tuple #[.int .i64 x, .int .i64 y] := ⟨_, _, rfl⟩
set_option maxHeartbeats 2000000 in
theorem numWhole_walk (a : Nat) (ha : a < 18446744073709551616) (n : Int) (hn1 : -9223372036854775808 ≤ n) (hn2 : n ≤ 9223372036854775807) (w : World) (hT : TabC w) :
    Calls Tryz.prog 8 #[.int .u64 (a : Int), .int .i64 n] w fun e w' => e = .returned (.bool true) ∧ Below w.heap.size w w' := by
  obtain ⟨x, y, hxy⟩ := int_two a
  have I1 := fun w => int_any a ha w
  have I2 := fun w => rint_any a ha w
  have O2 := fun w => rof_any n hn1 (by omega) w
  rw [hxy] at I1 I2
  clear hxy hn1 hn2
  go_enter Tryz.func8, Tryz.ntmps8
  go_wp2_with (first
    | (go_at_call 38; refine (I1 _).mono ?_; rintro e wx ⟨rfl, rfl⟩)
    | (go_at_call 39; refine (I2 _).mono ?_; rintro e w1 ⟨rfl, hb1⟩)
    | (go_at_call 9; refine (awake_true _ ?_).mono ?_; exact tab_below hT (tab_size hT) hb1; rintro e w2 ⟨rfl, hb2⟩)
    | (go_at_call 40; refine (of_any _ _).mono ?_; rintro e wx ⟨rfl, rfl⟩)
    | (go_at_call 41; refine (O2 _).mono ?_; rintro e w3 ⟨rfl, hb3⟩))
  go_ret
  refine ⟨rfl, ?_⟩
  have B2 := hb1.trans (hb2.mono hb1.size)
  exact B2.trans (hb3.mono B2.size)
end Go.Proofs.YtijekbmhecnajaaGreatDoor
