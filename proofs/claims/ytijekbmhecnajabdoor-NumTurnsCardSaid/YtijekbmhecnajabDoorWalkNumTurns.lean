import Derived.Test.YtijekbmhecnajabDoorWalkJ
namespace Go.Proofs.YtijekbmhecnajabDoor
open Go.RowKit

theorem sub_lt (a b : Nat) : Gn.subW a b < 18446744073709551616 := Gn.add_lt _ _
set_option maxHeartbeats 1000000 in
theorem numTurns_walk (a : Nat) (ha : a < 18446744073709551616) (b : Nat) (hb : b < 18446744073709551616) (w : World) (hT : TabC w) :
    Calls Tryd.prog 4 #[.int .u64 (a : Int), .int .u64 (b : Int)] w fun e w' => e = .returned (.bool true) ∧ Below w.heap.size w w' := by
  have h1 : Gn.addW b a = Gn.addW a b := Gn.add_comm b a
  have h2 : Gn.mulW b a = Gn.mulW a b := Gn.mul_comm b a
  have hd := sub_lt a b
  have hf : bits .andNot .u64 (Gn.subW a b : Int) 9223372036854775808 = (lowW (Gn.subW a b) : Int) := abs_andNot _ hd
  by_cases hz : lowW (Gn.subW a b) = 0
  · rw [hz] at hf
    clear hz
    go_enter Tryd.func4, Tryd.ntmps4
    go_wp2_with (first
    | (go_at_call 11; refine (sub_any _ _ (by assumption) _).mono ?_; rintro e wx ⟨rfl, nx, rfl⟩)
    | (go_at_call 12; refine (add_any _ _ _).mono ?_; rintro e wx ⟨rfl, nx, rfl⟩)
    | (go_at_call 13; refine (mul_any _ _ _).mono ?_; rintro e wx ⟨rfl, nx, rfl⟩)
    | (go_at_call 14; refine (neg_any _ (by assumption) _).mono ?_; rintro e wx ⟨rfl, rfl⟩)
    | (go_at_call 9; refine (awake_true _ (tab_drew hT _)).mono ?_; rintro e w2 ⟨rfl, hb2⟩))
    go_ret
    exact ⟨rfl, bt (bt (bd _ _) hb2) (bd _ _)⟩
  · have h3 : Gn.subW b a = Gn.negW (Gn.subW a b) := by
      rcases Gn.sub_turn a b ha hb with h | h
      · exact absurd h hz
      · exact h
    have hz' : ((lowW (Gn.subW a b) : Int) == 0) = false := beqN_f (y := 0) hz
    clear hz
    go_enter Tryd.func4, Tryd.ntmps4
    go_wp2_with (first
    | (go_at_call 11; refine (sub_any _ _ (by assumption) _).mono ?_; rintro e wx ⟨rfl, nx, rfl⟩)
    | (go_at_call 12; refine (add_any _ _ _).mono ?_; rintro e wx ⟨rfl, nx, rfl⟩)
    | (go_at_call 13; refine (mul_any _ _ _).mono ?_; rintro e wx ⟨rfl, nx, rfl⟩)
    | (go_at_call 14; refine (neg_any _ (by assumption) _).mono ?_; rintro e wx ⟨rfl, rfl⟩)
    | (go_at_call 9; refine (awake_true _ (tab_drew hT _)).mono ?_; rintro e w2 ⟨rfl, hb2⟩))
    go_ret
    exact ⟨rfl, bt (bt (bd _ _) hb2) (bd _ _)⟩
end Go.Proofs.YtijekbmhecnajabDoor
