import Derived.Test.YtijekbmhecnajacDoorWalkJ
namespace Go.Proofs.YtijekbmhecnajacDoor
open Go.RowKit

theorem cls_zero (s : Nat) (h : s % 9223372036854775808 = 0) : clsN s = 2 := by
  unfold clsN; rw [if_neg (by omega), if_neg (by omega), if_pos h]
set_option maxHeartbeats 1000000 in
theorem numSigns_walk (a : Nat) (ha : a < 18446744073709551616) (b : Nat) (hb : b < 18446744073709551616) (w : World) (hT : TabC w) :
    Calls Tryd.prog 6 #[.int .u64 (a : Int), .int .u64 (b : Int)] w fun e w' => e = .returned (.bool true) ∧ Below w.heap.size w w' := by
  have hx := Gn.neg_lt a ha
  have hy := Gn.neg_lt b hb
  have hs := Gn.add_lt a b
  have hp := Gn.mul_lt a b
  have hq := Gn.div_lt a b
  have hab := Gn.abs_lt a
  have e1 : Gn.negW (Gn.negW a) = Gn.canonW a := Gn.neg_neg a ha
  have e2 : Gn.mulW (Gn.negW a) (Gn.negW b) = Gn.mulW a b := Gn.mul_neg_neg a b ha hb
  have e3 : Gn.mulW (Gn.negW a) b = Gn.negW (Gn.mulW a b) := Gn.mul_neg a b ha
  have e4 : Gn.divW (Gn.negW a) b = Gn.negW (Gn.divW a b) := Gn.div_neg a b ha
  have e5 : Gn.absW (Gn.negW a) = Gn.absW a := Gn.abs_neg a ha
  have e6 : Gn.absW (Gn.absW a) = Gn.absW a := Gn.abs_abs a ha
  by_cases hz : Gn.addW (Gn.negW a) (Gn.negW b) = Gn.negW (Gn.addW a b)
  · go_enter Tryd.func6, Tryd.ntmps6
    go_wp2_with (first
    | (go_at_call 25; refine (neg_any _ (by assumption) _).mono ?_; rintro e wx ⟨rfl, rfl⟩)
    | (go_at_call 20; refine (add_any _ _ _).mono ?_; rintro e wx ⟨rfl, nx, rfl⟩)
    | (go_at_call 21; refine (mul_any _ _ _).mono ?_; rintro e wx ⟨rfl, nx, rfl⟩)
    | (go_at_call 22; refine (div_any _ _ _).mono ?_; rintro e wx ⟨rfl, nx, rfl⟩)
    | (go_at_call 16; refine (abs_any _ (by assumption) _).mono ?_; rintro e wx ⟨rfl, rfl⟩)
    | (go_at_call 11; refine (canon_any _ (by assumption) _).mono ?_; rintro e wx ⟨rfl, rfl⟩)
    | (go_at_call 12; refine (class_any _ (by assumption) _).mono ?_; rintro e wx ⟨rfl, rfl⟩)
    | (go_at_call 10; refine (awake_true _ (tab_drew hT _)).mono ?_; rintro e w2 ⟨rfl, hb2⟩))
    go_ret
    exact ⟨rfl, bt (bt (bd _ _) hb2) (bd _ _)⟩
  · have hc : (clsN (Gn.addW a b) : Int) = 2 := by
      rcases Gn.add_neg a b ha hb with h | h
      · rw [cls_zero _ h]; rfl
      · exact absurd h hz
    have hn : ((Gn.addW (Gn.negW a) (Gn.negW b) : Int) == (Gn.negW (Gn.addW a b) : Int)) = false := beqN_f hz
    clear hz
    go_enter Tryd.func6, Tryd.ntmps6
    go_wp2_with (first
    | (go_at_call 25; refine (neg_any _ (by assumption) _).mono ?_; rintro e wx ⟨rfl, rfl⟩)
    | (go_at_call 20; refine (add_any _ _ _).mono ?_; rintro e wx ⟨rfl, nx, rfl⟩)
    | (go_at_call 21; refine (mul_any _ _ _).mono ?_; rintro e wx ⟨rfl, nx, rfl⟩)
    | (go_at_call 22; refine (div_any _ _ _).mono ?_; rintro e wx ⟨rfl, nx, rfl⟩)
    | (go_at_call 16; refine (abs_any _ (by assumption) _).mono ?_; rintro e wx ⟨rfl, rfl⟩)
    | (go_at_call 11; refine (canon_any _ (by assumption) _).mono ?_; rintro e wx ⟨rfl, rfl⟩)
    | (go_at_call 12; refine (class_any _ (by assumption) _).mono ?_; rintro e wx ⟨rfl, rfl⟩)
    | (go_at_call 10; refine (awake_true _ (tab_drew hT _)).mono ?_; rintro e w2 ⟨rfl, hb2⟩))
    go_ret
    exact ⟨rfl, bt (bt (bd _ _) hb2) (bd _ _)⟩
end Go.Proofs.YtijekbmhecnajacDoor
