import Derived.Test.YtijekbmhecnajacDoorFloorM
import Derived.Test.YtijekbmhecnajacDoorWalkJ
namespace Go.Proofs.YtijekbmhecnajacDoor
open Go.RowKit

theorem floorW_lt (a : Nat) : floorW a < 18446744073709551616 := by
  unfold floorW; split
  · decide
  · exact Gn.flr_lt a
theorem subW_lt (a b : Nat) : Gn.subW a b < 18446744073709551616 := Gn.add_lt _ _
set_option maxHeartbeats 1000000 in
theorem numFloors_b1 (a : Nat) (ha : a < 18446744073709551616) (h1 : decide ((9218868437227405312 : Int) ≤ (Gn.absW a : Int)) = true) (h2 : floorW a = Gn.canonW a) (w : World) (hT : TabC w) :
    Calls Tryd.prog 4 #[.int .u64 (a : Int)] w fun e w' => e = .returned (.bool true) ∧ Below w.heap.size w w' := by
  go_enter Tryd.func4, Tryd.ntmps4
  go_wp2_with (first
      | (go_at_call 15; refine (floor_any _ (by assumption) _).mono ?_; rintro e wx ⟨rfl, nx, rfl⟩)
      | (go_at_call 16; refine (abs_any _ (by assumption) _).mono ?_; rintro e wx ⟨rfl, rfl⟩)
      | (go_at_call 11; refine (canon_any _ (by assumption) _).mono ?_; rintro e wx ⟨rfl, rfl⟩)
      | (go_at_call 17; refine (int_any _ (by assumption) _).mono ?_; rintro e wx ⟨rfl, rfl⟩)
      | (go_at_call 18; refine (sub_any _ _ (by assumption) _).mono ?_; rintro e wx ⟨rfl, nx, rfl⟩)
      | (go_at_call 13; refine (less_any _ _ _).mono ?_; rintro e wx ⟨rfl, rfl⟩)
      | (go_at_call 19; refine (of_any _ _).mono ?_; rintro e wx ⟨rfl, rfl⟩)
      | (go_at_call 14; refine (equal_any _ _ _).mono ?_; rintro e wx ⟨rfl, rfl⟩)
      | (go_at_call 20; refine (add_any _ _ _).mono ?_; rintro e wx ⟨rfl, nx, rfl⟩)
      | (go_at_call 10; refine (awake_true _ (tab_drew hT _)).mono ?_; rintro e w2 ⟨rfl, hb2⟩))
  go_ret
  exact ⟨rfl, bt (bd _ _) hb2⟩
set_option maxHeartbeats 1000000 in
theorem numFloors_b2 (a : Nat) (ha : a < 18446744073709551616) (h1 : decide ((9218868437227405312 : Int) ≤ (Gn.absW a : Int)) = false) (h3 : decide ((4841369599423283200 : Int) ≤ (Gn.absW a : Int)) = true) (h2 : floorW a = Gn.canonW a) (w : World) (hT : TabC w) :
    Calls Tryd.prog 4 #[.int .u64 (a : Int)] w fun e w' => e = .returned (.bool true) ∧ Below w.heap.size w w' := by
  go_enter Tryd.func4, Tryd.ntmps4
  go_wp2_with (first
      | (go_at_call 15; refine (floor_any _ (by assumption) _).mono ?_; rintro e wx ⟨rfl, nx, rfl⟩)
      | (go_at_call 16; refine (abs_any _ (by assumption) _).mono ?_; rintro e wx ⟨rfl, rfl⟩)
      | (go_at_call 11; refine (canon_any _ (by assumption) _).mono ?_; rintro e wx ⟨rfl, rfl⟩)
      | (go_at_call 17; refine (int_any _ (by assumption) _).mono ?_; rintro e wx ⟨rfl, rfl⟩)
      | (go_at_call 18; refine (sub_any _ _ (by assumption) _).mono ?_; rintro e wx ⟨rfl, nx, rfl⟩)
      | (go_at_call 13; refine (less_any _ _ _).mono ?_; rintro e wx ⟨rfl, rfl⟩)
      | (go_at_call 19; refine (of_any _ _).mono ?_; rintro e wx ⟨rfl, rfl⟩)
      | (go_at_call 14; refine (equal_any _ _ _).mono ?_; rintro e wx ⟨rfl, rfl⟩)
      | (go_at_call 20; refine (add_any _ _ _).mono ?_; rintro e wx ⟨rfl, nx, rfl⟩)
      | (go_at_call 10; refine (awake_true _ (tab_drew hT _)).mono ?_; rintro e w2 ⟨rfl, hb2⟩))
  go_ret
  exact ⟨rfl, bt (bd _ _) hb2⟩
set_option maxHeartbeats 1000000 in
theorem numFloors_s (a : Nat) (ha : a < 18446744073709551616) (h1 : decide ((9218868437227405312 : Int) ≤ (Gn.absW a : Int)) = false) (h3 : decide ((4841369599423283200 : Int) ≤ (Gn.absW a : Int)) = false) (hF : Fl a) (w : World) (hT : TabC w) :
    Calls Tryd.prog 4 #[.int .u64 (a : Int)] w fun e w' => e = .returned (.bool true) ∧ Below w.heap.size w w' := by
  obtain ⟨⟨n, f1, f2⟩, f3, f4, f5, f6⟩ := hF
  have l1 := floorW_lt a
  rcases f5 with f5 | ⟨f5, f7⟩
  all_goals
    go_enter Tryd.func4, Tryd.ntmps4
    go_wp2_with (first
      | (go_at_call 15; refine (floor_any _ (by assumption) _).mono ?_; rintro e wx ⟨rfl, nx, rfl⟩)
      | (go_at_call 16; refine (abs_any _ (by assumption) _).mono ?_; rintro e wx ⟨rfl, rfl⟩)
      | (go_at_call 11; refine (canon_any _ (by assumption) _).mono ?_; rintro e wx ⟨rfl, rfl⟩)
      | (go_at_call 17; refine (int_any _ (by assumption) _).mono ?_; rintro e wx ⟨rfl, rfl⟩)
      | (go_at_call 18; refine (sub_any _ _ (by assumption) _).mono ?_; rintro e wx ⟨rfl, nx, rfl⟩)
      | (go_at_call 13; refine (less_any _ _ _).mono ?_; rintro e wx ⟨rfl, rfl⟩)
      | (go_at_call 19; refine (of_any _ _).mono ?_; rintro e wx ⟨rfl, rfl⟩)
      | (go_at_call 14; refine (equal_any _ _ _).mono ?_; rintro e wx ⟨rfl, rfl⟩)
      | (go_at_call 20; refine (add_any _ _ _).mono ?_; rintro e wx ⟨rfl, nx, rfl⟩)
      | (go_at_call 10; refine (awake_true _ (tab_drew hT _)).mono ?_; rintro e w2 ⟨rfl, hb2⟩))
    go_ret
    exact ⟨rfl, bt (bt (bd _ _) hb2) (bd _ _)⟩
theorem numFloors_walk (a : Nat) (ha : a < 18446744073709551616) (w : World) (hT : TabC w) :
    Calls Tryd.prog 4 #[.int .u64 (a : Int)] w fun e w' => e = .returned (.bool true) ∧ Below w.heap.size w w' := by
  by_cases h1 : 9218868437227405312 ≤ Gn.absW a
  · exact numFloors_b1 a ha (decide_eq_true (by omega)) (floor_big a ha (by omega)) w hT
  · by_cases h2 : 4841369599423283200 ≤ Gn.absW a
    · exact numFloors_b2 a ha (decide_eq_false (by omega)) (decide_eq_true (by omega)) (floor_big a ha h2) w hT
    · refine numFloors_s a ha (decide_eq_false (by omega)) (decide_eq_false (by omega)) ?_ w hT
      obtain ⟨s, r, hr, rfl⟩ := Gn.wd_cases a ha
      rw [Gn.abs_wd s r hr] at h1 h2
      refine fl_of s r ?_
      by_cases hn : 9218868437227405312 < r
      · rw [if_pos hn] at h2; exact absurd (by decide) h2
      · rw [if_neg hn] at h2; omega
end Go.Proofs.YtijekbmhecnajacDoor
