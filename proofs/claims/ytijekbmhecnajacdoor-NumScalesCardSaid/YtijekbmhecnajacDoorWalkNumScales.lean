import Derived.Test.YtijekbmhecnajacDoorScaleM
import Derived.Test.YtijekbmhecnajacDoorWalkJ
namespace Go.Proofs.YtijekbmhecnajacDoor
open Go.RowKit

set_option maxHeartbeats 1000000 in
theorem numScales_o1 (a : Nat) (k : Int) (h1 : k < -1000) (w : World) (hT : TabC w) :
    Calls Tryd.prog 7 #[.int .u64 (a : Int), .int .i64 k] w fun e w' => e = .returned (.bool true) ∧ Below w.heap.size w w' := by
  go_enter Tryd.func7, Tryd.ntmps7
  go_wp2_with (first
    | (go_at_call 21; refine (mul_any _ _ _).mono ?_; rintro e wx ⟨rfl, nx, rfl⟩)
    | (go_at_call 22; refine (div_any _ _ _).mono ?_; rintro e wx ⟨rfl, nx, rfl⟩)
    | (go_at_call 12; refine (class_any _ (by assumption) _).mono ?_; rintro e wx ⟨rfl, rfl⟩)
    | (go_at_call 16; refine (abs_any _ (by assumption) _).mono ?_; rintro e wx ⟨rfl, rfl⟩)
    | (go_at_call 10; refine (awake_true _ (hT)).mono ?_; rintro e w2 ⟨rfl, hb2⟩))
  go_ret
  exact ⟨rfl, hb2⟩
set_option maxHeartbeats 1000000 in
theorem numScales_o2 (a : Nat) (k : Int) (h1 : 1000 < k) (w : World) (hT : TabC w) :
    Calls Tryd.prog 7 #[.int .u64 (a : Int), .int .i64 k] w fun e w' => e = .returned (.bool true) ∧ Below w.heap.size w w' := by
  go_enter Tryd.func7, Tryd.ntmps7
  go_wp2_with (first
    | (go_at_call 21; refine (mul_any _ _ _).mono ?_; rintro e wx ⟨rfl, nx, rfl⟩)
    | (go_at_call 22; refine (div_any _ _ _).mono ?_; rintro e wx ⟨rfl, nx, rfl⟩)
    | (go_at_call 12; refine (class_any _ (by assumption) _).mono ?_; rintro e wx ⟨rfl, rfl⟩)
    | (go_at_call 16; refine (abs_any _ (by assumption) _).mono ?_; rintro e wx ⟨rfl, rfl⟩)
    | (go_at_call 10; refine (awake_true _ (hT)).mono ?_; rintro e w2 ⟨rfl, hb2⟩))
  go_ret
  exact ⟨rfl, hb2⟩
set_option maxHeartbeats 1000000 in
theorem numScales_s1 (a : Nat) (ha : a < 18446744073709551616) (k : Int) (h1 : -1000 ≤ k) (h2 : k ≤ 1000) (u d : Nat) (hu : (1023 + k) * 4503599627370496 = (u : Int)) (hd : (1023 - k) * 4503599627370496 = (d : Int)) (hm : Gn.divW a d = Gn.mulW a u) (c1 : ((clsN a : Int) != 4) = true) (w : World) (hT : TabC w) :
    Calls Tryd.prog 7 #[.int .u64 (a : Int), .int .i64 k] w fun e w' => e = .returned (.bool true) ∧ Below w.heap.size w w' := by
  go_enter Tryd.func7, Tryd.ntmps7
  go_wp2_with (first
    | (go_at_call 21; refine (mul_any _ _ _).mono ?_; rintro e wx ⟨rfl, nx, rfl⟩)
    | (go_at_call 22; refine (div_any _ _ _).mono ?_; rintro e wx ⟨rfl, nx, rfl⟩)
    | (go_at_call 12; refine (class_any _ (by assumption) _).mono ?_; rintro e wx ⟨rfl, rfl⟩)
    | (go_at_call 16; refine (abs_any _ (by assumption) _).mono ?_; rintro e wx ⟨rfl, rfl⟩)
    | (go_at_call 10; refine (awake_true _ (hT)).mono ?_; rintro e w2 ⟨rfl, hb2⟩))
  go_ret
  exact ⟨rfl, bt hb2 (bd _ _)⟩
set_option maxHeartbeats 1000000 in
theorem numScales_s2 (a : Nat) (ha : a < 18446744073709551616) (k : Int) (h1 : -1000 ≤ k) (h2 : k ≤ 1000) (u d : Nat) (hu : (1023 + k) * 4503599627370496 = (u : Int)) (hd : (1023 - k) * 4503599627370496 = (d : Int)) (hm : Gn.divW a d = Gn.mulW a u) (c1 : ((clsN a : Int) != 4) = false) (c2 : ((clsN (Gn.mulW a u) : Int) != 4) = true) (w : World) (hT : TabC w) :
    Calls Tryd.prog 7 #[.int .u64 (a : Int), .int .i64 k] w fun e w' => e = .returned (.bool true) ∧ Below w.heap.size w w' := by
  have l1 := Gn.mul_lt a u
  go_enter Tryd.func7, Tryd.ntmps7
  go_wp2_with (first
    | (go_at_call 21; refine (mul_any _ _ _).mono ?_; rintro e wx ⟨rfl, nx, rfl⟩)
    | (go_at_call 22; refine (div_any _ _ _).mono ?_; rintro e wx ⟨rfl, nx, rfl⟩)
    | (go_at_call 12; refine (class_any _ (by assumption) _).mono ?_; rintro e wx ⟨rfl, rfl⟩)
    | (go_at_call 16; refine (abs_any _ (by assumption) _).mono ?_; rintro e wx ⟨rfl, rfl⟩)
    | (go_at_call 10; refine (awake_true _ (hT)).mono ?_; rintro e w2 ⟨rfl, hb2⟩))
  go_ret
  exact ⟨rfl, bt hb2 (bd _ _)⟩
set_option maxHeartbeats 1000000 in
theorem numScales_s3 (a : Nat) (ha : a < 18446744073709551616) (k : Int) (h1 : -1000 ≤ k) (h2 : k ≤ 1000) (u d : Nat) (hu : (1023 + k) * 4503599627370496 = (u : Int)) (hd : (1023 - k) * 4503599627370496 = (d : Int)) (hm : Gn.divW a d = Gn.mulW a u) (c1 : ((clsN a : Int) != 4) = false) (c2 : ((clsN (Gn.mulW a u) : Int) != 4) = false) (c3 : decide ((Gn.absW (Gn.mulW a u) : Int) ≤ 4503599627370496) = true) (w : World) (hT : TabC w) :
    Calls Tryd.prog 7 #[.int .u64 (a : Int), .int .i64 k] w fun e w' => e = .returned (.bool true) ∧ Below w.heap.size w w' := by
  have l1 := Gn.mul_lt a u
  go_enter Tryd.func7, Tryd.ntmps7
  go_wp2_with (first
    | (go_at_call 21; refine (mul_any _ _ _).mono ?_; rintro e wx ⟨rfl, nx, rfl⟩)
    | (go_at_call 22; refine (div_any _ _ _).mono ?_; rintro e wx ⟨rfl, nx, rfl⟩)
    | (go_at_call 12; refine (class_any _ (by assumption) _).mono ?_; rintro e wx ⟨rfl, rfl⟩)
    | (go_at_call 16; refine (abs_any _ (by assumption) _).mono ?_; rintro e wx ⟨rfl, rfl⟩)
    | (go_at_call 10; refine (awake_true _ (hT)).mono ?_; rintro e w2 ⟨rfl, hb2⟩))
  go_ret
  exact ⟨rfl, bt hb2 (bd _ _)⟩
set_option maxHeartbeats 1000000 in
theorem numScales_s4 (a : Nat) (ha : a < 18446744073709551616) (k : Int) (h1 : -1000 ≤ k) (h2 : k ≤ 1000) (u d : Nat) (hu : (1023 + k) * 4503599627370496 = (u : Int)) (hd : (1023 - k) * 4503599627370496 = (d : Int)) (hm : Gn.divW a d = Gn.mulW a u) (c1 : ((clsN a : Int) != 4) = false) (c2 : ((clsN (Gn.mulW a u) : Int) != 4) = false) (c3 : decide ((Gn.absW (Gn.mulW a u) : Int) ≤ 4503599627370496) = false) (e1 : Gn.mulW (Gn.mulW a u) d = a) (e2 : Gn.divW (Gn.mulW a u) u = a) (w : World) (hT : TabC w) :
    Calls Tryd.prog 7 #[.int .u64 (a : Int), .int .i64 k] w fun e w' => e = .returned (.bool true) ∧ Below w.heap.size w w' := by
  have l1 := Gn.mul_lt a u
  go_enter Tryd.func7, Tryd.ntmps7
  go_wp2_with (first
    | (go_at_call 21; refine (mul_any _ _ _).mono ?_; rintro e wx ⟨rfl, nx, rfl⟩)
    | (go_at_call 22; refine (div_any _ _ _).mono ?_; rintro e wx ⟨rfl, nx, rfl⟩)
    | (go_at_call 12; refine (class_any _ (by assumption) _).mono ?_; rintro e wx ⟨rfl, rfl⟩)
    | (go_at_call 16; refine (abs_any _ (by assumption) _).mono ?_; rintro e wx ⟨rfl, rfl⟩)
    | (go_at_call 10; refine (awake_true _ (hT)).mono ?_; rintro e w2 ⟨rfl, hb2⟩))
  go_ret
  exact ⟨rfl, bt hb2 (bd _ _)⟩
theorem numScales_walk (a : Nat) (ha : a < 18446744073709551616) (k : Int) (_k1 : -9223372036854775808 ≤ k) (_k2 : k ≤ 9223372036854775807) (w : World) (hT : TabC w) :
    Calls Tryd.prog 7 #[.int .u64 (a : Int), .int .i64 k] w fun e w' => e = .returned (.bool true) ∧ Below w.heap.size w w' := by
  rcases Int.lt_or_le k (-1000) with h1 | h1
  · exact numScales_o1 a k h1 w hT
  rcases Int.lt_or_le 1000 k with h2 | h2
  · exact numScales_o2 a k h2 w hT
  obtain ⟨p, hp⟩ : ∃ p : Nat, (p : Int) = 1023 + k := ⟨(1023 + k).toNat, by omega⟩
  obtain ⟨q, hq⟩ : ∃ q : Nat, (q : Int) = 1023 - k := ⟨(1023 - k).toNat, by omega⟩
  have hu : (1023 + k) * 4503599627370496 = ((pw p : Nat) : Int) := by unfold pw; rw [← hp]; simp
  have hd : (1023 - k) * 4503599627370496 = ((pw q : Nat) : Int) := by unfold pw; rw [← hq]; simp
  have hm := div_is_mul a p q ha (by omega) (by omega) (by omega)
  by_cases c1 : clsN a = 4
  · by_cases c2 : clsN (Gn.mulW a (pw p)) = 4
    · by_cases c3 : Gn.absW (Gn.mulW a (pw p)) ≤ 4503599627370496
      · exact numScales_s3 a ha k h1 h2 (pw p) (pw q) hu hd hm (bneN_f (y := 4) c1) (bneN_f (y := 4) c2) (decide_eq_true (by omega)) w hT
      · have e1 := scale_back a p q ha (by omega) (by omega) (by omega) c1 c2 (by omega)
        have e2 : Gn.divW (Gn.mulW a (pw p)) (pw p) = a := by
          rw [div_is_mul _ q p (Gn.mul_lt _ _) (by omega) (by omega) (by omega)]; exact e1
        exact numScales_s4 a ha k h1 h2 (pw p) (pw q) hu hd hm (bneN_f (y := 4) c1) (bneN_f (y := 4) c2) (decide_eq_false (by omega)) e1 e2 w hT
    · exact numScales_s2 a ha k h1 h2 (pw p) (pw q) hu hd hm (bneN_f (y := 4) c1) (bneN_t (y := 4) c2) w hT
  · exact numScales_s1 a ha k h1 h2 (pw p) (pw q) hu hd hm (bneN_t (y := 4) c1) w hT
end Go.Proofs.YtijekbmhecnajacDoor
