import Derived.Test.YtijekbmhecnajadDoorNearM
import Derived.Test.YtijekbmhecnajadDoorWalkJ
namespace Go.Proofs.YtijekbmhecnajadDoor
open Go.RowKit

/-- the end of it, x being the greater one -/
def Fin (S x y m : Nat) : Prop := ltW (Gn.subW (Gn.absW S) m) (Gn.addW (Gn.absW (Gn.subW y (Gn.subW S x))) (Gn.absW (Gn.subW y (Gn.subW S x)))) = false ∨ (ltW (Gn.subW (Gn.absW S) m) (Gn.addW (Gn.absW (Gn.subW y (Gn.subW S x))) (Gn.absW (Gn.subW y (Gn.subW S x)))) = true ∧ bits .and .u64 (Gn.absW S : Int) 4503599627370495 = 0)
theorem subW_lt' (a b : Nat) : Gn.subW a b < 18446744073709551616 := Gn.add_lt _ _
set_option maxHeartbeats 2000000 in
theorem numNearest_c1 (a : Nat) (ha : a < 18446744073709551616) (b : Nat) (c1 : ((clsN a : Int) != 4) = true) (w : World) (hT : TabC w) :
    Calls Tryd.prog 4 #[.int .u64 (a : Int), .int .u64 (b : Int)] w fun e w' => e = .returned (.bool true) ∧ Below w.heap.size w w' := by
  go_enter Tryd.func4, Tryd.ntmps4
  go_wp2_with (first
      | (go_at_call 8; refine (class_any _ (by assumption) _).mono ?_; rintro e wx ⟨rfl, rfl⟩)
      | (go_at_call 10; refine (add_any _ _ _).mono ?_; rintro e wx ⟨rfl, nx, rfl⟩)
      | (go_at_call 11; refine (abs_any _ (by assumption) _).mono ?_; rintro e wx ⟨rfl, rfl⟩)
      | (go_at_call 12; refine (less_any _ _ _).mono ?_; rintro e wx ⟨rfl, rfl⟩)
      | (go_at_call 13; refine (sub_any _ _ (by assumption) _).mono ?_; rintro e wx ⟨rfl, nx, rfl⟩)
      | (go_at_call 7; refine (awake_true _ (hT)).mono ?_; rintro e w2 ⟨rfl, hb2⟩))
  go_ret
  exact ⟨rfl, hb2⟩
set_option maxHeartbeats 2000000 in
theorem numNearest_c2 (a : Nat) (ha : a < 18446744073709551616) (b : Nat) (hb : b < 18446744073709551616) (c1 : ((clsN a : Int) != 4) = false) (c2 : ((clsN b : Int) != 4) = true) (w : World) (hT : TabC w) :
    Calls Tryd.prog 4 #[.int .u64 (a : Int), .int .u64 (b : Int)] w fun e w' => e = .returned (.bool true) ∧ Below w.heap.size w w' := by
  go_enter Tryd.func4, Tryd.ntmps4
  go_wp2_with (first
      | (go_at_call 8; refine (class_any _ (by assumption) _).mono ?_; rintro e wx ⟨rfl, rfl⟩)
      | (go_at_call 10; refine (add_any _ _ _).mono ?_; rintro e wx ⟨rfl, nx, rfl⟩)
      | (go_at_call 11; refine (abs_any _ (by assumption) _).mono ?_; rintro e wx ⟨rfl, rfl⟩)
      | (go_at_call 12; refine (less_any _ _ _).mono ?_; rintro e wx ⟨rfl, rfl⟩)
      | (go_at_call 13; refine (sub_any _ _ (by assumption) _).mono ?_; rintro e wx ⟨rfl, nx, rfl⟩)
      | (go_at_call 7; refine (awake_true _ (hT)).mono ?_; rintro e w2 ⟨rfl, hb2⟩))
  go_ret
  exact ⟨rfl, hb2⟩
set_option maxHeartbeats 2000000 in
theorem numNearest_c3 (a : Nat) (ha : a < 18446744073709551616) (b : Nat) (hb : b < 18446744073709551616) (c1 : ((clsN a : Int) != 4) = false) (c2 : ((clsN b : Int) != 4) = false) (c3 : ((clsN (Gn.addW a b) : Int) != 4) = true) (w : World) (hT : TabC w) :
    Calls Tryd.prog 4 #[.int .u64 (a : Int), .int .u64 (b : Int)] w fun e w' => e = .returned (.bool true) ∧ Below w.heap.size w w' := by
  have l1 := Gn.add_lt a b
  go_enter Tryd.func4, Tryd.ntmps4
  go_wp2_with (first
      | (go_at_call 8; refine (class_any _ (by assumption) _).mono ?_; rintro e wx ⟨rfl, rfl⟩)
      | (go_at_call 10; refine (add_any _ _ _).mono ?_; rintro e wx ⟨rfl, nx, rfl⟩)
      | (go_at_call 11; refine (abs_any _ (by assumption) _).mono ?_; rintro e wx ⟨rfl, rfl⟩)
      | (go_at_call 12; refine (less_any _ _ _).mono ?_; rintro e wx ⟨rfl, rfl⟩)
      | (go_at_call 13; refine (sub_any _ _ (by assumption) _).mono ?_; rintro e wx ⟨rfl, nx, rfl⟩)
      | (go_at_call 7; refine (awake_true _ (hT)).mono ?_; rintro e w2 ⟨rfl, hb2⟩))
  go_ret
  exact ⟨rfl, bt hb2 (bd _ _)⟩
set_option maxHeartbeats 2000000 in
theorem numNearest_c4 (a : Nat) (ha : a < 18446744073709551616) (b : Nat) (hb : b < 18446744073709551616) (c1 : ((clsN a : Int) != 4) = false) (c2 : ((clsN b : Int) != 4) = false) (c3 : ((clsN (Gn.addW a b) : Int) != 4) = false) (c4 : decide ((Gn.absW (Gn.addW a b) : Int) < 243194379878006784) = true) (w : World) (hT : TabC w) :
    Calls Tryd.prog 4 #[.int .u64 (a : Int), .int .u64 (b : Int)] w fun e w' => e = .returned (.bool true) ∧ Below w.heap.size w w' := by
  have l1 := Gn.add_lt a b
  go_enter Tryd.func4, Tryd.ntmps4
  go_wp2_with (first
      | (go_at_call 8; refine (class_any _ (by assumption) _).mono ?_; rintro e wx ⟨rfl, rfl⟩)
      | (go_at_call 10; refine (add_any _ _ _).mono ?_; rintro e wx ⟨rfl, nx, rfl⟩)
      | (go_at_call 11; refine (abs_any _ (by assumption) _).mono ?_; rintro e wx ⟨rfl, rfl⟩)
      | (go_at_call 12; refine (less_any _ _ _).mono ?_; rintro e wx ⟨rfl, rfl⟩)
      | (go_at_call 13; refine (sub_any _ _ (by assumption) _).mono ?_; rintro e wx ⟨rfl, nx, rfl⟩)
      | (go_at_call 7; refine (awake_true _ (hT)).mono ?_; rintro e w2 ⟨rfl, hb2⟩))
  go_ret
  exact ⟨rfl, bt hb2 (bd _ _)⟩
set_option maxHeartbeats 2000000 in
theorem numNearest_c5 (a : Nat) (ha : a < 18446744073709551616) (b : Nat) (hb : b < 18446744073709551616) (c1 : ((clsN a : Int) != 4) = false) (c2 : ((clsN b : Int) != 4) = false) (c3 : ((clsN (Gn.addW a b) : Int) != 4) = false) (c4 : decide ((Gn.absW (Gn.addW a b) : Int) < 243194379878006784) = false) (c5 : decide ((9209861237972664320 : Int) ≤ (Gn.absW a : Int)) = true) (w : World) (hT : TabC w) :
    Calls Tryd.prog 4 #[.int .u64 (a : Int), .int .u64 (b : Int)] w fun e w' => e = .returned (.bool true) ∧ Below w.heap.size w w' := by
  have l1 := Gn.add_lt a b
  go_enter Tryd.func4, Tryd.ntmps4
  go_wp2_with (first
      | (go_at_call 8; refine (class_any _ (by assumption) _).mono ?_; rintro e wx ⟨rfl, rfl⟩)
      | (go_at_call 10; refine (add_any _ _ _).mono ?_; rintro e wx ⟨rfl, nx, rfl⟩)
      | (go_at_call 11; refine (abs_any _ (by assumption) _).mono ?_; rintro e wx ⟨rfl, rfl⟩)
      | (go_at_call 12; refine (less_any _ _ _).mono ?_; rintro e wx ⟨rfl, rfl⟩)
      | (go_at_call 13; refine (sub_any _ _ (by assumption) _).mono ?_; rintro e wx ⟨rfl, nx, rfl⟩)
      | (go_at_call 7; refine (awake_true _ (hT)).mono ?_; rintro e w2 ⟨rfl, hb2⟩))
  go_ret
  exact ⟨rfl, bt hb2 (bd _ _)⟩
set_option maxHeartbeats 2000000 in
theorem numNearest_c6 (a : Nat) (ha : a < 18446744073709551616) (b : Nat) (hb : b < 18446744073709551616) (c1 : ((clsN a : Int) != 4) = false) (c2 : ((clsN b : Int) != 4) = false) (c3 : ((clsN (Gn.addW a b) : Int) != 4) = false) (c4 : decide ((Gn.absW (Gn.addW a b) : Int) < 243194379878006784) = false) (c5 : decide ((9209861237972664320 : Int) ≤ (Gn.absW a : Int)) = false) (c6 : decide ((9209861237972664320 : Int) ≤ (Gn.absW b : Int)) = true) (w : World) (hT : TabC w) :
    Calls Tryd.prog 4 #[.int .u64 (a : Int), .int .u64 (b : Int)] w fun e w' => e = .returned (.bool true) ∧ Below w.heap.size w w' := by
  have l1 := Gn.add_lt a b
  go_enter Tryd.func4, Tryd.ntmps4
  go_wp2_with (first
      | (go_at_call 8; refine (class_any _ (by assumption) _).mono ?_; rintro e wx ⟨rfl, rfl⟩)
      | (go_at_call 10; refine (add_any _ _ _).mono ?_; rintro e wx ⟨rfl, nx, rfl⟩)
      | (go_at_call 11; refine (abs_any _ (by assumption) _).mono ?_; rintro e wx ⟨rfl, rfl⟩)
      | (go_at_call 12; refine (less_any _ _ _).mono ?_; rintro e wx ⟨rfl, rfl⟩)
      | (go_at_call 13; refine (sub_any _ _ (by assumption) _).mono ?_; rintro e wx ⟨rfl, nx, rfl⟩)
      | (go_at_call 7; refine (awake_true _ (hT)).mono ?_; rintro e w2 ⟨rfl, hb2⟩))
  go_ret
  exact ⟨rfl, bt hb2 (bd _ _)⟩
set_option maxHeartbeats 2000000 in
theorem numNearest_m1 (a : Nat) (ha : a < 18446744073709551616) (b : Nat) (hb : b < 18446744073709551616) (c1 : ((clsN a : Int) != 4) = false) (c2 : ((clsN b : Int) != 4) = false) (c3 : ((clsN (Gn.addW a b) : Int) != 4) = false) (c4 : decide ((Gn.absW (Gn.addW a b) : Int) < 243194379878006784) = false) (c5 : decide ((9209861237972664320 : Int) ≤ (Gn.absW a : Int)) = false) (c6 : decide ((9209861237972664320 : Int) ≤ (Gn.absW b : Int)) = false) (c7 : ltW (Gn.absW a) (Gn.absW b) = false) (m : Nat) (hmlt : m < 18446744073709551616) (hm : IntKind.u64.wrap ((Gn.absW (Gn.addW a b) : Int) - 1) = (m : Int)) (hF : Fin (Gn.addW a b) a b m) (w : World) (hT : TabC w) :
    Calls Tryd.prog 4 #[.int .u64 (a : Int), .int .u64 (b : Int)] w fun e w' => e = .returned (.bool true) ∧ Below w.heap.size w w' := by
  have l1 := Gn.add_lt a b
  have l2 := subW_lt' (Gn.addW a b) a
  have l3 := subW_lt' b (Gn.subW (Gn.addW a b) a)
  have l4 := Gn.abs_lt (Gn.addW a b)
  have l5 := Gn.abs_lt a
  have l6 := Gn.abs_lt b
  rcases hF with hF | ⟨hF, hG⟩
  all_goals
    go_enter Tryd.func4, Tryd.ntmps4
    go_wp2_with (first
      | (go_at_call 8; refine (class_any _ (by assumption) _).mono ?_; rintro e wx ⟨rfl, rfl⟩)
      | (go_at_call 10; refine (add_any _ _ _).mono ?_; rintro e wx ⟨rfl, nx, rfl⟩)
      | (go_at_call 11; refine (abs_any _ (by assumption) _).mono ?_; rintro e wx ⟨rfl, rfl⟩)
      | (go_at_call 12; refine (less_any _ _ _).mono ?_; rintro e wx ⟨rfl, rfl⟩)
      | (go_at_call 13; refine (sub_any _ _ (by assumption) _).mono ?_; rintro e wx ⟨rfl, nx, rfl⟩)
      | (go_at_call 7; refine (awake_true _ (hT)).mono ?_; rintro e w2 ⟨rfl, hb2⟩))
    go_ret
    exact ⟨rfl, bt hb2 (bd _ _)⟩
set_option maxHeartbeats 2000000 in
theorem numNearest_m2 (a : Nat) (ha : a < 18446744073709551616) (b : Nat) (hb : b < 18446744073709551616) (c1 : ((clsN a : Int) != 4) = false) (c2 : ((clsN b : Int) != 4) = false) (c3 : ((clsN (Gn.addW a b) : Int) != 4) = false) (c4 : decide ((Gn.absW (Gn.addW a b) : Int) < 243194379878006784) = false) (c5 : decide ((9209861237972664320 : Int) ≤ (Gn.absW a : Int)) = false) (c6 : decide ((9209861237972664320 : Int) ≤ (Gn.absW b : Int)) = false) (c7 : ltW (Gn.absW a) (Gn.absW b) = true) (m : Nat) (hmlt : m < 18446744073709551616) (hm : IntKind.u64.wrap ((Gn.absW (Gn.addW a b) : Int) - 1) = (m : Int)) (hF : Fin (Gn.addW a b) b a m) (w : World) (hT : TabC w) :
    Calls Tryd.prog 4 #[.int .u64 (a : Int), .int .u64 (b : Int)] w fun e w' => e = .returned (.bool true) ∧ Below w.heap.size w w' := by
  have l1 := Gn.add_lt a b
  have l2 := subW_lt' (Gn.addW a b) b
  have l3 := subW_lt' a (Gn.subW (Gn.addW a b) b)
  have l4 := Gn.abs_lt (Gn.addW a b)
  have l5 := Gn.abs_lt a
  have l6 := Gn.abs_lt b
  rcases hF with hF | ⟨hF, hG⟩
  all_goals
    go_enter Tryd.func4, Tryd.ntmps4
    go_wp2_with (first
      | (go_at_call 8; refine (class_any _ (by assumption) _).mono ?_; rintro e wx ⟨rfl, rfl⟩)
      | (go_at_call 10; refine (add_any _ _ _).mono ?_; rintro e wx ⟨rfl, nx, rfl⟩)
      | (go_at_call 11; refine (abs_any _ (by assumption) _).mono ?_; rintro e wx ⟨rfl, rfl⟩)
      | (go_at_call 12; refine (less_any _ _ _).mono ?_; rintro e wx ⟨rfl, rfl⟩)
      | (go_at_call 13; refine (sub_any _ _ (by assumption) _).mono ?_; rintro e wx ⟨rfl, nx, rfl⟩)
      | (go_at_call 7; refine (awake_true _ (hT)).mono ?_; rintro e w2 ⟨rfl, hb2⟩))
    go_ret
    exact ⟨rfl, bt hb2 (bd _ _)⟩

theorem plain_wd (a : Nat) (ha : a < 18446744073709551616) (h : clsN a = 4) : ∃ s r, 4503599627370496 ≤ r ∧ r < 9218868437227405312 ∧ a = Gn.wd s r ∧ Gn.absW a = r := by
  obtain ⟨s, r, hr, rfl⟩ := Gn.wd_cases a ha
  rw [cls_wd s r hr] at h
  have hb : 4503599627370496 ≤ r ∧ r < 9218868437227405312 := by
    split at h
    · omega
    · split at h
      · omega
      · split at h
        · omega
        · split at h <;> omega
  exact ⟨s, r, hb.1, hb.2, rfl, by rw [Gn.abs_wd s r hr, if_neg (by omega)]⟩
theorem fin_of (a b : Nat) (ha : a < 18446744073709551616) (hb : b < 18446744073709551616) (ca : clsN a = 4) (cb : clsN b = 4) (cs : clsN (Gn.addW a b) = 4) (h5 : Gn.absW a < 9209861237972664320) (hle : ltW (Gn.absW a) (Gn.absW b) = false) :
    Fin (Gn.addW a b) a b (Gn.absW (Gn.addW a b) - 1) ∧ 1 ≤ Gn.absW (Gn.addW a b) := by
  obtain ⟨v, p, hp1, hp2, eS, aS⟩ := plain_wd _ (Gn.add_lt a b) cs
  obtain ⟨s, r, hr1, hr2, rfl, ar⟩ := plain_wd a ha ca
  obtain ⟨t, q, hq1, hq2, rfl, aq⟩ := plain_wd b hb cb
  rw [ar] at h5 hle
  rw [aq] at hle
  have hw := lt_wd' false false r q (by omega) (by omega)
  rw [wdf, wdf] at hw
  rw [hw] at hle
  have hvl : ¬ Gn.sgn false (Gn.vl r) < Gn.sgn false (Gn.vl q) := of_decide_eq_false hle
  rw [Gn.sgn_f, Gn.sgn_f] at hvl
  have hqr : q ≤ r := by
    rcases Nat.lt_or_ge r q with k | k
    · have := Gn.vl_lt k; omega
    · exact k
  rw [aS]
  refine ⟨?_, by omega⟩
  have hfin := Gn.add_fin s t r q hr2 hq2
  have hrn := Gn.rn_le (Gn.tot s t r q).natAbs
  have hpe : Gn.rn (Gn.tot s t r q).natAbs = p := by
    rw [hfin] at eS
    exact (Gn.wd_inj (by omega) (by omega) eS).2
  have hN0 : (Gn.tot s t r q).natAbs ≠ 0 := by
    intro k; rw [k] at hpe
    have : Gn.rn 0 = 0 := rfl
    omega
  unfold Fin
  by_cases hm : p % 4503599627370496 = 0
  · have hb0 : bits .and .u64 (Gn.absW (Gn.addW (Gn.wd s r) (Gn.wd t q)) : Int) 4503599627370495 = 0 := by
      rw [aS, fields_m p (by omega)]; unfold fm; rw [hm]; rfl
    cases hL : ltW (Gn.subW (Gn.absW (Gn.addW (Gn.wd s r) (Gn.wd t q))) (p - 1)) (Gn.addW (Gn.absW (Gn.subW (Gn.wd t q) (Gn.subW (Gn.addW (Gn.wd s r) (Gn.wd t q)) (Gn.wd s r)))) (Gn.absW (Gn.subW (Gn.wd t q) (Gn.subW (Gn.addW (Gn.wd s r) (Gn.wd t q)) (Gn.wd s r)))))
    · exact .inl rfl
    · exact .inr ⟨rfl, hb0⟩
  · obtain ⟨m1, m2⟩ := near_main s t r q _ p hqr h5 rfl hN0 hpe hp2 hp1 hm
    left
    rw [aS, m1]; exact m2
theorem wrap_pred (x : Nat) (h1 : 1 ≤ x) (h2 : x < 18446744073709551616) : IntKind.u64.wrap ((x : Int) - 1) = ((x - 1 : Nat) : Int) := by
  rw [IntKind.wrap_u64]; omega
theorem numNearest_walk (a : Nat) (ha : a < 18446744073709551616) (b : Nat) (hb : b < 18446744073709551616) (w : World) (hT : TabC w) :
    Calls Tryd.prog 4 #[.int .u64 (a : Int), .int .u64 (b : Int)] w fun e w' => e = .returned (.bool true) ∧ Below w.heap.size w w' := by
  by_cases c1 : clsN a = 4
  · by_cases c2 : clsN b = 4
    · by_cases c3 : clsN (Gn.addW a b) = 4
      · by_cases c4 : Gn.absW (Gn.addW a b) < 243194379878006784
        · exact numNearest_c4 a ha b hb (bneN_f (y := 4) c1) (bneN_f (y := 4) c2) (bneN_f (y := 4) c3) (decide_eq_true (by omega)) w hT
        · by_cases c5 : 9209861237972664320 ≤ Gn.absW a
          · exact numNearest_c5 a ha b hb (bneN_f (y := 4) c1) (bneN_f (y := 4) c2) (bneN_f (y := 4) c3) (decide_eq_false (by omega)) (decide_eq_true (by omega)) w hT
          · by_cases c6 : 9209861237972664320 ≤ Gn.absW b
            · exact numNearest_c6 a ha b hb (bneN_f (y := 4) c1) (bneN_f (y := 4) c2) (bneN_f (y := 4) c3) (decide_eq_false (by omega)) (decide_eq_false (by omega)) (decide_eq_true (by omega)) w hT
            · have hal := Gn.abs_lt (Gn.addW a b)
              cases c7 : ltW (Gn.absW a) (Gn.absW b)
              · obtain ⟨hF, h1⟩ := fin_of a b ha hb c1 c2 c3 (by omega) c7
                exact numNearest_m1 a ha b hb (bneN_f (y := 4) c1) (bneN_f (y := 4) c2) (bneN_f (y := 4) c3) (decide_eq_false (by omega)) (decide_eq_false (by omega)) (decide_eq_false (by omega)) c7 _ (by omega) (wrap_pred _ h1 hal) hF w hT
              · have hba : ltW (Gn.absW b) (Gn.absW a) = false := by
                  obtain ⟨s, r, hr1, hr2, _, ar⟩ := plain_wd a ha c1
                  obtain ⟨t, q, hq1, hq2, _, aq⟩ := plain_wd b hb c2
                  rw [ar, aq] at c7 ⊢
                  have w1 := lt_wd' false false r q (by omega) (by omega)
                  have w2 := lt_wd' false false q r (by omega) (by omega)
                  rw [wdf, wdf] at w1 w2
                  rw [w1] at c7
                  rw [w2]
                  have := of_decide_eq_true c7
                  exact decide_eq_false (by omega)
                have e := Gn.add_comm b a
                obtain ⟨hF, h1⟩ := fin_of b a hb ha c2 c1 (by rw [e]; exact c3) (by omega) hba
                rw [e] at hF h1
                exact numNearest_m2 a ha b hb (bneN_f (y := 4) c1) (bneN_f (y := 4) c2) (bneN_f (y := 4) c3) (decide_eq_false (by omega)) (decide_eq_false (by omega)) (decide_eq_false (by omega)) c7 _ (by omega) (wrap_pred _ h1 hal) hF w hT
      · exact numNearest_c3 a ha b hb (bneN_f (y := 4) c1) (bneN_f (y := 4) c2) (bneN_t (y := 4) c3) w hT
    · exact numNearest_c2 a ha b hb (bneN_f (y := 4) c1) (bneN_t (y := 4) c2) w hT
  · exact numNearest_c1 a ha b (bneN_t (y := 4) c1) w hT
end Go.Proofs.YtijekbmhecnajadDoor
