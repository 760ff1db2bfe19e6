import Derived.Test.YtjabnddjahhgoaaRcG2
import Derived.Deep.DeepAppendRoom
import Derived.Laws.AppendOwnNone
import Derived.Laws.MakeOwn
import Derived.Laws.OwnMore
namespace Go.Proofs.Ytjabnddjahhgoaa
open Go.RowKit
open Rc (L V Ch)

set_option maxHeartbeats 1600000 in
theorem rcheck_1 (n jo ba sl li rc : Int) (rb : Nat) (pr : ByteArray) (tx : List ByteArray) (p : Option Addr) (cap : Nat) (w : World) (_HT : Hid (∀ W : World, Below w.heap.size w W → Tx W (.slice p tx.length cap) tx)) : Calls Try.prog 15 #[.agg (chC ⟨1, n, jo, ba, sl, li, rc, rb, pr, tx⟩ (.slice p tx.length cap))] w fun e w' => e = .returned (.int .i64 (Rc.check ⟨1, n, jo, ba, sl, li, rc, rb, pr, tx⟩ : Int)) ∧ Below w.heap.size w w' := by
  have HC := hide (chk1 n jo ba sl li rc rb pr tx)
  generalize Rc.check ⟨1, n, jo, ba, sl, li, rc, rb, pr, tx⟩ = C at *
  simp only [chC]
  by_cases h0 : 1 ≤ n ∧ n ≤ 1099511627776
  case neg =>
    have HF : Hid (C = 81) := hide (by rw [HC.out]; exact if_neg fun h => h0 h.1)
    clear HC
    go_enter Try.func15, Try.ntmps15
    go_wp2_with fail
    refine (wit_f h0 _).mono ?_
    rintro e w' ⟨rfl, rfl⟩
    go_wp2_with fail
    go_ret
    exact ⟨by rw [HF.out]; rfl, by (repeat first | exact Below.refl _ _ | exact below_alloc _ _ | refine Below.alloc ?_ (by first | (simp; done) | (simp; omega)) _ | refine Below.setCell ?_ (by first | (simp; done) | (simp; omega)) _ | (refine below_drewN ?_ _))⟩
  have HF : Hid (C = if (⟨1, 0, jo, ba, sl, li, rc, rb, pr, tx⟩ : Ch) = Rc.zC 1 then 0 else 81) := hide (by rw [HC.out]; exact if_iff (and_iff_right h0))
  clear HC
  go_enter Try.func15, Try.ntmps15
  go_wp2_with fail
  refine (wit_t h0 _).mono ?_
  rintro e w' ⟨rfl, rfl⟩
  go_wp2_with fail
  refine (rzero_any ⟨1, 0, jo, ba, sl, li, rc, rb, pr, tx⟩ p cap _).mono ?_
  rintro e w' ⟨rfl, rfl⟩
  have HF2 := HF.out
  clear HF
  by_cases hz : (⟨1, 0, jo, ba, sl, li, rc, rb, pr, tx⟩ : Ch) = Rc.zC 1
  · have HF : Hid (C = 0) := hide (by rw [HF2]; exact if_pos hz)
    rw [decide_eq_true hz]
    clear hz HF2
    go_wp2_with fail
    go_ret
    exact ⟨by rw [HF.out]; rfl, by (repeat first | exact Below.refl _ _ | exact below_alloc _ _ | refine Below.alloc ?_ (by first | (simp; done) | (simp; omega)) _ | refine Below.setCell ?_ (by first | (simp; done) | (simp; omega)) _ | (refine below_drewN ?_ _))⟩
  · have HF : Hid (C = 81) := hide (by rw [HF2]; exact if_neg hz)
    rw [decide_eq_false hz]
    clear hz HF2
    go_wp2_with fail
    go_ret
    exact ⟨by rw [HF.out]; rfl, by (repeat first | exact Below.refl _ _ | exact below_alloc _ _ | refine Below.alloc ?_ (by first | (simp; done) | (simp; omega)) _ | refine Below.setCell ?_ (by first | (simp; done) | (simp; omega)) _ | (refine below_drewN ?_ _))⟩
set_option maxHeartbeats 1600000 in
theorem rcheck_2 (n jo ba sl li rc : Int) (rb : Nat) (pr : ByteArray) (tx : List ByteArray) (p : Option Addr) (cap : Nat) (w : World) (_HT : Hid (∀ W : World, Below w.heap.size w W → Tx W (.slice p tx.length cap) tx)) : Calls Try.prog 15 #[.agg (chC ⟨2, n, jo, ba, sl, li, rc, rb, pr, tx⟩ (.slice p tx.length cap))] w fun e w' => e = .returned (.int .i64 (Rc.check ⟨2, n, jo, ba, sl, li, rc, rb, pr, tx⟩ : Int)) ∧ Below w.heap.size w w' := by
  have HC := hide (chk2 n jo ba sl li rc rb pr tx)
  generalize Rc.check ⟨2, n, jo, ba, sl, li, rc, rb, pr, tx⟩ = C at *
  simp only [chC]
  by_cases h0 : 1 ≤ jo ∧ jo ≤ 8
  case neg =>
    have HF : Hid (C = 81) := hide (by rw [HC.out]; exact if_neg fun h => h0 h.1.1)
    clear HC
    go_enter Try.func15, Try.ntmps15
    go_wp2_with fail
    refine (wit_f h0 _).mono ?_
    rintro e w' ⟨rfl, rfl⟩
    go_wp2_with fail
    go_ret
    exact ⟨by rw [HF.out]; rfl, by (repeat first | exact Below.refl _ _ | exact below_alloc _ _ | refine Below.alloc ?_ (by first | (simp; done) | (simp; omega)) _ | refine Below.setCell ?_ (by first | (simp; done) | (simp; omega)) _ | (refine below_drewN ?_ _))⟩
  by_cases h1 : 1 ≤ (pr.size : Int) ∧ (pr.size : Int) ≤ 1024
  case neg =>
    have HF : Hid (C = 81) := hide (by rw [HC.out]; exact if_neg fun h => h1 h.1.2)
    clear HC
    go_enter Try.func15, Try.ntmps15
    go_wp2_with fail
    refine (wit_t h0 _).mono ?_
    rintro e w' ⟨rfl, rfl⟩
    go_wp2_with fail
    refine (wit_f h1 _).mono ?_
    rintro e w' ⟨rfl, rfl⟩
    go_wp2_with fail
    go_ret
    exact ⟨by rw [HF.out]; rfl, by (repeat first | exact Below.refl _ _ | exact below_alloc _ _ | refine Below.alloc ?_ (by first | (simp; done) | (simp; omega)) _ | refine Below.setCell ?_ (by first | (simp; done) | (simp; omega)) _ | (refine below_drewN ?_ _))⟩
  have HF : Hid (C = if (⟨2, n, 0, ba, sl, li, rc, rb, ⟨#[]⟩, tx⟩ : Ch) = Rc.zC 2 then 0 else 81) := hide (by rw [HC.out]; exact if_iff (and_iff_right ⟨h0, h1⟩))
  clear HC
  go_enter Try.func15, Try.ntmps15
  go_wp2_with fail
  refine (wit_t h0 _).mono ?_
  rintro e w' ⟨rfl, rfl⟩
  go_wp2_with fail
  refine (wit_t h1 _).mono ?_
  rintro e w' ⟨rfl, rfl⟩
  go_wp2_with fail
  refine (rzero_any ⟨2, n, 0, ba, sl, li, rc, rb, ⟨#[]⟩, tx⟩ p cap _).mono ?_
  rintro e w' ⟨rfl, rfl⟩
  have HF2 := HF.out
  clear HF
  by_cases hz : (⟨2, n, 0, ba, sl, li, rc, rb, ⟨#[]⟩, tx⟩ : Ch) = Rc.zC 2
  · have HF : Hid (C = 0) := hide (by rw [HF2]; exact if_pos hz)
    rw [decide_eq_true hz]
    clear hz HF2
    go_wp2_with fail
    go_ret
    exact ⟨by rw [HF.out]; rfl, by (repeat first | exact Below.refl _ _ | exact below_alloc _ _ | refine Below.alloc ?_ (by first | (simp; done) | (simp; omega)) _ | refine Below.setCell ?_ (by first | (simp; done) | (simp; omega)) _ | (refine below_drewN ?_ _))⟩
  · have HF : Hid (C = 81) := hide (by rw [HF2]; exact if_neg hz)
    rw [decide_eq_false hz]
    clear hz HF2
    go_wp2_with fail
    go_ret
    exact ⟨by rw [HF.out]; rfl, by (repeat first | exact Below.refl _ _ | exact below_alloc _ _ | refine Below.alloc ?_ (by first | (simp; done) | (simp; omega)) _ | refine Below.setCell ?_ (by first | (simp; done) | (simp; omega)) _ | (refine below_drewN ?_ _))⟩
set_option maxHeartbeats 1600000 in
theorem rcheck_3 (n jo ba sl li rc : Int) (rb : Nat) (pr : ByteArray) (tx : List ByteArray) (p : Option Addr) (cap : Nat) (w : World) (_HT : Hid (∀ W : World, Below w.heap.size w W → Tx W (.slice p tx.length cap) tx)) : Calls Try.prog 15 #[.agg (chC ⟨3, n, jo, ba, sl, li, rc, rb, pr, tx⟩ (.slice p tx.length cap))] w fun e w' => e = .returned (.int .i64 (Rc.check ⟨3, n, jo, ba, sl, li, rc, rb, pr, tx⟩ : Int)) ∧ Below w.heap.size w w' := by
  have HC := hide (chk3 n jo ba sl li rc rb pr tx)
  generalize Rc.check ⟨3, n, jo, ba, sl, li, rc, rb, pr, tx⟩ = C at *
  simp only [chC]
  by_cases h0 : 1 ≤ jo ∧ jo ≤ 8
  case neg =>
    have HF : Hid (C = 81) := hide (by rw [HC.out]; exact if_neg fun h => h0 h.1.1)
    clear HC
    go_enter Try.func15, Try.ntmps15
    go_wp2_with fail
    refine (wit_f h0 _).mono ?_
    rintro e w' ⟨rfl, rfl⟩
    go_wp2_with fail
    go_ret
    exact ⟨by rw [HF.out]; rfl, by (repeat first | exact Below.refl _ _ | exact below_alloc _ _ | refine Below.alloc ?_ (by first | (simp; done) | (simp; omega)) _ | refine Below.setCell ?_ (by first | (simp; done) | (simp; omega)) _ | (refine below_drewN ?_ _))⟩
  by_cases h1 : 1 ≤ ba ∧ ba ≤ 1099511627776
  case neg =>
    have HF : Hid (C = 81) := hide (by rw [HC.out]; exact if_neg fun h => h1 h.1.2.1)
    clear HC
    go_enter Try.func15, Try.ntmps15
    go_wp2_with fail
    refine (wit_t h0 _).mono ?_
    rintro e w' ⟨rfl, rfl⟩
    go_wp2_with fail
    refine (wit_f h1 _).mono ?_
    rintro e w' ⟨rfl, rfl⟩
    go_wp2_with fail
    go_ret
    exact ⟨by rw [HF.out]; rfl, by (repeat first | exact Below.refl _ _ | exact below_alloc _ _ | refine Below.alloc ?_ (by first | (simp; done) | (simp; omega)) _ | refine Below.setCell ?_ (by first | (simp; done) | (simp; omega)) _ | (refine below_drewN ?_ _))⟩
  by_cases h2 : 0 ≤ sl ∧ sl ≤ 7
  case neg =>
    have HF : Hid (C = 81) := hide (by rw [HC.out]; exact if_neg fun h => h2 h.1.2.2.1)
    clear HC
    go_enter Try.func15, Try.ntmps15
    go_wp2_with fail
    refine (wit_t h0 _).mono ?_
    rintro e w' ⟨rfl, rfl⟩
    go_wp2_with fail
    refine (wit_t h1 _).mono ?_
    rintro e w' ⟨rfl, rfl⟩
    go_wp2_with fail
    refine (wit_f h2 _).mono ?_
    rintro e w' ⟨rfl, rfl⟩
    go_wp2_with fail
    go_ret
    exact ⟨by rw [HF.out]; rfl, by (repeat first | exact Below.refl _ _ | exact below_alloc _ _ | refine Below.alloc ?_ (by first | (simp; done) | (simp; omega)) _ | refine Below.setCell ?_ (by first | (simp; done) | (simp; omega)) _ | (refine below_drewN ?_ _))⟩
  by_cases h3 : 1 ≤ li ∧ li ≤ 1099511627776
  case neg =>
    have HF : Hid (C = 81) := hide (by rw [HC.out]; exact if_neg fun h => h3 h.1.2.2.2)
    clear HC
    go_enter Try.func15, Try.ntmps15
    go_wp2_with fail
    refine (wit_t h0 _).mono ?_
    rintro e w' ⟨rfl, rfl⟩
    go_wp2_with fail
    refine (wit_t h1 _).mono ?_
    rintro e w' ⟨rfl, rfl⟩
    go_wp2_with fail
    refine (wit_t h2 _).mono ?_
    rintro e w' ⟨rfl, rfl⟩
    go_wp2_with fail
    refine (wit_f h3 _).mono ?_
    rintro e w' ⟨rfl, rfl⟩
    go_wp2_with fail
    go_ret
    exact ⟨by rw [HF.out]; rfl, by (repeat first | exact Below.refl _ _ | exact below_alloc _ _ | refine Below.alloc ?_ (by first | (simp; done) | (simp; omega)) _ | refine Below.setCell ?_ (by first | (simp; done) | (simp; omega)) _ | (refine below_drewN ?_ _))⟩
  have HF : Hid (C = if (⟨3, n, 0, 0, 0, 0, rc, rb, pr, tx⟩ : Ch) = Rc.zC 3 then 0 else 81) := hide (by rw [HC.out]; exact if_iff (and_iff_right ⟨h0, h1, h2, h3⟩))
  clear HC
  go_enter Try.func15, Try.ntmps15
  go_wp2_with fail
  refine (wit_t h0 _).mono ?_
  rintro e w' ⟨rfl, rfl⟩
  go_wp2_with fail
  refine (wit_t h1 _).mono ?_
  rintro e w' ⟨rfl, rfl⟩
  go_wp2_with fail
  refine (wit_t h2 _).mono ?_
  rintro e w' ⟨rfl, rfl⟩
  go_wp2_with fail
  refine (wit_t h3 _).mono ?_
  rintro e w' ⟨rfl, rfl⟩
  go_wp2_with fail
  refine (rzero_any ⟨3, n, 0, 0, 0, 0, rc, rb, pr, tx⟩ p cap _).mono ?_
  rintro e w' ⟨rfl, rfl⟩
  have HF2 := HF.out
  clear HF
  by_cases hz : (⟨3, n, 0, 0, 0, 0, rc, rb, pr, tx⟩ : Ch) = Rc.zC 3
  · have HF : Hid (C = 0) := hide (by rw [HF2]; exact if_pos hz)
    rw [decide_eq_true hz]
    clear hz HF2
    go_wp2_with fail
    go_ret
    exact ⟨by rw [HF.out]; rfl, by (repeat first | exact Below.refl _ _ | exact below_alloc _ _ | refine Below.alloc ?_ (by first | (simp; done) | (simp; omega)) _ | refine Below.setCell ?_ (by first | (simp; done) | (simp; omega)) _ | (refine below_drewN ?_ _))⟩
  · have HF : Hid (C = 81) := hide (by rw [HF2]; exact if_neg hz)
    rw [decide_eq_false hz]
    clear hz HF2
    go_wp2_with fail
    go_ret
    exact ⟨by rw [HF.out]; rfl, by (repeat first | exact Below.refl _ _ | exact below_alloc _ _ | refine Below.alloc ?_ (by first | (simp; done) | (simp; omega)) _ | refine Below.setCell ?_ (by first | (simp; done) | (simp; omega)) _ | (refine below_drewN ?_ _))⟩
set_option maxHeartbeats 1600000 in
theorem rcheck_4 (n jo ba sl li rc : Int) (rb : Nat) (pr : ByteArray) (tx : List ByteArray) (p : Option Addr) (cap : Nat) (w : World) (_HT : Hid (∀ W : World, Below w.heap.size w W → Tx W (.slice p tx.length cap) tx)) : Calls Try.prog 15 #[.agg (chC ⟨4, n, jo, ba, sl, li, rc, rb, pr, tx⟩ (.slice p tx.length cap))] w fun e w' => e = .returned (.int .i64 (Rc.check ⟨4, n, jo, ba, sl, li, rc, rb, pr, tx⟩ : Int)) ∧ Below w.heap.size w w' := by
  have HC := hide (chk4 n jo ba sl li rc rb pr tx)
  generalize Rc.check ⟨4, n, jo, ba, sl, li, rc, rb, pr, tx⟩ = C at *
  simp only [chC]
  by_cases h0 : 1 ≤ ba ∧ ba ≤ 1099511627776
  case neg =>
    have HF : Hid (C = 81) := hide (by rw [HC.out]; exact if_neg fun h => h0 h.1.1)
    clear HC
    go_enter Try.func15, Try.ntmps15
    go_wp2_with fail
    refine (wit_f h0 _).mono ?_
    rintro e w' ⟨rfl, rfl⟩
    go_wp2_with fail
    go_ret
    exact ⟨by rw [HF.out]; rfl, by (repeat first | exact Below.refl _ _ | exact below_alloc _ _ | refine Below.alloc ?_ (by first | (simp; done) | (simp; omega)) _ | refine Below.setCell ?_ (by first | (simp; done) | (simp; omega)) _ | (refine below_drewN ?_ _))⟩
  by_cases h1 : tOk tx = true
  case neg =>
    have HF : Hid (C = 81) := hide (by rw [HC.out]; exact if_neg fun h => h1 h.1.2)
    clear HC
    rw [Bool.not_eq_true] at h1
    go_enter Try.func15, Try.ntmps15
    go_wp2_with fail
    refine (wit_t h0 _).mono ?_
    rintro e w' ⟨rfl, rfl⟩
    go_wp2_with fail
    refine (qtexts_any (_HT.out _ (by (repeat first | exact Below.refl _ _ | exact below_alloc _ _ | refine Below.alloc ?_ (by first | (simp; done) | (simp; omega)) _ | refine Below.setCell ?_ (by first | (simp; done) | (simp; omega)) _ | (refine below_drewN ?_ _))))).mono ?_
    rintro e w' ⟨rfl, nd, rfl⟩
    rw [h1]
    go_wp2_with fail
    go_ret
    exact ⟨by rw [HF.out]; rfl, by (repeat first | exact Below.refl _ _ | exact below_alloc _ _ | refine Below.alloc ?_ (by first | (simp; done) | (simp; omega)) _ | refine Below.setCell ?_ (by first | (simp; done) | (simp; omega)) _ | (refine below_drewN ?_ _))⟩
  have HF : Hid (C = if (⟨4, n, jo, 0, sl, li, rc, rb, pr, []⟩ : Ch) = Rc.zC 4 then 0 else 81) := hide (by rw [HC.out]; exact if_iff (and_iff_right ⟨h0, h1⟩))
  clear HC
  go_enter Try.func15, Try.ntmps15
  go_wp2_with fail
  refine (wit_t h0 _).mono ?_
  rintro e w' ⟨rfl, rfl⟩
  go_wp2_with fail
  refine (qtexts_any (_HT.out _ (by (repeat first | exact Below.refl _ _ | exact below_alloc _ _ | refine Below.alloc ?_ (by first | (simp; done) | (simp; omega)) _ | refine Below.setCell ?_ (by first | (simp; done) | (simp; omega)) _ | (refine below_drewN ?_ _))))).mono ?_
  rintro e w' ⟨rfl, nd, rfl⟩
  rw [h1]
  go_wp2_with fail
  refine (rzero_any ⟨4, n, jo, 0, sl, li, rc, rb, pr, []⟩ none 0 _).mono ?_
  rintro e w' ⟨rfl, rfl⟩
  have HF2 := HF.out
  clear HF
  by_cases hz : (⟨4, n, jo, 0, sl, li, rc, rb, pr, []⟩ : Ch) = Rc.zC 4
  · have HF : Hid (C = 0) := hide (by rw [HF2]; exact if_pos hz)
    rw [decide_eq_true hz]
    clear hz HF2
    go_wp2_with fail
    go_ret
    exact ⟨by rw [HF.out]; rfl, by (repeat first | exact Below.refl _ _ | exact below_alloc _ _ | refine Below.alloc ?_ (by first | (simp; done) | (simp; omega)) _ | refine Below.setCell ?_ (by first | (simp; done) | (simp; omega)) _ | (refine below_drewN ?_ _))⟩
  · have HF : Hid (C = 81) := hide (by rw [HF2]; exact if_neg hz)
    rw [decide_eq_false hz]
    clear hz HF2
    go_wp2_with fail
    go_ret
    exact ⟨by rw [HF.out]; rfl, by (repeat first | exact Below.refl _ _ | exact below_alloc _ _ | refine Below.alloc ?_ (by first | (simp; done) | (simp; omega)) _ | refine Below.setCell ?_ (by first | (simp; done) | (simp; omega)) _ | (refine below_drewN ?_ _))⟩
set_option maxHeartbeats 1600000 in
theorem rcheck_5 (n jo ba sl li rc : Int) (rb : Nat) (pr : ByteArray) (tx : List ByteArray) (p : Option Addr) (cap : Nat) (w : World) (_HT : Hid (∀ W : World, Below w.heap.size w W → Tx W (.slice p tx.length cap) tx)) : Calls Try.prog 15 #[.agg (chC ⟨5, n, jo, ba, sl, li, rc, rb, pr, tx⟩ (.slice p tx.length cap))] w fun e w' => e = .returned (.int .i64 (Rc.check ⟨5, n, jo, ba, sl, li, rc, rb, pr, tx⟩ : Int)) ∧ Below w.heap.size w w' := by
  have HC := hide (chk5 n jo ba sl li rc rb pr tx)
  generalize Rc.check ⟨5, n, jo, ba, sl, li, rc, rb, pr, tx⟩ = C at *
  simp only [chC]
  by_cases h0 : 1 ≤ ba ∧ ba ≤ 1099511627776
  case neg =>
    have HF : Hid (C = 81) := hide (by rw [HC.out]; exact if_neg fun h => h0 h.1)
    clear HC
    go_enter Try.func15, Try.ntmps15
    go_wp2_with fail
    refine (wit_f h0 _).mono ?_
    rintro e w' ⟨rfl, rfl⟩
    go_wp2_with fail
    go_ret
    exact ⟨by rw [HF.out]; rfl, by (repeat first | exact Below.refl _ _ | exact below_alloc _ _ | refine Below.alloc ?_ (by first | (simp; done) | (simp; omega)) _ | refine Below.setCell ?_ (by first | (simp; done) | (simp; omega)) _ | (refine below_drewN ?_ _))⟩
  have HF : Hid (C = if (⟨5, n, jo, 0, sl, li, rc, rb, pr, tx⟩ : Ch) = Rc.zC 5 then 0 else 81) := hide (by rw [HC.out]; exact if_iff (and_iff_right h0))
  clear HC
  go_enter Try.func15, Try.ntmps15
  go_wp2_with fail
  refine (wit_t h0 _).mono ?_
  rintro e w' ⟨rfl, rfl⟩
  go_wp2_with fail
  refine (rzero_any ⟨5, n, jo, 0, sl, li, rc, rb, pr, tx⟩ p cap _).mono ?_
  rintro e w' ⟨rfl, rfl⟩
  have HF2 := HF.out
  clear HF
  by_cases hz : (⟨5, n, jo, 0, sl, li, rc, rb, pr, tx⟩ : Ch) = Rc.zC 5
  · have HF : Hid (C = 0) := hide (by rw [HF2]; exact if_pos hz)
    rw [decide_eq_true hz]
    clear hz HF2
    go_wp2_with fail
    go_ret
    exact ⟨by rw [HF.out]; rfl, by (repeat first | exact Below.refl _ _ | exact below_alloc _ _ | refine Below.alloc ?_ (by first | (simp; done) | (simp; omega)) _ | refine Below.setCell ?_ (by first | (simp; done) | (simp; omega)) _ | (refine below_drewN ?_ _))⟩
  · have HF : Hid (C = 81) := hide (by rw [HF2]; exact if_neg hz)
    rw [decide_eq_false hz]
    clear hz HF2
    go_wp2_with fail
    go_ret
    exact ⟨by rw [HF.out]; rfl, by (repeat first | exact Below.refl _ _ | exact below_alloc _ _ | refine Below.alloc ?_ (by first | (simp; done) | (simp; omega)) _ | refine Below.setCell ?_ (by first | (simp; done) | (simp; omega)) _ | (refine below_drewN ?_ _))⟩
set_option maxHeartbeats 1600000 in
theorem rcheck_6 (n jo ba sl li rc : Int) (rb : Nat) (pr : ByteArray) (tx : List ByteArray) (p : Option Addr) (cap : Nat) (w : World) (_HT : Hid (∀ W : World, Below w.heap.size w W → Tx W (.slice p tx.length cap) tx)) : Calls Try.prog 15 #[.agg (chC ⟨6, n, jo, ba, sl, li, rc, rb, pr, tx⟩ (.slice p tx.length cap))] w fun e w' => e = .returned (.int .i64 (Rc.check ⟨6, n, jo, ba, sl, li, rc, rb, pr, tx⟩ : Int)) ∧ Below w.heap.size w w' := by
  have HC := hide (chk6 n jo ba sl li rc rb pr tx)
  generalize Rc.check ⟨6, n, jo, ba, sl, li, rc, rb, pr, tx⟩ = C at *
  simp only [chC]
  by_cases h0 : 1 ≤ ba ∧ ba ≤ 1099511627776
  case neg =>
    have HF : Hid (C = 81) := hide (by rw [HC.out]; exact if_neg fun h => h0 h.1.1)
    clear HC
    go_enter Try.func15, Try.ntmps15
    go_wp2_with fail
    refine (wit_f h0 _).mono ?_
    rintro e w' ⟨rfl, rfl⟩
    go_wp2_with fail
    go_ret
    exact ⟨by rw [HF.out]; rfl, by (repeat first | exact Below.refl _ _ | exact below_alloc _ _ | refine Below.alloc ?_ (by first | (simp; done) | (simp; omega)) _ | refine Below.setCell ?_ (by first | (simp; done) | (simp; omega)) _ | (refine below_drewN ?_ _))⟩
  by_cases h1 : 0 ≤ rc ∧ rc ≤ 7
  case neg =>
    have HF : Hid (C = 81) := hide (by rw [HC.out]; exact if_neg fun h => h1 h.1.2.1)
    clear HC
    go_enter Try.func15, Try.ntmps15
    go_wp2_with fail
    refine (wit_t h0 _).mono ?_
    rintro e w' ⟨rfl, rfl⟩
    go_wp2_with fail
    refine (wit_f h1 _).mono ?_
    rintro e w' ⟨rfl, rfl⟩
    go_wp2_with fail
    go_ret
    exact ⟨by rw [HF.out]; rfl, by (repeat first | exact Below.refl _ _ | exact below_alloc _ _ | refine Below.alloc ?_ (by first | (simp; done) | (simp; omega)) _ | refine Below.setCell ?_ (by first | (simp; done) | (simp; omega)) _ | (refine below_drewN ?_ _))⟩
  by_cases h2 : rc = 0 ∨ rb = 0
  case neg =>
    have HF : Hid (C = 81) := hide (by rw [HC.out]; exact if_neg fun h => h2 h.1.2.2)
    have r1 : ¬ rc = 0 := fun h => h2 (.inl h)
    have r2 : ¬ (rb : Int) = 0 := fun h => h2 (.inr (by omega))
    clear HC h2
    go_enter Try.func15, Try.ntmps15
    go_wp2_with fail
    refine (wit_t h0 _).mono ?_
    rintro e w' ⟨rfl, rfl⟩
    go_wp2_with fail
    refine (wit_t h1 _).mono ?_
    rintro e w' ⟨rfl, rfl⟩
    go_wp2_with fail
    go_ret
    exact ⟨by rw [HF.out]; rfl, by (repeat first | exact Below.refl _ _ | exact below_alloc _ _ | refine Below.alloc ?_ (by first | (simp; done) | (simp; omega)) _ | refine Below.setCell ?_ (by first | (simp; done) | (simp; omega)) _ | (refine below_drewN ?_ _))⟩
  by_cases r1 : rc = 0
  · subst r1
    have HF : Hid (C = if (⟨6, n, jo, 0, sl, li, 0, 0, pr, tx⟩ : Ch) = Rc.zC 6 then 0 else 81) := hide (by rw [HC.out]; exact if_iff (and_iff_right ⟨h0, h1, h2⟩))
    clear HC
    go_enter Try.func15, Try.ntmps15
    go_wp2_with fail
    refine (wit_t h0 _).mono ?_
    rintro e w' ⟨rfl, rfl⟩
    go_wp2_with fail
    refine (wit_t h1 _).mono ?_
    rintro e w' ⟨rfl, rfl⟩
    go_wp2_with fail
    refine (rzero_any ⟨6, n, jo, 0, sl, li, 0, 0, pr, tx⟩ p cap _).mono ?_
    rintro e w' ⟨rfl, rfl⟩
    have HF2 := HF.out
    clear HF
    by_cases hz : (⟨6, n, jo, 0, sl, li, 0, 0, pr, tx⟩ : Ch) = Rc.zC 6
    · have HF : Hid (C = 0) := hide (by rw [HF2]; exact if_pos hz)
      rw [decide_eq_true hz]
      clear hz HF2
      go_wp2_with fail
      go_ret
      exact ⟨by rw [HF.out]; rfl, by (repeat first | exact Below.refl _ _ | exact below_alloc _ _ | refine Below.alloc ?_ (by first | (simp; done) | (simp; omega)) _ | refine Below.setCell ?_ (by first | (simp; done) | (simp; omega)) _ | (refine below_drewN ?_ _))⟩
    · have HF : Hid (C = 81) := hide (by rw [HF2]; exact if_neg hz)
      rw [decide_eq_false hz]
      clear hz HF2
      go_wp2_with fail
      go_ret
      exact ⟨by rw [HF.out]; rfl, by (repeat first | exact Below.refl _ _ | exact below_alloc _ _ | refine Below.alloc ?_ (by first | (simp; done) | (simp; omega)) _ | refine Below.setCell ?_ (by first | (simp; done) | (simp; omega)) _ | (refine below_drewN ?_ _))⟩
  · have r2 : rb = 0 := h2.resolve_left r1
    subst r2
    have HF : Hid (C = if (⟨6, n, jo, 0, sl, li, 0, 0, pr, tx⟩ : Ch) = Rc.zC 6 then 0 else 81) := hide (by rw [HC.out]; exact if_iff (and_iff_right ⟨h0, h1, h2⟩))
    clear HC
    go_enter Try.func15, Try.ntmps15
    go_wp2_with fail
    refine (wit_t h0 _).mono ?_
    rintro e w' ⟨rfl, rfl⟩
    go_wp2_with fail
    refine (wit_t h1 _).mono ?_
    rintro e w' ⟨rfl, rfl⟩
    go_wp2_with fail
    refine (rzero_any ⟨6, n, jo, 0, sl, li, 0, 0, pr, tx⟩ p cap _).mono ?_
    rintro e w' ⟨rfl, rfl⟩
    have HF2 := HF.out
    clear HF
    by_cases hz : (⟨6, n, jo, 0, sl, li, 0, 0, pr, tx⟩ : Ch) = Rc.zC 6
    · have HF : Hid (C = 0) := hide (by rw [HF2]; exact if_pos hz)
      rw [decide_eq_true hz]
      clear hz HF2
      go_wp2_with fail
      go_ret
      exact ⟨by rw [HF.out]; rfl, by (repeat first | exact Below.refl _ _ | exact below_alloc _ _ | refine Below.alloc ?_ (by first | (simp; done) | (simp; omega)) _ | refine Below.setCell ?_ (by first | (simp; done) | (simp; omega)) _ | (refine below_drewN ?_ _))⟩
    · have HF : Hid (C = 81) := hide (by rw [HF2]; exact if_neg hz)
      rw [decide_eq_false hz]
      clear hz HF2
      go_wp2_with fail
      go_ret
      exact ⟨by rw [HF.out]; rfl, by (repeat first | exact Below.refl _ _ | exact below_alloc _ _ | refine Below.alloc ?_ (by first | (simp; done) | (simp; omega)) _ | refine Below.setCell ?_ (by first | (simp; done) | (simp; omega)) _ | (refine below_drewN ?_ _))⟩
theorem rcheck_any (c : Ch) (t : Value) (w : World) (hT : Tx w t c.tx) : Calls Try.prog 15 #[.agg (chC c t)] w fun e w' => e = .returned (.int .i64 (Rc.check c : Int)) ∧ Below w.heap.size w w' := by
  obtain ⟨p, cap, rfl, hp⟩ := id hT
  have HT : Hid (∀ W : World, Below w.heap.size w W → Tx W (.slice p c.tx.length cap) c.tx) := hide fun W hW => hT.below hW (Nat.le_refl _)
  clear hp hT
  obtain ⟨k, n, jo, ba, sl, li, rc, rb, pr, tx⟩ := c
  by_cases h1 : k = 1
  · subst h1; exact rcheck_1 n jo ba sl li rc rb pr tx p cap w HT
  by_cases h2 : k = 2
  · subst h2; exact rcheck_2 n jo ba sl li rc rb pr tx p cap w HT
  by_cases h3 : k = 3
  · subst h3; exact rcheck_3 n jo ba sl li rc rb pr tx p cap w HT
  by_cases h4 : k = 4
  · subst h4; exact rcheck_4 n jo ba sl li rc rb pr tx p cap w HT
  by_cases h5 : k = 5
  · subst h5; exact rcheck_5 n jo ba sl li rc rb pr tx p cap w HT
  by_cases h6 : k = 6
  · subst h6; exact rcheck_6 n jo ba sl li rc rb pr tx p cap w HT
  have HC : Hid (Rc.check ⟨k, n, jo, ba, sl, li, rc, rb, pr, tx⟩ = 80) := hide (if_pos (by show k < 1 ∨ 6 < k; omega))
  have e1 : (k == 1) = false := beq_eq_false_iff_ne.2 h1
  have e2 : (k == 2) = false := beq_eq_false_iff_ne.2 h2
  have e3 : (k == 3) = false := beq_eq_false_iff_ne.2 h3
  have e4 : (k == 4) = false := beq_eq_false_iff_ne.2 h4
  have e5 : (k == 5) = false := beq_eq_false_iff_ne.2 h5
  have e6 : (k == 6) = false := beq_eq_false_iff_ne.2 h6
  generalize Rc.check ⟨k, n, jo, ba, sl, li, rc, rb, pr, tx⟩ = C at *
  simp only [chC]
  clear HT
  go_enter Try.func15, Try.ntmps15
  go_wp2_with fail
  go_ret
  exact ⟨by rw [HC.out]; rfl, by (repeat first | exact Below.refl _ _ | exact below_alloc _ _ | refine Below.alloc ?_ (by first | (simp; done) | (simp; omega)) _ | refine Below.setCell ?_ (by first | (simp; done) | (simp; omega)) _ | (refine below_drewN ?_ _))⟩
end Go.Proofs.Ytjabnddjahhgoaa

namespace Go.Proofs.Ytjabnddjahhgoaa
open Go.RowKit
open Rc (L V Ch)

theorem own_keepC {w w' : World} {B : Nat} {e : TypeId} {size n : Nat} {v : Value} {xs : List Value} (h : w.ownsRow B e size v n xs) (hk : ∀ k, v.ownBlock = some k → w'.heap[k]? = w.heap[k]?) : w'.ownsRow B e size v n xs := by
  refine ⟨h.1, ?_⟩
  rcases h.2 with h1 | ⟨g, cap, cur, rfl, hg, hb, h2⟩
  · exact .inl h1
  · exact .inr ⟨g, cap, cur, rfl, hg, (hk g rfl).trans hb, h2⟩
theorem own_baseC {w : World} {B base : Nat} {e : TypeId} {size n : Nat} {v : Value} {xs : List Value} (h : w.ownsRow B e size v n xs) (hb : base ≤ B) : w.ownsRow base e size v n xs := by
  refine ⟨h.1, ?_⟩
  rcases h.2 with h1 | ⟨g, cap, cur, rfl, hg, h2⟩
  · exact .inl h1
  · exact .inr ⟨g, cap, cur, rfl, Nat.le_trans hb hg, h2⟩
/-- a copy under way: its row, its texts -/
structure CpI (w0 : World) (A cap : Nat) (vals : List (Ch × Value)) (w : World) : Prop where
  own : w.ownsRow w0.heap.size 29 10 (.slice (some ⟨A, 0, none⟩) vals.length cap) vals.length (flatV vals)
  txt : ∀ x ∈ vals, w.ownsRow w0.heap.size 9 1 x.2 x.1.tx.length (strs x.1.tx)
  bel : Below w0.heap.size w0 w
theorem CpI.block {w0 : World} {A cap : Nat} {vals : List (Ch × Value)} {w : World} (h : CpI w0 A cap vals w) : ∃ cur, w.heap[A]? = some (.cells cur 29 (0, 0)) := by
  rcases h.own.2 with ⟨h1, _⟩ | ⟨g, c, cur, h1, hg, hb, h2⟩
  · cases h1
  · injection h1 with h1; injection h1 with h1; injection h1 with h1; subst h1; exact ⟨cur, hb⟩
theorem CpI.lt {w0 : World} {A cap : Nat} {vals : List (Ch × Value)} {w : World} (h : CpI w0 A cap vals w) : A < w.heap.size := by obtain ⟨c, hc⟩ := h.block; exact lt_of_block hc
/-- blocks that are not its own may turn -/
theorem CpI.step {w0 : World} {A cap : Nat} {vals : List (Ch × Value)} {w w' : World} (h : CpI w0 A cap vals w) (hb : Below w.heap.size w w') : CpI w0 A cap vals w' :=
  ⟨own_keepC h.own fun k hk => hb.block k (h.own.lt k hk).2, fun x hx => own_keepC (h.txt x hx) fun k hk => hb.block k ((h.txt x hx).lt k hk).2, h.bel.trans (hb.mono h.bel.size)⟩
theorem grownB {w w' : World} {r : Option Nat} (h : w.grownBy w' r) {B : Nat} (hB : B ≤ w.heap.size) (hr : ∀ k, r = some k → B ≤ k) : Below B w w' :=
  ⟨h.os, h.tape, h.output, h.size, fun k hk => h.block k (by omega) (fun e => absurd (hr k e.symm) (by omega))⟩
/-- one more -/
theorem CpI.more {w0 : World} {A cap : Nat} {vals : List (Ch × Value)} {w w' : World} {c : Ch} {t : Value} (h : CpI w0 A cap vals w) (ht : w.ownsRow w0.heap.size 9 1 t c.tx.length (strs c.tx))
    (ho : w'.ownsRow w0.heap.size 29 10 (.slice (some ⟨A, 0, none⟩) (vals.length + 1) cap) (vals.length + 1) (flatV vals ++ (chC c t).toList)) (hg : w.grownBy w' (some A)) (hA : w0.heap.size ≤ A) : CpI w0 A cap (vals ++ [(c, t)]) w' := by
  obtain ⟨cur, hcur⟩ := h.block
  have hs : ∀ (v : Value) (n : Nat) (xs : List Value), w.ownsRow w0.heap.size 9 1 v n xs → w'.ownsRow w0.heap.size 9 1 v n xs := fun v n xs hv => own_keepC hv fun k hk => hg.block k (hv.lt k hk).2 (fun e => by
    injection e with e; subst e
    exact own_typeS hv hcur (by decide) hk.symm)
  refine ⟨by rw [List.length_append, List.length_singleton, flatV_snoc]; exact ho, fun x hx => ?_, h.bel.trans (grownB hg h.bel.size (fun k e => by injection e with e; omega))⟩
  rcases List.mem_append.mp hx with hx | hx
  · exact hs _ _ _ (h.txt x hx)
  · rw [List.mem_singleton.mp hx]; exact hs _ _ _ ht
end Go.Proofs.Ytjabnddjahhgoaa

namespace Go.Proofs.Ytjabnddjahhgoaa
open Go.RowKit
open Rc (L V Ch)

theorem Try.infoCh : (Try.prog.info? 29).map (fun i => (i.zero, i.size, i.bytes)) = some (some (.agg (chC (Rc.zC 0) (.slice none 0 0))), 10, 104) := by kernel_rfl
theorem Try.infoSt : (Try.prog.info? 9).map (fun i => (i.zero, i.size, i.bytes)) = some (some (.string ByteArray.empty), 1, 16) := by kernel_rfl
theorem chC_one (c : Ch) (p : Option Addr) (n cap : Nat) : ∀ u ∈ (chC c (.slice p n cap)).toList, u.oneCell' = true := by
  intro u hu
  simp only [chC, List.mem_cons, List.not_mem_nil, or_false] at hu
  rcases hu with rfl | rfl | rfl | rfl | rfl | rfl | rfl | rfl | rfl | rfl <;> rfl
theorem strs_one (l : List ByteArray) : ∀ u ∈ strs l, u.oneCell' = true := by
  intro u hu
  obtain ⟨s, _, rfl⟩ := List.mem_map.mp hu
  rfl
theorem tx_news {w : World} {b off : Nat} {l : List ByteArray} (h : ∀ j, j < l.length → w.cell? ⟨b, off + j, none⟩ = some (.string l[j]!)) : ∀ j u, (strs l)[j]? = some u → w.cell? ((⟨b, off, none⟩ : Addr).add j) = some u := by
  intro j u hu
  have hj : j < l.length := by
    by_cases hj : j < l.length
    · exact hj
    · rw [strs, List.getElem?_eq_none (by simpa using hj)] at hu; cases hu
  rw [Addr.add_lit, h j hj]
  rw [strs, List.getElem?_map, List.getElem?_eq_getElem hj] at hu
  rw [← hu, getElem!_pos l j hj]; rfl
theorem heap_set_selfC {w : World} {g o : Nat} {cur : Array Value} {t : TypeId} {v : Value} (h : w.heap[g]? = some (.cells cur t (0, 0))) : (w.setCell ⟨g, o, none⟩ v).heap[g]? = some (.cells (cur.setIfInBounds o v) t (0, 0)) := by
  have hlt := lt_of_block h
  have h' : w.heap[g] = .cells cur t (0, 0) := by simpa [Array.getElem?_eq_getElem hlt] using h
  show (w.heap.modify g _)[g]? = _
  rw [Array.getElem?_eq_getElem (by simpa using hlt), Array.getElem_modify_self, h']
  rfl
theorem sizeC (w : World) (a : Addr) (v : Value) : (w.setCell a v).heap.size = w.heap.size := by simp [World.setCell]
theorem news_new (w : World) (cs : Array Value) (t : TypeId) : ∀ j u, cs.toList[j]? = some u → (w.alloc (.cells cs t)).cell? ((⟨w.heap.size, 0, none⟩ : Addr).add j) = some u := by
  intro j u hu
  rw [Addr.add_lit, Nat.zero_add]
  unfold World.cell?
  rw [show (w.alloc (.cells cs t)).heap[(⟨w.heap.size, j, none⟩ : Addr).block]? = _ from heap_alloc_new w _]
  rw [Array.getElem?_toList] at hu
  exact hu
theorem grownByRefl (w : World) (r : Option Nat) : w.grownBy w r := ⟨rfl, rfl, rfl, Nat.le_refl _, fun _ _ _ => rfl⟩
theorem cp_step {w wr w2 w3 : World} {A cap n ct : Nat} {vals : List (Ch × Value)} {c : Ch} {o : Obj} {PT : Option Addr} {Tn : Value} (hP2 : w2.heap[wr.heap.size]? = some (.cells (chC c (.slice PT n ct)) 29 (0, 0))) (hg2 : (wr.alloc o).grownBy w2 none) (hg3 : w2.grownBy w3 (some (wr.heap.size + 1)))
    (ho3 : w3.ownsRow (wr.heap.size + 1) 9 1 Tn c.tx.length (strs c.tx)) (hC : CpI w A cap vals wr) :
    Ca w3 wr.heap.size c (.slice PT n ct) ∧ (∀ k, w3.frozen? ⟨wr.heap.size, k, none⟩ = false) ∧ Ca (w3.setCell ⟨wr.heap.size, 9, none⟩ Tn) wr.heap.size c Tn ∧ Hid (CpI w A cap vals ((w3.setCell ⟨wr.heap.size, 9, none⟩ Tn).alloc (.cells (chC c Tn) 29))) ∧ Hid (((w3.setCell ⟨wr.heap.size, 9, none⟩ Tn).alloc (.cells (chC c Tn) 29)).ownsRow w.heap.size 9 1 Tn c.tx.length (strs c.tx)) ∧
    Hid (∀ j u, (chC c Tn).toList[j]? = some u → ((w3.setCell ⟨wr.heap.size, 9, none⟩ Tn).alloc (.cells (chC c Tn) 29)).cell? ((⟨w3.heap.size, 0, none⟩ : Addr).add j) = some u) := by
  have P3 : w3.heap[wr.heap.size]? = some (.cells (chC c (.slice PT n ct)) 29 (0, 0)) := (hg3.block _ (lt_of_block hP2) (by simp)).trans hP2
  have P4 : (w3.setCell ⟨wr.heap.size, 9, none⟩ Tn).heap[wr.heap.size]? = some (.cells (chC c Tn) 29 (0, 0)) := by rw [heap_set_selfC P3]; rfl
  have h2s := hg2.size
  rw [World.size_alloc] at h2s
  have hB3 : Below wr.heap.size wr w3 := ((below_alloc wr _).trans (grownB hg2 (by simp) (fun k e => by cases e))).trans (grownB hg3 (by omega) (fun k e => by injection e with e; omega))
  have hB5 : Below wr.heap.size wr ((w3.setCell ⟨wr.heap.size, 9, none⟩ Tn).alloc (.cells (chC c Tn) 29)) := (hB3.setCell (Nat.le_refl _) _).alloc (by rw [sizeC]; exact hB3.size) _
  have hw := hC.bel.size
  refine ⟨P3, fun k => by unfold World.frozen?; rw [show _ = _ from P3]; simp, P4, hide (hC.step hB5), hide (own_keepC (own_baseC ho3 (by omega)) fun j hj => ?_), hide (by have := news_new (w3.setCell ⟨wr.heap.size, 9, none⟩ Tn) (chC c Tn) 29; rw [sizeC] at this; exact this)⟩
  have := ho3.lt j hj
  exact (Below.heap_alloc _ _ _ (by rw [sizeC]; exact this.2)).trans (Below.heap_setCell _ _ _ _ (show j ≠ wr.heap.size by omega))
set_option maxHeartbeats 2000000 in
set_option maxRecDepth 8000 in
theorem copy_any {w : World} {v : Value} {l : List Ch} (h : Rw w v l) (hl : l.length ≤ 1353245080301) (ht : ∀ c ∈ l, c.tx.length ≤ 8796093021952) (hnil : ∀ b off cap', v = .slice (some ⟨b, off, none⟩) l.length cap' → ∀ k, k < l.length → ∀ m ct, w.cell? ⟨b, off + k * 10 + 9, none⟩ = some (.slice none m ct) → ct = 0) : Calls Try.prog 5 #[v] w fun e w' => ∃ A vals, e = .returned (.slice (some ⟨A, 0, none⟩) l.length (l.length + 2)) ∧ vals.map Prod.fst = l ∧ CpI w A (l.length + 2) vals w' ∧ w.heap.size ≤ A := by
  have H := hide h
  obtain ⟨p, cap, rfl, hp⟩ := h
  have HP : Hid (0 < l.length → ∃ b off, p = some ⟨b, off, none⟩ ∧ b < w.heap.size) := hide fun h => by obtain ⟨b, off, h1, h2, _⟩ := hp h; exact ⟨b, off, h1, h2⟩
  clear hp
  have HTl := hide ht
  have HNil := hide hnil
  obtain ⟨iC, hiC, zC0, zC1, zC2⟩ := info_parts Try.infoCh
  obtain ⟨iS, hiS, zS0, zS1, zS2⟩ := info_parts Try.infoSt
  obtain ⟨w1, hmk, ho1, hg1⟩ := run_make_own (P := Try.prog) w w.heap.size 22 29 iC _ 10 Try.underlying22 hiC zC0 zC1 .i64 .i64 (l.length + 2) (by rw [zC2]; omega) (by unfold maxLen; omega) (Nat.le_refl _)
  have hcast : ((l.length + 2 : Nat) : Int) = (l.length : Int) + 2 := by omega
  rw [hcast] at hmk
  have HC0 : Hid (CpI w w.heap.size (l.length + 2) [] w1) := hide ⟨ho1, fun x hx => (by cases hx), grownB hg1 (Nat.le_refl _) (fun k e => by cases e)⟩
  obtain ⟨n, hn⟩ : ∃ n, l.length = n := ⟨_, rfl⟩
  have HN := hide hn
  rw [hn] at hl hmk HC0 HP ⊢
  clear ht ho1 hg1 hcast hn hnil
  go_enter Try.func5, Try.ntmps5
  go_wp2_with fail
  clear hmk
  go_loopw [3, 4] (fun u t wr => ∃ (k : Nat) (vals : List (Ch × Value)), k ≤ n ∧ u = .slice (some ⟨w.heap.size, 0, none⟩) k (n + 2) ∧ t = .int .i64 (k : Int) ∧ vals.length = k ∧ Hid (vals.map Prod.fst = l.take k) ∧ Hid (CpI w w.heap.size (n + 2) vals wr)) (fun _ t _ => n - (intOf t).toNat)
  case atStart => exact ⟨0, [], Nat.zero_le _, rfl, rfl, rfl, hide (by simp), HC0⟩
  case round =>
    obtain ⟨k, vals, hk, rfl, rfl, hvl, HV, HCp⟩ := hrel
    by_cases hkl : k < n
    · have hki : (k : Int) < (n : Int) := by omega
      obtain ⟨b, off, rfl, hlt⟩ := HP.out (by omega)
      have hkl2 : k < l.length := by have := HN.out; omega
      obtain ⟨pt, ct, hT, htl, -, -, hx⟩ := H.out.at rfl hkl2
      have hcl := HTl.out l[k]! (by rw [getElem!_pos l k hkl2]; exact List.getElem_mem _)
      have hbel := HCp.out.bel
      have hc : ∀ i u, (chC l[k]! (.slice pt (l[k]!).tx.length ct))[i]? = some u → wr.cell? ⟨b, off + k * 10 + i, none⟩ = some u := fun i u hi => (hbel.cell (p := ⟨b, off + k * 10 + i, none⟩) hlt).trans (hx i u hi)
      have hTr : Tx wr (.slice pt (l[k]!).tx.length ct) (l[k]!).tx := hT.below hbel (Nat.le_refl _)
      have HV2 : Hid (l.take (k + 1) = l.take k ++ [l[k]!]) := hide (by rw [← List.take_append_getElem hkl2, getElem!_pos l k hkl2])
      have hbl : b < wr.heap.size := Nat.lt_of_lt_of_le hlt hbel.size
      have hw0 := hbel.size
      have hAl := HCp.out.lt
      generalize l[k]! = c at *
      have x0 : wr.cell? ⟨b, off + k * 10, none⟩ = some (.int .i64 c.k) := hc 0 _ rfl
      have x1 : wr.cell? ⟨b, off + k * 10 + 1, none⟩ = some (.int .i64 c.n) := hc 1 _ rfl
      have x2 : wr.cell? ⟨b, off + k * 10 + 2, none⟩ = some (.int .i64 c.jo) := hc 2 _ rfl
      have x3 : wr.cell? ⟨b, off + k * 10 + 3, none⟩ = some (.int .i64 c.ba) := hc 3 _ rfl
      have x4 : wr.cell? ⟨b, off + k * 10 + 4, none⟩ = some (.int .i64 c.sl) := hc 4 _ rfl
      have x5 : wr.cell? ⟨b, off + k * 10 + 5, none⟩ = some (.int .i64 c.li) := hc 5 _ rfl
      have x6 : wr.cell? ⟨b, off + k * 10 + 6, none⟩ = some (.int .i64 c.rc) := hc 6 _ rfl
      have x7 : wr.cell? ⟨b, off + k * 10 + 7, none⟩ = some (.int .u64 (c.rb : Int)) := hc 7 _ rfl
      have x8 : wr.cell? ⟨b, off + k * 10 + 8, none⟩ = some (.string c.pr) := hc 8 _ rfl
      have x9 : wr.cell? ⟨b, off + k * 10 + 9, none⟩ = some (.slice pt c.tx.length ct) := hc 9 _ rfl
      have hct0 : pt = none → ct = 0 := fun e => HNil.out b off cap rfl k hkl2 c.tx.length ct (by rw [← e]; exact hx 9 _ rfl)
      clear hc hx hT htl
      obtain ⟨w2, hmk2, ho2, hg2⟩ := run_make_own (P := Try.prog) (wr.alloc (.cells (chC c (.slice pt c.tx.length ct)) 29)) (wr.heap.size + 1) 27 9 iS _ 1 Try.underlying27 hiS zS0 zS1 .i64 .i64 (c.tx.length + 2) (by rw [zS2]; omega) (by unfold maxLen; omega) (by simp)
      have hcast : ((c.tx.length + 2 : Nat) : Int) = (c.tx.length : Int) + 2 := by omega
      rw [hcast] at hmk2
      unfold chC at hmk2
      have P2 : w2.heap[wr.heap.size]? = some (.cells (chC c (.slice pt c.tx.length ct)) 29 (0, 0)) := (hg2.block _ (by simp) (by simp)).trans (heap_alloc_new wr _)
      obtain ⟨p0, p1, p2, p3, p4, p5, p6, p7, p8, p9⟩ := (show Ca w2 wr.heap.size c (.slice pt c.tx.length ct) from P2).all
      have zp : ∀ k, w2.frozen? ⟨wr.heap.size, k, none⟩ = false := fun k => by unfold World.frozen?; rw [show _ = _ from P2]; simp
      have HP2 := hide P2
      have HO2 := hide ho2
      have HG2 := hide hg2
      clear P2 ho2 hg2
      rw [World.size_alloc] at HO2
      obtain ⟨pt', ct', htv, hcell⟩ := hTr
      injection htv with e1 e2 e3
      subst e1 e3
      cases pt with
      | none =>
        have he : c.tx.length = 0 := by
          by_cases he : 0 < c.tx.length
          · obtain ⟨_, _, h9, _⟩ := hcell he; cases h9
          · omega
        have hct := hct0 rfl
        subst hct
        have HZ : Hid (c.tx = []) := hide (List.length_eq_zero_iff.mp he)
        rw [he] at hmk2 HP2 HO2 HG2 p9 x9
        rw [show ((0 : Nat) : Int) + 2 = 2 from rfl, Nat.zero_add] at hmk2
        rw [Nat.zero_add] at HO2
        clear he hcell hct0
        go_wp2_with (first
          | (at_builtin; refine wpList_append_own_none rfl _ _ 27 rfl (wr.heap.size + 1) 9 iS 1 Try.underlying27 hiS _ 0 [] rfl HO2.out rfl ?_; obtain ⟨y, z3, q, HC5, HT5, HNw5⟩ := cp_step (w3 := w2) HP2.out HG2.out (grownByRefl _ _) (by rw [HZ.out]; exact HO2.out) HCp.out; obtain ⟨y0, y1, y2, y3, y4, y5, y6, y7, y8, y9⟩ := y.all; obtain ⟨q0, q1, q2, q3, q4, q5, q6, q7, q8, q9⟩ := q.all; clear y q)
          | (at_builtin; refine wpList_append_own_spare _ rfl _ _ 22 rfl w.heap.size 29 iC 10 Try.underlying22 hiC zC1 w.heap.size k (n + 2) (flatV vals) rfl (by have := HC5.out.own; rw [hvl] at this; exact this) ⟨w2.heap.size, 0, none⟩ 1 1 _ rfl rfl HNw5.out (chC_one _ _ _ _) (by omega) ?_; intro w6 ho6 hg6))
        refine ⟨⟨k + 1, vals ++ [(c, (.slice (some ⟨wr.heap.size + 1, 0, none⟩) 0 2))], by omega, rfl, rfl, by simp [hvl], hide (by rw [List.map_append, HV.out, HV2.out]; rfl), hide (HC5.out.more HT5.out (by rw [hvl]; exact ho6) hg6 (Nat.le_refl _))⟩, ?_⟩
        simp only [intOf]; omega
      | some ad =>
        have HNw : Hid (∀ j u, (strs c.tx)[j]? = some u → w2.cell? (ad.add j) = some u) := by
          by_cases he : 0 < c.tx.length
          · obtain ⟨tb, to, h9, htb, hcc⟩ := hcell he
            injection h9 with h9
            subst h9
            exact hide (tx_news fun j hj => by
              have h1 : w2.heap[tb]? = wr.heap[tb]? := (HG2.out.block tb (by simp; omega) (by simp)).trans (Below.heap_alloc _ _ _ htb)
              have h2 := hcc j hj
              unfold World.cell? at h2 ⊢; rw [show w2.heap[(⟨tb, to + j, none⟩ : Addr).block]? = wr.heap[tb]? from h1]; exact h2)
          · have hz : c.tx = [] := List.length_eq_zero_iff.mp (by omega)
            exact hide (fun j u hu => by rw [hz] at hu; simp [strs] at hu)
        clear hcell hct0
        go_wp2_with (first
          | (at_builtin; refine wpList_append_own_spare _ rfl _ _ 27 rfl (wr.heap.size + 1) 9 iS 1 Try.underlying27 hiS zS1 (wr.heap.size + 1) 0 (c.tx.length + 2) [] rfl HO2.out ad c.tx.length ct (strs c.tx) rfl (by simp [strs]) HNw.out (strs_one _) (by omega) ?_; intro w3 ho3 hg3; obtain ⟨y, z3, q, HC5, HT5, HNw5⟩ := cp_step HP2.out HG2.out hg3 (by rw [List.nil_append, Nat.zero_add] at ho3; exact ho3) HCp.out; obtain ⟨y0, y1, y2, y3, y4, y5, y6, y7, y8, y9⟩ := y.all; obtain ⟨q0, q1, q2, q3, q4, q5, q6, q7, q8, q9⟩ := q.all; clear y q ho3 hg3)
          | (at_builtin; refine wpList_append_own_spare _ rfl _ _ 22 rfl w.heap.size 29 iC 10 Try.underlying22 hiC zC1 w.heap.size k (n + 2) (flatV vals) rfl (by have := HC5.out.own; rw [hvl] at this; exact this) ⟨w3.heap.size, 0, none⟩ 1 1 _ rfl rfl HNw5.out (chC_one _ _ _ _) (by omega) ?_; intro w6 ho6 hg6))
        refine ⟨⟨k + 1, vals ++ [(c, (.slice (some ⟨wr.heap.size + 1, 0, none⟩) c.tx.length (c.tx.length + 2)))], by omega, rfl, rfl, by simp [hvl], hide (by rw [List.map_append, HV.out, HV2.out]; rfl), hide (HC5.out.more HT5.out (by rw [hvl]; exact ho6) hg6 (Nat.le_refl _))⟩, ?_⟩
        simp only [intOf]; omega
    · have hki : ¬ (k : Int) < (n : Int) := by omega
      obtain rfl : k = n := by omega
      go_wp2_with fail
      go_ret
      exact ⟨w.heap.size, rfl, vals, by rw [HV.out, ← HN.out, List.take_length], HCp.out, Nat.le_refl _⟩
end Go.Proofs.Ytjabnddjahhgoaa

namespace Go.Proofs.Ytjabnddjahhgoaa
open Go.RowKit
open Rc (L V Ch)

/-- a copy's texts: each in a block of its own, with room for two more -/
structure CpT (w : World) (vals : List (Ch × Value)) : Prop where
  form : ∀ (i : Nat) (x : Ch × Value), vals[i]? = some x → ∃ g, x.2 = .slice (some ⟨g, 0, none⟩) x.1.tx.length (x.1.tx.length + 2) ∧ g < w.heap.size
  ne : ∀ (i j : Nat) (x y : Ch × Value), vals[i]? = some x → vals[j]? = some y → i ≠ j → x.2.ownBlock ≠ y.2.ownBlock
theorem CpT.more {w w' : World} {vals : List (Ch × Value)} {c : Ch} {v : Value} {g : Nat} (h : CpT w vals) (hv : v = .slice (some ⟨g, 0, none⟩) c.tx.length (c.tx.length + 2)) (hg : g < w'.heap.size) (hw : w.heap.size ≤ g) : CpT w' (vals ++ [(c, v)]) := by
  have get : ∀ (i : Nat) (y : Ch × Value), (vals ++ [(c, v)])[i]? = some y → (i < vals.length ∧ vals[i]? = some y) ∨ (i = vals.length ∧ y = (c, v)) := fun i y hy => by
    by_cases hi : i < vals.length
    · rw [List.getElem?_append_left hi] at hy; exact .inl ⟨hi, hy⟩
    · rw [List.getElem?_append_right (by omega)] at hy
      have h1 : i = vals.length := by
        have := (List.getElem?_eq_some_iff.1 hy).1
        simp at this
        omega
      subst h1
      simp at hy
      exact .inr ⟨rfl, hy.symm⟩
  have far : ∀ (i : Nat) (y : Ch × Value), vals[i]? = some y → y.2.ownBlock ≠ v.ownBlock := fun i y hy e => by
    obtain ⟨g', hy2, hlt⟩ := h.form i y hy
    rw [hy2, hv] at e
    simp only [Value.ownBlock, Option.some.injEq] at e
    omega
  refine ⟨fun i y hy => ?_, fun i j y z hy hz hij => ?_⟩
  · rcases get i y hy with ⟨_, h1⟩ | ⟨_, rfl⟩
    · obtain ⟨g', h2, h3⟩ := h.form i y h1
      exact ⟨g', h2, by omega⟩
    · exact ⟨g, hv, hg⟩
  · rcases get i y hy with ⟨_, h1⟩ | ⟨hi, rfl⟩
    · rcases get j z hz with ⟨_, h2⟩ | ⟨hj, rfl⟩
      · exact h.ne i j y z h1 h2 hij
      · exact far i y h1
    · rcases get j z hz with ⟨_, h2⟩ | ⟨hj, rfl⟩
      · exact Ne.symm (far j z h2)
      · omega

set_option maxHeartbeats 2000000 in
set_option maxRecDepth 8000 in
theorem copy_room {w : World} {v : Value} {l : List Ch} (h : Rw w v l) (hl : l.length ≤ 1353245080301) (ht : ∀ c ∈ l, c.tx.length ≤ 8796093021952) (hnil : ∀ b off cap', v = .slice (some ⟨b, off, none⟩) l.length cap' → ∀ k, k < l.length → ∀ m ct, w.cell? ⟨b, off + k * 10 + 9, none⟩ = some (.slice none m ct) → ct = 0) : Calls Try.prog 5 #[v] w fun e w' => ∃ A vals, e = .returned (.slice (some ⟨A, 0, none⟩) l.length (l.length + 2)) ∧ vals.map Prod.fst = l ∧ CpI w A (l.length + 2) vals w' ∧ CpT w' vals ∧ w.heap.size ≤ A := by
  have H := hide h
  obtain ⟨p, cap, rfl, hp⟩ := h
  have HP : Hid (0 < l.length → ∃ b off, p = some ⟨b, off, none⟩ ∧ b < w.heap.size) := hide fun h => by obtain ⟨b, off, h1, h2, _⟩ := hp h; exact ⟨b, off, h1, h2⟩
  clear hp
  have HTl := hide ht
  have HNil := hide hnil
  obtain ⟨iC, hiC, zC0, zC1, zC2⟩ := info_parts Try.infoCh
  obtain ⟨iS, hiS, zS0, zS1, zS2⟩ := info_parts Try.infoSt
  obtain ⟨w1, hmk, ho1, hg1⟩ := run_make_own (P := Try.prog) w w.heap.size 22 29 iC _ 10 Try.underlying22 hiC zC0 zC1 .i64 .i64 (l.length + 2) (by rw [zC2]; omega) (by unfold maxLen; omega) (Nat.le_refl _)
  have hcast : ((l.length + 2 : Nat) : Int) = (l.length : Int) + 2 := by omega
  rw [hcast] at hmk
  have HC0 : Hid (CpI w w.heap.size (l.length + 2) [] w1) := hide ⟨ho1, fun x hx => (by cases hx), grownB hg1 (Nat.le_refl _) (fun k e => by cases e)⟩
  obtain ⟨n, hn⟩ : ∃ n, l.length = n := ⟨_, rfl⟩
  have HN := hide hn
  rw [hn] at hl hmk HC0 HP ⊢
  clear ht ho1 hg1 hcast hn hnil
  go_enter Try.func5, Try.ntmps5
  go_wp2_with fail
  clear hmk
  go_loopw [3, 4] (fun u t wr => ∃ (k : Nat) (vals : List (Ch × Value)), k ≤ n ∧ u = .slice (some ⟨w.heap.size, 0, none⟩) k (n + 2) ∧ t = .int .i64 (k : Int) ∧ vals.length = k ∧ Hid (vals.map Prod.fst = l.take k) ∧ Hid (CpI w w.heap.size (n + 2) vals wr) ∧ Hid (CpT wr vals)) (fun _ t _ => n - (intOf t).toNat)
  case atStart => exact ⟨0, [], Nat.zero_le _, rfl, rfl, rfl, hide (by simp), HC0, hide ⟨fun i x h => by simp at h, fun i j x y h => by simp at h⟩⟩
  case round =>
    obtain ⟨k, vals, hk, rfl, rfl, hvl, HV, HCp, HCt⟩ := hrel
    by_cases hkl : k < n
    · have hki : (k : Int) < (n : Int) := by omega
      obtain ⟨b, off, rfl, hlt⟩ := HP.out (by omega)
      have hkl2 : k < l.length := by have := HN.out; omega
      obtain ⟨pt, ct, hT, htl, -, -, hx⟩ := H.out.at rfl hkl2
      have hcl := HTl.out l[k]! (by rw [getElem!_pos l k hkl2]; exact List.getElem_mem _)
      have hbel := HCp.out.bel
      have hc : ∀ i u, (chC l[k]! (.slice pt (l[k]!).tx.length ct))[i]? = some u → wr.cell? ⟨b, off + k * 10 + i, none⟩ = some u := fun i u hi => (hbel.cell (p := ⟨b, off + k * 10 + i, none⟩) hlt).trans (hx i u hi)
      have hTr : Tx wr (.slice pt (l[k]!).tx.length ct) (l[k]!).tx := hT.below hbel (Nat.le_refl _)
      have HV2 : Hid (l.take (k + 1) = l.take k ++ [l[k]!]) := hide (by rw [← List.take_append_getElem hkl2, getElem!_pos l k hkl2])
      have hbl : b < wr.heap.size := Nat.lt_of_lt_of_le hlt hbel.size
      have hw0 := hbel.size
      have hAl := HCp.out.lt
      generalize l[k]! = c at *
      have x0 : wr.cell? ⟨b, off + k * 10, none⟩ = some (.int .i64 c.k) := hc 0 _ rfl
      have x1 : wr.cell? ⟨b, off + k * 10 + 1, none⟩ = some (.int .i64 c.n) := hc 1 _ rfl
      have x2 : wr.cell? ⟨b, off + k * 10 + 2, none⟩ = some (.int .i64 c.jo) := hc 2 _ rfl
      have x3 : wr.cell? ⟨b, off + k * 10 + 3, none⟩ = some (.int .i64 c.ba) := hc 3 _ rfl
      have x4 : wr.cell? ⟨b, off + k * 10 + 4, none⟩ = some (.int .i64 c.sl) := hc 4 _ rfl
      have x5 : wr.cell? ⟨b, off + k * 10 + 5, none⟩ = some (.int .i64 c.li) := hc 5 _ rfl
      have x6 : wr.cell? ⟨b, off + k * 10 + 6, none⟩ = some (.int .i64 c.rc) := hc 6 _ rfl
      have x7 : wr.cell? ⟨b, off + k * 10 + 7, none⟩ = some (.int .u64 (c.rb : Int)) := hc 7 _ rfl
      have x8 : wr.cell? ⟨b, off + k * 10 + 8, none⟩ = some (.string c.pr) := hc 8 _ rfl
      have x9 : wr.cell? ⟨b, off + k * 10 + 9, none⟩ = some (.slice pt c.tx.length ct) := hc 9 _ rfl
      have hct0 : pt = none → ct = 0 := fun e => HNil.out b off cap rfl k hkl2 c.tx.length ct (by rw [← e]; exact hx 9 _ rfl)
      clear hc hx hT htl
      obtain ⟨w2, hmk2, ho2, hg2⟩ := run_make_own (P := Try.prog) (wr.alloc (.cells (chC c (.slice pt c.tx.length ct)) 29)) (wr.heap.size + 1) 27 9 iS _ 1 Try.underlying27 hiS zS0 zS1 .i64 .i64 (c.tx.length + 2) (by rw [zS2]; omega) (by unfold maxLen; omega) (by simp)
      have hcast : ((c.tx.length + 2 : Nat) : Int) = (c.tx.length : Int) + 2 := by omega
      rw [hcast] at hmk2
      unfold chC at hmk2
      have P2 : w2.heap[wr.heap.size]? = some (.cells (chC c (.slice pt c.tx.length ct)) 29 (0, 0)) := (hg2.block _ (by simp) (by simp)).trans (heap_alloc_new wr _)
      obtain ⟨p0, p1, p2, p3, p4, p5, p6, p7, p8, p9⟩ := (show Ca w2 wr.heap.size c (.slice pt c.tx.length ct) from P2).all
      have zp : ∀ k, w2.frozen? ⟨wr.heap.size, k, none⟩ = false := fun k => by unfold World.frozen?; rw [show _ = _ from P2]; simp
      have HP2 := hide P2
      have HO2 := hide ho2
      have HG2 := hide hg2
      clear P2 ho2 hg2
      rw [World.size_alloc] at HO2
      obtain ⟨pt', ct', htv, hcell⟩ := hTr
      injection htv with e1 e2 e3
      subst e1 e3
      cases pt with
      | none =>
        have he : c.tx.length = 0 := by
          by_cases he : 0 < c.tx.length
          · obtain ⟨_, _, h9, _⟩ := hcell he; cases h9
          · omega
        have hct := hct0 rfl
        subst hct
        have HZ : Hid (c.tx = []) := hide (List.length_eq_zero_iff.mp he)
        rw [he] at hmk2 HP2 HO2 HG2 p9 x9
        rw [show ((0 : Nat) : Int) + 2 = 2 from rfl, Nat.zero_add] at hmk2
        rw [Nat.zero_add] at HO2
        clear he hcell hct0
        go_wp2_with (first
          | (at_builtin; refine wpList_append_own_none rfl _ _ 27 rfl (wr.heap.size + 1) 9 iS 1 Try.underlying27 hiS _ 0 [] rfl HO2.out rfl ?_; obtain ⟨y, z3, q, HC5, HT5, HNw5⟩ := cp_step (w3 := w2) HP2.out HG2.out (grownByRefl _ _) (by rw [HZ.out]; exact HO2.out) HCp.out; obtain ⟨y0, y1, y2, y3, y4, y5, y6, y7, y8, y9⟩ := y.all; obtain ⟨q0, q1, q2, q3, q4, q5, q6, q7, q8, q9⟩ := q.all; clear y q)
          | (at_builtin; refine wpList_append_own_spare _ rfl _ _ 22 rfl w.heap.size 29 iC 10 Try.underlying22 hiC zC1 w.heap.size k (n + 2) (flatV vals) rfl (by have := HC5.out.own; rw [hvl] at this; exact this) ⟨w2.heap.size, 0, none⟩ 1 1 _ rfl rfl HNw5.out (chC_one _ _ _ _) (by omega) ?_; intro w6 ho6 hg6))
        refine ⟨⟨k + 1, vals ++ [(c, (.slice (some ⟨wr.heap.size + 1, 0, none⟩) 0 2))], by omega, rfl, rfl, by simp [hvl], hide (by rw [List.map_append, HV.out, HV2.out]; rfl), hide (HC5.out.more HT5.out (by rw [hvl]; exact ho6) hg6 (Nat.le_refl _)), hide (HCt.out.more (g := wr.heap.size + 1) (by rw [HZ.out]; rfl) (Nat.lt_of_lt_of_le (HT5.out.lt (wr.heap.size + 1) rfl).2 hg6.size) (by omega))⟩, ?_⟩
        simp only [intOf]; omega
      | some ad =>
        have HNw : Hid (∀ j u, (strs c.tx)[j]? = some u → w2.cell? (ad.add j) = some u) := by
          by_cases he : 0 < c.tx.length
          · obtain ⟨tb, to, h9, htb, hcc⟩ := hcell he
            injection h9 with h9
            subst h9
            exact hide (tx_news fun j hj => by
              have h1 : w2.heap[tb]? = wr.heap[tb]? := (HG2.out.block tb (by simp; omega) (by simp)).trans (Below.heap_alloc _ _ _ htb)
              have h2 := hcc j hj
              unfold World.cell? at h2 ⊢; rw [show w2.heap[(⟨tb, to + j, none⟩ : Addr).block]? = wr.heap[tb]? from h1]; exact h2)
          · have hz : c.tx = [] := List.length_eq_zero_iff.mp (by omega)
            exact hide (fun j u hu => by rw [hz] at hu; simp [strs] at hu)
        clear hcell hct0
        go_wp2_with (first
          | (at_builtin; refine wpList_append_own_spare _ rfl _ _ 27 rfl (wr.heap.size + 1) 9 iS 1 Try.underlying27 hiS zS1 (wr.heap.size + 1) 0 (c.tx.length + 2) [] rfl HO2.out ad c.tx.length ct (strs c.tx) rfl (by simp [strs]) HNw.out (strs_one _) (by omega) ?_; intro w3 ho3 hg3; obtain ⟨y, z3, q, HC5, HT5, HNw5⟩ := cp_step HP2.out HG2.out hg3 (by rw [List.nil_append, Nat.zero_add] at ho3; exact ho3) HCp.out; obtain ⟨y0, y1, y2, y3, y4, y5, y6, y7, y8, y9⟩ := y.all; obtain ⟨q0, q1, q2, q3, q4, q5, q6, q7, q8, q9⟩ := q.all; clear y q ho3 hg3)
          | (at_builtin; refine wpList_append_own_spare _ rfl _ _ 22 rfl w.heap.size 29 iC 10 Try.underlying22 hiC zC1 w.heap.size k (n + 2) (flatV vals) rfl (by have := HC5.out.own; rw [hvl] at this; exact this) ⟨w3.heap.size, 0, none⟩ 1 1 _ rfl rfl HNw5.out (chC_one _ _ _ _) (by omega) ?_; intro w6 ho6 hg6))
        refine ⟨⟨k + 1, vals ++ [(c, (.slice (some ⟨wr.heap.size + 1, 0, none⟩) c.tx.length (c.tx.length + 2)))], by omega, rfl, rfl, by simp [hvl], hide (by rw [List.map_append, HV.out, HV2.out]; rfl), hide (HC5.out.more HT5.out (by rw [hvl]; exact ho6) hg6 (Nat.le_refl _)), hide (HCt.out.more (g := wr.heap.size + 1) rfl (Nat.lt_of_lt_of_le (HT5.out.lt (wr.heap.size + 1) rfl).2 hg6.size) (by omega))⟩, ?_⟩
        simp only [intOf]; omega
    · have hki : ¬ (k : Int) < (n : Int) := by omega
      obtain rfl : k = n := by omega
      go_wp2_with fail
      go_ret
      exact ⟨w.heap.size, rfl, vals, by rw [HV.out, ← HN.out, List.take_length], HCp.out, HCt.out, Nat.le_refl _⟩
end Go.Proofs.Ytjabnddjahhgoaa
