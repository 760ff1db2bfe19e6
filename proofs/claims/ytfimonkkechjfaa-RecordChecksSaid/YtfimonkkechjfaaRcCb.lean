import Derived.Test.YtfimonkkechjfaaRcCa
namespace Go.Proofs.Ytfimonkkechjfaa
open Go.RowKit
open Rc (L V Ch)

macro "blw" : tactic => `(tactic| (repeat first | exact Below.refl _ _ | exact below_alloc _ _ | refine Below.alloc ?_ (by first | (simp; done) | (simp; omega)) _ | refine Below.setCell ?_ (by first | (simp; done) | (simp; omega)) _ | (refine below_drewN ?_ _)))
set_option maxHeartbeats 1600000 in
theorem rcheck_1 (n jo ba sl li rc : Int) (rb : Nat) (pr : ByteArray) (tx : List ByteArray) (p : Option Addr) (cap : Nat) (w : World) (_HT : Hid (∀ W : World, Below w.heap.size w W → Tx W (.slice p tx.length cap) tx)) : Calls Try.prog 9 #[.agg (chC ⟨1, n, jo, ba, sl, li, rc, rb, pr, tx⟩ (.slice p tx.length cap))] w fun e w' => e = .returned (.int .i64 (Rc.check ⟨1, n, jo, ba, sl, li, rc, rb, pr, tx⟩ : Int)) ∧ Below w.heap.size w w' := by
  have HC := hide (chk1 n jo ba sl li rc rb pr tx)
  generalize Rc.check ⟨1, n, jo, ba, sl, li, rc, rb, pr, tx⟩ = C at *
  simp only [chC]
  by_cases h0 : 1 ≤ n ∧ n ≤ 1099511627776
  case neg =>
    have HF : Hid (C = 81) := hide (by rw [HC.out]; exact if_neg fun h => h0 h.1)
    clear HC
    go_enter Try.func9, Try.ntmps9
    go_wp2_with fail
    refine (wit_f h0 _).mono ?_
    rintro e w' ⟨rfl, rfl⟩
    go_wp2_with fail
    go_ret
    exact ⟨by rw [HF.out]; rfl, by blw⟩
  have HF : Hid (C = if (⟨1, 0, jo, ba, sl, li, rc, rb, pr, tx⟩ : Ch) = Rc.zC 1 then 0 else 81) := hide (by rw [HC.out]; exact if_iff (and_iff_right h0))
  clear HC
  go_enter Try.func9, Try.ntmps9
  go_wp2_with fail
  refine (wit_t h0 _).mono ?_
  rintro e w' ⟨rfl, rfl⟩
  go_wp2_with fail
  refine (rzero_any ⟨1, 0, jo, ba, sl, li, rc, rb, pr, tx⟩ p cap _).mono ?_
  rintro e w' ⟨rfl, rfl⟩
  have HF2 := HF.out
  clear HF
  by_cases hz : (⟨1, 0, jo, ba, sl, li, rc, rb, pr, tx⟩ : Ch) = Rc.zC 1
  · have HF : Hid (C = 0) := hide (by rw [HF2]; exact if_pos hz)
    rw [decide_eq_true hz]
    clear hz HF2
    go_wp2_with fail
    go_ret
    exact ⟨by rw [HF.out]; rfl, by blw⟩
  · have HF : Hid (C = 81) := hide (by rw [HF2]; exact if_neg hz)
    rw [decide_eq_false hz]
    clear hz HF2
    go_wp2_with fail
    go_ret
    exact ⟨by rw [HF.out]; rfl, by blw⟩
set_option maxHeartbeats 1600000 in
theorem rcheck_2 (n jo ba sl li rc : Int) (rb : Nat) (pr : ByteArray) (tx : List ByteArray) (p : Option Addr) (cap : Nat) (w : World) (_HT : Hid (∀ W : World, Below w.heap.size w W → Tx W (.slice p tx.length cap) tx)) : Calls Try.prog 9 #[.agg (chC ⟨2, n, jo, ba, sl, li, rc, rb, pr, tx⟩ (.slice p tx.length cap))] w fun e w' => e = .returned (.int .i64 (Rc.check ⟨2, n, jo, ba, sl, li, rc, rb, pr, tx⟩ : Int)) ∧ Below w.heap.size w w' := by
  have HC := hide (chk2 n jo ba sl li rc rb pr tx)
  generalize Rc.check ⟨2, n, jo, ba, sl, li, rc, rb, pr, tx⟩ = C at *
  simp only [chC]
  by_cases h0 : 1 ≤ jo ∧ jo ≤ 8
  case neg =>
    have HF : Hid (C = 81) := hide (by rw [HC.out]; exact if_neg fun h => h0 h.1.1)
    clear HC
    go_enter Try.func9, Try.ntmps9
    go_wp2_with fail
    refine (wit_f h0 _).mono ?_
    rintro e w' ⟨rfl, rfl⟩
    go_wp2_with fail
    go_ret
    exact ⟨by rw [HF.out]; rfl, by blw⟩
  by_cases h1 : 1 ≤ (pr.size : Int) ∧ (pr.size : Int) ≤ 1024
  case neg =>
    have HF : Hid (C = 81) := hide (by rw [HC.out]; exact if_neg fun h => h1 h.1.2)
    clear HC
    go_enter Try.func9, Try.ntmps9
    go_wp2_with fail
    refine (wit_t h0 _).mono ?_
    rintro e w' ⟨rfl, rfl⟩
    go_wp2_with fail
    refine (wit_f h1 _).mono ?_
    rintro e w' ⟨rfl, rfl⟩
    go_wp2_with fail
    go_ret
    exact ⟨by rw [HF.out]; rfl, by blw⟩
  have HF : Hid (C = if (⟨2, n, 0, ba, sl, li, rc, rb, ⟨#[]⟩, tx⟩ : Ch) = Rc.zC 2 then 0 else 81) := hide (by rw [HC.out]; exact if_iff (and_iff_right ⟨h0, h1⟩))
  clear HC
  go_enter Try.func9, Try.ntmps9
  go_wp2_with fail
  refine (wit_t h0 _).mono ?_
  rintro e w' ⟨rfl, rfl⟩
  go_wp2_with fail
  refine (wit_t h1 _).mono ?_
  rintro e w' ⟨rfl, rfl⟩
  go_wp2_with fail
  refine (rzero_any ⟨2, n, 0, ba, sl, li, rc, rb, ⟨#[]⟩, tx⟩ p cap _).mono ?_
  rintro e w' ⟨rfl, rfl⟩
  have HF2 := HF.out
  clear HF
  by_cases hz : (⟨2, n, 0, ba, sl, li, rc, rb, ⟨#[]⟩, tx⟩ : Ch) = Rc.zC 2
  · have HF : Hid (C = 0) := hide (by rw [HF2]; exact if_pos hz)
    rw [decide_eq_true hz]
    clear hz HF2
    go_wp2_with fail
    go_ret
    exact ⟨by rw [HF.out]; rfl, by blw⟩
  · have HF : Hid (C = 81) := hide (by rw [HF2]; exact if_neg hz)
    rw [decide_eq_false hz]
    clear hz HF2
    go_wp2_with fail
    go_ret
    exact ⟨by rw [HF.out]; rfl, by blw⟩
set_option maxHeartbeats 1600000 in
theorem rcheck_3 (n jo ba sl li rc : Int) (rb : Nat) (pr : ByteArray) (tx : List ByteArray) (p : Option Addr) (cap : Nat) (w : World) (_HT : Hid (∀ W : World, Below w.heap.size w W → Tx W (.slice p tx.length cap) tx)) : Calls Try.prog 9 #[.agg (chC ⟨3, n, jo, ba, sl, li, rc, rb, pr, tx⟩ (.slice p tx.length cap))] w fun e w' => e = .returned (.int .i64 (Rc.check ⟨3, n, jo, ba, sl, li, rc, rb, pr, tx⟩ : Int)) ∧ Below w.heap.size w w' := by
  have HC := hide (chk3 n jo ba sl li rc rb pr tx)
  generalize Rc.check ⟨3, n, jo, ba, sl, li, rc, rb, pr, tx⟩ = C at *
  simp only [chC]
  by_cases h0 : 1 ≤ jo ∧ jo ≤ 8
  case neg =>
    have HF : Hid (C = 81) := hide (by rw [HC.out]; exact if_neg fun h => h0 h.1.1)
    clear HC
    go_enter Try.func9, Try.ntmps9
    go_wp2_with fail
    refine (wit_f h0 _).mono ?_
    rintro e w' ⟨rfl, rfl⟩
    go_wp2_with fail
    go_ret
    exact ⟨by rw [HF.out]; rfl, by blw⟩
  by_cases h1 : 1 ≤ ba ∧ ba ≤ 1099511627776
  case neg =>
    have HF : Hid (C = 81) := hide (by rw [HC.out]; exact if_neg fun h => h1 h.1.2.1)
    clear HC
    go_enter Try.func9, Try.ntmps9
    go_wp2_with fail
    refine (wit_t h0 _).mono ?_
    rintro e w' ⟨rfl, rfl⟩
    go_wp2_with fail
    refine (wit_f h1 _).mono ?_
    rintro e w' ⟨rfl, rfl⟩
    go_wp2_with fail
    go_ret
    exact ⟨by rw [HF.out]; rfl, by blw⟩
  by_cases h2 : 0 ≤ sl ∧ sl ≤ 7
  case neg =>
    have HF : Hid (C = 81) := hide (by rw [HC.out]; exact if_neg fun h => h2 h.1.2.2.1)
    clear HC
    go_enter Try.func9, Try.ntmps9
    go_wp2_with fail
    refine (wit_t h0 _).mono ?_
    rintro e w' ⟨rfl, rfl⟩
    go_wp2_with fail
    refine (wit_t h1 _).mono ?_
    rintro e w' ⟨rfl, rfl⟩
    go_wp2_with fail
    refine (wit_f h2 _).mono ?_
    rintro e w' ⟨rfl, rfl⟩
    go_wp2_with fail
    go_ret
    exact ⟨by rw [HF.out]; rfl, by blw⟩
  by_cases h3 : 1 ≤ li ∧ li ≤ 1099511627776
  case neg =>
    have HF : Hid (C = 81) := hide (by rw [HC.out]; exact if_neg fun h => h3 h.1.2.2.2)
    clear HC
    go_enter Try.func9, Try.ntmps9
    go_wp2_with fail
    refine (wit_t h0 _).mono ?_
    rintro e w' ⟨rfl, rfl⟩
    go_wp2_with fail
    refine (wit_t h1 _).mono ?_
    rintro e w' ⟨rfl, rfl⟩
    go_wp2_with fail
    refine (wit_t h2 _).mono ?_
    rintro e w' ⟨rfl, rfl⟩
    go_wp2_with fail
    refine (wit_f h3 _).mono ?_
    rintro e w' ⟨rfl, rfl⟩
    go_wp2_with fail
    go_ret
    exact ⟨by rw [HF.out]; rfl, by blw⟩
  have HF : Hid (C = if (⟨3, n, 0, 0, 0, 0, rc, rb, pr, tx⟩ : Ch) = Rc.zC 3 then 0 else 81) := hide (by rw [HC.out]; exact if_iff (and_iff_right ⟨h0, h1, h2, h3⟩))
  clear HC
  go_enter Try.func9, Try.ntmps9
  go_wp2_with fail
  refine (wit_t h0 _).mono ?_
  rintro e w' ⟨rfl, rfl⟩
  go_wp2_with fail
  refine (wit_t h1 _).mono ?_
  rintro e w' ⟨rfl, rfl⟩
  go_wp2_with fail
  refine (wit_t h2 _).mono ?_
  rintro e w' ⟨rfl, rfl⟩
  go_wp2_with fail
  refine (wit_t h3 _).mono ?_
  rintro e w' ⟨rfl, rfl⟩
  go_wp2_with fail
  refine (rzero_any ⟨3, n, 0, 0, 0, 0, rc, rb, pr, tx⟩ p cap _).mono ?_
  rintro e w' ⟨rfl, rfl⟩
  have HF2 := HF.out
  clear HF
  by_cases hz : (⟨3, n, 0, 0, 0, 0, rc, rb, pr, tx⟩ : Ch) = Rc.zC 3
  · have HF : Hid (C = 0) := hide (by rw [HF2]; exact if_pos hz)
    rw [decide_eq_true hz]
    clear hz HF2
    go_wp2_with fail
    go_ret
    exact ⟨by rw [HF.out]; rfl, by blw⟩
  · have HF : Hid (C = 81) := hide (by rw [HF2]; exact if_neg hz)
    rw [decide_eq_false hz]
    clear hz HF2
    go_wp2_with fail
    go_ret
    exact ⟨by rw [HF.out]; rfl, by blw⟩
set_option maxHeartbeats 1600000 in
theorem rcheck_4 (n jo ba sl li rc : Int) (rb : Nat) (pr : ByteArray) (tx : List ByteArray) (p : Option Addr) (cap : Nat) (w : World) (_HT : Hid (∀ W : World, Below w.heap.size w W → Tx W (.slice p tx.length cap) tx)) : Calls Try.prog 9 #[.agg (chC ⟨4, n, jo, ba, sl, li, rc, rb, pr, tx⟩ (.slice p tx.length cap))] w fun e w' => e = .returned (.int .i64 (Rc.check ⟨4, n, jo, ba, sl, li, rc, rb, pr, tx⟩ : Int)) ∧ Below w.heap.size w w' := by
  have HC := hide (chk4 n jo ba sl li rc rb pr tx)
  generalize Rc.check ⟨4, n, jo, ba, sl, li, rc, rb, pr, tx⟩ = C at *
  simp only [chC]
  by_cases h0 : 1 ≤ ba ∧ ba ≤ 1099511627776
  case neg =>
    have HF : Hid (C = 81) := hide (by rw [HC.out]; exact if_neg fun h => h0 h.1.1)
    clear HC
    go_enter Try.func9, Try.ntmps9
    go_wp2_with fail
    refine (wit_f h0 _).mono ?_
    rintro e w' ⟨rfl, rfl⟩
    go_wp2_with fail
    go_ret
    exact ⟨by rw [HF.out]; rfl, by blw⟩
  by_cases h1 : tOk tx = true
  case neg =>
    have HF : Hid (C = 81) := hide (by rw [HC.out]; exact if_neg fun h => h1 h.1.2)
    clear HC
    rw [Bool.not_eq_true] at h1
    go_enter Try.func9, Try.ntmps9
    go_wp2_with fail
    refine (wit_t h0 _).mono ?_
    rintro e w' ⟨rfl, rfl⟩
    go_wp2_with fail
    refine (qtexts_any (_HT.out _ (by blw))).mono ?_
    rintro e w' ⟨rfl, nd, rfl⟩
    rw [h1]
    go_wp2_with fail
    go_ret
    exact ⟨by rw [HF.out]; rfl, by blw⟩
  have HF : Hid (C = if (⟨4, n, jo, 0, sl, li, rc, rb, pr, []⟩ : Ch) = Rc.zC 4 then 0 else 81) := hide (by rw [HC.out]; exact if_iff (and_iff_right ⟨h0, h1⟩))
  clear HC
  go_enter Try.func9, Try.ntmps9
  go_wp2_with fail
  refine (wit_t h0 _).mono ?_
  rintro e w' ⟨rfl, rfl⟩
  go_wp2_with fail
  refine (qtexts_any (_HT.out _ (by blw))).mono ?_
  rintro e w' ⟨rfl, nd, rfl⟩
  rw [h1]
  go_wp2_with fail
  refine (rzero_any ⟨4, n, jo, 0, sl, li, rc, rb, pr, []⟩ none 0 _).mono ?_
  rintro e w' ⟨rfl, rfl⟩
  have HF2 := HF.out
  clear HF
  by_cases hz : (⟨4, n, jo, 0, sl, li, rc, rb, pr, []⟩ : Ch) = Rc.zC 4
  · have HF : Hid (C = 0) := hide (by rw [HF2]; exact if_pos hz)
    rw [decide_eq_true hz]
    clear hz HF2
    go_wp2_with fail
    go_ret
    exact ⟨by rw [HF.out]; rfl, by blw⟩
  · have HF : Hid (C = 81) := hide (by rw [HF2]; exact if_neg hz)
    rw [decide_eq_false hz]
    clear hz HF2
    go_wp2_with fail
    go_ret
    exact ⟨by rw [HF.out]; rfl, by blw⟩
set_option maxHeartbeats 1600000 in
theorem rcheck_5 (n jo ba sl li rc : Int) (rb : Nat) (pr : ByteArray) (tx : List ByteArray) (p : Option Addr) (cap : Nat) (w : World) (_HT : Hid (∀ W : World, Below w.heap.size w W → Tx W (.slice p tx.length cap) tx)) : Calls Try.prog 9 #[.agg (chC ⟨5, n, jo, ba, sl, li, rc, rb, pr, tx⟩ (.slice p tx.length cap))] w fun e w' => e = .returned (.int .i64 (Rc.check ⟨5, n, jo, ba, sl, li, rc, rb, pr, tx⟩ : Int)) ∧ Below w.heap.size w w' := by
  have HC := hide (chk5 n jo ba sl li rc rb pr tx)
  generalize Rc.check ⟨5, n, jo, ba, sl, li, rc, rb, pr, tx⟩ = C at *
  simp only [chC]
  by_cases h0 : 1 ≤ ba ∧ ba ≤ 1099511627776
  case neg =>
    have HF : Hid (C = 81) := hide (by rw [HC.out]; exact if_neg fun h => h0 h.1)
    clear HC
    go_enter Try.func9, Try.ntmps9
    go_wp2_with fail
    refine (wit_f h0 _).mono ?_
    rintro e w' ⟨rfl, rfl⟩
    go_wp2_with fail
    go_ret
    exact ⟨by rw [HF.out]; rfl, by blw⟩
  have HF : Hid (C = if (⟨5, n, jo, 0, sl, li, rc, rb, pr, tx⟩ : Ch) = Rc.zC 5 then 0 else 81) := hide (by rw [HC.out]; exact if_iff (and_iff_right h0))
  clear HC
  go_enter Try.func9, Try.ntmps9
  go_wp2_with fail
  refine (wit_t h0 _).mono ?_
  rintro e w' ⟨rfl, rfl⟩
  go_wp2_with fail
  refine (rzero_any ⟨5, n, jo, 0, sl, li, rc, rb, pr, tx⟩ p cap _).mono ?_
  rintro e w' ⟨rfl, rfl⟩
  have HF2 := HF.out
  clear HF
  by_cases hz : (⟨5, n, jo, 0, sl, li, rc, rb, pr, tx⟩ : Ch) = Rc.zC 5
  · have HF : Hid (C = 0) := hide (by rw [HF2]; exact if_pos hz)
    rw [decide_eq_true hz]
    clear hz HF2
    go_wp2_with fail
    go_ret
    exact ⟨by rw [HF.out]; rfl, by blw⟩
  · have HF : Hid (C = 81) := hide (by rw [HF2]; exact if_neg hz)
    rw [decide_eq_false hz]
    clear hz HF2
    go_wp2_with fail
    go_ret
    exact ⟨by rw [HF.out]; rfl, by blw⟩
set_option maxHeartbeats 1600000 in
theorem rcheck_6 (n jo ba sl li rc : Int) (rb : Nat) (pr : ByteArray) (tx : List ByteArray) (p : Option Addr) (cap : Nat) (w : World) (_HT : Hid (∀ W : World, Below w.heap.size w W → Tx W (.slice p tx.length cap) tx)) : Calls Try.prog 9 #[.agg (chC ⟨6, n, jo, ba, sl, li, rc, rb, pr, tx⟩ (.slice p tx.length cap))] w fun e w' => e = .returned (.int .i64 (Rc.check ⟨6, n, jo, ba, sl, li, rc, rb, pr, tx⟩ : Int)) ∧ Below w.heap.size w w' := by
  have HC := hide (chk6 n jo ba sl li rc rb pr tx)
  generalize Rc.check ⟨6, n, jo, ba, sl, li, rc, rb, pr, tx⟩ = C at *
  simp only [chC]
  by_cases h0 : 1 ≤ ba ∧ ba ≤ 1099511627776
  case neg =>
    have HF : Hid (C = 81) := hide (by rw [HC.out]; exact if_neg fun h => h0 h.1.1)
    clear HC
    go_enter Try.func9, Try.ntmps9
    go_wp2_with fail
    refine (wit_f h0 _).mono ?_
    rintro e w' ⟨rfl, rfl⟩
    go_wp2_with fail
    go_ret
    exact ⟨by rw [HF.out]; rfl, by blw⟩
  by_cases h1 : 0 ≤ rc ∧ rc ≤ 7
  case neg =>
    have HF : Hid (C = 81) := hide (by rw [HC.out]; exact if_neg fun h => h1 h.1.2.1)
    clear HC
    go_enter Try.func9, Try.ntmps9
    go_wp2_with fail
    refine (wit_t h0 _).mono ?_
    rintro e w' ⟨rfl, rfl⟩
    go_wp2_with fail
    refine (wit_f h1 _).mono ?_
    rintro e w' ⟨rfl, rfl⟩
    go_wp2_with fail
    go_ret
    exact ⟨by rw [HF.out]; rfl, by blw⟩
  by_cases h2 : rc = 0 ∨ rb = 0
  case neg =>
    have HF : Hid (C = 81) := hide (by rw [HC.out]; exact if_neg fun h => h2 h.1.2.2)
    have r1 : ¬ rc = 0 := fun h => h2 (.inl h)
    have r2 : ¬ (rb : Int) = 0 := fun h => h2 (.inr (by omega))
    clear HC h2
    go_enter Try.func9, Try.ntmps9
    go_wp2_with fail
    refine (wit_t h0 _).mono ?_
    rintro e w' ⟨rfl, rfl⟩
    go_wp2_with fail
    refine (wit_t h1 _).mono ?_
    rintro e w' ⟨rfl, rfl⟩
    go_wp2_with fail
    go_ret
    exact ⟨by rw [HF.out]; rfl, by blw⟩
  by_cases r1 : rc = 0
  · subst r1
    have HF : Hid (C = if (⟨6, n, jo, 0, sl, li, 0, 0, pr, tx⟩ : Ch) = Rc.zC 6 then 0 else 81) := hide (by rw [HC.out]; exact if_iff (and_iff_right ⟨h0, h1, h2⟩))
    clear HC
    go_enter Try.func9, Try.ntmps9
    go_wp2_with fail
    refine (wit_t h0 _).mono ?_
    rintro e w' ⟨rfl, rfl⟩
    go_wp2_with fail
    refine (wit_t h1 _).mono ?_
    rintro e w' ⟨rfl, rfl⟩
    go_wp2_with fail
    refine (rzero_any ⟨6, n, jo, 0, sl, li, 0, 0, pr, tx⟩ p cap _).mono ?_
    rintro e w' ⟨rfl, rfl⟩
    have HF2 := HF.out
    clear HF
    by_cases hz : (⟨6, n, jo, 0, sl, li, 0, 0, pr, tx⟩ : Ch) = Rc.zC 6
    · have HF : Hid (C = 0) := hide (by rw [HF2]; exact if_pos hz)
      rw [decide_eq_true hz]
      clear hz HF2
      go_wp2_with fail
      go_ret
      exact ⟨by rw [HF.out]; rfl, by blw⟩
    · have HF : Hid (C = 81) := hide (by rw [HF2]; exact if_neg hz)
      rw [decide_eq_false hz]
      clear hz HF2
      go_wp2_with fail
      go_ret
      exact ⟨by rw [HF.out]; rfl, by blw⟩
  · have r2 : rb = 0 := h2.resolve_left r1
    subst r2
    have HF : Hid (C = if (⟨6, n, jo, 0, sl, li, 0, 0, pr, tx⟩ : Ch) = Rc.zC 6 then 0 else 81) := hide (by rw [HC.out]; exact if_iff (and_iff_right ⟨h0, h1, h2⟩))
    clear HC
    go_enter Try.func9, Try.ntmps9
    go_wp2_with fail
    refine (wit_t h0 _).mono ?_
    rintro e w' ⟨rfl, rfl⟩
    go_wp2_with fail
    refine (wit_t h1 _).mono ?_
    rintro e w' ⟨rfl, rfl⟩
    go_wp2_with fail
    refine (rzero_any ⟨6, n, jo, 0, sl, li, 0, 0, pr, tx⟩ p cap _).mono ?_
    rintro e w' ⟨rfl, rfl⟩
    have HF2 := HF.out
    clear HF
    by_cases hz : (⟨6, n, jo, 0, sl, li, 0, 0, pr, tx⟩ : Ch) = Rc.zC 6
    · have HF : Hid (C = 0) := hide (by rw [HF2]; exact if_pos hz)
      rw [decide_eq_true hz]
      clear hz HF2
      go_wp2_with fail
      go_ret
      exact ⟨by rw [HF.out]; rfl, by blw⟩
    · have HF : Hid (C = 81) := hide (by rw [HF2]; exact if_neg hz)
      rw [decide_eq_false hz]
      clear hz HF2
      go_wp2_with fail
      go_ret
      exact ⟨by rw [HF.out]; rfl, by blw⟩
theorem rcheck_any (c : Ch) (t : Value) (w : World) (hT : Tx w t c.tx) : Calls Try.prog 9 #[.agg (chC c t)] w fun e w' => e = .returned (.int .i64 (Rc.check c : Int)) ∧ Below w.heap.size w w' := by
  obtain ⟨p, cap, rfl, hp⟩ := id hT
  have HT : Hid (∀ W : World, Below w.heap.size w W → Tx W (.slice p c.tx.length cap) c.tx) := hide fun W hW => hT.below hW (Nat.le_refl _)
  clear hp hT
  obtain ⟨k, n, jo, ba, sl, li, rc, rb, pr, tx⟩ := c
  by_cases h1 : k = 1
  · subst h1; exact rcheck_1 n jo ba sl li rc rb pr tx p cap w HT
  by_cases h2 : k = 2
  · subst h2; exact rcheck_2 n jo ba sl li rc rb pr tx p cap w HT
  by_cases h3 : k = 3
  · subst h3; exact rcheck_3 n jo ba sl li rc rb pr tx p cap w HT
  by_cases h4 : k = 4
  · subst h4; exact rcheck_4 n jo ba sl li rc rb pr tx p cap w HT
  by_cases h5 : k = 5
  · subst h5; exact rcheck_5 n jo ba sl li rc rb pr tx p cap w HT
  by_cases h6 : k = 6
  · subst h6; exact rcheck_6 n jo ba sl li rc rb pr tx p cap w HT
  have HC : Hid (Rc.check ⟨k, n, jo, ba, sl, li, rc, rb, pr, tx⟩ = 80) := hide (if_pos (by show k < 1 ∨ 6 < k; omega))
  have e1 : (k == 1) = false := beq_eq_false_iff_ne.2 h1
  have e2 : (k == 2) = false := beq_eq_false_iff_ne.2 h2
  have e3 : (k == 3) = false := beq_eq_false_iff_ne.2 h3
  have e4 : (k == 4) = false := beq_eq_false_iff_ne.2 h4
  have e5 : (k == 5) = false := beq_eq_false_iff_ne.2 h5
  have e6 : (k == 6) = false := beq_eq_false_iff_ne.2 h6
  generalize Rc.check ⟨k, n, jo, ba, sl, li, rc, rb, pr, tx⟩ = C at *
  simp only [chC]
  clear HT
  go_enter Try.func9, Try.ntmps9
  go_wp2_with fail
  go_ret
  exact ⟨by rw [HC.out]; rfl, by blw⟩
end Go.Proofs.Ytfimonkkechjfaa
