import Derived.Test.YtlgcimfbhjidgaaMgAQ

section
namespace Go.Proofs.Ytlgcimfbhjidgaa
open Go.RowKit
open Rc (L V Ch)

theorem wit_t {n lo hi : Int} (h : lo ≤ n ∧ n ≤ hi) (w : World) : Calls Try.prog 36 #[.int .i64 n, .int .i64 lo, .int .i64 hi] w fun e w' => e = .returned (.bool true) ∧ w' = w := by
  obtain ⟨h1, h2⟩ := h
  go_enter Try.func36, Try.ntmps36
  go_wp2
  go_ret
  exact ⟨rfl, rfl⟩
theorem wit_f {n lo hi : Int} (h : ¬ (lo ≤ n ∧ n ≤ hi)) (w : World) : Calls Try.prog 36 #[.int .i64 n, .int .i64 lo, .int .i64 hi] w fun e w' => e = .returned (.bool false) ∧ w' = w := by
  by_cases h1 : lo ≤ n
  · have h2 : ¬ n ≤ hi := fun k => h ⟨h1, k⟩
    clear h
    go_enter Try.func36, Try.ntmps36
    go_wp2
    go_ret
    exact ⟨rfl, rfl⟩
  · clear h
    go_enter Try.func36, Try.ntmps36
    go_wp2
    go_ret
    exact ⟨rfl, rfl⟩
def tOk (l : List ByteArray) : Bool := decide (1 ≤ l.length ∧ l.length ≤ 8) && l.all fun t => decide (t.size ≤ 32)
theorem all_drop {l : List ByteArray} {k : Nat} (h : k < l.length) : ((l.drop k).all fun t => decide (t.size ≤ 32)) = (decide ((l[k]!).size ≤ 32) && ((l.drop (k + 1)).all fun t => decide (t.size ≤ 32))) := by
  rw [List.drop_eq_getElem_cons h, List.all_cons, getElem!_pos l k h]
set_option maxHeartbeats 800000 in
theorem qtexts_any {w : World} {t : Value} {l : List ByteArray} (hT : Tx w t l) : Calls Try.prog 37 #[t] w fun e w' => e = .returned (.bool (tOk l)) ∧ ∃ n, w' = w.drewN n := by
  obtain ⟨p, cap, rfl, hp⟩ := hT
  by_cases h1 : 1 ≤ l.length ∧ l.length ≤ 8
  case neg =>
    have HF : Hid (tOk l = false) := hide (by unfold tOk; rw [decide_eq_false h1]; rfl)
    by_cases h2 : 1 ≤ l.length
    · have h3 : (8 : Int) < (l.length : Int) := by omega
      have h4 : ¬ (l.length : Int) < 1 := by omega
      clear h1 hp
      go_enter Try.func37, Try.ntmps37
      go_wp2
      go_ret
      exact ⟨by rw [HF.out]; rfl, 0, rfl⟩
    · have h4 : (l.length : Int) < 1 := by omega
      clear h1 hp
      go_enter Try.func37, Try.ntmps37
      go_wp2
      go_ret
      exact ⟨by rw [HF.out]; rfl, 0, rfl⟩
  obtain ⟨gb, go, rfl, hgl, hx⟩ := hp (by omega)
  have HX := hide hx
  have h4 : ¬ (l.length : Int) < 1 := by omega
  have h5 : ¬ (8 : Int) < (l.length : Int) := by omega
  have HL : Hid (l.length ≤ 8) := h1.2
  have HT : Hid (tOk l = (l.drop 0).all fun t => decide (t.size ≤ 32)) := hide (by unfold tOk; rw [decide_eq_true h1, List.drop_zero]; rfl)
  generalize tOk l = T at *
  clear h1 hp hx
  go_enter Try.func37, Try.ntmps37
  go_wp2_with fail
  go_loopw [3] (fun s wr => ∃ k n : Nat, k ≤ l.length ∧ s = .int .i64 (k : Int) ∧ Hid (T = (l.drop k).all fun t => decide (t.size ≤ 32)) ∧ wr = w.drewN n) (fun s _ => l.length - (intOf s).toNat)
  case atStart => exact ⟨0, 0, Nat.zero_le _, rfl, HT, rfl⟩
  case round =>
    obtain ⟨k, n, hk, rfl, HK, rfl⟩ := hrel
    have HLo := HL.out
    by_cases hkl : k < l.length
    · have hki : (k : Int) < (l.length : Int) := by omega
      have x1 : (w.drewN n).cell? ⟨gb, go + k, none⟩ = some (.string l[k]!) := HX.out k hkl
      have l1 : gb < (w.drewN n).heap.size := hgl
      have HS := hide (all_drop hkl)
      generalize l[k]! = S at *
      by_cases hs : S.size ≤ 32
      · have hs2 : ¬ (32 : Int) < (S.size : Int) := by omega
        have HK2 : Hid (T = (l.drop (k + 1)).all fun t => decide (t.size ≤ 32)) := hide (by rw [HK.out, HS.out, decide_eq_true hs]; rfl)
        clear HK HS
        go_wp2_with fail
        go_roundw
        case rel => exact ⟨k + 1, _, by omega, rfl, HK2, rfl⟩
        case measure => simp only [intOf]; omega
      · have hs2 : (32 : Int) < (S.size : Int) := by omega
        have HF : Hid (T = false) := hide (by rw [HK.out, HS.out, decide_eq_false hs]; rfl)
        clear HK HS
        go_wp2_with fail
        go_ret
        exact ⟨by rw [HF.out]; rfl, _, rfl⟩
    · have hki : ¬ (k : Int) < (l.length : Int) := by omega
      have HF : Hid (T = true) := hide (by rw [HK.out, List.drop_eq_nil_of_le (by omega)]; rfl)
      clear HK
      go_wp2_with fail
      go_ret
      exact ⟨by rw [HF.out]; rfl, _, rfl⟩
set_option maxHeartbeats 800000 in
theorem rzero_any (c : Ch) (p : Option Addr) (cap : Nat) (w : World) : Calls Try.prog 38 #[.agg (chC c (.slice p c.tx.length cap))] w fun e w' => e = .returned (.bool (decide (c = Rc.zC c.k))) ∧ w' = w.alloc (.cells (chC c (.slice p c.tx.length cap)) 32) := by
  have hb := blank_iff c
  obtain ⟨k, n, jo, ba, sl, li, rc, rb, pr, tx⟩ := c
  simp only [chC] at hb ⊢
  by_cases h_n : n = 0
  case neg =>
    rw [decide_eq_false (fun h => h_n (by have := hb.mp h; omega))]
    have b0 : (n == 0) = false := beq_eq_false_iff_ne.2 h_n
    clear hb h_n
    go_enter Try.func38, Try.ntmps38
    go_wp2
    go_ret
    exact ⟨rfl, rfl⟩
  subst h_n
  by_cases h_jo : jo = 0
  case neg =>
    rw [decide_eq_false (fun h => h_jo (by have := hb.mp h; omega))]
    have b0 : (jo == 0) = false := beq_eq_false_iff_ne.2 h_jo
    clear hb h_jo
    go_enter Try.func38, Try.ntmps38
    go_wp2
    go_ret
    exact ⟨rfl, rfl⟩
  subst h_jo
  by_cases h_ba : ba = 0
  case neg =>
    rw [decide_eq_false (fun h => h_ba (by have := hb.mp h; omega))]
    have b0 : (ba == 0) = false := beq_eq_false_iff_ne.2 h_ba
    clear hb h_ba
    go_enter Try.func38, Try.ntmps38
    go_wp2
    go_ret
    exact ⟨rfl, rfl⟩
  subst h_ba
  by_cases h_sl : sl = 0
  case neg =>
    rw [decide_eq_false (fun h => h_sl (by have := hb.mp h; omega))]
    have b0 : (sl == 0) = false := beq_eq_false_iff_ne.2 h_sl
    clear hb h_sl
    go_enter Try.func38, Try.ntmps38
    go_wp2
    go_ret
    exact ⟨rfl, rfl⟩
  subst h_sl
  by_cases h_li : li = 0
  case neg =>
    rw [decide_eq_false (fun h => h_li (by have := hb.mp h; omega))]
    have b0 : (li == 0) = false := beq_eq_false_iff_ne.2 h_li
    clear hb h_li
    go_enter Try.func38, Try.ntmps38
    go_wp2
    go_ret
    exact ⟨rfl, rfl⟩
  subst h_li
  have hE : ∀ (w : World), (binOp .eql 29 (.agg #[.int .i64 rc, .int .u64 (rb : Int)]) (.agg #[.int .i64 0, .int .u64 0])).run Try.prog w = .ok (.bool (decide (rc = 0 ∧ rb = 0))) w := fun w => eql_res rc 0 rb 0 w
  by_cases h_r : rc = 0 ∧ rb = 0
  case neg =>
    rw [decide_eq_false (fun h => h_r (by have := hb.mp h; omega))]
    rw [decide_eq_false h_r] at hE
    clear hb h_r
    go_enter Try.func38, Try.ntmps38
    go_wp2
    go_ret
    exact ⟨rfl, rfl⟩
  rw [decide_eq_true h_r] at hE
  by_cases h_p : pr = ⟨#[]⟩
  case neg =>
    rw [decide_eq_false (fun h => h_p (by have := hb.mp h; exact this.2.2.2.2.2.2.2.1))]
    have b0 : (pr.toList == []) = false := beq_eq_false_iff_ne.2 (fun h => h_p (toList_inj (h.trans (by rw [ByteArray.toList_eq]))))
    have b1 : ¬ pr.toList = [] := fun h => h_p (toList_inj (h.trans (by rw [ByteArray.toList_eq])))
    clear hb h_r h_p
    go_enter Try.func38, Try.ntmps38
    go_wp2
    go_ret
    exact ⟨rfl, rfl⟩
  subst h_p
  by_cases h_t : tx.length = 0
  case neg =>
    rw [decide_eq_false (fun h => h_t (by have := hb.mp h; exact this.2.2.2.2.2.2.2.2))]
    have b0 : ((tx.length : Int) == 0) = false := beq_eq_false_iff_ne.2 (by omega)
    clear hb h_r
    generalize tx.length = m at *
    clear h_t
    go_enter Try.func38, Try.ntmps38
    go_wp2
    go_ret
    exact ⟨rfl, rfl⟩
  rw [decide_eq_true (hb.mpr ⟨rfl, rfl, rfl, rfl, rfl, h_r.1, h_r.2, rfl, h_t⟩), h_t]
  clear hb h_r
  go_enter Try.func38, Try.ntmps38
  go_wp2
  go_ret
  exact ⟨rfl, rfl⟩

theorem may_iff (l : L) (v : V) : Rc.may l v = true ↔ ((Rc.least l : Int) ≤ Rc.sz l v ∧ Rc.sz l v ≤ (Rc.most l : Int)) ∧ (l ≠ .R ∨ v.i = 0 ∨ v.n = 0) ∧ (l ≠ .T ∨ ∀ t ∈ v.l, t.size ≤ 32) := by
  unfold Rc.may
  rw [Bool.and_eq_true, Bool.and_eq_true, Bool.or_eq_true, Bool.or_eq_true, decide_eq_true_iff, decide_eq_true_iff, decide_eq_true_iff, decide_eq_true_iff, List.all_eq_true, and_assoc]
  simp only [decide_eq_true_iff]
theorem tOk_iff (l : List ByteArray) : tOk l = true ↔ (1 ≤ l.length ∧ l.length ≤ 8) ∧ ∀ t ∈ l, t.size ≤ 32 := by
  unfold tOk
  rw [Bool.and_eq_true, decide_eq_true_iff, List.all_eq_true]
  simp only [decide_eq_true_iff]
theorem if_iff {p q : Prop} [Decidable p] [Decidable q] (h : p ↔ q) {a b : Nat} : (if p then a else b) = if q then a else b := by
  by_cases hp : p
  · rw [if_pos hp, if_pos (h.mp hp)]
  · rw [if_neg hp, if_neg fun k => hp (h.mpr k)]
set_option linter.unusedSimpArgs false in
theorem chk1 (n jo ba sl li rc : Int) (rb : Nat) (pr : ByteArray) (tx : List ByteArray) : Rc.check ⟨1, n, jo, ba, sl, li, rc, rb, pr, tx⟩ = if (1 ≤ n ∧ n ≤ 1099511627776) ∧ (⟨1, 0, jo, ba, sl, li, rc, rb, pr, tx⟩ : Ch) = Rc.zC 1 then 0 else 81 := by
  unfold Rc.check
  rw [if_neg (by simp)]
  refine if_iff ?_
  simp only [Rc.letters, Rc.look, Bool.or_eq_false_iff, Bool.not_eq_false', may_iff, tOk_iff, Bool.false_or, if_true, if_false, reduceIte, Int.reduceEq]
  simp [Rc.letters, Rc.look, Rc.get, Rc.set, Rc.sz, Rc.least, Rc.most, Rc.zV]
set_option linter.unusedSimpArgs false in
theorem chk2 (n jo ba sl li rc : Int) (rb : Nat) (pr : ByteArray) (tx : List ByteArray) : Rc.check ⟨2, n, jo, ba, sl, li, rc, rb, pr, tx⟩ = if ((1 ≤ jo ∧ jo ≤ 8) ∧ (1 ≤ (pr.size : Int) ∧ (pr.size : Int) ≤ 1024)) ∧ (⟨2, n, 0, ba, sl, li, rc, rb, ⟨#[]⟩, tx⟩ : Ch) = Rc.zC 2 then 0 else 81 := by
  unfold Rc.check
  rw [if_neg (by simp)]
  refine if_iff ?_
  simp only [Rc.letters, Rc.look, Bool.or_eq_false_iff, Bool.not_eq_false', may_iff, tOk_iff, Bool.false_or, if_true, if_false, reduceIte, Int.reduceEq]
  simp [Rc.letters, Rc.look, Rc.get, Rc.set, Rc.sz, Rc.least, Rc.most, Rc.zV, Rc.e0, and_assoc]
set_option linter.unusedSimpArgs false in
theorem chk3 (n jo ba sl li rc : Int) (rb : Nat) (pr : ByteArray) (tx : List ByteArray) : Rc.check ⟨3, n, jo, ba, sl, li, rc, rb, pr, tx⟩ = if ((1 ≤ jo ∧ jo ≤ 8) ∧ (1 ≤ ba ∧ ba ≤ 1099511627776) ∧ (0 ≤ sl ∧ sl ≤ 7) ∧ (1 ≤ li ∧ li ≤ 1099511627776)) ∧ (⟨3, n, 0, 0, 0, 0, rc, rb, pr, tx⟩ : Ch) = Rc.zC 3 then 0 else 81 := by
  unfold Rc.check
  rw [if_neg (by simp)]
  refine if_iff ?_
  simp only [Rc.letters, Rc.look, Bool.or_eq_false_iff, Bool.not_eq_false', may_iff, tOk_iff, Bool.false_or, if_true, if_false, reduceIte, Int.reduceEq]
  simp [Rc.letters, Rc.look, Rc.get, Rc.set, Rc.sz, Rc.least, Rc.most, Rc.zV, and_assoc]
set_option linter.unusedSimpArgs false in
theorem chk4 (n jo ba sl li rc : Int) (rb : Nat) (pr : ByteArray) (tx : List ByteArray) : Rc.check ⟨4, n, jo, ba, sl, li, rc, rb, pr, tx⟩ = if ((1 ≤ ba ∧ ba ≤ 1099511627776) ∧ tOk tx = true) ∧ (⟨4, n, jo, 0, sl, li, rc, rb, pr, []⟩ : Ch) = Rc.zC 4 then 0 else 81 := by
  have h1 : (1 ≤ (tx.length : Int)) ↔ 1 ≤ tx.length := by omega
  have h2 : ((tx.length : Int) ≤ 8) ↔ tx.length ≤ 8 := by omega
  unfold Rc.check
  rw [if_neg (by simp)]
  refine if_iff ?_
  simp only [Rc.letters, Rc.look, Bool.or_eq_false_iff, Bool.not_eq_false', may_iff, tOk_iff, Bool.false_or, if_true, if_false, reduceIte, Int.reduceEq]
  simp [Rc.letters, Rc.look, Rc.get, Rc.set, Rc.sz, Rc.least, Rc.most, Rc.zV, and_assoc, h1, h2]
set_option linter.unusedSimpArgs false in
theorem chk5 (n jo ba sl li rc : Int) (rb : Nat) (pr : ByteArray) (tx : List ByteArray) : Rc.check ⟨5, n, jo, ba, sl, li, rc, rb, pr, tx⟩ = if (1 ≤ ba ∧ ba ≤ 1099511627776) ∧ (⟨5, n, jo, 0, sl, li, rc, rb, pr, tx⟩ : Ch) = Rc.zC 5 then 0 else 81 := by
  unfold Rc.check
  rw [if_neg (by simp)]
  refine if_iff ?_
  simp only [Rc.letters, Rc.look, Bool.or_eq_false_iff, Bool.not_eq_false', may_iff, tOk_iff, Bool.false_or, if_true, if_false, reduceIte, Int.reduceEq]
  simp [Rc.letters, Rc.look, Rc.get, Rc.set, Rc.sz, Rc.least, Rc.most, Rc.zV]
set_option linter.unusedSimpArgs false in
theorem chk6 (n jo ba sl li rc : Int) (rb : Nat) (pr : ByteArray) (tx : List ByteArray) : Rc.check ⟨6, n, jo, ba, sl, li, rc, rb, pr, tx⟩ = if ((1 ≤ ba ∧ ba ≤ 1099511627776) ∧ (0 ≤ rc ∧ rc ≤ 7) ∧ (rc = 0 ∨ rb = 0)) ∧ (⟨6, n, jo, 0, sl, li, 0, 0, pr, tx⟩ : Ch) = Rc.zC 6 then 0 else 81 := by
  unfold Rc.check
  rw [if_neg (by simp)]
  refine if_iff ?_
  simp only [Rc.letters, Rc.look, Bool.or_eq_false_iff, Bool.not_eq_false', may_iff, tOk_iff, Bool.false_or, if_true, if_false, reduceIte, Int.reduceEq]
  simp [Rc.letters, Rc.look, Rc.get, Rc.set, Rc.sz, Rc.least, Rc.most, Rc.zV, and_assoc]

end Go.Proofs.Ytlgcimfbhjidgaa
end

section
namespace Go.Proofs.Ytlgcimfbhjidgaa
open Go.RowKit
open Rc (L V Ch)

set_option maxHeartbeats 1600000 in
theorem rcheck_1 (n jo ba sl li rc : Int) (rb : Nat) (pr : ByteArray) (tx : List ByteArray) (p : Option Addr) (cap : Nat) (w : World) (_HT : Hid (∀ W : World, Below w.heap.size w W → Tx W (.slice p tx.length cap) tx)) : Calls Try.prog 26 #[.agg (chC ⟨1, n, jo, ba, sl, li, rc, rb, pr, tx⟩ (.slice p tx.length cap))] w fun e w' => e = .returned (.int .i64 (Rc.check ⟨1, n, jo, ba, sl, li, rc, rb, pr, tx⟩ : Int)) ∧ Below w.heap.size w w' := by
  have HC := hide (chk1 n jo ba sl li rc rb pr tx)
  generalize Rc.check ⟨1, n, jo, ba, sl, li, rc, rb, pr, tx⟩ = C at *
  simp only [chC]
  by_cases h0 : 1 ≤ n ∧ n ≤ 1099511627776
  case neg =>
    have HF : Hid (C = 81) := hide (by rw [HC.out]; exact if_neg fun h => h0 h.1)
    clear HC
    go_enter Try.func26, Try.ntmps26
    go_wp2_with fail
    refine (wit_f h0 _).mono ?_
    rintro e w' ⟨rfl, rfl⟩
    go_wp2_with fail
    go_ret
    exact ⟨by rw [HF.out]; rfl, by (repeat first | exact Below.refl _ _ | exact below_alloc _ _ | refine Below.alloc ?_ (by first | (simp; done) | (simp; omega)) _ | refine Below.setCell ?_ (by first | (simp; done) | (simp; omega)) _ | (refine below_drewN ?_ _))⟩
  have HF : Hid (C = if (⟨1, 0, jo, ba, sl, li, rc, rb, pr, tx⟩ : Ch) = Rc.zC 1 then 0 else 81) := hide (by rw [HC.out]; exact if_iff (and_iff_right h0))
  clear HC
  go_enter Try.func26, Try.ntmps26
  go_wp2_with fail
  refine (wit_t h0 _).mono ?_
  rintro e w' ⟨rfl, rfl⟩
  go_wp2_with fail
  refine (rzero_any ⟨1, 0, jo, ba, sl, li, rc, rb, pr, tx⟩ p cap _).mono ?_
  rintro e w' ⟨rfl, rfl⟩
  have HF2 := HF.out
  clear HF
  by_cases hz : (⟨1, 0, jo, ba, sl, li, rc, rb, pr, tx⟩ : Ch) = Rc.zC 1
  · have HF : Hid (C = 0) := hide (by rw [HF2]; exact if_pos hz)
    rw [decide_eq_true hz]
    clear hz HF2
    go_wp2_with fail
    go_ret
    exact ⟨by rw [HF.out]; rfl, by (repeat first | exact Below.refl _ _ | exact below_alloc _ _ | refine Below.alloc ?_ (by first | (simp; done) | (simp; omega)) _ | refine Below.setCell ?_ (by first | (simp; done) | (simp; omega)) _ | (refine below_drewN ?_ _))⟩
  · have HF : Hid (C = 81) := hide (by rw [HF2]; exact if_neg hz)
    rw [decide_eq_false hz]
    clear hz HF2
    go_wp2_with fail
    go_ret
    exact ⟨by rw [HF.out]; rfl, by (repeat first | exact Below.refl _ _ | exact below_alloc _ _ | refine Below.alloc ?_ (by first | (simp; done) | (simp; omega)) _ | refine Below.setCell ?_ (by first | (simp; done) | (simp; omega)) _ | (refine below_drewN ?_ _))⟩
set_option maxHeartbeats 1600000 in
theorem rcheck_2 (n jo ba sl li rc : Int) (rb : Nat) (pr : ByteArray) (tx : List ByteArray) (p : Option Addr) (cap : Nat) (w : World) (_HT : Hid (∀ W : World, Below w.heap.size w W → Tx W (.slice p tx.length cap) tx)) : Calls Try.prog 26 #[.agg (chC ⟨2, n, jo, ba, sl, li, rc, rb, pr, tx⟩ (.slice p tx.length cap))] w fun e w' => e = .returned (.int .i64 (Rc.check ⟨2, n, jo, ba, sl, li, rc, rb, pr, tx⟩ : Int)) ∧ Below w.heap.size w w' := by
  have HC := hide (chk2 n jo ba sl li rc rb pr tx)
  generalize Rc.check ⟨2, n, jo, ba, sl, li, rc, rb, pr, tx⟩ = C at *
  simp only [chC]
  by_cases h0 : 1 ≤ jo ∧ jo ≤ 8
  case neg =>
    have HF : Hid (C = 81) := hide (by rw [HC.out]; exact if_neg fun h => h0 h.1.1)
    clear HC
    go_enter Try.func26, Try.ntmps26
    go_wp2_with fail
    refine (wit_f h0 _).mono ?_
    rintro e w' ⟨rfl, rfl⟩
    go_wp2_with fail
    go_ret
    exact ⟨by rw [HF.out]; rfl, by (repeat first | exact Below.refl _ _ | exact below_alloc _ _ | refine Below.alloc ?_ (by first | (simp; done) | (simp; omega)) _ | refine Below.setCell ?_ (by first | (simp; done) | (simp; omega)) _ | (refine below_drewN ?_ _))⟩
  by_cases h1 : 1 ≤ (pr.size : Int) ∧ (pr.size : Int) ≤ 1024
  case neg =>
    have HF : Hid (C = 81) := hide (by rw [HC.out]; exact if_neg fun h => h1 h.1.2)
    clear HC
    go_enter Try.func26, Try.ntmps26
    go_wp2_with fail
    refine (wit_t h0 _).mono ?_
    rintro e w' ⟨rfl, rfl⟩
    go_wp2_with fail
    refine (wit_f h1 _).mono ?_
    rintro e w' ⟨rfl, rfl⟩
    go_wp2_with fail
    go_ret
    exact ⟨by rw [HF.out]; rfl, by (repeat first | exact Below.refl _ _ | exact below_alloc _ _ | refine Below.alloc ?_ (by first | (simp; done) | (simp; omega)) _ | refine Below.setCell ?_ (by first | (simp; done) | (simp; omega)) _ | (refine below_drewN ?_ _))⟩
  have HF : Hid (C = if (⟨2, n, 0, ba, sl, li, rc, rb, ⟨#[]⟩, tx⟩ : Ch) = Rc.zC 2 then 0 else 81) := hide (by rw [HC.out]; exact if_iff (and_iff_right ⟨h0, h1⟩))
  clear HC
  go_enter Try.func26, Try.ntmps26
  go_wp2_with fail
  refine (wit_t h0 _).mono ?_
  rintro e w' ⟨rfl, rfl⟩
  go_wp2_with fail
  refine (wit_t h1 _).mono ?_
  rintro e w' ⟨rfl, rfl⟩
  go_wp2_with fail
  refine (rzero_any ⟨2, n, 0, ba, sl, li, rc, rb, ⟨#[]⟩, tx⟩ p cap _).mono ?_
  rintro e w' ⟨rfl, rfl⟩
  have HF2 := HF.out
  clear HF
  by_cases hz : (⟨2, n, 0, ba, sl, li, rc, rb, ⟨#[]⟩, tx⟩ : Ch) = Rc.zC 2
  · have HF : Hid (C = 0) := hide (by rw [HF2]; exact if_pos hz)
    rw [decide_eq_true hz]
    clear hz HF2
    go_wp2_with fail
    go_ret
    exact ⟨by rw [HF.out]; rfl, by (repeat first | exact Below.refl _ _ | exact below_alloc _ _ | refine Below.alloc ?_ (by first | (simp; done) | (simp; omega)) _ | refine Below.setCell ?_ (by first | (simp; done) | (simp; omega)) _ | (refine below_drewN ?_ _))⟩
  · have HF : Hid (C = 81) := hide (by rw [HF2]; exact if_neg hz)
    rw [decide_eq_false hz]
    clear hz HF2
    go_wp2_with fail
    go_ret
    exact ⟨by rw [HF.out]; rfl, by (repeat first | exact Below.refl _ _ | exact below_alloc _ _ | refine Below.alloc ?_ (by first | (simp; done) | (simp; omega)) _ | refine Below.setCell ?_ (by first | (simp; done) | (simp; omega)) _ | (refine below_drewN ?_ _))⟩
set_option maxHeartbeats 1600000 in
theorem rcheck_3 (n jo ba sl li rc : Int) (rb : Nat) (pr : ByteArray) (tx : List ByteArray) (p : Option Addr) (cap : Nat) (w : World) (_HT : Hid (∀ W : World, Below w.heap.size w W → Tx W (.slice p tx.length cap) tx)) : Calls Try.prog 26 #[.agg (chC ⟨3, n, jo, ba, sl, li, rc, rb, pr, tx⟩ (.slice p tx.length cap))] w fun e w' => e = .returned (.int .i64 (Rc.check ⟨3, n, jo, ba, sl, li, rc, rb, pr, tx⟩ : Int)) ∧ Below w.heap.size w w' := by
  have HC := hide (chk3 n jo ba sl li rc rb pr tx)
  generalize Rc.check ⟨3, n, jo, ba, sl, li, rc, rb, pr, tx⟩ = C at *
  simp only [chC]
  by_cases h0 : 1 ≤ jo ∧ jo ≤ 8
  case neg =>
    have HF : Hid (C = 81) := hide (by rw [HC.out]; exact if_neg fun h => h0 h.1.1)
    clear HC
    go_enter Try.func26, Try.ntmps26
    go_wp2_with fail
    refine (wit_f h0 _).mono ?_
    rintro e w' ⟨rfl, rfl⟩
    go_wp2_with fail
    go_ret
    exact ⟨by rw [HF.out]; rfl, by (repeat first | exact Below.refl _ _ | exact below_alloc _ _ | refine Below.alloc ?_ (by first | (simp; done) | (simp; omega)) _ | refine Below.setCell ?_ (by first | (simp; done) | (simp; omega)) _ | (refine below_drewN ?_ _))⟩
  by_cases h1 : 1 ≤ ba ∧ ba ≤ 1099511627776
  case neg =>
    have HF : Hid (C = 81) := hide (by rw [HC.out]; exact if_neg fun h => h1 h.1.2.1)
    clear HC
    go_enter Try.func26, Try.ntmps26
    go_wp2_with fail
    refine (wit_t h0 _).mono ?_
    rintro e w' ⟨rfl, rfl⟩
    go_wp2_with fail
    refine (wit_f h1 _).mono ?_
    rintro e w' ⟨rfl, rfl⟩
    go_wp2_with fail
    go_ret
    exact ⟨by rw [HF.out]; rfl, by (repeat first | exact Below.refl _ _ | exact below_alloc _ _ | refine Below.alloc ?_ (by first | (simp; done) | (simp; omega)) _ | refine Below.setCell ?_ (by first | (simp; done) | (simp; omega)) _ | (refine below_drewN ?_ _))⟩
  by_cases h2 : 0 ≤ sl ∧ sl ≤ 7
  case neg =>
    have HF : Hid (C = 81) := hide (by rw [HC.out]; exact if_neg fun h => h2 h.1.2.2.1)
    clear HC
    go_enter Try.func26, Try.ntmps26
    go_wp2_with fail
    refine (wit_t h0 _).mono ?_
    rintro e w' ⟨rfl, rfl⟩
    go_wp2_with fail
    refine (wit_t h1 _).mono ?_
    rintro e w' ⟨rfl, rfl⟩
    go_wp2_with fail
    refine (wit_f h2 _).mono ?_
    rintro e w' ⟨rfl, rfl⟩
    go_wp2_with fail
    go_ret
    exact ⟨by rw [HF.out]; rfl, by (repeat first | exact Below.refl _ _ | exact below_alloc _ _ | refine Below.alloc ?_ (by first | (simp; done) | (simp; omega)) _ | refine Below.setCell ?_ (by first | (simp; done) | (simp; omega)) _ | (refine below_drewN ?_ _))⟩
  by_cases h3 : 1 ≤ li ∧ li ≤ 1099511627776
  case neg =>
    have HF : Hid (C = 81) := hide (by rw [HC.out]; exact if_neg fun h => h3 h.1.2.2.2)
    clear HC
    go_enter Try.func26, Try.ntmps26
    go_wp2_with fail
    refine (wit_t h0 _).mono ?_
    rintro e w' ⟨rfl, rfl⟩
    go_wp2_with fail
    refine (wit_t h1 _).mono ?_
    rintro e w' ⟨rfl, rfl⟩
    go_wp2_with fail
    refine (wit_t h2 _).mono ?_
    rintro e w' ⟨rfl, rfl⟩
    go_wp2_with fail
    refine (wit_f h3 _).mono ?_
    rintro e w' ⟨rfl, rfl⟩
    go_wp2_with fail
    go_ret
    exact ⟨by rw [HF.out]; rfl, by (repeat first | exact Below.refl _ _ | exact below_alloc _ _ | refine Below.alloc ?_ (by first | (simp; done) | (simp; omega)) _ | refine Below.setCell ?_ (by first | (simp; done) | (simp; omega)) _ | (refine below_drewN ?_ _))⟩
  have HF : Hid (C = if (⟨3, n, 0, 0, 0, 0, rc, rb, pr, tx⟩ : Ch) = Rc.zC 3 then 0 else 81) := hide (by rw [HC.out]; exact if_iff (and_iff_right ⟨h0, h1, h2, h3⟩))
  clear HC
  go_enter Try.func26, Try.ntmps26
  go_wp2_with fail
  refine (wit_t h0 _).mono ?_
  rintro e w' ⟨rfl, rfl⟩
  go_wp2_with fail
  refine (wit_t h1 _).mono ?_
  rintro e w' ⟨rfl, rfl⟩
  go_wp2_with fail
  refine (wit_t h2 _).mono ?_
  rintro e w' ⟨rfl, rfl⟩
  go_wp2_with fail
  refine (wit_t h3 _).mono ?_
  rintro e w' ⟨rfl, rfl⟩
  go_wp2_with fail
  refine (rzero_any ⟨3, n, 0, 0, 0, 0, rc, rb, pr, tx⟩ p cap _).mono ?_
  rintro e w' ⟨rfl, rfl⟩
  have HF2 := HF.out
  clear HF
  by_cases hz : (⟨3, n, 0, 0, 0, 0, rc, rb, pr, tx⟩ : Ch) = Rc.zC 3
  · have HF : Hid (C = 0) := hide (by rw [HF2]; exact if_pos hz)
    rw [decide_eq_true hz]
    clear hz HF2
    go_wp2_with fail
    go_ret
    exact ⟨by rw [HF.out]; rfl, by (repeat first | exact Below.refl _ _ | exact below_alloc _ _ | refine Below.alloc ?_ (by first | (simp; done) | (simp; omega)) _ | refine Below.setCell ?_ (by first | (simp; done) | (simp; omega)) _ | (refine below_drewN ?_ _))⟩
  · have HF : Hid (C = 81) := hide (by rw [HF2]; exact if_neg hz)
    rw [decide_eq_false hz]
    clear hz HF2
    go_wp2_with fail
    go_ret
    exact ⟨by rw [HF.out]; rfl, by (repeat first | exact Below.refl _ _ | exact below_alloc _ _ | refine Below.alloc ?_ (by first | (simp; done) | (simp; omega)) _ | refine Below.setCell ?_ (by first | (simp; done) | (simp; omega)) _ | (refine below_drewN ?_ _))⟩
set_option maxHeartbeats 1600000 in
theorem rcheck_4 (n jo ba sl li rc : Int) (rb : Nat) (pr : ByteArray) (tx : List ByteArray) (p : Option Addr) (cap : Nat) (w : World) (_HT : Hid (∀ W : World, Below w.heap.size w W → Tx W (.slice p tx.length cap) tx)) : Calls Try.prog 26 #[.agg (chC ⟨4, n, jo, ba, sl, li, rc, rb, pr, tx⟩ (.slice p tx.length cap))] w fun e w' => e = .returned (.int .i64 (Rc.check ⟨4, n, jo, ba, sl, li, rc, rb, pr, tx⟩ : Int)) ∧ Below w.heap.size w w' := by
  have HC := hide (chk4 n jo ba sl li rc rb pr tx)
  generalize Rc.check ⟨4, n, jo, ba, sl, li, rc, rb, pr, tx⟩ = C at *
  simp only [chC]
  by_cases h0 : 1 ≤ ba ∧ ba ≤ 1099511627776
  case neg =>
    have HF : Hid (C = 81) := hide (by rw [HC.out]; exact if_neg fun h => h0 h.1.1)
    clear HC
    go_enter Try.func26, Try.ntmps26
    go_wp2_with fail
    refine (wit_f h0 _).mono ?_
    rintro e w' ⟨rfl, rfl⟩
    go_wp2_with fail
    go_ret
    exact ⟨by rw [HF.out]; rfl, by (repeat first | exact Below.refl _ _ | exact below_alloc _ _ | refine Below.alloc ?_ (by first | (simp; done) | (simp; omega)) _ | refine Below.setCell ?_ (by first | (simp; done) | (simp; omega)) _ | (refine below_drewN ?_ _))⟩
  by_cases h1 : tOk tx = true
  case neg =>
    have HF : Hid (C = 81) := hide (by rw [HC.out]; exact if_neg fun h => h1 h.1.2)
    clear HC
    rw [Bool.not_eq_true] at h1
    go_enter Try.func26, Try.ntmps26
    go_wp2_with fail
    refine (wit_t h0 _).mono ?_
    rintro e w' ⟨rfl, rfl⟩
    go_wp2_with fail
    refine (qtexts_any (_HT.out _ (by (repeat first | exact Below.refl _ _ | exact below_alloc _ _ | refine Below.alloc ?_ (by first | (simp; done) | (simp; omega)) _ | refine Below.setCell ?_ (by first | (simp; done) | (simp; omega)) _ | (refine below_drewN ?_ _))))).mono ?_
    rintro e w' ⟨rfl, nd, rfl⟩
    rw [h1]
    go_wp2_with fail
    go_ret
    exact ⟨by rw [HF.out]; rfl, by (repeat first | exact Below.refl _ _ | exact below_alloc _ _ | refine Below.alloc ?_ (by first | (simp; done) | (simp; omega)) _ | refine Below.setCell ?_ (by first | (simp; done) | (simp; omega)) _ | (refine below_drewN ?_ _))⟩
  have HF : Hid (C = if (⟨4, n, jo, 0, sl, li, rc, rb, pr, []⟩ : Ch) = Rc.zC 4 then 0 else 81) := hide (by rw [HC.out]; exact if_iff (and_iff_right ⟨h0, h1⟩))
  clear HC
  go_enter Try.func26, Try.ntmps26
  go_wp2_with fail
  refine (wit_t h0 _).mono ?_
  rintro e w' ⟨rfl, rfl⟩
  go_wp2_with fail
  refine (qtexts_any (_HT.out _ (by (repeat first | exact Below.refl _ _ | exact below_alloc _ _ | refine Below.alloc ?_ (by first | (simp; done) | (simp; omega)) _ | refine Below.setCell ?_ (by first | (simp; done) | (simp; omega)) _ | (refine below_drewN ?_ _))))).mono ?_
  rintro e w' ⟨rfl, nd, rfl⟩
  rw [h1]
  go_wp2_with fail
  refine (rzero_any ⟨4, n, jo, 0, sl, li, rc, rb, pr, []⟩ none 0 _).mono ?_
  rintro e w' ⟨rfl, rfl⟩
  have HF2 := HF.out
  clear HF
  by_cases hz : (⟨4, n, jo, 0, sl, li, rc, rb, pr, []⟩ : Ch) = Rc.zC 4
  · have HF : Hid (C = 0) := hide (by rw [HF2]; exact if_pos hz)
    rw [decide_eq_true hz]
    clear hz HF2
    go_wp2_with fail
    go_ret
    exact ⟨by rw [HF.out]; rfl, by (repeat first | exact Below.refl _ _ | exact below_alloc _ _ | refine Below.alloc ?_ (by first | (simp; done) | (simp; omega)) _ | refine Below.setCell ?_ (by first | (simp; done) | (simp; omega)) _ | (refine below_drewN ?_ _))⟩
  · have HF : Hid (C = 81) := hide (by rw [HF2]; exact if_neg hz)
    rw [decide_eq_false hz]
    clear hz HF2
    go_wp2_with fail
    go_ret
    exact ⟨by rw [HF.out]; rfl, by (repeat first | exact Below.refl _ _ | exact below_alloc _ _ | refine Below.alloc ?_ (by first | (simp; done) | (simp; omega)) _ | refine Below.setCell ?_ (by first | (simp; done) | (simp; omega)) _ | (refine below_drewN ?_ _))⟩
set_option maxHeartbeats 1600000 in
theorem rcheck_5 (n jo ba sl li rc : Int) (rb : Nat) (pr : ByteArray) (tx : List ByteArray) (p : Option Addr) (cap : Nat) (w : World) (_HT : Hid (∀ W : World, Below w.heap.size w W → Tx W (.slice p tx.length cap) tx)) : Calls Try.prog 26 #[.agg (chC ⟨5, n, jo, ba, sl, li, rc, rb, pr, tx⟩ (.slice p tx.length cap))] w fun e w' => e = .returned (.int .i64 (Rc.check ⟨5, n, jo, ba, sl, li, rc, rb, pr, tx⟩ : Int)) ∧ Below w.heap.size w w' := by
  have HC := hide (chk5 n jo ba sl li rc rb pr tx)
  generalize Rc.check ⟨5, n, jo, ba, sl, li, rc, rb, pr, tx⟩ = C at *
  simp only [chC]
  by_cases h0 : 1 ≤ ba ∧ ba ≤ 1099511627776
  case neg =>
    have HF : Hid (C = 81) := hide (by rw [HC.out]; exact if_neg fun h => h0 h.1)
    clear HC
    go_enter Try.func26, Try.ntmps26
    go_wp2_with fail
    refine (wit_f h0 _).mono ?_
    rintro e w' ⟨rfl, rfl⟩
    go_wp2_with fail
    go_ret
    exact ⟨by rw [HF.out]; rfl, by (repeat first | exact Below.refl _ _ | exact below_alloc _ _ | refine Below.alloc ?_ (by first | (simp; done) | (simp; omega)) _ | refine Below.setCell ?_ (by first | (simp; done) | (simp; omega)) _ | (refine below_drewN ?_ _))⟩
  have HF : Hid (C = if (⟨5, n, jo, 0, sl, li, rc, rb, pr, tx⟩ : Ch) = Rc.zC 5 then 0 else 81) := hide (by rw [HC.out]; exact if_iff (and_iff_right h0))
  clear HC
  go_enter Try.func26, Try.ntmps26
  go_wp2_with fail
  refine (wit_t h0 _).mono ?_
  rintro e w' ⟨rfl, rfl⟩
  go_wp2_with fail
  refine (rzero_any ⟨5, n, jo, 0, sl, li, rc, rb, pr, tx⟩ p cap _).mono ?_
  rintro e w' ⟨rfl, rfl⟩
  have HF2 := HF.out
  clear HF
  by_cases hz : (⟨5, n, jo, 0, sl, li, rc, rb, pr, tx⟩ : Ch) = Rc.zC 5
  · have HF : Hid (C = 0) := hide (by rw [HF2]; exact if_pos hz)
    rw [decide_eq_true hz]
    clear hz HF2
    go_wp2_with fail
    go_ret
    exact ⟨by rw [HF.out]; rfl, by (repeat first | exact Below.refl _ _ | exact below_alloc _ _ | refine Below.alloc ?_ (by first | (simp; done) | (simp; omega)) _ | refine Below.setCell ?_ (by first | (simp; done) | (simp; omega)) _ | (refine below_drewN ?_ _))⟩
  · have HF : Hid (C = 81) := hide (by rw [HF2]; exact if_neg hz)
    rw [decide_eq_false hz]
    clear hz HF2
    go_wp2_with fail
    go_ret
    exact ⟨by rw [HF.out]; rfl, by (repeat first | exact Below.refl _ _ | exact below_alloc _ _ | refine Below.alloc ?_ (by first | (simp; done) | (simp; omega)) _ | refine Below.setCell ?_ (by first | (simp; done) | (simp; omega)) _ | (refine below_drewN ?_ _))⟩
set_option maxHeartbeats 1600000 in
theorem rcheck_6 (n jo ba sl li rc : Int) (rb : Nat) (pr : ByteArray) (tx : List ByteArray) (p : Option Addr) (cap : Nat) (w : World) (_HT : Hid (∀ W : World, Below w.heap.size w W → Tx W (.slice p tx.length cap) tx)) : Calls Try.prog 26 #[.agg (chC ⟨6, n, jo, ba, sl, li, rc, rb, pr, tx⟩ (.slice p tx.length cap))] w fun e w' => e = .returned (.int .i64 (Rc.check ⟨6, n, jo, ba, sl, li, rc, rb, pr, tx⟩ : Int)) ∧ Below w.heap.size w w' := by
  have HC := hide (chk6 n jo ba sl li rc rb pr tx)
  generalize Rc.check ⟨6, n, jo, ba, sl, li, rc, rb, pr, tx⟩ = C at *
  simp only [chC]
  by_cases h0 : 1 ≤ ba ∧ ba ≤ 1099511627776
  case neg =>
    have HF : Hid (C = 81) := hide (by rw [HC.out]; exact if_neg fun h => h0 h.1.1)
    clear HC
    go_enter Try.func26, Try.ntmps26
    go_wp2_with fail
    refine (wit_f h0 _).mono ?_
    rintro e w' ⟨rfl, rfl⟩
    go_wp2_with fail
    go_ret
    exact ⟨by rw [HF.out]; rfl, by (repeat first | exact Below.refl _ _ | exact below_alloc _ _ | refine Below.alloc ?_ (by first | (simp; done) | (simp; omega)) _ | refine Below.setCell ?_ (by first | (simp; done) | (simp; omega)) _ | (refine below_drewN ?_ _))⟩
  by_cases h1 : 0 ≤ rc ∧ rc ≤ 7
  case neg =>
    have HF : Hid (C = 81) := hide (by rw [HC.out]; exact if_neg fun h => h1 h.1.2.1)
    clear HC
    go_enter Try.func26, Try.ntmps26
    go_wp2_with fail
    refine (wit_t h0 _).mono ?_
    rintro e w' ⟨rfl, rfl⟩
    go_wp2_with fail
    refine (wit_f h1 _).mono ?_
    rintro e w' ⟨rfl, rfl⟩
    go_wp2_with fail
    go_ret
    exact ⟨by rw [HF.out]; rfl, by (repeat first | exact Below.refl _ _ | exact below_alloc _ _ | refine Below.alloc ?_ (by first | (simp; done) | (simp; omega)) _ | refine Below.setCell ?_ (by first | (simp; done) | (simp; omega)) _ | (refine below_drewN ?_ _))⟩
  by_cases h2 : rc = 0 ∨ rb = 0
  case neg =>
    have HF : Hid (C = 81) := hide (by rw [HC.out]; exact if_neg fun h => h2 h.1.2.2)
    have r1 : ¬ rc = 0 := fun h => h2 (.inl h)
    have r2 : ¬ (rb : Int) = 0 := fun h => h2 (.inr (by omega))
    clear HC h2
    go_enter Try.func26, Try.ntmps26
    go_wp2_with fail
    refine (wit_t h0 _).mono ?_
    rintro e w' ⟨rfl, rfl⟩
    go_wp2_with fail
    refine (wit_t h1 _).mono ?_
    rintro e w' ⟨rfl, rfl⟩
    go_wp2_with fail
    go_ret
    exact ⟨by rw [HF.out]; rfl, by (repeat first | exact Below.refl _ _ | exact below_alloc _ _ | refine Below.alloc ?_ (by first | (simp; done) | (simp; omega)) _ | refine Below.setCell ?_ (by first | (simp; done) | (simp; omega)) _ | (refine below_drewN ?_ _))⟩
  by_cases r1 : rc = 0
  · subst r1
    have HF : Hid (C = if (⟨6, n, jo, 0, sl, li, 0, 0, pr, tx⟩ : Ch) = Rc.zC 6 then 0 else 81) := hide (by rw [HC.out]; exact if_iff (and_iff_right ⟨h0, h1, h2⟩))
    clear HC
    go_enter Try.func26, Try.ntmps26
    go_wp2_with fail
    refine (wit_t h0 _).mono ?_
    rintro e w' ⟨rfl, rfl⟩
    go_wp2_with fail
    refine (wit_t h1 _).mono ?_
    rintro e w' ⟨rfl, rfl⟩
    go_wp2_with fail
    refine (rzero_any ⟨6, n, jo, 0, sl, li, 0, 0, pr, tx⟩ p cap _).mono ?_
    rintro e w' ⟨rfl, rfl⟩
    have HF2 := HF.out
    clear HF
    by_cases hz : (⟨6, n, jo, 0, sl, li, 0, 0, pr, tx⟩ : Ch) = Rc.zC 6
    · have HF : Hid (C = 0) := hide (by rw [HF2]; exact if_pos hz)
      rw [decide_eq_true hz]
      clear hz HF2
      go_wp2_with fail
      go_ret
      exact ⟨by rw [HF.out]; rfl, by (repeat first | exact Below.refl _ _ | exact below_alloc _ _ | refine Below.alloc ?_ (by first | (simp; done) | (simp; omega)) _ | refine Below.setCell ?_ (by first | (simp; done) | (simp; omega)) _ | (refine below_drewN ?_ _))⟩
    · have HF : Hid (C = 81) := hide (by rw [HF2]; exact if_neg hz)
      rw [decide_eq_false hz]
      clear hz HF2
      go_wp2_with fail
      go_ret
      exact ⟨by rw [HF.out]; rfl, by (repeat first | exact Below.refl _ _ | exact below_alloc _ _ | refine Below.alloc ?_ (by first | (simp; done) | (simp; omega)) _ | refine Below.setCell ?_ (by first | (simp; done) | (simp; omega)) _ | (refine below_drewN ?_ _))⟩
  · have r2 : rb = 0 := h2.resolve_left r1
    subst r2
    have HF : Hid (C = if (⟨6, n, jo, 0, sl, li, 0, 0, pr, tx⟩ : Ch) = Rc.zC 6 then 0 else 81) := hide (by rw [HC.out]; exact if_iff (and_iff_right ⟨h0, h1, h2⟩))
    clear HC
    go_enter Try.func26, Try.ntmps26
    go_wp2_with fail
    refine (wit_t h0 _).mono ?_
    rintro e w' ⟨rfl, rfl⟩
    go_wp2_with fail
    refine (wit_t h1 _).mono ?_
    rintro e w' ⟨rfl, rfl⟩
    go_wp2_with fail
    refine (rzero_any ⟨6, n, jo, 0, sl, li, 0, 0, pr, tx⟩ p cap _).mono ?_
    rintro e w' ⟨rfl, rfl⟩
    have HF2 := HF.out
    clear HF
    by_cases hz : (⟨6, n, jo, 0, sl, li, 0, 0, pr, tx⟩ : Ch) = Rc.zC 6
    · have HF : Hid (C = 0) := hide (by rw [HF2]; exact if_pos hz)
      rw [decide_eq_true hz]
      clear hz HF2
      go_wp2_with fail
      go_ret
      exact ⟨by rw [HF.out]; rfl, by (repeat first | exact Below.refl _ _ | exact below_alloc _ _ | refine Below.alloc ?_ (by first | (simp; done) | (simp; omega)) _ | refine Below.setCell ?_ (by first | (simp; done) | (simp; omega)) _ | (refine below_drewN ?_ _))⟩
    · have HF : Hid (C = 81) := hide (by rw [HF2]; exact if_neg hz)
      rw [decide_eq_false hz]
      clear hz HF2
      go_wp2_with fail
      go_ret
      exact ⟨by rw [HF.out]; rfl, by (repeat first | exact Below.refl _ _ | exact below_alloc _ _ | refine Below.alloc ?_ (by first | (simp; done) | (simp; omega)) _ | refine Below.setCell ?_ (by first | (simp; done) | (simp; omega)) _ | (refine below_drewN ?_ _))⟩
theorem rcheck_any (c : Ch) (t : Value) (w : World) (hT : Tx w t c.tx) : Calls Try.prog 26 #[.agg (chC c t)] w fun e w' => e = .returned (.int .i64 (Rc.check c : Int)) ∧ Below w.heap.size w w' := by
  obtain ⟨p, cap, rfl, hp⟩ := id hT
  have HT : Hid (∀ W : World, Below w.heap.size w W → Tx W (.slice p c.tx.length cap) c.tx) := hide fun W hW => hT.below hW (Nat.le_refl _)
  clear hp hT
  obtain ⟨k, n, jo, ba, sl, li, rc, rb, pr, tx⟩ := c
  by_cases h1 : k = 1
  · subst h1; exact rcheck_1 n jo ba sl li rc rb pr tx p cap w HT
  by_cases h2 : k = 2
  · subst h2; exact rcheck_2 n jo ba sl li rc rb pr tx p cap w HT
  by_cases h3 : k = 3
  · subst h3; exact rcheck_3 n jo ba sl li rc rb pr tx p cap w HT
  by_cases h4 : k = 4
  · subst h4; exact rcheck_4 n jo ba sl li rc rb pr tx p cap w HT
  by_cases h5 : k = 5
  · subst h5; exact rcheck_5 n jo ba sl li rc rb pr tx p cap w HT
  by_cases h6 : k = 6
  · subst h6; exact rcheck_6 n jo ba sl li rc rb pr tx p cap w HT
  have HC : Hid (Rc.check ⟨k, n, jo, ba, sl, li, rc, rb, pr, tx⟩ = 80) := hide (if_pos (by show k < 1 ∨ 6 < k; omega))
  have e1 : (k == 1) = false := beq_eq_false_iff_ne.2 h1
  have e2 : (k == 2) = false := beq_eq_false_iff_ne.2 h2
  have e3 : (k == 3) = false := beq_eq_false_iff_ne.2 h3
  have e4 : (k == 4) = false := beq_eq_false_iff_ne.2 h4
  have e5 : (k == 5) = false := beq_eq_false_iff_ne.2 h5
  have e6 : (k == 6) = false := beq_eq_false_iff_ne.2 h6
  generalize Rc.check ⟨k, n, jo, ba, sl, li, rc, rb, pr, tx⟩ = C at *
  simp only [chC]
  clear HT
  go_enter Try.func26, Try.ntmps26
  go_wp2_with fail
  go_ret
  exact ⟨by rw [HC.out]; rfl, by (repeat first | exact Below.refl _ _ | exact below_alloc _ _ | refine Below.alloc ?_ (by first | (simp; done) | (simp; omega)) _ | refine Below.setCell ?_ (by first | (simp; done) | (simp; omega)) _ | (refine below_drewN ?_ _))⟩
end Go.Proofs.Ytlgcimfbhjidgaa
end
