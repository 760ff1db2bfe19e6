import Derived.Test.YtlaaggpfmcehaaaRcW
namespace Go.Proofs.Ytlaaggpfmcehaaa
open Go.RowKit
open Rc (L V Ch)

theorem ch_eq_iff (a b : Ch) : a = b ↔ a.tx = b.tx ∧ a.k = b.k ∧ a.n = b.n ∧ a.jo = b.jo ∧ a.ba = b.ba ∧ a.sl = b.sl ∧ a.li = b.li ∧ (a.rc = b.rc ∧ a.rb = b.rb) ∧ a.pr = b.pr := by
  constructor
  · rintro rfl; simp
  · rintro ⟨h1, h2, h3, h4, h5, h6, h7, ⟨h8, h9⟩, h10⟩; exact Rc.Ch.ext h2 h3 h4 h5 h6 h7 h8 h9 h10 h1
theorem list_eq_of {α : Type} [Inhabited α] {l m : List α} (h : l.length = m.length) (he : ∀ j, j < l.length → l[j]! = m[j]!) : l = m := by
  apply List.ext_getElem h
  intro i h1 h2
  have := he i h1
  rwa [getElem!_pos l i h1, getElem!_pos m i h2] at this
/-- two changes in boxes -/
structure Two (w0 : World) (X : Nat) (a b : Ch) (s t : Value) (w : World) : Prop where
  a : Ca w X a s
  b : Ca w (X + 1) b t
  bel : Below w0.heap.size w0 w
  hX : X = w0.heap.size
theorem Two.drewN {w0 : World} {X : Nat} {a b : Ch} {s t : Value} {w : World} (h : Two w0 X a b s t w) (n : Nat) : Two w0 X a b s t (w.drewN n) := ⟨h.a, h.b, h.bel.trans ((drewN_below _ n).mono h.bel.size), h.hX⟩
theorem below_drewN {w0 w : World} (h : Below w0.heap.size w0 w) (n : Nat) : Below w0.heap.size w0 (w.drewN n) := h.trans ((drewN_below _ n).mono h.size)
set_option maxHeartbeats 1600000 in
theorem sameOne_any {w : World} {a b : Ch} {s t : Value} (hs : Tx w s a.tx) (ht : Tx w t b.tx) (hl : a.tx.length ≤ 140737488351232) : Calls Try.prog 10 #[.agg (chC a s), .agg (chC b t)] w fun e w' => e = .returned (.bool (decide (a = b))) ∧ Below w.heap.size w w' := by
  have HEQ := hide (ch_eq_iff a b)
  have H2 : Hid (Two w w.heap.size a b s t ((w.alloc (.cells (chC a s) 27)).alloc (.cells (chC b t) 27))) := hide
    ⟨(Below.heap_alloc _ _ _ (by simp)).trans (heap_alloc_new w _), by unfold Ca; have := heap_alloc_new (w.alloc (.cells (chC a s) 27)) (.cells (chC b t) 27); simpa using this, (below_alloc w _).alloc (by simp) _, rfl⟩
  obtain ⟨p, cap, rfl, hp⟩ := hs
  obtain ⟨p', cap', rfl, hp'⟩ := ht
  have HP := hide hp
  have HP' := hide hp'
  generalize hDD : decide (a = b) = DD
  clear hp hp'
  by_cases hlen : a.tx.length = b.tx.length
  case neg =>
    have bl : ((a.tx.length : Int) != (b.tx.length : Int)) = true := by simp; omega
    have HF : Hid (DD = false) := hide (by rw [← hDD]; exact decide_eq_false fun h => hlen (by rw [h]))
    have HB := hide H2.out.bel
    simp only [chC] at HB ⊢
    clear H2 hDD
    go_enter Try.func10, Try.ntmps10
    go_wp2
    go_ret
    exact ⟨by rw [HF.out]; rfl, HB.out⟩
  have bl : ((a.tx.length : Int) != (b.tx.length : Int)) = false := by simp; omega
  obtain ⟨a0, a1, a2, a3, a4, a5, a6, a7, a8, a9⟩ := H2.out.a.all
  obtain ⟨b0, b1, b2, b3, b4, b5, b6, b7, b8, b9⟩ := H2.out.b.all
  have hlt := H2.out.a.lt
  have hlt' := H2.out.b.lt
  simp only [chC] at H2 a9 b9 ⊢
  clear a0 a1 a2 a3 a4 a5 a6 a7 a8 b0 b1 b2 b3 b4 b5 b6 b7 b8
  go_enter Try.func10, Try.ntmps10
  go_wp2_with fail
  go_loopw [5] (fun s wr => ∃ k : Nat, k ≤ a.tx.length ∧ s = .int .i64 (k : Int) ∧ Hid (∀ j, j < k → a.tx[j]! = b.tx[j]!) ∧ Hid (Two w w.heap.size a b (.slice p a.tx.length cap) (.slice p' b.tx.length cap') wr)) (fun s _ => a.tx.length - (intOf s).toNat)
  case atStart => exact ⟨0, Nat.zero_le _, rfl, hide (fun j h => absurd h (Nat.not_lt_zero _)), hide (by have := H2.out; rw [hlen] at this ⊢; exact this)⟩
  case round =>
    obtain ⟨k, hk, rfl, HJ, HK⟩ := hrel
    obtain ⟨a0, a1, a2, a3, a4, a5, a6, a7, a8, a9⟩ := HK.out.a.all
    obtain ⟨b0, b1, b2, b3, b4, b5, b6, b7, b8, b9⟩ := HK.out.b.all
    have HB := hide HK.out.bel
    by_cases hkl : k < a.tx.length
    · have hki : (k : Int) < (a.tx.length : Int) := by omega
      have hki' : (k : Int) < (b.tx.length : Int) := by omega
      obtain ⟨gb, go, rfl, hgl, hx⟩ := HP.out (by omega)
      obtain ⟨gb', go', rfl, hgl', hx'⟩ := HP'.out (by omega)
      have x1 : wr.cell? ⟨gb, go + k, none⟩ = some (.string a.tx[k]!) := (HK.out.bel.cell (p := ⟨gb, go + k, none⟩) hgl).trans (hx k hkl)
      have x2 : wr.cell? ⟨gb', go' + k, none⟩ = some (.string b.tx[k]!) := (HK.out.bel.cell (p := ⟨gb', go' + k, none⟩) hgl').trans (hx' k (by omega))
      have l1 : gb < wr.heap.size := Nat.lt_of_lt_of_le hgl HK.out.bel.size
      have l2 : gb' < wr.heap.size := Nat.lt_of_lt_of_le hgl' HK.out.bel.size
      clear hx hx' a0 a1 a2 a3 a4 a5 a6 a7 a8 b0 b1 b2 b3 b4 b5 b6 b7 b8 HP HP'
      by_cases he : a.tx[k]! = b.tx[k]!
      · have HJ2 : Hid (∀ j, j < k + 1 → a.tx[j]! = b.tx[j]!) := hide fun j hj => by
          rcases Nat.lt_succ_iff_lt_or_eq.mp hj with h | h
          · exact HJ.out j h
          · rw [h]; exact he
        rw [← he] at x2
        generalize a.tx[k]! = S at *
        clear he HJ
        go_wp2_with fail
        go_quiet (fail)
        go_wp2
        go_roundw
        case rel => exact ⟨k + 1, by omega, by go_num, HJ2, hide (HK.out.drewN _)⟩
        case measure => simp [intOf]; omega
      · have HF : Hid (DD = false) := hide (by rw [← hDD]; exact decide_eq_false fun h => he (by rw [h]))
        have hbn : (a.tx[k]!.toList == b.tx[k]!.toList) = false := beq_eq_false_iff_ne.2 fun h => he (toList_inj h)
        have hbn' : ¬ a.tx[k]!.toList = b.tx[k]!.toList := fun h => he (toList_inj h)
        generalize a.tx[k]! = S at *
        generalize b.tx[k]! = S' at *
        clear he HJ hDD
        go_wp2_with fail
        go_quiet (fail)
        go_wp2
        go_ret
        exact ⟨by rw [HF.out]; rfl, below_drewN HB.out _⟩
    · obtain rfl : k = a.tx.length := by omega
      have hki : ¬ (a.tx.length : Int) < (a.tx.length : Int) := by omega
      have htx : a.tx = b.tx := list_eq_of hlen HJ.out
      have HQ : Hid (DD = decide (a.k = b.k ∧ a.n = b.n ∧ a.jo = b.jo ∧ a.ba = b.ba ∧ a.sl = b.sl ∧ a.li = b.li ∧ (a.rc = b.rc ∧ a.rb = b.rb) ∧ a.pr = b.pr)) := hide (by
        rw [← hDD]; exact decide_eq_decide.mpr (HEQ.out.trans ⟨fun h => h.2, fun h => ⟨htx, h⟩⟩))
      clear HJ HK HEQ H2 HP HP' hDD htx
      obtain ⟨ka, na, ja, baa, sa, la, rca, rba, pra, txa⟩ := a
      obtain ⟨kb, nb, jb, bab, sb, lb, rcb, rbb, prb, txb⟩ := b
      simp only at *
      by_cases e_k : ka = kb
      case neg =>
        have HF : Hid (DD = false) := hide (by rw [HQ.out]; exact decide_eq_false fun h => e_k h.1)
        have hbe : (ka == kb) = false := beq_eq_false_iff_ne.2 e_k
        clear HQ e_k
        go_wp2
        go_ret
        exact ⟨by rw [HF.out]; rfl, HB.out⟩
      subst e_k
      by_cases e_n : na = nb
      case neg =>
        have HF : Hid (DD = false) := hide (by rw [HQ.out]; exact decide_eq_false fun h => e_n h.2.1)
        have hbe : (na == nb) = false := beq_eq_false_iff_ne.2 e_n
        clear HQ e_n
        go_wp2
        go_ret
        exact ⟨by rw [HF.out]; rfl, HB.out⟩
      subst e_n
      by_cases e_j : ja = jb
      case neg =>
        have HF : Hid (DD = false) := hide (by rw [HQ.out]; exact decide_eq_false fun h => e_j h.2.2.1)
        have hbe : (ja == jb) = false := beq_eq_false_iff_ne.2 e_j
        clear HQ e_j
        go_wp2
        go_ret
        exact ⟨by rw [HF.out]; rfl, HB.out⟩
      subst e_j
      by_cases e_ba : baa = bab
      case neg =>
        have HF : Hid (DD = false) := hide (by rw [HQ.out]; exact decide_eq_false fun h => e_ba h.2.2.2.1)
        have hbe : (baa == bab) = false := beq_eq_false_iff_ne.2 e_ba
        clear HQ e_ba
        go_wp2
        go_ret
        exact ⟨by rw [HF.out]; rfl, HB.out⟩
      subst e_ba
      by_cases e_s : sa = sb
      case neg =>
        have HF : Hid (DD = false) := hide (by rw [HQ.out]; exact decide_eq_false fun h => e_s h.2.2.2.2.1)
        have hbe : (sa == sb) = false := beq_eq_false_iff_ne.2 e_s
        clear HQ e_s
        go_wp2
        go_ret
        exact ⟨by rw [HF.out]; rfl, HB.out⟩
      subst e_s
      by_cases e_l : la = lb
      case neg =>
        have HF : Hid (DD = false) := hide (by rw [HQ.out]; exact decide_eq_false fun h => e_l h.2.2.2.2.2.1)
        have hbe : (la == lb) = false := beq_eq_false_iff_ne.2 e_l
        clear HQ e_l
        go_wp2
        go_ret
        exact ⟨by rw [HF.out]; rfl, HB.out⟩
      subst e_l
      have hE : ∀ (w : World), (binOp .eql 24 (.agg #[.int .i64 rca, .int .u64 (rba : Int)]) (.agg #[.int .i64 rcb, .int .u64 (rbb : Int)])).run Try.prog w = .ok (.bool (decide (rca = rcb ∧ rba = rbb))) w := fun w => eql_res rca rcb rba rbb w
      by_cases e_r : rca = rcb ∧ rba = rbb
      case neg =>
        have HF : Hid (DD = false) := hide (by rw [HQ.out]; exact decide_eq_false fun h => e_r h.2.2.2.2.2.2.1)
        rw [decide_eq_false e_r] at hE
        clear HQ e_r
        go_wp2
        go_ret
        exact ⟨by rw [HF.out]; rfl, HB.out⟩
      rw [decide_eq_true e_r] at hE
      by_cases e_p : pra = prb
      case neg =>
        have HF : Hid (DD = false) := hide (by rw [HQ.out]; exact decide_eq_false fun h => e_p h.2.2.2.2.2.2.2)
        have hbn : (pra.toList == prb.toList) = false := beq_eq_false_iff_ne.2 fun h => e_p (toList_inj h)
        have hbn' : ¬ pra.toList = prb.toList := fun h => e_p (toList_inj h)
        clear HQ e_p e_r
        go_wp2
        go_ret
        exact ⟨by rw [HF.out]; rfl, HB.out⟩
      have HF : Hid (DD = true) := hide (by rw [HQ.out]; exact decide_eq_true ⟨rfl, rfl, rfl, rfl, rfl, rfl, e_r, e_p⟩)
      subst e_p
      clear HQ e_r
      go_wp2
      go_ret
      exact ⟨by rw [HF.out]; rfl, HB.out⟩
end Go.Proofs.Ytlaaggpfmcehaaa
