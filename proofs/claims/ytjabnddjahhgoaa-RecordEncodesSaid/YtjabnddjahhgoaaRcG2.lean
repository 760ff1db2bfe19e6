import Derived.Test.YtjabnddjahhgoaaRcW
namespace Go.Proofs.Ytjabnddjahhgoaa
open Go.RowKit
open Rc (L V Ch)

theorem ch_eq_iff (a b : Ch) : a = b ↔ a.tx = b.tx ∧ a.k = b.k ∧ a.n = b.n ∧ a.jo = b.jo ∧ a.ba = b.ba ∧ a.sl = b.sl ∧ a.li = b.li ∧ (a.rc = b.rc ∧ a.rb = b.rb) ∧ a.pr = b.pr := by
  constructor
  · rintro rfl; simp
  · rintro ⟨h1, h2, h3, h4, h5, h6, h7, ⟨h8, h9⟩, h10⟩; exact Rc.Ch.ext h2 h3 h4 h5 h6 h7 h8 h9 h10 h1
theorem list_eq_of {α : Type} [Inhabited α] {l m : List α} (h : l.length = m.length) (he : ∀ j, j < l.length → l[j]! = m[j]!) : l = m := by
  apply List.ext_getElem h
  intro i h1 h2
  have := he i h1
  rwa [getElem!_pos l i h1, getElem!_pos m i h2] at this
/-- two changes in boxes -/
structure Two (w0 : World) (X : Nat) (a b : Ch) (s t : Value) (w : World) : Prop where
  a : Ca w X a s
  b : Ca w (X + 1) b t
  bel : Below w0.heap.size w0 w
  hX : X = w0.heap.size
theorem Two.drewN {w0 : World} {X : Nat} {a b : Ch} {s t : Value} {w : World} (h : Two w0 X a b s t w) (n : Nat) : Two w0 X a b s t (w.drewN n) := ⟨h.a, h.b, h.bel.trans ((drewN_below _ n).mono h.bel.size), h.hX⟩
theorem below_drewN {w0 w : World} (h : Below w0.heap.size w0 w) (n : Nat) : Below w0.heap.size w0 (w.drewN n) := h.trans ((drewN_below _ n).mono h.size)
set_option maxHeartbeats 1600000 in
theorem sameOne_any {w : World} {a b : Ch} {s t : Value} (hs : Tx w s a.tx) (ht : Tx w t b.tx) (hl : a.tx.length ≤ 140737488351232) : Calls Try.prog 17 #[.agg (chC a s), .agg (chC b t)] w fun e w' => e = .returned (.bool (decide (a = b))) ∧ Below w.heap.size w w' := by
  have HEQ := hide (ch_eq_iff a b)
  have H2 : Hid (Two w w.heap.size a b s t ((w.alloc (.cells (chC a s) 29)).alloc (.cells (chC b t) 29))) := hide
    ⟨(Below.heap_alloc _ _ _ (by simp)).trans (heap_alloc_new w _), by unfold Ca; have := heap_alloc_new (w.alloc (.cells (chC a s) 29)) (.cells (chC b t) 29); simpa using this, (below_alloc w _).alloc (by simp) _, rfl⟩
  obtain ⟨p, cap, rfl, hp⟩ := hs
  obtain ⟨p', cap', rfl, hp'⟩ := ht
  have HP := hide hp
  have HP' := hide hp'
  generalize hDD : decide (a = b) = DD
  clear hp hp'
  by_cases hlen : a.tx.length = b.tx.length
  case neg =>
    have bl : ((a.tx.length : Int) != (b.tx.length : Int)) = true := by simp; omega
    have HF : Hid (DD = false) := hide (by rw [← hDD]; exact decide_eq_false fun h => hlen (by rw [h]))
    have HB := hide H2.out.bel
    simp only [chC] at HB ⊢
    clear H2 hDD
    go_enter Try.func17, Try.ntmps17
    go_wp2
    go_ret
    exact ⟨by rw [HF.out]; rfl, HB.out⟩
  have bl : ((a.tx.length : Int) != (b.tx.length : Int)) = false := by simp; omega
  obtain ⟨a0, a1, a2, a3, a4, a5, a6, a7, a8, a9⟩ := H2.out.a.all
  obtain ⟨b0, b1, b2, b3, b4, b5, b6, b7, b8, b9⟩ := H2.out.b.all
  have hlt := H2.out.a.lt
  have hlt' := H2.out.b.lt
  simp only [chC] at H2 a9 b9 ⊢
  clear a0 a1 a2 a3 a4 a5 a6 a7 a8 b0 b1 b2 b3 b4 b5 b6 b7 b8
  go_enter Try.func17, Try.ntmps17
  go_wp2_with fail
  go_loopw [5] (fun s wr => ∃ k : Nat, k ≤ a.tx.length ∧ s = .int .i64 (k : Int) ∧ Hid (∀ j, j < k → a.tx[j]! = b.tx[j]!) ∧ Hid (Two w w.heap.size a b (.slice p a.tx.length cap) (.slice p' b.tx.length cap') wr)) (fun s _ => a.tx.length - (intOf s).toNat)
  case atStart => exact ⟨0, Nat.zero_le _, rfl, hide (fun j h => absurd h (Nat.not_lt_zero _)), hide (by have := H2.out; rw [hlen] at this ⊢; exact this)⟩
  case round =>
    obtain ⟨k, hk, rfl, HJ, HK⟩ := hrel
    obtain ⟨a0, a1, a2, a3, a4, a5, a6, a7, a8, a9⟩ := HK.out.a.all
    obtain ⟨b0, b1, b2, b3, b4, b5, b6, b7, b8, b9⟩ := HK.out.b.all
    have HB := hide HK.out.bel
    by_cases hkl : k < a.tx.length
    · have hki : (k : Int) < (a.tx.length : Int) := by omega
      have hki' : (k : Int) < (b.tx.length : Int) := by omega
      obtain ⟨gb, go, rfl, hgl, hx⟩ := HP.out (by omega)
      obtain ⟨gb', go', rfl, hgl', hx'⟩ := HP'.out (by omega)
      have x1 : wr.cell? ⟨gb, go + k, none⟩ = some (.string a.tx[k]!) := (HK.out.bel.cell (p := ⟨gb, go + k, none⟩) hgl).trans (hx k hkl)
      have x2 : wr.cell? ⟨gb', go' + k, none⟩ = some (.string b.tx[k]!) := (HK.out.bel.cell (p := ⟨gb', go' + k, none⟩) hgl').trans (hx' k (by omega))
      have l1 : gb < wr.heap.size := Nat.lt_of_lt_of_le hgl HK.out.bel.size
      have l2 : gb' < wr.heap.size := Nat.lt_of_lt_of_le hgl' HK.out.bel.size
      clear hx hx' a0 a1 a2 a3 a4 a5 a6 a7 a8 b0 b1 b2 b3 b4 b5 b6 b7 b8 HP HP'
      by_cases he : a.tx[k]! = b.tx[k]!
      · have HJ2 : Hid (∀ j, j < k + 1 → a.tx[j]! = b.tx[j]!) := hide fun j hj => by
          rcases Nat.lt_succ_iff_lt_or_eq.mp hj with h | h
          · exact HJ.out j h
          · rw [h]; exact he
        rw [← he] at x2
        generalize a.tx[k]! = S at *
        clear he HJ
        go_wp2_with fail
        go_quiet (fail)
        go_wp2
        go_roundw
        case rel => exact ⟨k + 1, by omega, by go_num, HJ2, hide (HK.out.drewN _)⟩
        case measure => simp [intOf]; omega
      · have HF : Hid (DD = false) := hide (by rw [← hDD]; exact decide_eq_false fun h => he (by rw [h]))
        have hbn : (a.tx[k]!.toList == b.tx[k]!.toList) = false := beq_eq_false_iff_ne.2 fun h => he (toList_inj h)
        have hbn' : ¬ a.tx[k]!.toList = b.tx[k]!.toList := fun h => he (toList_inj h)
        generalize a.tx[k]! = S at *
        generalize b.tx[k]! = S' at *
        clear he HJ hDD
        go_wp2_with fail
        go_quiet (fail)
        go_wp2
        go_ret
        exact ⟨by rw [HF.out]; rfl, below_drewN HB.out _⟩
    · obtain rfl : k = a.tx.length := by omega
      have hki : ¬ (a.tx.length : Int) < (a.tx.length : Int) := by omega
      have htx : a.tx = b.tx := list_eq_of hlen HJ.out
      have HQ : Hid (DD = decide (a.k = b.k ∧ a.n = b.n ∧ a.jo = b.jo ∧ a.ba = b.ba ∧ a.sl = b.sl ∧ a.li = b.li ∧ (a.rc = b.rc ∧ a.rb = b.rb) ∧ a.pr = b.pr)) := hide (by
        rw [← hDD]; exact decide_eq_decide.mpr (HEQ.out.trans ⟨fun h => h.2, fun h => ⟨htx, h⟩⟩))
      clear HJ HK HEQ H2 HP HP' hDD htx
      obtain ⟨ka, na, ja, baa, sa, la, rca, rba, pra, txa⟩ := a
      obtain ⟨kb, nb, jb, bab, sb, lb, rcb, rbb, prb, txb⟩ := b
      simp only at *
      by_cases e_k : ka = kb
      case neg =>
        have HF : Hid (DD = false) := hide (by rw [HQ.out]; exact decide_eq_false fun h => e_k h.1)
        have hbe : (ka == kb) = false := beq_eq_false_iff_ne.2 e_k
        clear HQ e_k
        go_wp2
        go_ret
        exact ⟨by rw [HF.out]; rfl, HB.out⟩
      subst e_k
      by_cases e_n : na = nb
      case neg =>
        have HF : Hid (DD = false) := hide (by rw [HQ.out]; exact decide_eq_false fun h => e_n h.2.1)
        have hbe : (na == nb) = false := beq_eq_false_iff_ne.2 e_n
        clear HQ e_n
        go_wp2
        go_ret
        exact ⟨by rw [HF.out]; rfl, HB.out⟩
      subst e_n
      by_cases e_j : ja = jb
      case neg =>
        have HF : Hid (DD = false) := hide (by rw [HQ.out]; exact decide_eq_false fun h => e_j h.2.2.1)
        have hbe : (ja == jb) = false := beq_eq_false_iff_ne.2 e_j
        clear HQ e_j
        go_wp2
        go_ret
        exact ⟨by rw [HF.out]; rfl, HB.out⟩
      subst e_j
      by_cases e_ba : baa = bab
      case neg =>
        have HF : Hid (DD = false) := hide (by rw [HQ.out]; exact decide_eq_false fun h => e_ba h.2.2.2.1)
        have hbe : (baa == bab) = false := beq_eq_false_iff_ne.2 e_ba
        clear HQ e_ba
        go_wp2
        go_ret
        exact ⟨by rw [HF.out]; rfl, HB.out⟩
      subst e_ba
      by_cases e_s : sa = sb
      case neg =>
        have HF : Hid (DD = false) := hide (by rw [HQ.out]; exact decide_eq_false fun h => e_s h.2.2.2.2.1)
        have hbe : (sa == sb) = false := beq_eq_false_iff_ne.2 e_s
        clear HQ e_s
        go_wp2
        go_ret
        exact ⟨by rw [HF.out]; rfl, HB.out⟩
      subst e_s
      by_cases e_l : la = lb
      case neg =>
        have HF : Hid (DD = false) := hide (by rw [HQ.out]; exact decide_eq_false fun h => e_l h.2.2.2.2.2.1)
        have hbe : (la == lb) = false := beq_eq_false_iff_ne.2 e_l
        clear HQ e_l
        go_wp2
        go_ret
        exact ⟨by rw [HF.out]; rfl, HB.out⟩
      subst e_l
      have hE : ∀ (w : World), (binOp .eql 26 (.agg #[.int .i64 rca, .int .u64 (rba : Int)]) (.agg #[.int .i64 rcb, .int .u64 (rbb : Int)])).run Try.prog w = .ok (.bool (decide (rca = rcb ∧ rba = rbb))) w := fun w => eql_res rca rcb rba rbb w
      by_cases e_r : rca = rcb ∧ rba = rbb
      case neg =>
        have HF : Hid (DD = false) := hide (by rw [HQ.out]; exact decide_eq_false fun h => e_r h.2.2.2.2.2.2.1)
        rw [decide_eq_false e_r] at hE
        clear HQ e_r
        go_wp2
        go_ret
        exact ⟨by rw [HF.out]; rfl, HB.out⟩
      rw [decide_eq_true e_r] at hE
      by_cases e_p : pra = prb
      case neg =>
        have HF : Hid (DD = false) := hide (by rw [HQ.out]; exact decide_eq_false fun h => e_p h.2.2.2.2.2.2.2)
        have hbn : (pra.toList == prb.toList) = false := beq_eq_false_iff_ne.2 fun h => e_p (toList_inj h)
        have hbn' : ¬ pra.toList = prb.toList := fun h => e_p (toList_inj h)
        clear HQ e_p e_r
        go_wp2
        go_ret
        exact ⟨by rw [HF.out]; rfl, HB.out⟩
      have HF : Hid (DD = true) := hide (by rw [HQ.out]; exact decide_eq_true ⟨rfl, rfl, rfl, rfl, rfl, rfl, e_r, e_p⟩)
      subst e_p
      clear HQ e_r
      go_wp2
      go_ret
      exact ⟨by rw [HF.out]; rfl, HB.out⟩
end Go.Proofs.Ytjabnddjahhgoaa

namespace Go.Proofs.Ytjabnddjahhgoaa
open Go.RowKit
open Rc (L V Ch)

theorem Rw.at {w : World} {v : Value} {l : List Ch} {b off cap : Nat} (h : Rw w v l) (hv : v = .slice (some ⟨b, off, none⟩) l.length cap) {j : Nat} (hj : j < l.length) :
    ∃ pt ct, Tx w (.slice pt (l[j]!).tx.length ct) (l[j]!).tx ∧ (l[j]!).tx.length ≤ 140737488351232 ∧ (l[j]!).rb < 18446744073709551616 ∧ b < w.heap.size ∧ ∀ i u, (chC l[j]! (.slice pt (l[j]!).tx.length ct))[i]? = some u → w.cell? ⟨b, off + j * 10 + i, none⟩ = some u := by
  obtain ⟨p, cap', hv', h2⟩ := h
  obtain ⟨b', off', hp, hlt, hx⟩ := h2 (by omega)
  rw [hv] at hv'
  simp only [Value.slice.injEq] at hv'
  rw [hp] at hv'
  simp only [Option.some.injEq, Addr.mk.injEq] at hv'
  obtain ⟨⟨rfl, rfl, -⟩, -, rfl⟩ := hv'
  obtain ⟨t, ht, h1, h3, h4⟩ := hx j hj
  have hT := ht
  obtain ⟨pt, ct, rfl, -⟩ := ht
  exact ⟨pt, ct, hT, h1, h3, hlt, h4⟩
set_option maxHeartbeats 1600000 in
theorem same_any {w : World} {v v' : Value} {l m : List Ch} (h : Rw w v l) (h' : Rw w v' m) (hll : l.length ≤ 9223372036854775807) : Calls Try.prog 8 #[v, v'] w fun e w' => e = .returned (.bool (decide (l = m))) ∧ Below w.heap.size w w' := by
  have H := hide h
  have H' := hide h'
  generalize hDD : decide (l = m) = DD
  obtain ⟨p, cap, rfl, hp⟩ := h
  obtain ⟨p', cap', rfl, hp'⟩ := h'
  by_cases hlen : l.length = m.length
  case neg =>
    have bl : ((l.length : Int) != (m.length : Int)) = true := by simp; omega
    have HF : Hid (DD = false) := hide (by rw [← hDD]; exact decide_eq_false fun h => hlen (by rw [h]))
    clear H H' hp hp' hDD
    go_enter Try.func8, Try.ntmps8
    go_wp2
    go_ret
    exact ⟨by rw [HF.out]; rfl, Below.refl _ _⟩
  have bl : ((l.length : Int) != (m.length : Int)) = false := by simp; omega
  have hnot : ∀ (x : Bool) (w : World), (Op.unary .not (.bool x)).run Try.prog w = .ok (.bool (!x)) w := fun _ _ => rfl
  have HP : Hid (0 < l.length → ∃ b off, p = some ⟨b, off, none⟩ ∧ b < w.heap.size) := hide fun h => by obtain ⟨b, off, h1, h2, _⟩ := hp h; exact ⟨b, off, h1, h2⟩
  have HP' : Hid (0 < m.length → ∃ b off, p' = some ⟨b, off, none⟩ ∧ b < w.heap.size) := hide fun h => by obtain ⟨b, off, h1, h2, _⟩ := hp' h; exact ⟨b, off, h1, h2⟩
  clear hp hp'
  obtain ⟨n, hn⟩ : ∃ n, m.length = n := ⟨_, rfl⟩
  have hln : l.length = n := hlen.trans hn
  rw [hln, hn]
  rw [hln, hn] at bl
  clear hlen
  go_enter Try.func8, Try.ntmps8
  go_wp2_with fail
  go_loopw [5, 6] (fun s _ wr => ∃ k : Nat, k ≤ n ∧ s = .int .i64 (k : Int) ∧ Hid (∀ j, j < k → l[j]! = m[j]!) ∧ Hid (Below w.heap.size w wr)) (fun s _ _ => n - (intOf s).toNat)
  case atStart => exact ⟨0, Nat.zero_le _, rfl, hide (fun j h => absurd h (Nat.not_lt_zero _)), hide (Below.refl _ _)⟩
  case round =>
    obtain ⟨k, hk, rfl, HJ, HK⟩ := hrel
    by_cases hkl : k < n
    · have hki : (k : Int) < (n : Int) := by omega
      obtain ⟨b, off, rfl, hlt⟩ := HP.out (by omega)
      obtain ⟨b', off', rfl, hlt'⟩ := HP'.out (by omega)
      obtain ⟨pt, ct, hT, htl, -, -, hx⟩ := H.out.at rfl (show k < l.length by omega)
      obtain ⟨pt', ct', hT', htl', -, -, hx'⟩ := H'.out.at rfl (show k < m.length by omega)
      have hc : ∀ i u, (chC l[k]! (.slice pt (l[k]!).tx.length ct))[i]? = some u → wr.cell? ⟨b, off + k * 10 + i, none⟩ = some u := fun i u hi => (HK.out.cell (p := ⟨b, off + k * 10 + i, none⟩) hlt).trans (hx i u hi)
      have hc' : ∀ i u, (chC m[k]! (.slice pt' (m[k]!).tx.length ct'))[i]? = some u → wr.cell? ⟨b', off' + k * 10 + i, none⟩ = some u := fun i u hi => (HK.out.cell (p := ⟨b', off' + k * 10 + i, none⟩) hlt').trans (hx' i u hi)
      have HDD : Hid (l[k]! ≠ m[k]! → DD = false) := hide fun hne => by rw [← hDD]; exact decide_eq_false fun h => hne (by rw [h])
      have HJ2 : Hid (l[k]! = m[k]! → ∀ j, j < k + 1 → l[j]! = m[j]!) := hide fun he j hj => by
        rcases Nat.lt_succ_iff_lt_or_eq.mp hj with h | h
        · exact HJ.out j h
        · rw [h]; exact he
      generalize l[k]! = x at *
      generalize m[k]! = y at *
      have c0 : wr.cell? ⟨b, off + k * 10, none⟩ = some (.int .i64 x.k) := hc 0 _ rfl
      have c1 : wr.cell? ⟨b, off + k * 10 + 1, none⟩ = some (.int .i64 x.n) := hc 1 _ rfl
      have c2 : wr.cell? ⟨b, off + k * 10 + 2, none⟩ = some (.int .i64 x.jo) := hc 2 _ rfl
      have c3 : wr.cell? ⟨b, off + k * 10 + 3, none⟩ = some (.int .i64 x.ba) := hc 3 _ rfl
      have c4 : wr.cell? ⟨b, off + k * 10 + 4, none⟩ = some (.int .i64 x.sl) := hc 4 _ rfl
      have c5 : wr.cell? ⟨b, off + k * 10 + 5, none⟩ = some (.int .i64 x.li) := hc 5 _ rfl
      have c6 : wr.cell? ⟨b, off + k * 10 + 6, none⟩ = some (.int .i64 x.rc) := hc 6 _ rfl
      have c7 : wr.cell? ⟨b, off + k * 10 + 7, none⟩ = some (.int .u64 (x.rb : Int)) := hc 7 _ rfl
      have c8 : wr.cell? ⟨b, off + k * 10 + 8, none⟩ = some (.string x.pr) := hc 8 _ rfl
      have c9 : wr.cell? ⟨b, off + k * 10 + 9, none⟩ = some (.slice pt x.tx.length ct) := hc 9 _ rfl
      have d0 : wr.cell? ⟨b', off' + k * 10, none⟩ = some (.int .i64 y.k) := hc' 0 _ rfl
      have d1 : wr.cell? ⟨b', off' + k * 10 + 1, none⟩ = some (.int .i64 y.n) := hc' 1 _ rfl
      have d2 : wr.cell? ⟨b', off' + k * 10 + 2, none⟩ = some (.int .i64 y.jo) := hc' 2 _ rfl
      have d3 : wr.cell? ⟨b', off' + k * 10 + 3, none⟩ = some (.int .i64 y.ba) := hc' 3 _ rfl
      have d4 : wr.cell? ⟨b', off' + k * 10 + 4, none⟩ = some (.int .i64 y.sl) := hc' 4 _ rfl
      have d5 : wr.cell? ⟨b', off' + k * 10 + 5, none⟩ = some (.int .i64 y.li) := hc' 5 _ rfl
      have d6 : wr.cell? ⟨b', off' + k * 10 + 6, none⟩ = some (.int .i64 y.rc) := hc' 6 _ rfl
      have d7 : wr.cell? ⟨b', off' + k * 10 + 7, none⟩ = some (.int .u64 (y.rb : Int)) := hc' 7 _ rfl
      have d8 : wr.cell? ⟨b', off' + k * 10 + 8, none⟩ = some (.string y.pr) := hc' 8 _ rfl
      have d9 : wr.cell? ⟨b', off' + k * 10 + 9, none⟩ = some (.slice pt' y.tx.length ct') := hc' 9 _ rfl
      have hbl : b < wr.heap.size := Nat.lt_of_lt_of_le hlt HK.out.size
      have hbl' : b' < wr.heap.size := Nat.lt_of_lt_of_le hlt' HK.out.size
      have HS := hide fun (W : World) (hW : Below wr.heap.size wr W) => sameOne_any (a := x) (b := y) ((hT.below HK.out (Nat.le_refl _)).below hW (Nat.le_refl _)) ((hT'.below HK.out (Nat.le_refl _)).below hW (Nat.le_refl _)) htl
      simp only [chC] at HS
      have hsz := HK.out.size
      clear hc hc' hx hx' hT hT' HJ H H' HP HP'
      go_wp2_with fail
      refine wp_region_held_drew (S := fun W => Below wr.heap.size wr W) (by kernel_rfl) (Below.refl _ _).drew (fun hHeld => ?_)
      refine wpAnyH_take (i := 0) (v := .slice (some ⟨b, off, none⟩) n cap) rfl (by kernel_rfl) (by kernel_rfl) (by kernel_rfl) (fun _ _ _ h => h) (Or.inl ⟨by rfl, fun w1 hSw => by clear hHeld; go_simp⟩) hHeld ?_
      simp only [Act.put, List.setIfInBounds_toArray]
      refine wpAnyH_take (i := 1) (v := .int .i64 (k : Int)) rfl (by kernel_rfl) (by kernel_rfl) (by kernel_rfl) (fun _ _ _ h => h) (Or.inl ⟨by rfl, fun w1 hSw => by clear hHeld; go_simp⟩) hHeld ?_
      simp only [Act.put]
      refine wpAnyH_take (i := 2) (v := .pointer (some ⟨b, off + k * 10, none⟩)) rfl (by kernel_rfl) (by kernel_rfl) (by kernel_rfl) (fun _ _ _ h => h) (Or.inl ⟨by rfl, fun w1 hSw => by clear hHeld; go_simp⟩) hHeld ?_
      simp only [Act.put]
      refine wpAnyH_take (i := 3) (v := .agg #[.int .i64 x.k, .int .i64 x.n, .int .i64 x.jo, .int .i64 x.ba, .int .i64 x.sl, .int .i64 x.li, .int .i64 x.rc, .int .u64 (x.rb : Int), .string x.pr, .slice pt x.tx.length ct]) rfl (by kernel_rfl) (by kernel_rfl) (by kernel_rfl) (fun _ _ _ h => h) (Or.inl ⟨by rfl, fun w1 hSw => by clear hHeld; have q0 := (hSw.cell (p := ⟨b, off + k * 10, none⟩) hbl).trans c0; have q1 := (hSw.cell (p := ⟨b, off + k * 10 + 1, none⟩) hbl).trans c1; have q2 := (hSw.cell (p := ⟨b, off + k * 10 + 2, none⟩) hbl).trans c2; have q3 := (hSw.cell (p := ⟨b, off + k * 10 + 3, none⟩) hbl).trans c3; have q4 := (hSw.cell (p := ⟨b, off + k * 10 + 4, none⟩) hbl).trans c4; have q5 := (hSw.cell (p := ⟨b, off + k * 10 + 5, none⟩) hbl).trans c5; have q6 := (hSw.cell (p := ⟨b, off + k * 10 + 6, none⟩) hbl).trans c6; have q7 := (hSw.cell (p := ⟨b, off + k * 10 + 7, none⟩) hbl).trans c7; have q8 := (hSw.cell (p := ⟨b, off + k * 10 + 8, none⟩) hbl).trans c8; have q9 := (hSw.cell (p := ⟨b, off + k * 10 + 9, none⟩) hbl).trans c9; clear hSw HS; clear c0 c1 c2 c3 c4 c5 c6 c7 c8 c9 d0 d1 d2 d3 d4 d5 d6 d7 d8 d9; go_simp⟩) hHeld ?_
      simp only [Act.put]
      refine wpAnyH_take (i := 4) (v := .slice (some ⟨b', off', none⟩) n cap') rfl (by kernel_rfl) (by kernel_rfl) (by kernel_rfl) (fun _ _ _ h => h) (Or.inl ⟨by rfl, fun w1 hSw => by clear hHeld; go_simp⟩) hHeld ?_
      simp only [Act.put]
      refine wpAnyH_take (i := 5) (v := .int .i64 (k : Int)) rfl (by kernel_rfl) (by kernel_rfl) (by kernel_rfl) (fun _ _ _ h => h) (Or.inl ⟨by rfl, fun w1 hSw => by clear hHeld; go_simp⟩) hHeld ?_
      simp only [Act.put]
      refine wpAnyH_take (i := 6) (v := .pointer (some ⟨b', off' + k * 10, none⟩)) rfl (by kernel_rfl) (by kernel_rfl) (by kernel_rfl) (fun _ _ _ h => h) (Or.inl ⟨by rfl, fun w1 hSw => by clear hHeld; go_simp⟩) hHeld ?_
      simp only [Act.put]
      refine wpAnyH_take (i := 7) (v := .agg #[.int .i64 y.k, .int .i64 y.n, .int .i64 y.jo, .int .i64 y.ba, .int .i64 y.sl, .int .i64 y.li, .int .i64 y.rc, .int .u64 (y.rb : Int), .string y.pr, .slice pt' y.tx.length ct']) rfl (by kernel_rfl) (by kernel_rfl) (by kernel_rfl) (fun _ _ _ h => h) (Or.inl ⟨by rfl, fun w1 hSw => by clear hHeld; have q0 := (hSw.cell (p := ⟨b', off' + k * 10, none⟩) hbl').trans d0; have q1 := (hSw.cell (p := ⟨b', off' + k * 10 + 1, none⟩) hbl').trans d1; have q2 := (hSw.cell (p := ⟨b', off' + k * 10 + 2, none⟩) hbl').trans d2; have q3 := (hSw.cell (p := ⟨b', off' + k * 10 + 3, none⟩) hbl').trans d3; have q4 := (hSw.cell (p := ⟨b', off' + k * 10 + 4, none⟩) hbl').trans d4; have q5 := (hSw.cell (p := ⟨b', off' + k * 10 + 5, none⟩) hbl').trans d5; have q6 := (hSw.cell (p := ⟨b', off' + k * 10 + 6, none⟩) hbl').trans d6; have q7 := (hSw.cell (p := ⟨b', off' + k * 10 + 7, none⟩) hbl').trans d7; have q8 := (hSw.cell (p := ⟨b', off' + k * 10 + 8, none⟩) hbl').trans d8; have q9 := (hSw.cell (p := ⟨b', off' + k * 10 + 9, none⟩) hbl').trans d9; clear hSw HS; clear c0 c1 c2 c3 c4 c5 c6 c7 c8 c9 d0 d1 d2 d3 d4 d5 d6 d7 d8 d9; go_simp⟩) hHeld ?_
      simp only [Act.put]
      refine wpAnyH_ready (rs := [8]) (by kernel_rfl) (by simp) ?_
      refine AllReadyH.cons rfl (fun KK hK => ?_) AllReadyH.nil
      go_simp
      refine (HS.out _ (Below.refl _ _).drew).mono ?_
      rintro e w2 ⟨rfl, hb2⟩
      have hb3 : Below wr.heap.size wr w2 := (Below.refl _ _).drew.trans hb2
      have HB3 := hide (HK.out.trans (hb3.mono hsz))
      refine hK.out _ _ hb3 (fun hHeld => ?_)
      generalize hq : decide (x = y) = Q at *
      refine wpAnyH_take (i := 9) (v := .bool Q) rfl (by kernel_rfl) (by kernel_rfl) (by kernel_rfl) (fun _ _ _ h => h) (Or.inl ⟨by rfl, fun w1 hSw => by clear hHeld; go_simp⟩) hHeld ?_
      simp only [Act.put]
      refine wpAnyH_done (by kernel_rfl) ?_ _
      clear HS hb2 hb3 c0 c1 c2 c3 c4 c5 c6 c7 c8 c9 d0 d1 d2 d3 d4 d5 d6 d7 d8 d9
      cases Q
      · have HF : Hid (DD = false) := hide (HDD.out (of_decide_eq_false hq))
        clear HDD HJ2 hDD hq
        go_wp2
        go_ret
        exact ⟨by rw [HF.out]; rfl, HB3.out⟩
      · have HJ3 := hide (HJ2.out (of_decide_eq_true hq))
        clear HDD HJ2 hq
        go_wp2
        go_roundw
        case rel => exact ⟨k + 1, by omega, by go_num, HJ3, HB3⟩
        case measure => simp [intOf]; omega
    · obtain rfl : k = n := by omega
      have hki : ¬ (k : Int) < (k : Int) := by omega
      have HF : Hid (DD = true) := hide (by rw [← hDD]; exact decide_eq_true (list_eq_of (by omega) (by rw [hln]; exact HJ.out)))
      clear HJ hDD
      go_wp2
      go_ret
      exact ⟨by rw [HF.out]; rfl, HK.out⟩
end Go.Proofs.Ytjabnddjahhgoaa

namespace Go.Proofs.Ytjabnddjahhgoaa
open Go.RowKit
open Rc (L V Ch)

theorem wit_t {n lo hi : Int} (h : lo ≤ n ∧ n ≤ hi) (w : World) : Calls Try.prog 26 #[.int .i64 n, .int .i64 lo, .int .i64 hi] w fun e w' => e = .returned (.bool true) ∧ w' = w := by
  obtain ⟨h1, h2⟩ := h
  go_enter Try.func26, Try.ntmps26
  go_wp2
  go_ret
  exact ⟨rfl, rfl⟩
theorem wit_f {n lo hi : Int} (h : ¬ (lo ≤ n ∧ n ≤ hi)) (w : World) : Calls Try.prog 26 #[.int .i64 n, .int .i64 lo, .int .i64 hi] w fun e w' => e = .returned (.bool false) ∧ w' = w := by
  by_cases h1 : lo ≤ n
  · have h2 : ¬ n ≤ hi := fun k => h ⟨h1, k⟩
    clear h
    go_enter Try.func26, Try.ntmps26
    go_wp2
    go_ret
    exact ⟨rfl, rfl⟩
  · clear h
    go_enter Try.func26, Try.ntmps26
    go_wp2
    go_ret
    exact ⟨rfl, rfl⟩
def tOk (l : List ByteArray) : Bool := decide (1 ≤ l.length ∧ l.length ≤ 8) && l.all fun t => decide (t.size ≤ 32)
theorem all_drop {l : List ByteArray} {k : Nat} (h : k < l.length) : ((l.drop k).all fun t => decide (t.size ≤ 32)) = (decide ((l[k]!).size ≤ 32) && ((l.drop (k + 1)).all fun t => decide (t.size ≤ 32))) := by
  rw [List.drop_eq_getElem_cons h, List.all_cons, getElem!_pos l k h]
set_option maxHeartbeats 800000 in
theorem qtexts_any {w : World} {t : Value} {l : List ByteArray} (hT : Tx w t l) : Calls Try.prog 27 #[t] w fun e w' => e = .returned (.bool (tOk l)) ∧ ∃ n, w' = w.drewN n := by
  obtain ⟨p, cap, rfl, hp⟩ := hT
  by_cases h1 : 1 ≤ l.length ∧ l.length ≤ 8
  case neg =>
    have HF : Hid (tOk l = false) := hide (by unfold tOk; rw [decide_eq_false h1]; rfl)
    by_cases h2 : 1 ≤ l.length
    · have h3 : (8 : Int) < (l.length : Int) := by omega
      have h4 : ¬ (l.length : Int) < 1 := by omega
      clear h1 hp
      go_enter Try.func27, Try.ntmps27
      go_wp2
      go_ret
      exact ⟨by rw [HF.out]; rfl, 0, rfl⟩
    · have h4 : (l.length : Int) < 1 := by omega
      clear h1 hp
      go_enter Try.func27, Try.ntmps27
      go_wp2
      go_ret
      exact ⟨by rw [HF.out]; rfl, 0, rfl⟩
  obtain ⟨gb, go, rfl, hgl, hx⟩ := hp (by omega)
  have HX := hide hx
  have h4 : ¬ (l.length : Int) < 1 := by omega
  have h5 : ¬ (8 : Int) < (l.length : Int) := by omega
  have HL : Hid (l.length ≤ 8) := h1.2
  have HT : Hid (tOk l = (l.drop 0).all fun t => decide (t.size ≤ 32)) := hide (by unfold tOk; rw [decide_eq_true h1, List.drop_zero]; rfl)
  generalize tOk l = T at *
  clear h1 hp hx
  go_enter Try.func27, Try.ntmps27
  go_wp2_with fail
  go_loopw [3] (fun s wr => ∃ k n : Nat, k ≤ l.length ∧ s = .int .i64 (k : Int) ∧ Hid (T = (l.drop k).all fun t => decide (t.size ≤ 32)) ∧ wr = w.drewN n) (fun s _ => l.length - (intOf s).toNat)
  case atStart => exact ⟨0, 0, Nat.zero_le _, rfl, HT, rfl⟩
  case round =>
    obtain ⟨k, n, hk, rfl, HK, rfl⟩ := hrel
    have HLo := HL.out
    by_cases hkl : k < l.length
    · have hki : (k : Int) < (l.length : Int) := by omega
      have x1 : (w.drewN n).cell? ⟨gb, go + k, none⟩ = some (.string l[k]!) := HX.out k hkl
      have l1 : gb < (w.drewN n).heap.size := hgl
      have HS := hide (all_drop hkl)
      generalize l[k]! = S at *
      by_cases hs : S.size ≤ 32
      · have hs2 : ¬ (32 : Int) < (S.size : Int) := by omega
        have HK2 : Hid (T = (l.drop (k + 1)).all fun t => decide (t.size ≤ 32)) := hide (by rw [HK.out, HS.out, decide_eq_true hs]; rfl)
        clear HK HS
        go_wp2_with fail
        go_roundw
        case rel => exact ⟨k + 1, _, by omega, rfl, HK2, rfl⟩
        case measure => simp only [intOf]; omega
      · have hs2 : (32 : Int) < (S.size : Int) := by omega
        have HF : Hid (T = false) := hide (by rw [HK.out, HS.out, decide_eq_false hs]; rfl)
        clear HK HS
        go_wp2_with fail
        go_ret
        exact ⟨by rw [HF.out]; rfl, _, rfl⟩
    · have hki : ¬ (k : Int) < (l.length : Int) := by omega
      have HF : Hid (T = true) := hide (by rw [HK.out, List.drop_eq_nil_of_le (by omega)]; rfl)
      clear HK
      go_wp2_with fail
      go_ret
      exact ⟨by rw [HF.out]; rfl, _, rfl⟩
set_option maxHeartbeats 800000 in
theorem rzero_any (c : Ch) (p : Option Addr) (cap : Nat) (w : World) : Calls Try.prog 28 #[.agg (chC c (.slice p c.tx.length cap))] w fun e w' => e = .returned (.bool (decide (c = Rc.zC c.k))) ∧ w' = w.alloc (.cells (chC c (.slice p c.tx.length cap)) 29) := by
  have hb := blank_iff c
  obtain ⟨k, n, jo, ba, sl, li, rc, rb, pr, tx⟩ := c
  simp only [chC] at hb ⊢
  by_cases h_n : n = 0
  case neg =>
    rw [decide_eq_false (fun h => h_n (by have := hb.mp h; omega))]
    have b0 : (n == 0) = false := beq_eq_false_iff_ne.2 h_n
    clear hb h_n
    go_enter Try.func28, Try.ntmps28
    go_wp2
    go_ret
    exact ⟨rfl, rfl⟩
  subst h_n
  by_cases h_jo : jo = 0
  case neg =>
    rw [decide_eq_false (fun h => h_jo (by have := hb.mp h; omega))]
    have b0 : (jo == 0) = false := beq_eq_false_iff_ne.2 h_jo
    clear hb h_jo
    go_enter Try.func28, Try.ntmps28
    go_wp2
    go_ret
    exact ⟨rfl, rfl⟩
  subst h_jo
  by_cases h_ba : ba = 0
  case neg =>
    rw [decide_eq_false (fun h => h_ba (by have := hb.mp h; omega))]
    have b0 : (ba == 0) = false := beq_eq_false_iff_ne.2 h_ba
    clear hb h_ba
    go_enter Try.func28, Try.ntmps28
    go_wp2
    go_ret
    exact ⟨rfl, rfl⟩
  subst h_ba
  by_cases h_sl : sl = 0
  case neg =>
    rw [decide_eq_false (fun h => h_sl (by have := hb.mp h; omega))]
    have b0 : (sl == 0) = false := beq_eq_false_iff_ne.2 h_sl
    clear hb h_sl
    go_enter Try.func28, Try.ntmps28
    go_wp2
    go_ret
    exact ⟨rfl, rfl⟩
  subst h_sl
  by_cases h_li : li = 0
  case neg =>
    rw [decide_eq_false (fun h => h_li (by have := hb.mp h; omega))]
    have b0 : (li == 0) = false := beq_eq_false_iff_ne.2 h_li
    clear hb h_li
    go_enter Try.func28, Try.ntmps28
    go_wp2
    go_ret
    exact ⟨rfl, rfl⟩
  subst h_li
  have hE : ∀ (w : World), (binOp .eql 26 (.agg #[.int .i64 rc, .int .u64 (rb : Int)]) (.agg #[.int .i64 0, .int .u64 0])).run Try.prog w = .ok (.bool (decide (rc = 0 ∧ rb = 0))) w := fun w => eql_res rc 0 rb 0 w
  by_cases h_r : rc = 0 ∧ rb = 0
  case neg =>
    rw [decide_eq_false (fun h => h_r (by have := hb.mp h; omega))]
    rw [decide_eq_false h_r] at hE
    clear hb h_r
    go_enter Try.func28, Try.ntmps28
    go_wp2
    go_ret
    exact ⟨rfl, rfl⟩
  rw [decide_eq_true h_r] at hE
  by_cases h_p : pr = ⟨#[]⟩
  case neg =>
    rw [decide_eq_false (fun h => h_p (by have := hb.mp h; exact this.2.2.2.2.2.2.2.1))]
    have b0 : (pr.toList == []) = false := beq_eq_false_iff_ne.2 (fun h => h_p (toList_inj (h.trans (by rw [ByteArray.toList_eq]))))
    have b1 : ¬ pr.toList = [] := fun h => h_p (toList_inj (h.trans (by rw [ByteArray.toList_eq])))
    clear hb h_r h_p
    go_enter Try.func28, Try.ntmps28
    go_wp2
    go_ret
    exact ⟨rfl, rfl⟩
  subst h_p
  by_cases h_t : tx.length = 0
  case neg =>
    rw [decide_eq_false (fun h => h_t (by have := hb.mp h; exact this.2.2.2.2.2.2.2.2))]
    have b0 : ((tx.length : Int) == 0) = false := beq_eq_false_iff_ne.2 (by omega)
    clear hb h_r
    generalize tx.length = m at *
    clear h_t
    go_enter Try.func28, Try.ntmps28
    go_wp2
    go_ret
    exact ⟨rfl, rfl⟩
  rw [decide_eq_true (hb.mpr ⟨rfl, rfl, rfl, rfl, rfl, h_r.1, h_r.2, rfl, h_t⟩), h_t]
  clear hb h_r
  go_enter Try.func28, Try.ntmps28
  go_wp2
  go_ret
  exact ⟨rfl, rfl⟩

theorem may_iff (l : L) (v : V) : Rc.may l v = true ↔ ((Rc.least l : Int) ≤ Rc.sz l v ∧ Rc.sz l v ≤ (Rc.most l : Int)) ∧ (l ≠ .R ∨ v.i = 0 ∨ v.n = 0) ∧ (l ≠ .T ∨ ∀ t ∈ v.l, t.size ≤ 32) := by
  unfold Rc.may
  rw [Bool.and_eq_true, Bool.and_eq_true, Bool.or_eq_true, Bool.or_eq_true, decide_eq_true_iff, decide_eq_true_iff, decide_eq_true_iff, decide_eq_true_iff, List.all_eq_true, and_assoc]
  simp only [decide_eq_true_iff]
theorem tOk_iff (l : List ByteArray) : tOk l = true ↔ (1 ≤ l.length ∧ l.length ≤ 8) ∧ ∀ t ∈ l, t.size ≤ 32 := by
  unfold tOk
  rw [Bool.and_eq_true, decide_eq_true_iff, List.all_eq_true]
  simp only [decide_eq_true_iff]
theorem if_iff {p q : Prop} [Decidable p] [Decidable q] (h : p ↔ q) {a b : Nat} : (if p then a else b) = if q then a else b := by
  by_cases hp : p
  · rw [if_pos hp, if_pos (h.mp hp)]
  · rw [if_neg hp, if_neg fun k => hp (h.mpr k)]
set_option linter.unusedSimpArgs false in
theorem chk1 (n jo ba sl li rc : Int) (rb : Nat) (pr : ByteArray) (tx : List ByteArray) : Rc.check ⟨1, n, jo, ba, sl, li, rc, rb, pr, tx⟩ = if (1 ≤ n ∧ n ≤ 1099511627776) ∧ (⟨1, 0, jo, ba, sl, li, rc, rb, pr, tx⟩ : Ch) = Rc.zC 1 then 0 else 81 := by
  unfold Rc.check
  rw [if_neg (by simp)]
  refine if_iff ?_
  simp only [Rc.letters, Rc.look, Bool.or_eq_false_iff, Bool.not_eq_false', may_iff, tOk_iff, Bool.false_or, if_true, if_false, reduceIte, Int.reduceEq]
  simp [Rc.letters, Rc.look, Rc.get, Rc.set, Rc.sz, Rc.least, Rc.most, Rc.zV]
set_option linter.unusedSimpArgs false in
theorem chk2 (n jo ba sl li rc : Int) (rb : Nat) (pr : ByteArray) (tx : List ByteArray) : Rc.check ⟨2, n, jo, ba, sl, li, rc, rb, pr, tx⟩ = if ((1 ≤ jo ∧ jo ≤ 8) ∧ (1 ≤ (pr.size : Int) ∧ (pr.size : Int) ≤ 1024)) ∧ (⟨2, n, 0, ba, sl, li, rc, rb, ⟨#[]⟩, tx⟩ : Ch) = Rc.zC 2 then 0 else 81 := by
  unfold Rc.check
  rw [if_neg (by simp)]
  refine if_iff ?_
  simp only [Rc.letters, Rc.look, Bool.or_eq_false_iff, Bool.not_eq_false', may_iff, tOk_iff, Bool.false_or, if_true, if_false, reduceIte, Int.reduceEq]
  simp [Rc.letters, Rc.look, Rc.get, Rc.set, Rc.sz, Rc.least, Rc.most, Rc.zV, Rc.e0, and_assoc]
set_option linter.unusedSimpArgs false in
theorem chk3 (n jo ba sl li rc : Int) (rb : Nat) (pr : ByteArray) (tx : List ByteArray) : Rc.check ⟨3, n, jo, ba, sl, li, rc, rb, pr, tx⟩ = if ((1 ≤ jo ∧ jo ≤ 8) ∧ (1 ≤ ba ∧ ba ≤ 1099511627776) ∧ (0 ≤ sl ∧ sl ≤ 7) ∧ (1 ≤ li ∧ li ≤ 1099511627776)) ∧ (⟨3, n, 0, 0, 0, 0, rc, rb, pr, tx⟩ : Ch) = Rc.zC 3 then 0 else 81 := by
  unfold Rc.check
  rw [if_neg (by simp)]
  refine if_iff ?_
  simp only [Rc.letters, Rc.look, Bool.or_eq_false_iff, Bool.not_eq_false', may_iff, tOk_iff, Bool.false_or, if_true, if_false, reduceIte, Int.reduceEq]
  simp [Rc.letters, Rc.look, Rc.get, Rc.set, Rc.sz, Rc.least, Rc.most, Rc.zV, and_assoc]
set_option linter.unusedSimpArgs false in
theorem chk4 (n jo ba sl li rc : Int) (rb : Nat) (pr : ByteArray) (tx : List ByteArray) : Rc.check ⟨4, n, jo, ba, sl, li, rc, rb, pr, tx⟩ = if ((1 ≤ ba ∧ ba ≤ 1099511627776) ∧ tOk tx = true) ∧ (⟨4, n, jo, 0, sl, li, rc, rb, pr, []⟩ : Ch) = Rc.zC 4 then 0 else 81 := by
  have h1 : (1 ≤ (tx.length : Int)) ↔ 1 ≤ tx.length := by omega
  have h2 : ((tx.length : Int) ≤ 8) ↔ tx.length ≤ 8 := by omega
  unfold Rc.check
  rw [if_neg (by simp)]
  refine if_iff ?_
  simp only [Rc.letters, Rc.look, Bool.or_eq_false_iff, Bool.not_eq_false', may_iff, tOk_iff, Bool.false_or, if_true, if_false, reduceIte, Int.reduceEq]
  simp [Rc.letters, Rc.look, Rc.get, Rc.set, Rc.sz, Rc.least, Rc.most, Rc.zV, and_assoc, h1, h2]
set_option linter.unusedSimpArgs false in
theorem chk5 (n jo ba sl li rc : Int) (rb : Nat) (pr : ByteArray) (tx : List ByteArray) : Rc.check ⟨5, n, jo, ba, sl, li, rc, rb, pr, tx⟩ = if (1 ≤ ba ∧ ba ≤ 1099511627776) ∧ (⟨5, n, jo, 0, sl, li, rc, rb, pr, tx⟩ : Ch) = Rc.zC 5 then 0 else 81 := by
  unfold Rc.check
  rw [if_neg (by simp)]
  refine if_iff ?_
  simp only [Rc.letters, Rc.look, Bool.or_eq_false_iff, Bool.not_eq_false', may_iff, tOk_iff, Bool.false_or, if_true, if_false, reduceIte, Int.reduceEq]
  simp [Rc.letters, Rc.look, Rc.get, Rc.set, Rc.sz, Rc.least, Rc.most, Rc.zV]
set_option linter.unusedSimpArgs false in
theorem chk6 (n jo ba sl li rc : Int) (rb : Nat) (pr : ByteArray) (tx : List ByteArray) : Rc.check ⟨6, n, jo, ba, sl, li, rc, rb, pr, tx⟩ = if ((1 ≤ ba ∧ ba ≤ 1099511627776) ∧ (0 ≤ rc ∧ rc ≤ 7) ∧ (rc = 0 ∨ rb = 0)) ∧ (⟨6, n, jo, 0, sl, li, 0, 0, pr, tx⟩ : Ch) = Rc.zC 6 then 0 else 81 := by
  unfold Rc.check
  rw [if_neg (by simp)]
  refine if_iff ?_
  simp only [Rc.letters, Rc.look, Bool.or_eq_false_iff, Bool.not_eq_false', may_iff, tOk_iff, Bool.false_or, if_true, if_false, reduceIte, Int.reduceEq]
  simp [Rc.letters, Rc.look, Rc.get, Rc.set, Rc.sz, Rc.least, Rc.most, Rc.zV, and_assoc]

end Go.Proofs.Ytjabnddjahhgoaa
