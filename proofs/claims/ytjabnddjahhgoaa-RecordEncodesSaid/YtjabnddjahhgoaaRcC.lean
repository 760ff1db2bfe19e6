import Derived.Test.YtjabnddjahhgoaaRcB
namespace Go.Proofs.Ytjabnddjahhgoaa
open Go.RowKit
open Rc (L V Ch)

theorem within_T {n lo hi : Int} (h : lo ≤ n ∧ n ≤ hi) (w : World) : Calls Try.prog 71 #[.int .i64 n, .int .i64 lo, .int .i64 hi] w fun e w' => e = .returned (.bool true) ∧ w' = w :=
  (isWithin_any n lo hi w).mono fun e w' ⟨h1, h2⟩ => ⟨by rw [h1, decide_eq_true h], h2⟩
theorem within_F {n lo hi : Int} (h : ¬ (lo ≤ n ∧ n ≤ hi)) (w : World) : Calls Try.prog 71 #[.int .i64 n, .int .i64 lo, .int .i64 hi] w fun e w' => e = .returned (.bool false) ∧ w' = w :=
  (isWithin_any n lo hi w).mono fun e w' ⟨h1, h2⟩ => ⟨by rw [h1, decide_eq_false h], h2⟩
theorem LkI.clrR {w0 w : World} {A G : Nat} {b : Bool} {c : Ch} {t : Value} (h : LkI w0 A G (b, c, t) w) : LkI w0 A G (b, Rc.set .R Rc.zV c, t) ((w.setCell ⟨A, 0 + 6, none⟩ (.int .i64 0)).setCell ⟨A, 0 + 6 + 1, none⟩ (.int .u64 0)) := by
  have h1 : LkI w0 A G (b, { c with rc := 0 }, t) (w.setCell ⟨A, 0 + 6, none⟩ (.int .i64 0)) := h.put (by unfold Ca; have := h.ca; unfold Ca at this; rw [cells_set this]; rfl) h.tx h.len
  exact h1.put (by unfold Ca; have := h1.ca; unfold Ca at this; rw [cells_set this]; rfl) h.tx h.len
set_option maxHeartbeats 400000 in
theorem lresult_any {w0 w : World} {A G : Nat} {b : Bool} {c : Ch} {t : Value} (h : LkI w0 A G (b, c, t) w) :
    Calls Try.prog 66 #[.pointer (some ⟨G, 0, none⟩), .pointer (some ⟨A, 0 + 6, none⟩)] w fun e w' => e = .returned (.tuple #[]) ∧ LkI w0 A G (b || !Rc.may .R (Rc.get .R c), Rc.set .R Rc.zV c, t) w' := by
  obtain ⟨hc, hc'⟩ := h.ca.cr
  have hz := h.ca.z (0 + 6)
  have hz' := h.ca.z (0 + 6 + 1)
  have hn := h.hn
  have hAl := h.ca.lt
  have hGl := h.lk.lt
  by_cases hw : (0 : Int) ≤ c.rc ∧ c.rc ≤ 7
  · have HM : Hid (Rc.may .R (Rc.get .R c) = decide (c.rc = 0 ∨ c.rb = 0)) := hide (by
      show (decide _ && (decide _ || decide _) && (decide _ || _)) = _
      rw [decide_eq_true (show (Rc.least .R : Int) ≤ Rc.sz .R (Rc.get .R c) ∧ Rc.sz .R (Rc.get .R c) ≤ (Rc.most .R : Int) from hw)]
      simp only [ne_eq, not_true_eq_false, decide_false, Bool.false_or, Bool.true_and, reduceCtorEq, not_false_eq_true, decide_true, Bool.true_or, Bool.and_true]
      exact decide_eq_decide.mpr Iff.rfl)
    have HT := hide (fun (o : Obj) (X : Bool) => ((h.alloc o).want X).clrR)
    have HL := hide (fun (o : Obj) => (h.alloc o).lk)
    have HZ := hide (fun (o : Obj) (k : Nat) => (h.alloc o).ca.z k)
    have HW := hide (within_T hw)
    have HB := hide (mayBitsR_any c.rc c.rb)
    clear h hw
    generalize c.rc = n at *
    generalize c.rb = m at *
    generalize 0 + 6 = q at *
    go_enter Try.func66, Try.ntmps66
    go_wp2_with fail
    refine (HW.out _).mono ?_
    rintro e w1 ⟨rfl, hw⟩
    obtain rfl := hw.symm
    go_wp2_with fail
    refine (HB.out _).mono ?_
    rintro e w1 ⟨rfl, rfl⟩
    generalize hD : decide (n = 0 ∨ m = 0) = D
    have HM2 := hide (HM.out.trans hD)
    clear hD HM
    have hc2 : (w.alloc (.cells #[.int .i64 n, .int .u64 (m : Int)] 26)).cell? ⟨A, q, none⟩ = some (.int .i64 n) := (World.cell?_alloc_past _ _ _ hAl).trans hc
    have hc2' : (w.alloc (.cells #[.int .i64 n, .int .u64 (m : Int)] 26)).cell? ⟨A, q + 1, none⟩ = some (.int .u64 (m : Int)) := (World.cell?_alloc_past _ _ _ hAl).trans hc'
    have HT2 := hide (HT.out (.cells #[.int .i64 n, .int .u64 (m : Int)] 26))
    have HL2 := hide (HL.out (.cells #[.int .i64 n, .int .u64 (m : Int)] 26))
    have hz2 : (w.alloc (.cells #[.int .i64 n, .int .u64 (m : Int)] 26)).frozen? ⟨A, q, none⟩ = false := HZ.out _ _
    have hz2' : (w.alloc (.cells #[.int .i64 n, .int .u64 (m : Int)] 26)).frozen? ⟨A, q + 1, none⟩ = false := HZ.out _ _
    clear HZ
    generalize w.alloc (.cells #[.int .i64 n, .int .u64 (m : Int)] 26) = w2 at *
    go_wp2_with fail
    refine (want_any HL2.out _).mono ?_
    rintro e w1 ⟨rfl, rfl⟩
    have hc3 : (w2.setCell ⟨G, 0, none⟩ (.bool (b || !D))).cell? ⟨A, q, none⟩ = some (.int .i64 n) := cell_other hc2 hn
    have hc3' : (w2.setCell ⟨G, 0, none⟩ (.bool (b || !D))).cell? ⟨A, q + 1, none⟩ = some (.int .u64 (m : Int)) := cell_other hc2' hn
    have hz3 : (w2.setCell ⟨G, 0, none⟩ (.bool (b || !D))).frozen? ⟨A, q, none⟩ = false := by rw [World.frozen?_setCell]; exact hz2
    have hz3' : (w2.setCell ⟨G, 0, none⟩ (.bool (b || !D))).frozen? ⟨A, q + 1, none⟩ = false := by rw [World.frozen?_setCell]; exact hz2'
    have HT3 := hide (HT2.out (b || !D))
    clear HT HT2 HL HL2 hc hc' hc2 hc2' hz hz' hz2 hz2'
    generalize w2.setCell ⟨G, 0, none⟩ (.bool (b || !D)) = w3 at *
    go_wp2
    go_end0
    exact ⟨rfl, by rw [HM2.out]; exact HT3.out⟩
  · have HM : Hid (Rc.may .R (Rc.get .R c) = false) := hide (by
      show (decide _ && (decide _ || decide _) && (decide _ || _)) = _
      rw [decide_eq_false (show ¬ ((Rc.least .R : Int) ≤ Rc.sz .R (Rc.get .R c) ∧ Rc.sz .R (Rc.get .R c) ≤ (Rc.most .R : Int)) from hw)]
      rfl)
    have HT := hide (fun (X : Bool) => (h.want X).clrR)
    have HL := hide h.lk
    have HW := hide (within_F hw)
    clear h hw
    generalize c.rc = n at *
    generalize c.rb = m at *
    generalize 0 + 6 = q at *
    go_enter Try.func66, Try.ntmps66
    go_wp2_with fail
    refine (HW.out _).mono ?_
    rintro e w1 ⟨rfl, hw⟩
    obtain rfl := hw.symm
    go_wp2_with fail
    refine (want_any HL.out _).mono ?_
    rintro e w1 ⟨rfl, rfl⟩
    have hc3 : (w.setCell ⟨G, 0, none⟩ (.bool (b || !false))).cell? ⟨A, q, none⟩ = some (.int .i64 n) := cell_other hc hn
    have hc3' : (w.setCell ⟨G, 0, none⟩ (.bool (b || !false))).cell? ⟨A, q + 1, none⟩ = some (.int .u64 (m : Int)) := cell_other hc' hn
    have hz3 : (w.setCell ⟨G, 0, none⟩ (.bool (b || !false))).frozen? ⟨A, q, none⟩ = false := by rw [World.frozen?_setCell]; exact hz
    have hz3' : (w.setCell ⟨G, 0, none⟩ (.bool (b || !false))).frozen? ⟨A, q + 1, none⟩ = false := by rw [World.frozen?_setCell]; exact hz'
    have HT3 := hide (HT.out (b || !false))
    clear HT HL hc hc' hz hz'
    generalize w.setCell ⟨G, 0, none⟩ (.bool (b || !false)) = w3 at *
    go_wp2
    go_end0
    exact ⟨rfl, by rw [HM.out]; exact HT3.out⟩
/-- texts looked at so far -/
def okT (l : List ByteArray) : Bool := l.all fun t => decide (t.size ≤ 32)
theorem okT_step {l : List ByteArray} {k : Nat} (h : k < l.length) : okT (l.take (k + 1)) = (okT (l.take k) && decide ((l[k]!).size ≤ 32)) := by
  rw [← List.take_append_getElem h, getElem!_pos l k h]; simp only [okT, List.all_append, List.all_cons, List.all_nil, Bool.and_true]
set_option maxHeartbeats 400000 in
theorem ltexts_any {w0 w : World} {A G : Nat} {b : Bool} {c : Ch} {t : Value} (h : LkI w0 A G (b, c, t) w) :
    Calls Try.prog 68 #[.pointer (some ⟨G, 0, none⟩), .pointer (some ⟨A, 0 + 9, none⟩)] w fun e w' => e = .returned (.tuple #[]) ∧ LkI w0 A G (b || !Rc.may .T (Rc.get .T c), Rc.set .T Rc.zV c, .slice none 0 0) w' := by
  obtain ⟨p, cap, ht, h2⟩ := h.tx
  simp only at ht h2
  subst ht
  have hm : Rc.may .T (Rc.get .T c) = (decide ((1 : Int) ≤ (c.tx.length : Int) ∧ (c.tx.length : Int) ≤ 8) && okT c.tx) := by
    show (decide _ && (decide _ || decide _) && (decide _ || _)) = _
    simp only [ne_eq, reduceCtorEq, not_false_eq_true, decide_true, Bool.true_or, Bool.and_true, not_true_eq_false, decide_false, Bool.false_or]
    rfl
  have hlen := h.len
  simp only at hlen
  have HX := hide h2
  have HM := hide hm
  have HI := hide h
  have hct := h.ca.ct
  have hlk := h.lk
  clear h h2 hm
  generalize hn : c.tx.length = n at *
  go_enter Try.func68, Try.ntmps68
  go_wp2_with fail
  refine (isWithin_any _ _ _ _).mono ?_
  rintro e w1 ⟨rfl, hw⟩
  obtain rfl := hw.symm
  generalize hD : decide ((1 : Int) ≤ (n : Int) ∧ (n : Int) ≤ 8) = D
  have HM2 : Hid (Rc.may .T (Rc.get .T c) = (D && okT c.tx)) := hide (by rw [HM.out, ← hD])
  clear hD HM
  go_wp2_with fail
  refine (want_any hlk _).mono ?_
  rintro e w1 ⟨rfl, rfl⟩
  have HI2 := hide (HI.out.want (b || !D))
  have hct2 := HI2.out.ca.ct
  clear HI hct hlk
  generalize w.setCell ⟨G, 0, none⟩ (.bool (b || !D)) = w2 at *
  go_wp2_with fail
  go_loopw [17] (fun s wr => ∃ k : Nat, k ≤ n ∧ s = .int .i64 (k : Int) ∧ Hid (LkI w0 A G (b || !(D && okT (c.tx.take k)), c, .slice p n cap) wr)) (fun s _ => n - (intOf s).toNat)
  case atStart => exact ⟨0, Nat.zero_le _, rfl, hide (by have := HI2.out; simpa [okT] using this)⟩
  case round =>
    obtain ⟨k, hk, rfl, HK⟩ := hrel
    by_cases hkl : k < n
    · obtain ⟨bb, off, rfl, hlt, hx⟩ := HX.out (by omega)
      have hcx : wr.cell? ⟨bb, off + k, none⟩ = some (.string c.tx[k]!) := (HK.out.bel.cell (p := ⟨bb, off + k, none⟩) hlt).trans (hx k hkl)
      have HS := hide (okT_step (l := c.tx) (k := k) (by omega))
      have hlk := HK.out.lk
      have HW := hide (fun X => HK.out.want X)
      generalize c.tx[k]! = tt at *
      have hki : (k : Int) < (n : Int) := by omega
      have hbl : bb < wr.heap.size := Nat.lt_of_lt_of_le hlt HK.out.bel.size
      clear hx HK
      go_wp2_with fail
      refine (want_any hlk _).mono ?_
      rintro e w1 ⟨rfl, rfl⟩
      have HW2 := hide (HW.out (b || !(D && okT (List.take k c.tx)) || !decide ((tt.size : Int) ≤ 32)))
      generalize wr.setCell ⟨G, 0, none⟩ (.bool (b || !(D && okT (List.take k c.tx)) || !decide ((tt.size : Int) ≤ 32))) = w3 at *
      go_wp2
      go_roundw
      case rel => exact ⟨k + 1, by omega, by go_num, hide (by
        have := HW2.out
        rw [HS.out]
        have e : (b || !(D && (okT (List.take k c.tx) && decide (tt.size ≤ 32)))) = (b || !(D && okT (List.take k c.tx)) || !decide ((tt.size : Int) ≤ 32)) := by
          rw [show decide ((tt.size : Int) ≤ 32) = decide (tt.size ≤ 32) from decide_eq_decide.mpr (by omega)]
          cases b <;> cases D <;> cases okT (List.take k c.tx) <;> simp
        rw [e]; exact this)⟩
      case measure => simp [intOf]; omega
    · obtain rfl : k = n := by omega
      have hki : ¬ (k : Int) < (k : Int) := by omega
      have HF : Hid (LkI w0 A G (b || !(D && okT c.tx), Rc.set .T Rc.zV c, .slice none 0 0) (wr.setCell ⟨A, 0 + 9, none⟩ (.slice none 0 0))) := hide (by
        have h9 := HK.out
        rw [← hn, List.take_length] at h9
        exact h9.put (h9.ca.st _ []) (Tx.nil _) (by simp [Rc.set, Rc.zV]))
      have hct3 : wr.cell? ⟨A, 9, none⟩ = _ := HK.out.ca.ct
      have hz3 := HK.out.ca.z 9
      clear HK
      go_wp2
      go_end0
      exact ⟨rfl, by rw [HM2.out]; exact HF.out⟩
end Go.Proofs.Ytjabnddjahhgoaa
