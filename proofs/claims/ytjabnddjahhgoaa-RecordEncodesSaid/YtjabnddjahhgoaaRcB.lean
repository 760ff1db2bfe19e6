import Derived.Test.YtjabnddjahhgoaaRcA
namespace Go.Proofs.Ytjabnddjahhgoaa
open Go.RowKit
open Rc (L V Ch)

/-- texts in memory -/
structure Tx (w : World) (v : Value) (l : List ByteArray) : Prop where
  form : ∃ p cap, v = .slice p l.length cap ∧ (0 < l.length → ∃ b off, p = some ⟨b, off, none⟩ ∧ b < w.heap.size ∧ ∀ j, j < l.length → w.cell? ⟨b, off + j, none⟩ = some (.string l[j]!))
theorem Tx.below {w w' : World} {v : Value} {l : List ByteArray} (h : Tx w v l) {n : Nat} (hb : Below n w w') (hn : w.heap.size ≤ n) : Tx w' v l := by
  obtain ⟨p, cap, hv, h2⟩ := h
  refine ⟨p, cap, hv, fun h0 => ?_⟩
  obtain ⟨b, off, hp, hlt, hc⟩ := h2 h0
  exact ⟨b, off, hp, Nat.lt_of_lt_of_le hlt hb.size, fun j hj => (hb.cell (p := ⟨b, off + j, none⟩) (Nat.lt_of_lt_of_le hlt hn)).trans (hc j hj)⟩
theorem Tx.nil (w : World) : Tx w (.slice none 0 0) [] := ⟨none, 0, rfl, fun h => absurd h (by simp)⟩
/-- a change in a block of its own -/
def Ca (w : World) (A : Nat) (c : Ch) (t : Value) : Prop := w.heap[A]? = some (.cells (chC c t) 29 (0, 0))
theorem Ca.lt {w : World} {A : Nat} {c : Ch} {t : Value} (h : Ca w A c t) : A < w.heap.size := lt_of_block h
theorem Ca.z {w : World} {A : Nat} {c : Ch} {t : Value} (h : Ca w A c t) (k : Nat) : w.frozen? ⟨A, k, none⟩ = false := by unfold Ca at h; simp [World.frozen?, h]
def isW : L → Bool
  | .R => false | .P => false | .T => false | _ => true
theorem Ca.c0 {w : World} {A : Nat} {c : Ch} {t : Value} (h : Ca w A c t) : w.cell? ⟨A, 0, none⟩ = some (.int .i64 c.k) := by unfold Ca at h; simp [World.cell?, h, chC]
theorem Ca.cw {w : World} {A : Nat} {c : Ch} {t : Value} (h : Ca w A c t) {l : L} (hl : isW l = true) : w.cell? ⟨A, 0 + offL l, none⟩ = some (.int .i64 (Rc.get l c).i) := by
  unfold Ca at h; cases l <;> first | (cases hl; done) | simp [World.cell?, h, chC, offL, Rc.get]
theorem Ca.cp {w : World} {A : Nat} {c : Ch} {t : Value} (h : Ca w A c t) : w.cell? ⟨A, 0 + 8, none⟩ = some (.string c.pr) := by unfold Ca at h; simp [World.cell?, h, chC]
theorem Ca.ct {w : World} {A : Nat} {c : Ch} {t : Value} (h : Ca w A c t) : w.cell? ⟨A, 0 + 9, none⟩ = some t := by unfold Ca at h; simp [World.cell?, h, chC]
theorem Ca.cr {w : World} {A : Nat} {c : Ch} {t : Value} (h : Ca w A c t) : w.cell? ⟨A, 0 + 6, none⟩ = some (.int .i64 c.rc) ∧ w.cell? ⟨A, 0 + 6 + 1, none⟩ = some (.int .u64 (c.rb : Int)) := by unfold Ca at h; simp [World.cell?, h, chC]
theorem Ca.sw {w : World} {A : Nat} {c : Ch} {t : Value} (h : Ca w A c t) {l : L} (hl : isW l = true) (x : Int) : Ca (w.setCell ⟨A, 0 + offL l, none⟩ (.int .i64 x)) A (Rc.set l ⟨x, 0, Rc.e0, []⟩ c) t := by
  unfold Ca at h ⊢
  rw [cells_set h]
  cases l <;> first | (cases hl; done) | rfl
theorem Ca.sp {w : World} {A : Nat} {c : Ch} {t : Value} (h : Ca w A c t) (x : ByteArray) : Ca (w.setCell ⟨A, 0 + 8, none⟩ (.string x)) A { c with pr := x } t := by
  unfold Ca at h ⊢; rw [cells_set h]; rfl
theorem Ca.st {w : World} {A : Nat} {c : Ch} {t : Value} (h : Ca w A c t) (x : Value) (ts : List ByteArray) : Ca (w.setCell ⟨A, 0 + 9, none⟩ x) A { c with tx := ts } x := by
  unfold Ca at h ⊢; rw [cells_set h]; rfl
theorem Ca.sr {w : World} {A : Nat} {c : Ch} {t : Value} (h : Ca w A c t) (x : Int) (y : Nat) : Ca ((w.setCell ⟨A, 0 + 6, none⟩ (.int .i64 x)).setCell ⟨A, 0 + 6 + 1, none⟩ (.int .u64 (y : Int))) A { c with rc := x, rb := y } t := by
  unfold Ca at h ⊢; rw [cells_set (cells_set h _ _)]; rfl
theorem Ca.block {w w' : World} {A : Nat} {c : Ch} {t : Value} (h : Ca w A c t) (e : w'.heap[A]? = w.heap[A]?) : Ca w' A c t := e.trans h
/-- the looker -/
def Lk (w : World) (G : Nat) (b : Bool) : Prop := w.heap[G]? = some (.cells #[.bool b] 51 (0, 0))
theorem Lk.c {w : World} {G : Nat} {b : Bool} (h : Lk w G b) : w.cell? ⟨G, 0, none⟩ = some (.bool b) := by unfold Lk at h; simp [World.cell?, h]
theorem Lk.z {w : World} {G : Nat} {b : Bool} (h : Lk w G b) : w.frozen? ⟨G, 0, none⟩ = false := by unfold Lk at h; simp [World.frozen?, h]
theorem Lk.lt {w : World} {G : Nat} {b : Bool} (h : Lk w G b) : G < w.heap.size := lt_of_block h
theorem Lk.set {w : World} {G : Nat} {b : Bool} (h : Lk w G b) (b' : Bool) : Lk (w.setCell ⟨G, 0, none⟩ (.bool b')) G b' := by unfold Lk at h ⊢; rw [cells_set h]; rfl
/-- the looker's state -/
structure LkI (w0 : World) (A G : Nat) (s : Bool × Ch × Value) (w : World) : Prop where
  ca : Ca w A s.2.1 s.2.2
  lk : Lk w G s.1
  bel : Below w0.heap.size w0 w
  tx : Tx w0 s.2.2 s.2.1.tx
  hA : w0.heap.size ≤ A
  hG : w0.heap.size ≤ G
  hn : A ≠ G
  len : s.2.1.tx.length ≤ 140737488351232
theorem LkI.want {w0 w : World} {A G : Nat} {b : Bool} {c : Ch} {t : Value} (h : LkI w0 A G (b, c, t) w) (b' : Bool) : LkI w0 A G (b', c, t) (w.setCell ⟨G, 0, none⟩ (.bool b')) :=
  ⟨h.ca.block (Below.heap_setCell _ _ _ _ h.hn), h.lk.set b', h.bel.setCell h.hG _, h.tx, h.hA, h.hG, h.hn, h.len⟩
theorem LkI.alloc {w0 w : World} {A G : Nat} {s : Bool × Ch × Value} (h : LkI w0 A G s w) (o : Obj) : LkI w0 A G s (w.alloc o) :=
  ⟨h.ca.block (Below.heap_alloc _ _ _ h.ca.lt), (Below.heap_alloc _ _ _ h.lk.lt).trans h.lk, h.bel.alloc h.bel.size _, h.tx, h.hA, h.hG, h.hn, h.len⟩
theorem LkI.drew {w0 w : World} {A G : Nat} {s : Bool × Ch × Value} (h : LkI w0 A G s w) : LkI w0 A G s w.drew := ⟨h.ca, h.lk, h.bel.drew, h.tx, h.hA, h.hG, h.hn, h.len⟩
theorem LkI.put {w0 w : World} {A G : Nat} {b : Bool} {c c' : Ch} {t t' : Value} (h : LkI w0 A G (b, c, t) w) {k : Nat} {u : Value} (hc : Ca (w.setCell ⟨A, k, none⟩ u) A c' t') (ht : Tx w0 t' c'.tx) (hl : c'.tx.length ≤ 140737488351232) : LkI w0 A G (b, c', t') (w.setCell ⟨A, k, none⟩ u) :=
  ⟨hc, (Below.heap_setCell _ _ _ _ (fun e => h.hn e.symm)).trans h.lk, h.bel.setCell h.hA _, ht, h.hA, h.hG, h.hn, hl⟩

theorem isWithin_any (n lo hi : Int) (w : World) : Calls Try.prog 71 #[.int .i64 n, .int .i64 lo, .int .i64 hi] w fun e w' => e = .returned (.bool (decide (lo ≤ n ∧ n ≤ hi))) ∧ w' = w := by
  by_cases h : lo ≤ n
  · have hd : decide (lo ≤ n ∧ n ≤ hi) = decide (n ≤ hi) := by simp [h]
    rw [hd]
    go_enter Try.func71, Try.ntmps71
    go_wp2
    go_ret
    exact ⟨rfl, rfl⟩
  · have hd : decide (lo ≤ n ∧ n ≤ hi) = false := by simp [h]
    rw [hd]
    go_enter Try.func71, Try.ntmps71
    go_wp2
    go_ret
    exact ⟨rfl, rfl⟩
theorem want_any {w : World} {G : Nat} {b : Bool} (h : Lk w G b) (m : Bool) : Calls Try.prog 69 #[.pointer (some ⟨G, 0, none⟩), .bool m] w fun e w' => e = .returned (.tuple #[]) ∧ w' = w.setCell ⟨G, 0, none⟩ (.bool (b || !m)) := by
  have hc := h.c
  have hz := h.z
  have hnot : ∀ (x : Bool) (w : World), (Op.unary .not (.bool x)).run Try.prog w = .ok (.bool (!x)) w := fun _ _ => rfl
  cases b
  · go_enter Try.func69, Try.ntmps69
    go_wp2
    go_end0
    exact ⟨rfl, by simp⟩
  · go_enter Try.func69, Try.ntmps69
    go_wp2
    go_end0
    exact ⟨rfl, by simp⟩
theorem lwhole_any {w0 w : World} {A G : Nat} {b : Bool} {c : Ch} {t : Value} (h : LkI w0 A G (b, c, t) w) {l : L} (hl : isW l = true) :
    Calls Try.prog 70 #[.pointer (some ⟨G, 0, none⟩), .pointer (some ⟨A, 0 + offL l, none⟩), .int .i64 (Rc.least l : Int), .int .i64 (Rc.most l : Int)] w fun e w' => e = .returned (.tuple #[]) ∧ LkI w0 A G (b || !Rc.may l (Rc.get l c), Rc.set l Rc.zV c, t) w' := by
  have hm : Rc.may l (Rc.get l c) = decide ((Rc.least l : Int) ≤ (Rc.get l c).i ∧ (Rc.get l c).i ≤ (Rc.most l : Int)) := by cases l <;> first | (cases hl; done) | simp only [Rc.may, Rc.sz, ne_eq, reduceCtorEq, not_false_eq_true, decide_true, Bool.true_or, Bool.and_true] <;> exact decide_eq_decide.mpr Iff.rfl
  have hc := h.ca.cw hl
  have HT : Hid (∀ X, LkI w0 A G (X, Rc.set l Rc.zV c, t) ((w.setCell ⟨G, 0, none⟩ (.bool X)).setCell ⟨A, 0 + offL l, none⟩ (.int .i64 0))) := fun X => by
    have h1 := h.want X
    exact h1.put (h1.ca.sw hl 0) (by have := h1.tx; cases l <;> first | (cases hl; done) | exact this) (by have := h1.len; cases l <;> first | (cases hl; done) | exact this)
  have hz := h.ca.z (0 + offL l)
  have hlk := h.lk
  have hn := h.hn
  have HM := hide hm
  clear hm
  generalize (Rc.get l c).i = n at *
  generalize (Rc.least l : Int) = lo at *
  generalize (Rc.most l : Int) = hi at *
  generalize 0 + offL l = q at *
  go_enter Try.func70, Try.ntmps70
  go_wp2_with fail
  refine (isWithin_any _ _ _ _).mono ?_
  rintro e w1 ⟨rfl, hw⟩
  obtain rfl := hw.symm
  generalize hD : decide (lo ≤ n ∧ n ≤ hi) = D
  have HM2 := hide (HM.out.trans ((decide_eq_decide.mpr Iff.rfl).trans hD))
  clear hD HM
  go_wp2_with fail
  refine (want_any hlk _).mono ?_
  rintro e w1 ⟨rfl, rfl⟩
  have hc2 : (w.setCell ⟨G, 0, none⟩ (.bool (b || !D))).cell? ⟨A, q, none⟩ = some (.int .i64 n) := cell_other hc hn
  have hz2 : (w.setCell ⟨G, 0, none⟩ (.bool (b || !D))).frozen? ⟨A, q, none⟩ = false := by rw [World.frozen?_setCell]; exact hz
  have HT2 := hide (HT.out (b || !D))
  generalize w.setCell ⟨G, 0, none⟩ (.bool (b || !D)) = w2 at *
  go_wp2
  go_end0
  exact ⟨rfl, by rw [HM2.out]; exact HT2.out⟩
theorem ltext_any {w0 w : World} {A G : Nat} {b : Bool} {c : Ch} {t : Value} (h : LkI w0 A G (b, c, t) w) :
    Calls Try.prog 67 #[.pointer (some ⟨G, 0, none⟩), .pointer (some ⟨A, 0 + 8, none⟩), .int .i64 1, .int .i64 1024] w fun e w' => e = .returned (.tuple #[]) ∧ LkI w0 A G (b || !Rc.may .P (Rc.get .P c), Rc.set .P Rc.zV c, t) w' := by
  have hm : Rc.may .P (Rc.get .P c) = decide ((1 : Int) ≤ (c.pr.size : Int) ∧ (c.pr.size : Int) ≤ 1024) := by simp only [Rc.may, Rc.sz, Rc.get, Rc.least, Rc.most, ne_eq, reduceCtorEq, not_false_eq_true, decide_true, Bool.true_or, Bool.and_true]; exact decide_eq_decide.mpr Iff.rfl
  have hc := h.ca.cp
  have HT : Hid (∀ X, LkI w0 A G (X, Rc.set .P Rc.zV c, t) ((w.setCell ⟨G, 0, none⟩ (.bool X)).setCell ⟨A, 0 + 8, none⟩ (.string ⟨#[]⟩))) := fun X => by
    have h1 := h.want X
    exact h1.put (h1.ca.sp _) h1.tx h1.len
  have hz := h.ca.z (0 + 8)
  have hlk := h.lk
  have hn := h.hn
  have HM := hide hm
  clear hm
  generalize c.pr = n at *
  generalize 0 + 8 = q at *
  go_enter Try.func67, Try.ntmps67
  go_wp2_with fail
  refine (isWithin_any _ _ _ _).mono ?_
  rintro e w1 ⟨rfl, hw⟩
  obtain rfl := hw.symm
  generalize hD : decide ((1 : Int) ≤ (n.size : Int) ∧ (n.size : Int) ≤ 1024) = D
  have HM2 := hide (HM.out.trans ((decide_eq_decide.mpr Iff.rfl).trans hD))
  clear hD HM
  go_wp2_with fail
  refine (want_any hlk _).mono ?_
  rintro e w1 ⟨rfl, rfl⟩
  have hc2 : (w.setCell ⟨G, 0, none⟩ (.bool (b || !D))).cell? ⟨A, q, none⟩ = some (.string n) := cell_other hc hn
  have hz2 : (w.setCell ⟨G, 0, none⟩ (.bool (b || !D))).frozen? ⟨A, q, none⟩ = false := by rw [World.frozen?_setCell]; exact hz
  have HT2 := hide (HT.out (b || !D))
  generalize w.setCell ⟨G, 0, none⟩ (.bool (b || !D)) = w2 at *
  go_wp2
  go_end0
  exact ⟨rfl, by rw [HM2.out]; exact HT2.out⟩
theorem mayBitsR_any (c : Int) (n : Nat) (w : World) :
    Calls Try.prog 72 #[.agg #[.int .i64 c, .int .u64 (n : Int)]] w fun e w' => e = .returned (.bool (decide (c = 0 ∨ n = 0))) ∧ w' = w.alloc (.cells #[.int .i64 c, .int .u64 (n : Int)] 26) := by
  by_cases h : c = 0
  · subst h
    go_enter Try.func72, Try.ntmps72
    go_wp2
    go_ret
    exact ⟨by simp, rfl⟩
  · have b0 : (c == 0) = false := beq_eq_false_iff_ne.2 h
    have hd : decide (c = 0 ∨ n = 0) = ((n : Int) == 0) := by
      by_cases hn : n = 0
      · simp [hn]
      · simp [hn, h]
    rw [hd]
    clear h hd
    go_enter Try.func72, Try.ntmps72
    go_wp2
    go_ret
    exact ⟨by simp, rfl⟩
end Go.Proofs.Ytjabnddjahhgoaa
