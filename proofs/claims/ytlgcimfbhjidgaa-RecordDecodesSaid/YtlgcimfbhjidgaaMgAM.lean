import Derived.Test.YtlgcimfbhjidgaaMgAL
import Derived.Test.YtlgcimfbhjidgaaMgAI
import Derived.Lib.AppendStr

section
namespace Go.Proofs.Ytlgcimfbhjidgaa
open Go.RowKit
open Rc (L V Ch)

/-- texts in memory -/
structure Tx (w : World) (v : Value) (l : List ByteArray) : Prop where
  form : ∃ p cap, v = .slice p l.length cap ∧ (0 < l.length → ∃ b off, p = some ⟨b, off, none⟩ ∧ b < w.heap.size ∧ ∀ j, j < l.length → w.cell? ⟨b, off + j, none⟩ = some (.string l[j]!))
theorem Tx.below {w w' : World} {v : Value} {l : List ByteArray} (h : Tx w v l) {n : Nat} (hb : Below n w w') (hn : w.heap.size ≤ n) : Tx w' v l := by
  obtain ⟨p, cap, hv, h2⟩ := h
  refine ⟨p, cap, hv, fun h0 => ?_⟩
  obtain ⟨b, off, hp, hlt, hc⟩ := h2 h0
  exact ⟨b, off, hp, Nat.lt_of_lt_of_le hlt hb.size, fun j hj => (hb.cell (p := ⟨b, off + j, none⟩) (Nat.lt_of_lt_of_le hlt hn)).trans (hc j hj)⟩
theorem Tx.nil (w : World) : Tx w (.slice none 0 0) [] := ⟨none, 0, rfl, fun h => absurd h (by simp)⟩
/-- a change in a block of its own -/
def Ca (w : World) (A : Nat) (c : Ch) (t : Value) : Prop := w.heap[A]? = some (.cells (chC c t) 32 (0, 0))
theorem Ca.lt {w : World} {A : Nat} {c : Ch} {t : Value} (h : Ca w A c t) : A < w.heap.size := lt_of_block h
theorem Ca.z {w : World} {A : Nat} {c : Ch} {t : Value} (h : Ca w A c t) (k : Nat) : w.frozen? ⟨A, k, none⟩ = false := by unfold Ca at h; simp [World.frozen?, h]
def isW : L → Bool
  | .R => false | .P => false | .T => false | _ => true
theorem Ca.c0 {w : World} {A : Nat} {c : Ch} {t : Value} (h : Ca w A c t) : w.cell? ⟨A, 0, none⟩ = some (.int .i64 c.k) := by unfold Ca at h; simp [World.cell?, h, chC]
theorem Ca.cw {w : World} {A : Nat} {c : Ch} {t : Value} (h : Ca w A c t) {l : L} (hl : isW l = true) : w.cell? ⟨A, 0 + offL l, none⟩ = some (.int .i64 (Rc.get l c).i) := by
  unfold Ca at h; cases l <;> first | (cases hl; done) | simp [World.cell?, h, chC, offL, Rc.get]
theorem Ca.cp {w : World} {A : Nat} {c : Ch} {t : Value} (h : Ca w A c t) : w.cell? ⟨A, 0 + 8, none⟩ = some (.string c.pr) := by unfold Ca at h; simp [World.cell?, h, chC]
theorem Ca.ct {w : World} {A : Nat} {c : Ch} {t : Value} (h : Ca w A c t) : w.cell? ⟨A, 0 + 9, none⟩ = some t := by unfold Ca at h; simp [World.cell?, h, chC]
theorem Ca.cr {w : World} {A : Nat} {c : Ch} {t : Value} (h : Ca w A c t) : w.cell? ⟨A, 0 + 6, none⟩ = some (.int .i64 c.rc) ∧ w.cell? ⟨A, 0 + 6 + 1, none⟩ = some (.int .u64 (c.rb : Int)) := by unfold Ca at h; simp [World.cell?, h, chC]
theorem Ca.sw {w : World} {A : Nat} {c : Ch} {t : Value} (h : Ca w A c t) {l : L} (hl : isW l = true) (x : Int) : Ca (w.setCell ⟨A, 0 + offL l, none⟩ (.int .i64 x)) A (Rc.set l ⟨x, 0, Rc.e0, []⟩ c) t := by
  unfold Ca at h ⊢
  rw [cells_set h]
  cases l <;> first | (cases hl; done) | rfl
theorem Ca.sp {w : World} {A : Nat} {c : Ch} {t : Value} (h : Ca w A c t) (x : ByteArray) : Ca (w.setCell ⟨A, 0 + 8, none⟩ (.string x)) A { c with pr := x } t := by
  unfold Ca at h ⊢; rw [cells_set h]; rfl
theorem Ca.st {w : World} {A : Nat} {c : Ch} {t : Value} (h : Ca w A c t) (x : Value) (ts : List ByteArray) : Ca (w.setCell ⟨A, 0 + 9, none⟩ x) A { c with tx := ts } x := by
  unfold Ca at h ⊢; rw [cells_set h]; rfl
theorem Ca.sr {w : World} {A : Nat} {c : Ch} {t : Value} (h : Ca w A c t) (x : Int) (y : Nat) : Ca ((w.setCell ⟨A, 0 + 6, none⟩ (.int .i64 x)).setCell ⟨A, 0 + 6 + 1, none⟩ (.int .u64 (y : Int))) A { c with rc := x, rb := y } t := by
  unfold Ca at h ⊢; rw [cells_set (cells_set h _ _)]; rfl
theorem Ca.block {w w' : World} {A : Nat} {c : Ch} {t : Value} (h : Ca w A c t) (e : w'.heap[A]? = w.heap[A]?) : Ca w' A c t := e.trans h
/-- the looker -/
def Lk (w : World) (G : Nat) (b : Bool) : Prop := w.heap[G]? = some (.cells #[.bool b] 62 (0, 0))
theorem Lk.c {w : World} {G : Nat} {b : Bool} (h : Lk w G b) : w.cell? ⟨G, 0, none⟩ = some (.bool b) := by unfold Lk at h; simp [World.cell?, h]
theorem Lk.z {w : World} {G : Nat} {b : Bool} (h : Lk w G b) : w.frozen? ⟨G, 0, none⟩ = false := by unfold Lk at h; simp [World.frozen?, h]
theorem Lk.lt {w : World} {G : Nat} {b : Bool} (h : Lk w G b) : G < w.heap.size := lt_of_block h
theorem Lk.set {w : World} {G : Nat} {b : Bool} (h : Lk w G b) (b' : Bool) : Lk (w.setCell ⟨G, 0, none⟩ (.bool b')) G b' := by unfold Lk at h ⊢; rw [cells_set h]; rfl
/-- the looker's state -/
structure LkI (w0 : World) (A G : Nat) (s : Bool × Ch × Value) (w : World) : Prop where
  ca : Ca w A s.2.1 s.2.2
  lk : Lk w G s.1
  bel : Below w0.heap.size w0 w
  tx : Tx w0 s.2.2 s.2.1.tx
  hA : w0.heap.size ≤ A
  hG : w0.heap.size ≤ G
  hn : A ≠ G
  len : s.2.1.tx.length ≤ 140737488351232
theorem LkI.want {w0 w : World} {A G : Nat} {b : Bool} {c : Ch} {t : Value} (h : LkI w0 A G (b, c, t) w) (b' : Bool) : LkI w0 A G (b', c, t) (w.setCell ⟨G, 0, none⟩ (.bool b')) :=
  ⟨h.ca.block (Below.heap_setCell _ _ _ _ h.hn), h.lk.set b', h.bel.setCell h.hG _, h.tx, h.hA, h.hG, h.hn, h.len⟩
theorem LkI.alloc {w0 w : World} {A G : Nat} {s : Bool × Ch × Value} (h : LkI w0 A G s w) (o : Obj) : LkI w0 A G s (w.alloc o) :=
  ⟨h.ca.block (Below.heap_alloc _ _ _ h.ca.lt), (Below.heap_alloc _ _ _ h.lk.lt).trans h.lk, h.bel.alloc h.bel.size _, h.tx, h.hA, h.hG, h.hn, h.len⟩
theorem LkI.drew {w0 w : World} {A G : Nat} {s : Bool × Ch × Value} (h : LkI w0 A G s w) : LkI w0 A G s w.drew := ⟨h.ca, h.lk, h.bel.drew, h.tx, h.hA, h.hG, h.hn, h.len⟩
theorem LkI.put {w0 w : World} {A G : Nat} {b : Bool} {c c' : Ch} {t t' : Value} (h : LkI w0 A G (b, c, t) w) {k : Nat} {u : Value} (hc : Ca (w.setCell ⟨A, k, none⟩ u) A c' t') (ht : Tx w0 t' c'.tx) (hl : c'.tx.length ≤ 140737488351232) : LkI w0 A G (b, c', t') (w.setCell ⟨A, k, none⟩ u) :=
  ⟨hc, (Below.heap_setCell _ _ _ _ (fun e => h.hn e.symm)).trans h.lk, h.bel.setCell h.hA _, ht, h.hA, h.hG, h.hn, hl⟩

theorem isWithin_any (n lo hi : Int) (w : World) : Calls Try.prog 85 #[.int .i64 n, .int .i64 lo, .int .i64 hi] w fun e w' => e = .returned (.bool (decide (lo ≤ n ∧ n ≤ hi))) ∧ w' = w := by
  by_cases h : lo ≤ n
  · have hd : decide (lo ≤ n ∧ n ≤ hi) = decide (n ≤ hi) := by simp [h]
    rw [hd]
    go_enter Try.func85, Try.ntmps85
    go_wp2
    go_ret
    exact ⟨rfl, rfl⟩
  · have hd : decide (lo ≤ n ∧ n ≤ hi) = false := by simp [h]
    rw [hd]
    go_enter Try.func85, Try.ntmps85
    go_wp2
    go_ret
    exact ⟨rfl, rfl⟩
theorem want_any {w : World} {G : Nat} {b : Bool} (h : Lk w G b) (m : Bool) : Calls Try.prog 83 #[.pointer (some ⟨G, 0, none⟩), .bool m] w fun e w' => e = .returned (.tuple #[]) ∧ w' = w.setCell ⟨G, 0, none⟩ (.bool (b || !m)) := by
  have hc := h.c
  have hz := h.z
  have hnot : ∀ (x : Bool) (w : World), (Op.unary .not (.bool x)).run Try.prog w = .ok (.bool (!x)) w := fun _ _ => rfl
  cases b
  · go_enter Try.func83, Try.ntmps83
    go_wp2
    go_end0
    exact ⟨rfl, by simp⟩
  · go_enter Try.func83, Try.ntmps83
    go_wp2
    go_end0
    exact ⟨rfl, by simp⟩
theorem lwhole_any {w0 w : World} {A G : Nat} {b : Bool} {c : Ch} {t : Value} (h : LkI w0 A G (b, c, t) w) {l : L} (hl : isW l = true) :
    Calls Try.prog 84 #[.pointer (some ⟨G, 0, none⟩), .pointer (some ⟨A, 0 + offL l, none⟩), .int .i64 (Rc.least l : Int), .int .i64 (Rc.most l : Int)] w fun e w' => e = .returned (.tuple #[]) ∧ LkI w0 A G (b || !Rc.may l (Rc.get l c), Rc.set l Rc.zV c, t) w' := by
  have hm : Rc.may l (Rc.get l c) = decide ((Rc.least l : Int) ≤ (Rc.get l c).i ∧ (Rc.get l c).i ≤ (Rc.most l : Int)) := by cases l <;> first | (cases hl; done) | simp only [Rc.may, Rc.sz, ne_eq, reduceCtorEq, not_false_eq_true, decide_true, Bool.true_or, Bool.and_true] <;> exact decide_eq_decide.mpr Iff.rfl
  have hc := h.ca.cw hl
  have HT : Hid (∀ X, LkI w0 A G (X, Rc.set l Rc.zV c, t) ((w.setCell ⟨G, 0, none⟩ (.bool X)).setCell ⟨A, 0 + offL l, none⟩ (.int .i64 0))) := fun X => by
    have h1 := h.want X
    exact h1.put (h1.ca.sw hl 0) (by have := h1.tx; cases l <;> first | (cases hl; done) | exact this) (by have := h1.len; cases l <;> first | (cases hl; done) | exact this)
  have hz := h.ca.z (0 + offL l)
  have hlk := h.lk
  have hn := h.hn
  have HM := hide hm
  clear hm
  generalize (Rc.get l c).i = n at *
  generalize (Rc.least l : Int) = lo at *
  generalize (Rc.most l : Int) = hi at *
  generalize 0 + offL l = q at *
  go_enter Try.func84, Try.ntmps84
  go_wp2_with fail
  refine (isWithin_any _ _ _ _).mono ?_
  rintro e w1 ⟨rfl, hw⟩
  obtain rfl := hw.symm
  generalize hD : decide (lo ≤ n ∧ n ≤ hi) = D
  have HM2 := hide (HM.out.trans ((decide_eq_decide.mpr Iff.rfl).trans hD))
  clear hD HM
  go_wp2_with fail
  refine (want_any hlk _).mono ?_
  rintro e w1 ⟨rfl, rfl⟩
  have hc2 : (w.setCell ⟨G, 0, none⟩ (.bool (b || !D))).cell? ⟨A, q, none⟩ = some (.int .i64 n) := cell_other hc hn
  have hz2 : (w.setCell ⟨G, 0, none⟩ (.bool (b || !D))).frozen? ⟨A, q, none⟩ = false := by rw [World.frozen?_setCell]; exact hz
  have HT2 := hide (HT.out (b || !D))
  generalize w.setCell ⟨G, 0, none⟩ (.bool (b || !D)) = w2 at *
  go_wp2
  go_end0
  exact ⟨rfl, by rw [HM2.out]; exact HT2.out⟩
theorem ltext_any {w0 w : World} {A G : Nat} {b : Bool} {c : Ch} {t : Value} (h : LkI w0 A G (b, c, t) w) :
    Calls Try.prog 81 #[.pointer (some ⟨G, 0, none⟩), .pointer (some ⟨A, 0 + 8, none⟩), .int .i64 1, .int .i64 1024] w fun e w' => e = .returned (.tuple #[]) ∧ LkI w0 A G (b || !Rc.may .P (Rc.get .P c), Rc.set .P Rc.zV c, t) w' := by
  have hm : Rc.may .P (Rc.get .P c) = decide ((1 : Int) ≤ (c.pr.size : Int) ∧ (c.pr.size : Int) ≤ 1024) := by simp only [Rc.may, Rc.sz, Rc.get, Rc.least, Rc.most, ne_eq, reduceCtorEq, not_false_eq_true, decide_true, Bool.true_or, Bool.and_true]; exact decide_eq_decide.mpr Iff.rfl
  have hc := h.ca.cp
  have HT : Hid (∀ X, LkI w0 A G (X, Rc.set .P Rc.zV c, t) ((w.setCell ⟨G, 0, none⟩ (.bool X)).setCell ⟨A, 0 + 8, none⟩ (.string ⟨#[]⟩))) := fun X => by
    have h1 := h.want X
    exact h1.put (h1.ca.sp _) h1.tx h1.len
  have hz := h.ca.z (0 + 8)
  have hlk := h.lk
  have hn := h.hn
  have HM := hide hm
  clear hm
  generalize c.pr = n at *
  generalize 0 + 8 = q at *
  go_enter Try.func81, Try.ntmps81
  go_wp2_with fail
  refine (isWithin_any _ _ _ _).mono ?_
  rintro e w1 ⟨rfl, hw⟩
  obtain rfl := hw.symm
  generalize hD : decide ((1 : Int) ≤ (n.size : Int) ∧ (n.size : Int) ≤ 1024) = D
  have HM2 := hide (HM.out.trans ((decide_eq_decide.mpr Iff.rfl).trans hD))
  clear hD HM
  go_wp2_with fail
  refine (want_any hlk _).mono ?_
  rintro e w1 ⟨rfl, rfl⟩
  have hc2 : (w.setCell ⟨G, 0, none⟩ (.bool (b || !D))).cell? ⟨A, q, none⟩ = some (.string n) := cell_other hc hn
  have hz2 : (w.setCell ⟨G, 0, none⟩ (.bool (b || !D))).frozen? ⟨A, q, none⟩ = false := by rw [World.frozen?_setCell]; exact hz
  have HT2 := hide (HT.out (b || !D))
  generalize w.setCell ⟨G, 0, none⟩ (.bool (b || !D)) = w2 at *
  go_wp2
  go_end0
  exact ⟨rfl, by rw [HM2.out]; exact HT2.out⟩
theorem mayBitsR_any (c : Int) (n : Nat) (w : World) :
    Calls Try.prog 70 #[.agg #[.int .i64 c, .int .u64 (n : Int)]] w fun e w' => e = .returned (.bool (decide (c = 0 ∨ n = 0))) ∧ w' = w.alloc (.cells #[.int .i64 c, .int .u64 (n : Int)] 29) := by
  by_cases h : c = 0
  · subst h
    go_enter Try.func70, Try.ntmps70
    go_wp2
    go_ret
    exact ⟨by simp, rfl⟩
  · have b0 : (c == 0) = false := beq_eq_false_iff_ne.2 h
    have hd : decide (c = 0 ∨ n = 0) = ((n : Int) == 0) := by
      by_cases hn : n = 0
      · simp [hn]
      · simp [hn, h]
    rw [hd]
    clear h hd
    go_enter Try.func70, Try.ntmps70
    go_wp2
    go_ret
    exact ⟨by simp, rfl⟩
end Go.Proofs.Ytlgcimfbhjidgaa
end

section
namespace Go.Proofs.Ytlgcimfbhjidgaa
open Go.RowKit
open Rc (L V Ch)

theorem bc_str (l : List UInt8) : Go.Lib.strCells ⟨l.toArray⟩ = bc l := by simp [Go.Lib.strCells, bc]
theorem bc_str' (s : ByteArray) : Go.Lib.strCells s = bc s.data.toList := by simp [Go.Lib.strCells, bc]
/-- the writer: its block G, the bytes so far; the change in block A -/
structure Wt (n0 A G : Nat) (c : Ch) (t : Value) (acc : List UInt8) (w : World) : Prop where
  ca : Ca w A c t
  wt : ∃ v, w.heap[G]? = some (.cells #[v] 89 (0, 0)) ∧ w.ownsRow n0 5 1 v acc.length (bc acc)
  hA : n0 ≤ A
  hG : n0 ≤ G
theorem Wt.szG {n0 A G : Nat} {c : Ch} {t : Value} {acc : List UInt8} {w : World} (h : Wt n0 A G c t acc w) : n0 ≤ w.heap.size := Nat.le_of_lt (Nat.lt_of_le_of_lt h.hA h.ca.lt)
theorem own_type {w : World} {n0 n : Nat} {v : Value} {xs : List Value} (h : w.ownsRow n0 5 1 v n xs) {X : Nat} {cs : Array Value} {ty : TypeId} (hX : w.heap[X]? = some (.cells cs ty (0, 0))) (hty : ty ≠ 5) : some X ≠ v.ownBlock := by
  rcases h.2 with ⟨rfl, _⟩ | ⟨g, cap, cur, rfl, _, hg, _⟩
  · simp [Value.ownBlock]
  · intro e
    simp only [Value.ownBlock, Option.some.injEq] at e
    subst e
    rw [hg] at hX
    simp only [Option.some.injEq, Obj.cells.injEq] at hX
    exact hty hX.2.1.symm
theorem own_step {w w' : World} {n0 n : Nat} {v : Value} {xs : List Value} (h : w.ownsRow n0 5 1 v n xs) (hb : ∀ X, some X = v.ownBlock → w'.heap[X]? = w.heap[X]?) : w'.ownsRow n0 5 1 v n xs := by
  refine ⟨h.1, ?_⟩
  rcases h.2 with h2 | ⟨g, cap, cur, rfl, h3, hg, h4⟩
  · exact .inl h2
  · exact .inr ⟨g, cap, cur, rfl, h3, (hb g rfl).trans hg, h4⟩
theorem Wt.below {n0 A G : Nat} {c : Ch} {t : Value} {acc : List UInt8} {w w' : World} (h : Wt n0 A G c t acc w) (hb : Below w.heap.size w w') : Wt n0 A G c t acc w' := by
  obtain ⟨v, hv, ho⟩ := h.wt
  exact ⟨h.ca.block (hb.block _ h.ca.lt), ⟨v, (hb.block _ (lt_of_block hv)).trans hv, own_step ho fun X hX => hb.block _ (ho.lt X hX.symm).2⟩, h.hA, h.hG⟩
theorem Wt.drew {n0 A G : Nat} {c : Ch} {t : Value} {acc : List UInt8} {w : World} (h : Wt n0 A G c t acc w) : Wt n0 A G c t acc w.drew := h.below (Below.refl _ _).drew

theorem own_slice {w : World} {n0 n : Nat} {v : Value} {xs : List Value} (h : w.ownsRow n0 5 1 v n xs) : ∃ p m cap, v = .slice p m cap := by
  rcases h.2 with ⟨rfl, _⟩ | ⟨g, cap, cur, rfl, _⟩
  · exact ⟨_, _, _, rfl⟩
  · exact ⟨_, _, _, rfl⟩
/-- the writer alone -/
structure WtO (n0 G : Nat) (acc : List UInt8) (w : World) : Prop where
  wt : ∃ v, w.heap[G]? = some (.cells #[v] 89 (0, 0)) ∧ w.ownsRow n0 5 1 v acc.length (bc acc)
  hG : n0 ≤ G
theorem Wt.o {n0 A G : Nat} {c : Ch} {t : Value} {acc : List UInt8} {w : World} (h : Wt n0 A G c t acc w) : WtO n0 G acc w := ⟨h.wt, h.hG⟩
theorem WtO.with {n0 A G : Nat} {c : Ch} {t : Value} {acc : List UInt8} {w : World} (h : WtO n0 G acc w) (hc : Ca w A c t) (hA : n0 ≤ A) : Wt n0 A G c t acc w := ⟨hc, h.wt, hA, h.hG⟩
theorem WtO.szG {n0 G : Nat} {acc : List UInt8} {w : World} (h : WtO n0 G acc w) : n0 ≤ w.heap.size := by
  obtain ⟨v, hv, _⟩ := h.wt
  exact Nat.le_of_lt (Nat.lt_of_le_of_lt h.hG (lt_of_block hv))
theorem WtO.below {n0 G : Nat} {acc : List UInt8} {w w' : World} (h : WtO n0 G acc w) (hb : Below w.heap.size w w') : WtO n0 G acc w' := by
  obtain ⟨v, hv, ho⟩ := h.wt
  exact ⟨⟨v, (hb.block _ (lt_of_block hv)).trans hv, own_step ho fun X hX => hb.block _ (ho.lt X hX.symm).2⟩, h.hG⟩
/-- changes stay -/
def KeepC (w w' : World) : Prop := ∀ A c t, Ca w A c t → Ca w' A c t
theorem KeepC.trans {a b c : World} (h : KeepC a b) (k : KeepC b c) : KeepC a c := fun A c t hc => k A c t (h A c t hc)
theorem keepC_below {w w' : World} (hb : Below w.heap.size w w') : KeepC w w' := fun _ _ _ h => h.block (hb.block _ h.lt)
theorem lay_after {n0 G : Nat} {acc : List UInt8} {w w1 : World} {v v' : Value} {s : ByteArray} (HH : WtO n0 G acc w) (HV : w.heap[G]? = some (.cells #[v] 89 (0, 0))) (HO : w.ownsRow n0 5 1 v acc.length (bc acc))
    (hown : w1.ownsRow n0 5 1 v' (acc.length + s.size) (bc acc ++ Go.Lib.strCells s)) (hgrow : w.grownBy w1 v.ownBlock) :
    w1.cell? ⟨G, 0, none⟩ = some v ∧ w1.frozen? ⟨G, 0, none⟩ = false ∧ WtO n0 G (acc ++ s.data.toList) (w1.setCell ⟨G, 0, none⟩ v') ∧ Below n0 w (w1.setCell ⟨G, 0, none⟩ v') ∧ KeepC w (w1.setCell ⟨G, 0, none⟩ v') := by
  have hGo := own_type HO HV (by decide)
  have hg1 : w1.heap[G]? = some (.cells #[v] 89 (0, 0)) := (hgrow.block _ (lt_of_block HV) hGo).trans HV
  refine ⟨by simp [World.cell?, hg1], by simp [World.frozen?, hg1], ?_⟩
  rw [bc_str', ← bc_append, show acc.length + s.size = (acc ++ s.data.toList).length by rw [List.length_append]; rfl] at hown
  have hGo' := own_type hown hg1 (by decide)
  refine ⟨⟨⟨v', by rw [cells_set hg1]; rfl, own_step hown fun X hX => Below.heap_setCell _ _ _ _ (fun e => hGo' (by rw [show G = X from e.symm]; exact hX))⟩, HH.hG⟩, ?_, ?_⟩
  · exact ((Below.refl _ _).grown hgrow HH.szG (fun k hk => (HO.lt k hk).1)).setCell HH.hG _
  · intro A c t hc
    have hAo := own_type HO hc (by decide)
    have ha1 : Ca w1 A c t := hc.block (hgrow.block _ hc.lt hAo)
    refine ha1.block (Below.heap_setCell _ _ _ _ ?_)
    intro e; subst e
    unfold Ca at ha1; rw [hg1] at ha1
    simp only [Option.some.injEq, Obj.cells.injEq] at ha1
    exact absurd ha1.2.1 (by decide)
set_option maxHeartbeats 400000 in
set_option maxRecDepth 8000 in
theorem layO_any {n0 G : Nat} {acc : List UInt8} {w : World} (h : WtO n0 G acc w) (s : ByteArray) (hl : acc.length + s.size ≤ 140737488351232) :
    Calls Try.prog 45 #[.pointer (some ⟨G, 0, none⟩), .string s] w fun e w' => e = .returned (.tuple #[]) ∧ WtO n0 G (acc ++ s.data.toList) w' ∧ Below n0 w w' ∧ KeepC w w' := by
  obtain ⟨i0, hi, hz0, hz1, hz2⟩ := info_parts Try.infoB
  obtain ⟨v, hv, ho⟩ := h.wt
  have HO := hide ho
  have HA := hide (fun (w1 : World) (v' : Value) => lay_after (w1 := w1) (v' := v') (s := s) h hv ho)
  have cg : w.cell? ⟨G, 0, none⟩ = some v := by simp [World.cell?, hv]
  have hsz := h.szG
  clear h ho hv
  go_enter Try.func45, Try.ntmps45
  go_wp2_with (at_builtin; refine Go.Lib.wpList_append_own_string _ rfl _ _ 87 9 rfl n0 5 i0 Try.underlying87 Try.underlying9 hi hz0 hz1 hz2 v acc.length (bc acc) rfl HO.out s rfl (by unfold maxLen; omega) (by omega) hsz ?_; intro v' w1 hown hgrow hnil; obtain ⟨p', m', cap', rfl⟩ := own_slice hown; obtain ⟨cg1, zg1, hf⟩ := HA.out _ _ hown hgrow; replace hf := hide hf; clear HO HA hown hgrow hnil cg)
  go_end0
  exact ⟨rfl, hf.out⟩
theorem lay_any {n0 A G : Nat} {c : Ch} {t : Value} {acc : List UInt8} {w : World} (h : Wt n0 A G c t acc w) (s : ByteArray) (hl : acc.length + s.size ≤ 140737488351232) :
    Calls Try.prog 45 #[.pointer (some ⟨G, 0, none⟩), .string s] w fun e w' => e = .returned (.tuple #[]) ∧ Wt n0 A G c t (acc ++ s.data.toList) w' ∧ Below n0 w w' :=
  (layO_any h.o s hl).mono fun _ _ h' => ⟨h'.1, h'.2.1.with (h'.2.2.2 _ _ _ h.ca) h.hA, h'.2.2.1⟩
theorem layNumberO_any {n0 G : Nat} {acc : List UInt8} {w : World} (h : WtO n0 G acc w) (n : Nat) (hn : n < 9223372036854775808) (hl : acc.length ≤ 100000000) :
    Calls Try.prog 41 #[.pointer (some ⟨G, 0, none⟩), .int .i64 (n : Int)] w fun e w' => e = .returned (.tuple #[]) ∧ WtO n0 G (acc ++ Pk.enc n) w' ∧ Below n0 w w' ∧ KeepC w w' := by
  have HH := hide h
  have hsz := h.szG
  have h10 := Pk.enc_ten (n := n) (by omega)
  clear h
  go_enter Try.func41, Try.ntmps41
  go_wp2_with fail
  refine (pnum_any n (by omega) _).mono ?_
  rintro e w1 ⟨rfl, hb⟩
  have H1 := hide (HH.out.below hb)
  have hS : (⟨(Pk.enc n).toArray⟩ : ByteArray).size = (Pk.enc n).length := by simp [ByteArray.size]
  have HL := hide (layO_any H1.out ⟨(Pk.enc n).toArray⟩ (by omega))
  have HB := hide (And.intro (hb.mono hsz) (keepC_below hb))
  clear HH hb H1
  go_wp2_with fail
  refine HL.out.mono ?_
  rintro e w2 ⟨rfl, h2, hb2, hk2⟩
  have HF := hide (And.intro h2 (And.intro (HB.out.1.trans hb2) (HB.out.2.trans hk2)))
  clear h2 hb2 hk2 HL HB
  go_wp2
  go_end0
  exact ⟨rfl, HF.out⟩
theorem layNumber_any {n0 A G : Nat} {c : Ch} {t : Value} {acc : List UInt8} {w : World} (h : Wt n0 A G c t acc w) (n : Nat) (hn : n < 9223372036854775808) (hl : acc.length ≤ 100000000) :
    Calls Try.prog 41 #[.pointer (some ⟨G, 0, none⟩), .int .i64 (n : Int)] w fun e w' => e = .returned (.tuple #[]) ∧ Wt n0 A G c t (acc ++ Pk.enc n) w' ∧ Below n0 w w' :=
  (layNumberO_any h.o n hn hl).mono fun _ _ h' => ⟨h'.1, h'.2.1.with (h'.2.2.2 _ _ _ h.ca) h.hA, h'.2.2.1⟩
end Go.Proofs.Ytlgcimfbhjidgaa
end

section
namespace Go.Proofs.Ytlgcimfbhjidgaa
open Go.RowKit
open Rc (L V Ch)

theorem within_T {n lo hi : Int} (h : lo ≤ n ∧ n ≤ hi) (w : World) : Calls Try.prog 85 #[.int .i64 n, .int .i64 lo, .int .i64 hi] w fun e w' => e = .returned (.bool true) ∧ w' = w :=
  (isWithin_any n lo hi w).mono fun e w' ⟨h1, h2⟩ => ⟨by rw [h1, decide_eq_true h], h2⟩
theorem within_F {n lo hi : Int} (h : ¬ (lo ≤ n ∧ n ≤ hi)) (w : World) : Calls Try.prog 85 #[.int .i64 n, .int .i64 lo, .int .i64 hi] w fun e w' => e = .returned (.bool false) ∧ w' = w :=
  (isWithin_any n lo hi w).mono fun e w' ⟨h1, h2⟩ => ⟨by rw [h1, decide_eq_false h], h2⟩
theorem LkI.clrR {w0 w : World} {A G : Nat} {b : Bool} {c : Ch} {t : Value} (h : LkI w0 A G (b, c, t) w) : LkI w0 A G (b, Rc.set .R Rc.zV c, t) ((w.setCell ⟨A, 0 + 6, none⟩ (.int .i64 0)).setCell ⟨A, 0 + 6 + 1, none⟩ (.int .u64 0)) := by
  have h1 : LkI w0 A G (b, { c with rc := 0 }, t) (w.setCell ⟨A, 0 + 6, none⟩ (.int .i64 0)) := h.put (by unfold Ca; have := h.ca; unfold Ca at this; rw [cells_set this]; rfl) h.tx h.len
  exact h1.put (by unfold Ca; have := h1.ca; unfold Ca at this; rw [cells_set this]; rfl) h.tx h.len
set_option maxHeartbeats 400000 in
theorem lresult_any {w0 w : World} {A G : Nat} {b : Bool} {c : Ch} {t : Value} (h : LkI w0 A G (b, c, t) w) :
    Calls Try.prog 80 #[.pointer (some ⟨G, 0, none⟩), .pointer (some ⟨A, 0 + 6, none⟩)] w fun e w' => e = .returned (.tuple #[]) ∧ LkI w0 A G (b || !Rc.may .R (Rc.get .R c), Rc.set .R Rc.zV c, t) w' := by
  obtain ⟨hc, hc'⟩ := h.ca.cr
  have hz := h.ca.z (0 + 6)
  have hz' := h.ca.z (0 + 6 + 1)
  have hn := h.hn
  have hAl := h.ca.lt
  have hGl := h.lk.lt
  by_cases hw : (0 : Int) ≤ c.rc ∧ c.rc ≤ 7
  · have HM : Hid (Rc.may .R (Rc.get .R c) = decide (c.rc = 0 ∨ c.rb = 0)) := hide (by
      show (decide _ && (decide _ || decide _) && (decide _ || _)) = _
      rw [decide_eq_true (show (Rc.least .R : Int) ≤ Rc.sz .R (Rc.get .R c) ∧ Rc.sz .R (Rc.get .R c) ≤ (Rc.most .R : Int) from hw)]
      simp only [ne_eq, not_true_eq_false, decide_false, Bool.false_or, Bool.true_and, reduceCtorEq, not_false_eq_true, decide_true, Bool.true_or, Bool.and_true]
      exact decide_eq_decide.mpr Iff.rfl)
    have HT := hide (fun (o : Obj) (X : Bool) => ((h.alloc o).want X).clrR)
    have HL := hide (fun (o : Obj) => (h.alloc o).lk)
    have HZ := hide (fun (o : Obj) (k : Nat) => (h.alloc o).ca.z k)
    have HW := hide (within_T hw)
    have HB := hide (mayBitsR_any c.rc c.rb)
    clear h hw
    generalize c.rc = n at *
    generalize c.rb = m at *
    generalize 0 + 6 = q at *
    go_enter Try.func80, Try.ntmps80
    go_wp2_with fail
    refine (HW.out _).mono ?_
    rintro e w1 ⟨rfl, hw⟩
    obtain rfl := hw.symm
    go_wp2_with fail
    refine (HB.out _).mono ?_
    rintro e w1 ⟨rfl, rfl⟩
    generalize hD : decide (n = 0 ∨ m = 0) = D
    have HM2 := hide (HM.out.trans hD)
    clear hD HM
    have hc2 : (w.alloc (.cells #[.int .i64 n, .int .u64 (m : Int)] 29)).cell? ⟨A, q, none⟩ = some (.int .i64 n) := (World.cell?_alloc_past _ _ _ hAl).trans hc
    have hc2' : (w.alloc (.cells #[.int .i64 n, .int .u64 (m : Int)] 29)).cell? ⟨A, q + 1, none⟩ = some (.int .u64 (m : Int)) := (World.cell?_alloc_past _ _ _ hAl).trans hc'
    have HT2 := hide (HT.out (.cells #[.int .i64 n, .int .u64 (m : Int)] 29))
    have HL2 := hide (HL.out (.cells #[.int .i64 n, .int .u64 (m : Int)] 29))
    have hz2 : (w.alloc (.cells #[.int .i64 n, .int .u64 (m : Int)] 29)).frozen? ⟨A, q, none⟩ = false := HZ.out _ _
    have hz2' : (w.alloc (.cells #[.int .i64 n, .int .u64 (m : Int)] 29)).frozen? ⟨A, q + 1, none⟩ = false := HZ.out _ _
    clear HZ
    generalize w.alloc (.cells #[.int .i64 n, .int .u64 (m : Int)] 29) = w2 at *
    go_wp2_with fail
    refine (want_any HL2.out _).mono ?_
    rintro e w1 ⟨rfl, rfl⟩
    have hc3 : (w2.setCell ⟨G, 0, none⟩ (.bool (b || !D))).cell? ⟨A, q, none⟩ = some (.int .i64 n) := cell_other hc2 hn
    have hc3' : (w2.setCell ⟨G, 0, none⟩ (.bool (b || !D))).cell? ⟨A, q + 1, none⟩ = some (.int .u64 (m : Int)) := cell_other hc2' hn
    have hz3 : (w2.setCell ⟨G, 0, none⟩ (.bool (b || !D))).frozen? ⟨A, q, none⟩ = false := by rw [World.frozen?_setCell]; exact hz2
    have hz3' : (w2.setCell ⟨G, 0, none⟩ (.bool (b || !D))).frozen? ⟨A, q + 1, none⟩ = false := by rw [World.frozen?_setCell]; exact hz2'
    have HT3 := hide (HT2.out (b || !D))
    clear HT HT2 HL HL2 hc hc' hc2 hc2' hz hz' hz2 hz2'
    generalize w2.setCell ⟨G, 0, none⟩ (.bool (b || !D)) = w3 at *
    go_wp2
    go_end0
    exact ⟨rfl, by rw [HM2.out]; exact HT3.out⟩
  · have HM : Hid (Rc.may .R (Rc.get .R c) = false) := hide (by
      show (decide _ && (decide _ || decide _) && (decide _ || _)) = _
      rw [decide_eq_false (show ¬ ((Rc.least .R : Int) ≤ Rc.sz .R (Rc.get .R c) ∧ Rc.sz .R (Rc.get .R c) ≤ (Rc.most .R : Int)) from hw)]
      rfl)
    have HT := hide (fun (X : Bool) => (h.want X).clrR)
    have HL := hide h.lk
    have HW := hide (within_F hw)
    clear h hw
    generalize c.rc = n at *
    generalize c.rb = m at *
    generalize 0 + 6 = q at *
    go_enter Try.func80, Try.ntmps80
    go_wp2_with fail
    refine (HW.out _).mono ?_
    rintro e w1 ⟨rfl, hw⟩
    obtain rfl := hw.symm
    go_wp2_with fail
    refine (want_any HL.out _).mono ?_
    rintro e w1 ⟨rfl, rfl⟩
    have hc3 : (w.setCell ⟨G, 0, none⟩ (.bool (b || !false))).cell? ⟨A, q, none⟩ = some (.int .i64 n) := cell_other hc hn
    have hc3' : (w.setCell ⟨G, 0, none⟩ (.bool (b || !false))).cell? ⟨A, q + 1, none⟩ = some (.int .u64 (m : Int)) := cell_other hc' hn
    have hz3 : (w.setCell ⟨G, 0, none⟩ (.bool (b || !false))).frozen? ⟨A, q, none⟩ = false := by rw [World.frozen?_setCell]; exact hz
    have hz3' : (w.setCell ⟨G, 0, none⟩ (.bool (b || !false))).frozen? ⟨A, q + 1, none⟩ = false := by rw [World.frozen?_setCell]; exact hz'
    have HT3 := hide (HT.out (b || !false))
    clear HT HL hc hc' hz hz'
    generalize w.setCell ⟨G, 0, none⟩ (.bool (b || !false)) = w3 at *
    go_wp2
    go_end0
    exact ⟨rfl, by rw [HM.out]; exact HT3.out⟩
/-- texts looked at so far -/
def okT (l : List ByteArray) : Bool := l.all fun t => decide (t.size ≤ 32)
theorem okT_step {l : List ByteArray} {k : Nat} (h : k < l.length) : okT (l.take (k + 1)) = (okT (l.take k) && decide ((l[k]!).size ≤ 32)) := by
  rw [← List.take_append_getElem h, getElem!_pos l k h]; simp only [okT, List.all_append, List.all_cons, List.all_nil, Bool.and_true]
set_option maxHeartbeats 400000 in
theorem ltexts_any {w0 w : World} {A G : Nat} {b : Bool} {c : Ch} {t : Value} (h : LkI w0 A G (b, c, t) w) :
    Calls Try.prog 82 #[.pointer (some ⟨G, 0, none⟩), .pointer (some ⟨A, 0 + 9, none⟩)] w fun e w' => e = .returned (.tuple #[]) ∧ LkI w0 A G (b || !Rc.may .T (Rc.get .T c), Rc.set .T Rc.zV c, .slice none 0 0) w' := by
  obtain ⟨p, cap, ht, h2⟩ := h.tx
  simp only at ht h2
  subst ht
  have hm : Rc.may .T (Rc.get .T c) = (decide ((1 : Int) ≤ (c.tx.length : Int) ∧ (c.tx.length : Int) ≤ 8) && okT c.tx) := by
    show (decide _ && (decide _ || decide _) && (decide _ || _)) = _
    simp only [ne_eq, reduceCtorEq, not_false_eq_true, decide_true, Bool.true_or, Bool.and_true, not_true_eq_false, decide_false, Bool.false_or]
    rfl
  have hlen := h.len
  simp only at hlen
  have HX := hide h2
  have HM := hide hm
  have HI := hide h
  have hct := h.ca.ct
  have hlk := h.lk
  clear h h2 hm
  generalize hn : c.tx.length = n at *
  go_enter Try.func82, Try.ntmps82
  go_wp2_with fail
  refine (isWithin_any _ _ _ _).mono ?_
  rintro e w1 ⟨rfl, hw⟩
  obtain rfl := hw.symm
  generalize hD : decide ((1 : Int) ≤ (n : Int) ∧ (n : Int) ≤ 8) = D
  have HM2 : Hid (Rc.may .T (Rc.get .T c) = (D && okT c.tx)) := hide (by rw [HM.out, ← hD])
  clear hD HM
  go_wp2_with fail
  refine (want_any hlk _).mono ?_
  rintro e w1 ⟨rfl, rfl⟩
  have HI2 := hide (HI.out.want (b || !D))
  have hct2 := HI2.out.ca.ct
  clear HI hct hlk
  generalize w.setCell ⟨G, 0, none⟩ (.bool (b || !D)) = w2 at *
  go_wp2_with fail
  go_loopw [17] (fun s wr => ∃ k : Nat, k ≤ n ∧ s = .int .i64 (k : Int) ∧ Hid (LkI w0 A G (b || !(D && okT (c.tx.take k)), c, .slice p n cap) wr)) (fun s _ => n - (intOf s).toNat)
  case atStart => exact ⟨0, Nat.zero_le _, rfl, hide (by have := HI2.out; simpa [okT] using this)⟩
  case round =>
    obtain ⟨k, hk, rfl, HK⟩ := hrel
    by_cases hkl : k < n
    · obtain ⟨bb, off, rfl, hlt, hx⟩ := HX.out (by omega)
      have hcx : wr.cell? ⟨bb, off + k, none⟩ = some (.string c.tx[k]!) := (HK.out.bel.cell (p := ⟨bb, off + k, none⟩) hlt).trans (hx k hkl)
      have HS := hide (okT_step (l := c.tx) (k := k) (by omega))
      have hlk := HK.out.lk
      have HW := hide (fun X => HK.out.want X)
      generalize c.tx[k]! = tt at *
      have hki : (k : Int) < (n : Int) := by omega
      have hbl : bb < wr.heap.size := Nat.lt_of_lt_of_le hlt HK.out.bel.size
      clear hx HK
      go_wp2_with fail
      refine (want_any hlk _).mono ?_
      rintro e w1 ⟨rfl, rfl⟩
      have HW2 := hide (HW.out (b || !(D && okT (List.take k c.tx)) || !decide ((tt.size : Int) ≤ 32)))
      generalize wr.setCell ⟨G, 0, none⟩ (.bool (b || !(D && okT (List.take k c.tx)) || !decide ((tt.size : Int) ≤ 32))) = w3 at *
      go_wp2
      go_roundw
      case rel => exact ⟨k + 1, by omega, by go_num, hide (by
        have := HW2.out
        rw [HS.out]
        have e : (b || !(D && (okT (List.take k c.tx) && decide (tt.size ≤ 32)))) = (b || !(D && okT (List.take k c.tx)) || !decide ((tt.size : Int) ≤ 32)) := by
          rw [show decide ((tt.size : Int) ≤ 32) = decide (tt.size ≤ 32) from decide_eq_decide.mpr (by omega)]
          cases b <;> cases D <;> cases okT (List.take k c.tx) <;> simp
        rw [e]; exact this)⟩
      case measure => simp [intOf]; omega
    · obtain rfl : k = n := by omega
      have hki : ¬ (k : Int) < (k : Int) := by omega
      have HF : Hid (LkI w0 A G (b || !(D && okT c.tx), Rc.set .T Rc.zV c, .slice none 0 0) (wr.setCell ⟨A, 0 + 9, none⟩ (.slice none 0 0))) := hide (by
        have h9 := HK.out
        rw [← hn, List.take_length] at h9
        exact h9.put (h9.ca.st _ []) (Tx.nil _) (by simp [Rc.set, Rc.zV]))
      have hct3 : wr.cell? ⟨A, 9, none⟩ = _ := HK.out.ca.ct
      have hz3 := HK.out.ca.z 9
      clear HK
      go_wp2
      go_end0
      exact ⟨rfl, by rw [HM2.out]; exact HF.out⟩
end Go.Proofs.Ytlgcimfbhjidgaa
end

section
namespace Go.Proofs.Ytlgcimfbhjidgaa
open Go.RowKit
open Rc (L V Ch)

theorem Wt.off {n0 A G : Nat} {c : Ch} {t : Value} {acc : List UInt8} {w : World} (h : Wt n0 A G c t acc w) : Ca w A c t := h.ca
theorem wwhole_any {n0 A G : Nat} {c : Ch} {t : Value} {acc : List UInt8} {w : World} (h : Wt n0 A G c t acc w) {l : L} (hl : isW l = true) (lo hi : Int) (hm : Rc.may l (Rc.get l c) = true) (ha : acc.length ≤ 90000000) :
    Calls Try.prog 89 #[.pointer (some ⟨G, 0, none⟩), .pointer (some ⟨A, 0 + offL l, none⟩), .int .i64 lo, .int .i64 hi] w fun e w' => e = .returned (.tuple #[]) ∧ Wt n0 A G c t (acc ++ Rc.lay l (Rc.get l c)) w' ∧ Below n0 w w' := by
  have hb := Rc.may_num hm
  obtain ⟨x, hx, hx2⟩ : ∃ x : Nat, (Rc.get l c).i = (x : Int) ∧ x < 9223372036854775808 := by
    refine ⟨(Rc.get l c).i.toNat, ?_, ?_⟩ <;> (cases l <;> first | (cases hl; done) | (simp only [Rc.sz, Rc.least, Rc.most] at hb; omega))
  have hlay : Rc.lay l (Rc.get l c) = Pk.enc x := by
    cases l <;> first | (cases hl; done) | (simp only [Rc.lay, hx, Int.toNat_natCast])
  rw [hlay]
  have hc := h.ca.cw hl
  rw [hx] at hc
  have HL := hide (layNumber_any h x hx2 (by omega))
  clear h hb hm hlay hx
  generalize 0 + offL l = q at *
  go_enter Try.func89, Try.ntmps89
  go_wp2_with fail
  refine HL.out.mono ?_
  rintro e w1 ⟨rfl, h1⟩
  replace h1 := hide h1
  clear HL
  go_wp2
  go_end0
  exact ⟨rfl, h1.out⟩
theorem wtext_any {n0 A G : Nat} {c : Ch} {t : Value} {acc : List UInt8} {w : World} (h : Wt n0 A G c t acc w) (lo hi : Int) (hm : Rc.may .P (Rc.get .P c) = true) (ha : acc.length ≤ 90000000) :
    Calls Try.prog 87 #[.pointer (some ⟨G, 0, none⟩), .pointer (some ⟨A, 0 + 8, none⟩), .int .i64 lo, .int .i64 hi] w fun e w' => e = .returned (.tuple #[]) ∧ Wt n0 A G c t (acc ++ Rc.lay .P (Rc.get .P c)) w' ∧ Below n0 w w' := by
  have hb := Rc.may_num hm
  simp only [Rc.sz, Rc.get, Rc.most] at hb
  have hc := h.ca.cp
  have hs : c.pr.size ≤ 1024 := by omega
  have hd : ((⟨(Pk.enc c.pr.size).toArray⟩ : ByteArray) ++ c.pr).data.toList = Rc.lay .P (Rc.get .P c) := by simp [Rc.lay, Rc.get]
  have hz : ((⟨(Pk.enc c.pr.size).toArray⟩ : ByteArray) ++ c.pr).size ≤ 2000 := by
    have := Pk.enc_ten (n := c.pr.size) (by omega)
    rw [ByteArray.size_append]; simp only [ByteArray.size, List.size_toArray] at this hs ⊢; omega
  have HW := hide (fun (w1 : World) (hb : Below w.heap.size w w1) => lay_any (h.below hb) ((⟨(Pk.enc c.pr.size).toArray⟩ : ByteArray) ++ c.pr) (by omega))
  have HB := hide (fun (w1 : World) (hb : Below w.heap.size w w1) => hb.mono h.szG)
  have HT := hide (ptext_any c.pr (by omega))
  rw [← hd]
  clear h hb hm hd hz
  generalize c.pr = s at *
  generalize 0 + 8 = q at *
  go_enter Try.func87, Try.ntmps87
  go_wp2_with fail
  refine (HT.out _).mono ?_
  rintro e w1 ⟨rfl, hb1⟩
  have HW1 := hide (HW.out _ hb1)
  have HB1 := hide (HB.out _ hb1)
  clear HW HB hb1
  go_wp2_with fail
  refine HW1.out.mono ?_
  rintro e w2 ⟨rfl, h2, hb2⟩
  have HF := hide (And.intro h2 (HB1.out.trans hb2))
  clear HW1 HB1 h2 hb2
  go_wp2
  go_end0
  exact ⟨rfl, HF.out⟩
theorem wresult_any {n0 A G : Nat} {c : Ch} {t : Value} {acc : List UInt8} {w : World} (h : Wt n0 A G c t acc w) (hm : Rc.may .R (Rc.get .R c) = true) (hr : c.rb < 18446744073709551616) (ha : acc.length ≤ 90000000) :
    Calls Try.prog 86 #[.pointer (some ⟨G, 0, none⟩), .pointer (some ⟨A, 0 + 6, none⟩)] w fun e w' => e = .returned (.tuple #[]) ∧ Wt n0 A G c t (acc ++ Rc.lay .R (Rc.get .R c)) w' ∧ Below n0 w w' := by
  have hb := Rc.may_num hm
  simp only [Rc.sz, Rc.get, Rc.most, Rc.least] at hb
  obtain ⟨hc, _⟩ := h.ca.cr
  obtain ⟨x, hx⟩ : ∃ x : Nat, c.rc = (x : Int) := ⟨c.rc.toNat, by omega⟩
  have hd : acc ++ Rc.lay .R (Rc.get .R c) = acc ++ Pk.enc x ++ (⟨(Pk.big8 c.rb).toArray⟩ : ByteArray).data.toList := by simp [Rc.lay, Rc.get, hx]
  rw [hx] at hc
  have h10 := Pk.enc_ten (n := x) (by omega)
  rw [hd]
  have HL := hide (layNumber_any h x (by omega) (by omega))
  have HT := hide (pbits_any c.rb hr)
  clear h hb hm hd hx
  go_enter Try.func86, Try.ntmps86
  go_wp2_with fail
  refine HL.out.mono ?_
  rintro e w1 ⟨rfl, h1, hb1⟩
  obtain ⟨-, hc1⟩ := h1.ca.cr
  have H1 := hide h1
  have HB1 := hide hb1
  simp only [Nat.zero_add] at hc1
  clear HL hc h1 hb1
  go_wp2_with fail
  refine (HT.out _).mono ?_
  rintro e w2 ⟨rfl, hb2⟩
  have hsz : (⟨(Pk.big8 c.rb).toArray⟩ : ByteArray).size = 8 := rfl
  have H2 := hide (lay_any (H1.out.below hb2) ⟨(Pk.big8 c.rb).toArray⟩ (by rw [List.length_append, hsz]; omega))
  have HB2 := hide (HB1.out.trans (hb2.mono H1.out.szG))
  clear H1 HB1 hb2 hsz
  go_wp2_with fail
  refine H2.out.mono ?_
  rintro e w3 ⟨rfl, h3, hb3⟩
  have HF := hide (And.intro h3 (HB2.out.trans hb3))
  clear H2 HB2 h3 hb3
  go_wp2
  go_end0
  exact ⟨rfl, HF.out⟩
end Go.Proofs.Ytlgcimfbhjidgaa
end

section
namespace Go.Proofs.Ytlgcimfbhjidgaa
open Go.RowKit
open Rc (L V Ch)

theorem layT_step {l : List ByteArray} {k : Nat} (h : k < l.length) : Rc.layT (l.take (k + 1)) = Rc.layT (l.take k) ++ (Pk.enc (l[k]!).size ++ (l[k]!).data.toList) := by
  rw [← List.take_append_getElem h, getElem!_pos l k h]; simp only [Rc.layT, List.flatMap_append, List.flatMap_cons, List.flatMap_nil, List.append_nil]
theorem layT_len (l : List ByteArray) (h : ∀ t ∈ l, t.size ≤ 32) : (Rc.layT l).length ≤ l.length * 42 := by
  induction l with
  | nil => simp [Rc.layT]
  | cons t l ih =>
    have h1 := h t List.mem_cons_self
    have h2 := ih fun x hx => h x (List.mem_cons_of_mem _ hx)
    have h10 := Pk.enc_ten (n := t.size) (by omega)
    have e : (Rc.layT (t :: l)).length = (Pk.enc t.size).length + t.size + (Rc.layT l).length := by simp [Rc.layT]; omega
    rw [e, List.length_cons]; omega
theorem lay_len {l : L} {v : V} (h : Rc.may l v = true) : (Rc.lay l v).length ≤ 1100 := by
  have hb := Rc.may_num h
  cases l
  case R => 
    simp only [Rc.sz, Rc.most] at hb
    have := Pk.enc_ten (n := v.i.toNat) (by omega)
    simp only [Rc.lay, List.length_append, show (Pk.big8 v.n).length = 8 from rfl]; omega
  case P =>
    simp only [Rc.sz, Rc.most] at hb
    have := Pk.enc_ten (n := v.t.size) (by omega)
    simp only [Rc.lay, List.length_append, show v.t.data.toList.length = v.t.size from rfl]; omega
  case T =>
    simp only [Rc.sz, Rc.most] at hb
    have := Pk.enc_ten (n := v.l.length) (by omega)
    have h2 : ∀ t ∈ v.l, t.size ≤ 32 := by
      unfold Rc.may at h; simp only [Bool.and_eq_true, decide_eq_true_eq, Bool.or_eq_true] at h
      rcases h.2 with h | h
      · exact absurd rfl h
      · simpa using h
    have := layT_len v.l h2
    simp only [Rc.lay, List.length_append]; omega
  all_goals
    simp only [Rc.sz, Rc.most] at hb
    have := Pk.enc_ten (n := v.i.toNat) (by omega)
    simp only [Rc.lay]; omega
set_option maxHeartbeats 400000 in
theorem wtexts_any {w0 : World} {A G : Nat} {c : Ch} {t : Value} {acc : List UInt8} {w : World} (h : Wt w0.heap.size A G c t acc w) (hB : Below w0.heap.size w0 w) (hT : Tx w0 t c.tx) (hm : Rc.may .T (Rc.get .T c) = true) (ha : acc.length ≤ 90000000) :
    Calls Try.prog 88 #[.pointer (some ⟨G, 0, none⟩), .pointer (some ⟨A, 0 + 9, none⟩)] w fun e w' => e = .returned (.tuple #[]) ∧ Wt w0.heap.size A G c t (acc ++ Rc.lay .T (Rc.get .T c)) w' ∧ Below w0.heap.size w0 w' := by
  have hb := Rc.may_num hm
  simp only [Rc.sz, Rc.get, Rc.most, Rc.least] at hb
  have h32 : ∀ j, j < c.tx.length → (c.tx[j]!).size ≤ 32 := by
    unfold Rc.may at hm; simp only [Bool.and_eq_true, decide_eq_true_eq, Bool.or_eq_true] at hm
    rcases hm.2 with h | h
    · exact absurd rfl h
    · intro j hj
      rw [getElem!_pos c.tx j hj]
      simp only [Rc.get, List.all_eq_true, decide_eq_true_eq] at h
      exact h _ (List.getElem_mem hj)
  obtain ⟨p, cap, ht, hx⟩ := hT
  obtain ⟨bb, off, rfl, hlt, hx⟩ := hx (by omega)
  subst ht
  have HX := hide hx
  have H32 := hide h32
  have hlay : Rc.lay .T (Rc.get .T c) = Pk.enc c.tx.length ++ Rc.layT c.tx := rfl
  rw [hlay]
  have hlen := layT_len c.tx (fun t ht => by
    obtain ⟨j, hj, e⟩ := List.mem_iff_getElem.mp ht
    have := h32 j hj
    rw [getElem!_pos c.tx j hj, e] at this; exact this)
  have hct : w.cell? ⟨A, 9, none⟩ = some (.slice (some ⟨bb, off, none⟩) c.tx.length cap) := h.ca.ct
  have HL := hide (layNumber_any h c.tx.length (by omega) (by omega))
  have HB := hide hB
  have h10 := Pk.enc_ten (n := c.tx.length) (by omega)
  have htl : ∀ k, (Rc.layT (c.tx.take k)).length ≤ 42 * 8 := fun k => by
    have := layT_len (c.tx.take k) (fun t ht => by
      obtain ⟨j, hj, e⟩ := List.mem_iff_getElem.mp (List.mem_of_mem_take ht)
      have := h32 j hj
      rw [getElem!_pos c.tx j hj, e] at this; exact this)
    have h2 : (c.tx.take k).length ≤ 8 := by rw [List.length_take]; omega
    omega
  have HTL := hide htl
  clear h hm hlay hx h32 hB hlen htl
  generalize hn : c.tx.length = n at *
  go_enter Try.func88, Try.ntmps88
  go_wp2_with fail
  refine HL.out.mono ?_
  rintro e w1 ⟨rfl, h1, hb1⟩
  have hct1 : w1.cell? ⟨A, 9, none⟩ = some (.slice (some ⟨bb, off, none⟩) n cap) := h1.ca.ct
  have H1 := hide h1
  have HB1 := hide (HB.out.trans hb1)
  clear HL hct h1 hb1 HB
  go_wp2_with fail
  go_loopw [16] (fun s wr => ∃ k : Nat, k ≤ n ∧ s = .int .i64 (k : Int) ∧ Hid (Wt w0.heap.size A G c (.slice (some ⟨bb, off, none⟩) n cap) (acc ++ Pk.enc n ++ Rc.layT (c.tx.take k)) wr) ∧ Hid (Below w0.heap.size w0 wr)) (fun s _ => n - (intOf s).toNat)
  case atStart => exact ⟨0, Nat.zero_le _, rfl, hide (by have := H1.out; simpa [Rc.layT] using this), HB1⟩
  case round =>
    obtain ⟨k, hk, rfl, HK, HBk⟩ := hrel
    by_cases hkl : k < n
    · have hcx : wr.cell? ⟨bb, off + k, none⟩ = some (.string c.tx[k]!) := (HBk.out.cell (p := ⟨bb, off + k, none⟩) hlt).trans (HX.out k hkl)
      have HS := hide (layT_step (l := c.tx) (k := k) (by omega))
      have hsz := H32.out k hkl
      have htl := HTL.out k
      generalize c.tx[k]! = tt at *
      have hki : (k : Int) < (n : Int) := by omega
      have hbl : bb < wr.heap.size := Nat.lt_of_lt_of_le hlt HBk.out.size
      have HT := hide (ptext_any tt (by omega))
      go_wp2_with fail
      refine (HT.out _).mono ?_
      rintro e w2 ⟨rfl, hb2⟩
      have he10 := Pk.enc_ten (n := tt.size) (by omega)
      have hz : ((⟨(Pk.enc tt.size).toArray⟩ : ByteArray) ++ tt).size ≤ 100 := by
        rw [ByteArray.size_append]; simp only [ByteArray.size, List.size_toArray] at he10 hsz ⊢; omega
      have HL := hide (lay_any (HK.out.below hb2) ((⟨(Pk.enc tt.size).toArray⟩ : ByteArray) ++ tt) (by rw [List.length_append, List.length_append]; omega))
      have HB2 := hide (HBk.out.trans (hb2.mono HK.out.szG))
      clear HK HBk hb2 hz HT
      go_wp2_with fail
      refine HL.out.mono ?_
      rintro e w3 ⟨rfl, h3, hb3⟩
      have H3 := hide h3
      have HB3 := hide (HB2.out.trans hb3)
      clear HL HB2 h3 hb3
      go_wp2
      go_roundw
      case rel => exact ⟨k + 1, by omega, by go_num, hide (by
        have := H3.out
        rw [HS.out, ← List.append_assoc]
        simpa using this), HB3⟩
      case measure => simp [intOf]; omega
    · obtain rfl : k = n := by omega
      have hki : ¬ (k : Int) < (k : Int) := by omega
      have HF := hide (And.intro HK.out HBk.out)
      clear HK HBk
      go_wp2
      go_end0
      refine ⟨rfl, ?_⟩
      have := HF.out
      rw [← hn, List.take_length, List.append_assoc] at this
      rw [← hn]; exact this
end Go.Proofs.Ytlgcimfbhjidgaa
end
