import Derived.Test.YtepondcflkledaaGreatMgAR
import Derived.Test.YtepondcflkledaaGreatMgAI
import Derived.Lib.AppendStr
import Derived.Laws.StructEq

section
namespace Go.Proofs.YtepondcflkledaaGreat
set_option maxRecDepth 20000
open Go.RowKit
open Rc (L V Ch)

/-- texts in memory -/
structure Tx (w : World) (v : Value) (l : List ByteArray) : Prop where
  form : ∃ p cap, v = .slice p l.length cap ∧ (0 < l.length → ∃ b off, p = some ⟨b, off, none⟩ ∧ b < w.heap.size ∧ ∀ j, j < l.length → w.cell? ⟨b, off + j, none⟩ = some (.string l[j]!))
theorem Tx.below {w w' : World} {v : Value} {l : List ByteArray} (h : Tx w v l) {n : Nat} (hb : Below n w w') (hn : w.heap.size ≤ n) : Tx w' v l := by
  obtain ⟨p, cap, hv, h2⟩ := h
  refine ⟨p, cap, hv, fun h0 => ?_⟩
  obtain ⟨b, off, hp, hlt, hc⟩ := h2 h0
  exact ⟨b, off, hp, Nat.lt_of_lt_of_le hlt hb.size, fun j hj => (hb.cell (p := ⟨b, off + j, none⟩) (Nat.lt_of_lt_of_le hlt hn)).trans (hc j hj)⟩
theorem Tx.nil (w : World) : Tx w (.slice none 0 0) [] := ⟨none, 0, rfl, fun h => absurd h (by simp)⟩
/-- a change in a block of its own -/
def Ca (w : World) (A : Nat) (c : Ch) (t : Value) : Prop := w.heap[A]? = some (.cells (chC c t) 78 (0, 0))
theorem Ca.lt {w : World} {A : Nat} {c : Ch} {t : Value} (h : Ca w A c t) : A < w.heap.size := lt_of_block h
theorem Ca.z {w : World} {A : Nat} {c : Ch} {t : Value} (h : Ca w A c t) (k : Nat) : w.frozen? ⟨A, k, none⟩ = false := by unfold Ca at h; simp [World.frozen?, h]
def isW : L → Bool
  | .R => false | .P => false | .T => false | _ => true
theorem Ca.c0 {w : World} {A : Nat} {c : Ch} {t : Value} (h : Ca w A c t) : w.cell? ⟨A, 0, none⟩ = some (.int .i64 c.k) := by unfold Ca at h; simp [World.cell?, h, chC]
theorem Ca.cw {w : World} {A : Nat} {c : Ch} {t : Value} (h : Ca w A c t) {l : L} (hl : isW l = true) : w.cell? ⟨A, 0 + offL l, none⟩ = some (.int .i64 (Rc.get l c).i) := by
  unfold Ca at h; cases l <;> first | (cases hl; done) | simp [World.cell?, h, chC, offL, Rc.get]
theorem Ca.cp {w : World} {A : Nat} {c : Ch} {t : Value} (h : Ca w A c t) : w.cell? ⟨A, 0 + 8, none⟩ = some (.string c.pr) := by unfold Ca at h; simp [World.cell?, h, chC]
theorem Ca.ct {w : World} {A : Nat} {c : Ch} {t : Value} (h : Ca w A c t) : w.cell? ⟨A, 0 + 9, none⟩ = some t := by unfold Ca at h; simp [World.cell?, h, chC]
theorem Ca.cr {w : World} {A : Nat} {c : Ch} {t : Value} (h : Ca w A c t) : w.cell? ⟨A, 0 + 6, none⟩ = some (.int .i64 c.rc) ∧ w.cell? ⟨A, 0 + 6 + 1, none⟩ = some (.int .u64 (c.rb : Int)) := by unfold Ca at h; simp [World.cell?, h, chC]
theorem Ca.sw {w : World} {A : Nat} {c : Ch} {t : Value} (h : Ca w A c t) {l : L} (hl : isW l = true) (x : Int) : Ca (w.setCell ⟨A, 0 + offL l, none⟩ (.int .i64 x)) A (Rc.set l ⟨x, 0, Rc.e0, []⟩ c) t := by
  unfold Ca at h ⊢
  rw [cells_set h]
  cases l <;> first | (cases hl; done) | rfl
theorem Ca.sp {w : World} {A : Nat} {c : Ch} {t : Value} (h : Ca w A c t) (x : ByteArray) : Ca (w.setCell ⟨A, 0 + 8, none⟩ (.string x)) A { c with pr := x } t := by
  unfold Ca at h ⊢; rw [cells_set h]; rfl
theorem Ca.st {w : World} {A : Nat} {c : Ch} {t : Value} (h : Ca w A c t) (x : Value) (ts : List ByteArray) : Ca (w.setCell ⟨A, 0 + 9, none⟩ x) A { c with tx := ts } x := by
  unfold Ca at h ⊢; rw [cells_set h]; rfl
theorem Ca.sr {w : World} {A : Nat} {c : Ch} {t : Value} (h : Ca w A c t) (x : Int) (y : Nat) : Ca ((w.setCell ⟨A, 0 + 6, none⟩ (.int .i64 x)).setCell ⟨A, 0 + 6 + 1, none⟩ (.int .u64 (y : Int))) A { c with rc := x, rb := y } t := by
  unfold Ca at h ⊢; rw [cells_set (cells_set h _ _)]; rfl
theorem Ca.block {w w' : World} {A : Nat} {c : Ch} {t : Value} (h : Ca w A c t) (e : w'.heap[A]? = w.heap[A]?) : Ca w' A c t := e.trans h
/-- the looker -/
def Lk (w : World) (G : Nat) (b : Bool) : Prop := w.heap[G]? = some (.cells #[.bool b] 161 (0, 0))
theorem Lk.c {w : World} {G : Nat} {b : Bool} (h : Lk w G b) : w.cell? ⟨G, 0, none⟩ = some (.bool b) := by unfold Lk at h; simp [World.cell?, h]
theorem Lk.z {w : World} {G : Nat} {b : Bool} (h : Lk w G b) : w.frozen? ⟨G, 0, none⟩ = false := by unfold Lk at h; simp [World.frozen?, h]
theorem Lk.lt {w : World} {G : Nat} {b : Bool} (h : Lk w G b) : G < w.heap.size := lt_of_block h
theorem Lk.set {w : World} {G : Nat} {b : Bool} (h : Lk w G b) (b' : Bool) : Lk (w.setCell ⟨G, 0, none⟩ (.bool b')) G b' := by unfold Lk at h ⊢; rw [cells_set h]; rfl
/-- the looker's state -/
structure LkI (w0 : World) (A G : Nat) (s : Bool × Ch × Value) (w : World) : Prop where
  ca : Ca w A s.2.1 s.2.2
  lk : Lk w G s.1
  bel : Below w0.heap.size w0 w
  tx : Tx w0 s.2.2 s.2.1.tx
  hA : w0.heap.size ≤ A
  hG : w0.heap.size ≤ G
  hn : A ≠ G
  len : s.2.1.tx.length ≤ 140737488351232
theorem LkI.want {w0 w : World} {A G : Nat} {b : Bool} {c : Ch} {t : Value} (h : LkI w0 A G (b, c, t) w) (b' : Bool) : LkI w0 A G (b', c, t) (w.setCell ⟨G, 0, none⟩ (.bool b')) :=
  ⟨h.ca.block (Below.heap_setCell _ _ _ _ h.hn), h.lk.set b', h.bel.setCell h.hG _, h.tx, h.hA, h.hG, h.hn, h.len⟩
theorem LkI.alloc {w0 w : World} {A G : Nat} {s : Bool × Ch × Value} (h : LkI w0 A G s w) (o : Obj) : LkI w0 A G s (w.alloc o) :=
  ⟨h.ca.block (Below.heap_alloc _ _ _ h.ca.lt), (Below.heap_alloc _ _ _ h.lk.lt).trans h.lk, h.bel.alloc h.bel.size _, h.tx, h.hA, h.hG, h.hn, h.len⟩
theorem LkI.drew {w0 w : World} {A G : Nat} {s : Bool × Ch × Value} (h : LkI w0 A G s w) : LkI w0 A G s w.drew := ⟨h.ca, h.lk, h.bel.drew, h.tx, h.hA, h.hG, h.hn, h.len⟩
theorem LkI.put {w0 w : World} {A G : Nat} {b : Bool} {c c' : Ch} {t t' : Value} (h : LkI w0 A G (b, c, t) w) {k : Nat} {u : Value} (hc : Ca (w.setCell ⟨A, k, none⟩ u) A c' t') (ht : Tx w0 t' c'.tx) (hl : c'.tx.length ≤ 140737488351232) : LkI w0 A G (b, c', t') (w.setCell ⟨A, k, none⟩ u) :=
  ⟨hc, (Below.heap_setCell _ _ _ _ (fun e => h.hn e.symm)).trans h.lk, h.bel.setCell h.hA _, ht, h.hA, h.hG, h.hn, hl⟩

theorem isWithin_any (n lo hi : Int) (w : World) : Calls Tryz.prog 174 #[.int .i64 n, .int .i64 lo, .int .i64 hi] w fun e w' => e = .returned (.bool (decide (lo ≤ n ∧ n ≤ hi))) ∧ w' = w := by
  by_cases h : lo ≤ n
  · have hd : decide (lo ≤ n ∧ n ≤ hi) = decide (n ≤ hi) := by simp [h]
    rw [hd]
    go_enter Tryz.func174, Tryz.ntmps174
    go_wp2
    go_ret
    exact ⟨rfl, rfl⟩
  · have hd : decide (lo ≤ n ∧ n ≤ hi) = false := by simp [h]
    rw [hd]
    go_enter Tryz.func174, Tryz.ntmps174
    go_wp2
    go_ret
    exact ⟨rfl, rfl⟩
theorem want_any {w : World} {G : Nat} {b : Bool} (h : Lk w G b) (m : Bool) : Calls Tryz.prog 172 #[.pointer (some ⟨G, 0, none⟩), .bool m] w fun e w' => e = .returned (.tuple #[]) ∧ w' = w.setCell ⟨G, 0, none⟩ (.bool (b || !m)) := by
  have hc := h.c
  have hz := h.z
  have hnot : ∀ (x : Bool) (w : World), (Op.unary .not (.bool x)).run Tryz.prog w = .ok (.bool (!x)) w := fun _ _ => rfl
  cases b
  · go_enter Tryz.func172, Tryz.ntmps172
    go_wp2
    go_end0
    exact ⟨rfl, by simp⟩
  · go_enter Tryz.func172, Tryz.ntmps172
    go_wp2
    go_end0
    exact ⟨rfl, by simp⟩
theorem lwhole_any {w0 w : World} {A G : Nat} {b : Bool} {c : Ch} {t : Value} (h : LkI w0 A G (b, c, t) w) {l : L} (hl : isW l = true) :
    Calls Tryz.prog 173 #[.pointer (some ⟨G, 0, none⟩), .pointer (some ⟨A, 0 + offL l, none⟩), .int .i64 (Rc.least l : Int), .int .i64 (Rc.most l : Int)] w fun e w' => e = .returned (.tuple #[]) ∧ LkI w0 A G (b || !Rc.may l (Rc.get l c), Rc.set l Rc.zV c, t) w' := by
  have hm : Rc.may l (Rc.get l c) = decide ((Rc.least l : Int) ≤ (Rc.get l c).i ∧ (Rc.get l c).i ≤ (Rc.most l : Int)) := by cases l <;> first | (cases hl; done) | simp only [Rc.may, Rc.sz, ne_eq, reduceCtorEq, not_false_eq_true, decide_true, Bool.true_or, Bool.and_true] <;> exact decide_eq_decide.mpr Iff.rfl
  have hc := h.ca.cw hl
  have HT : Hid (∀ X, LkI w0 A G (X, Rc.set l Rc.zV c, t) ((w.setCell ⟨G, 0, none⟩ (.bool X)).setCell ⟨A, 0 + offL l, none⟩ (.int .i64 0))) := fun X => by
    have h1 := h.want X
    exact h1.put (h1.ca.sw hl 0) (by have := h1.tx; cases l <;> first | (cases hl; done) | exact this) (by have := h1.len; cases l <;> first | (cases hl; done) | exact this)
  have hz := h.ca.z (0 + offL l)
  have hlk := h.lk
  have hn := h.hn
  have HM := hide hm
  clear hm
  generalize (Rc.get l c).i = n at *
  generalize (Rc.least l : Int) = lo at *
  generalize (Rc.most l : Int) = hi at *
  generalize 0 + offL l = q at *
  go_enter Tryz.func173, Tryz.ntmps173
  go_wp2_with fail
  refine (isWithin_any _ _ _ _).mono ?_
  rintro e w1 ⟨rfl, hw⟩
  obtain rfl := hw.symm
  generalize hD : decide (lo ≤ n ∧ n ≤ hi) = D
  have HM2 := hide (HM.out.trans ((decide_eq_decide.mpr Iff.rfl).trans hD))
  clear hD HM
  go_wp2_with fail
  refine (want_any hlk _).mono ?_
  rintro e w1 ⟨rfl, rfl⟩
  have hc2 : (w.setCell ⟨G, 0, none⟩ (.bool (b || !D))).cell? ⟨A, q, none⟩ = some (.int .i64 n) := cell_other hc hn
  have hz2 : (w.setCell ⟨G, 0, none⟩ (.bool (b || !D))).frozen? ⟨A, q, none⟩ = false := by rw [World.frozen?_setCell]; exact hz
  have HT2 := hide (HT.out (b || !D))
  generalize w.setCell ⟨G, 0, none⟩ (.bool (b || !D)) = w2 at *
  go_wp2
  go_end0
  exact ⟨rfl, by rw [HM2.out]; exact HT2.out⟩
theorem ltext_any {w0 w : World} {A G : Nat} {b : Bool} {c : Ch} {t : Value} (h : LkI w0 A G (b, c, t) w) :
    Calls Tryz.prog 170 #[.pointer (some ⟨G, 0, none⟩), .pointer (some ⟨A, 0 + 8, none⟩), .int .i64 1, .int .i64 1024] w fun e w' => e = .returned (.tuple #[]) ∧ LkI w0 A G (b || !Rc.may .P (Rc.get .P c), Rc.set .P Rc.zV c, t) w' := by
  have hm : Rc.may .P (Rc.get .P c) = decide ((1 : Int) ≤ (c.pr.size : Int) ∧ (c.pr.size : Int) ≤ 1024) := by simp only [Rc.may, Rc.sz, Rc.get, Rc.least, Rc.most, ne_eq, reduceCtorEq, not_false_eq_true, decide_true, Bool.true_or, Bool.and_true]; exact decide_eq_decide.mpr Iff.rfl
  have hc := h.ca.cp
  have HT : Hid (∀ X, LkI w0 A G (X, Rc.set .P Rc.zV c, t) ((w.setCell ⟨G, 0, none⟩ (.bool X)).setCell ⟨A, 0 + 8, none⟩ (.string ⟨#[]⟩))) := fun X => by
    have h1 := h.want X
    exact h1.put (h1.ca.sp _) h1.tx h1.len
  have hz := h.ca.z (0 + 8)
  have hlk := h.lk
  have hn := h.hn
  have HM := hide hm
  clear hm
  generalize c.pr = n at *
  generalize 0 + 8 = q at *
  go_enter Tryz.func170, Tryz.ntmps170
  go_wp2_with fail
  refine (isWithin_any _ _ _ _).mono ?_
  rintro e w1 ⟨rfl, hw⟩
  obtain rfl := hw.symm
  generalize hD : decide ((1 : Int) ≤ (n.size : Int) ∧ (n.size : Int) ≤ 1024) = D
  have HM2 := hide (HM.out.trans ((decide_eq_decide.mpr Iff.rfl).trans hD))
  clear hD HM
  go_wp2_with fail
  refine (want_any hlk _).mono ?_
  rintro e w1 ⟨rfl, rfl⟩
  have hc2 : (w.setCell ⟨G, 0, none⟩ (.bool (b || !D))).cell? ⟨A, q, none⟩ = some (.string n) := cell_other hc hn
  have hz2 : (w.setCell ⟨G, 0, none⟩ (.bool (b || !D))).frozen? ⟨A, q, none⟩ = false := by rw [World.frozen?_setCell]; exact hz
  have HT2 := hide (HT.out (b || !D))
  generalize w.setCell ⟨G, 0, none⟩ (.bool (b || !D)) = w2 at *
  go_wp2
  go_end0
  exact ⟨rfl, by rw [HM2.out]; exact HT2.out⟩
theorem mayBitsR_any (c : Int) (n : Nat) (w : World) :
    Calls Tryz.prog 175 #[.agg #[.int .i64 c, .int .u64 (n : Int)]] w fun e w' => e = .returned (.bool (decide (c = 0 ∨ n = 0))) ∧ w' = w.alloc (.cells #[.int .i64 c, .int .u64 (n : Int)] 76) := by
  by_cases h : c = 0
  · subst h
    go_enter Tryz.func175, Tryz.ntmps175
    go_wp2
    go_ret
    exact ⟨by simp, rfl⟩
  · have b0 : (c == 0) = false := beq_eq_false_iff_ne.2 h
    have hd : decide (c = 0 ∨ n = 0) = ((n : Int) == 0) := by
      by_cases hn : n = 0
      · simp [hn]
      · simp [hn, h]
    rw [hd]
    clear h hd
    go_enter Tryz.func175, Tryz.ntmps175
    go_wp2
    go_ret
    exact ⟨by simp, rfl⟩
end Go.Proofs.YtepondcflkledaaGreat
end

section
namespace Go.Proofs.YtepondcflkledaaGreat
set_option maxRecDepth 20000
open Go.RowKit
open Rc (L V Ch)

theorem bc_str (l : List UInt8) : Go.Lib.strCells ⟨l.toArray⟩ = bc l := by simp [Go.Lib.strCells, bc]
theorem bc_str' (s : ByteArray) : Go.Lib.strCells s = bc s.data.toList := by simp [Go.Lib.strCells, bc]
theorem own_type {w : World} {n0 n : Nat} {v : Value} {xs : List Value} (h : w.ownsRow n0 5 1 v n xs) {X : Nat} {cs : Array Value} {ty : TypeId} (hX : w.heap[X]? = some (.cells cs ty (0, 0))) (hty : ty ≠ 5) : some X ≠ v.ownBlock := by
  rcases h.2 with ⟨rfl, _⟩ | ⟨g, cap, cur, rfl, _, hg, _⟩
  · simp [Value.ownBlock]
  · intro e
    simp only [Value.ownBlock, Option.some.injEq] at e
    subst e
    rw [hg] at hX
    simp only [Option.some.injEq, Obj.cells.injEq] at hX
    exact hty hX.2.1.symm
theorem own_step {w w' : World} {n0 n : Nat} {v : Value} {xs : List Value} (h : w.ownsRow n0 5 1 v n xs) (hb : ∀ X, some X = v.ownBlock → w'.heap[X]? = w.heap[X]?) : w'.ownsRow n0 5 1 v n xs := by
  refine ⟨h.1, ?_⟩
  rcases h.2 with h2 | ⟨g, cap, cur, rfl, h3, hg, h4⟩
  · exact .inl h2
  · exact .inr ⟨g, cap, cur, rfl, h3, (hb g rfl).trans hg, h4⟩
theorem own_slice {w : World} {n0 n : Nat} {v : Value} {xs : List Value} (h : w.ownsRow n0 5 1 v n xs) : ∃ p m cap, v = .slice p m cap := by
  rcases h.2 with ⟨rfl, _⟩ | ⟨g, cap, cur, rfl, _⟩
  · exact ⟨_, _, _, rfl⟩
  · exact ⟨_, _, _, rfl⟩
/-- changes stay -/
def KeepC (w w' : World) : Prop := ∀ A c t, Ca w A c t → Ca w' A c t
theorem KeepC.trans {a b c : World} (h : KeepC a b) (k : KeepC b c) : KeepC a c := fun A c t hc => k A c t (h A c t hc)
theorem keepC_below {w w' : World} (hb : Below w.heap.size w w') : KeepC w w' := fun _ _ _ h => h.block (hb.block _ h.lt)
end Go.Proofs.YtepondcflkledaaGreat
end

section
namespace Go.Proofs.YtepondcflkledaaGreat
set_option maxRecDepth 20000
open Go.RowKit
open Rc (L V Ch)

theorem within_T {n lo hi : Int} (h : lo ≤ n ∧ n ≤ hi) (w : World) : Calls Tryz.prog 174 #[.int .i64 n, .int .i64 lo, .int .i64 hi] w fun e w' => e = .returned (.bool true) ∧ w' = w :=
  (isWithin_any n lo hi w).mono fun e w' ⟨h1, h2⟩ => ⟨by rw [h1, decide_eq_true h], h2⟩
theorem within_F {n lo hi : Int} (h : ¬ (lo ≤ n ∧ n ≤ hi)) (w : World) : Calls Tryz.prog 174 #[.int .i64 n, .int .i64 lo, .int .i64 hi] w fun e w' => e = .returned (.bool false) ∧ w' = w :=
  (isWithin_any n lo hi w).mono fun e w' ⟨h1, h2⟩ => ⟨by rw [h1, decide_eq_false h], h2⟩
theorem LkI.clrR {w0 w : World} {A G : Nat} {b : Bool} {c : Ch} {t : Value} (h : LkI w0 A G (b, c, t) w) : LkI w0 A G (b, Rc.set .R Rc.zV c, t) ((w.setCell ⟨A, 0 + 6, none⟩ (.int .i64 0)).setCell ⟨A, 0 + 6 + 1, none⟩ (.int .u64 0)) := by
  have h1 : LkI w0 A G (b, { c with rc := 0 }, t) (w.setCell ⟨A, 0 + 6, none⟩ (.int .i64 0)) := h.put (by unfold Ca; have := h.ca; unfold Ca at this; rw [cells_set this]; rfl) h.tx h.len
  exact h1.put (by unfold Ca; have := h1.ca; unfold Ca at this; rw [cells_set this]; rfl) h.tx h.len
set_option maxHeartbeats 400000 in
theorem lresult_any {w0 w : World} {A G : Nat} {b : Bool} {c : Ch} {t : Value} (h : LkI w0 A G (b, c, t) w) :
    Calls Tryz.prog 169 #[.pointer (some ⟨G, 0, none⟩), .pointer (some ⟨A, 0 + 6, none⟩)] w fun e w' => e = .returned (.tuple #[]) ∧ LkI w0 A G (b || !Rc.may .R (Rc.get .R c), Rc.set .R Rc.zV c, t) w' := by
  obtain ⟨hc, hc'⟩ := h.ca.cr
  have hz := h.ca.z (0 + 6)
  have hz' := h.ca.z (0 + 6 + 1)
  have hn := h.hn
  have hAl := h.ca.lt
  have hGl := h.lk.lt
  by_cases hw : (0 : Int) ≤ c.rc ∧ c.rc ≤ 7
  · have HM : Hid (Rc.may .R (Rc.get .R c) = decide (c.rc = 0 ∨ c.rb = 0)) := hide (by
      show (decide _ && (decide _ || decide _) && (decide _ || _)) = _
      rw [decide_eq_true (show (Rc.least .R : Int) ≤ Rc.sz .R (Rc.get .R c) ∧ Rc.sz .R (Rc.get .R c) ≤ (Rc.most .R : Int) from hw)]
      simp only [ne_eq, not_true_eq_false, decide_false, Bool.false_or, Bool.true_and, reduceCtorEq, not_false_eq_true, decide_true, Bool.true_or, Bool.and_true]
      exact decide_eq_decide.mpr Iff.rfl)
    have HT := hide (fun (o : Obj) (X : Bool) => ((h.alloc o).want X).clrR)
    have HL := hide (fun (o : Obj) => (h.alloc o).lk)
    have HZ := hide (fun (o : Obj) (k : Nat) => (h.alloc o).ca.z k)
    have HW := hide (within_T hw)
    have HB := hide (mayBitsR_any c.rc c.rb)
    clear h hw
    generalize c.rc = n at *
    generalize c.rb = m at *
    generalize 0 + 6 = q at *
    go_enter Tryz.func169, Tryz.ntmps169
    go_wp2_with fail
    refine (HW.out _).mono ?_
    rintro e w1 ⟨rfl, hw⟩
    obtain rfl := hw.symm
    go_wp2_with fail
    refine (HB.out _).mono ?_
    rintro e w1 ⟨rfl, rfl⟩
    generalize hD : decide (n = 0 ∨ m = 0) = D
    have HM2 := hide (HM.out.trans hD)
    clear hD HM
    have hc2 : (w.alloc (.cells #[.int .i64 n, .int .u64 (m : Int)] 76)).cell? ⟨A, q, none⟩ = some (.int .i64 n) := (World.cell?_alloc_past _ _ _ hAl).trans hc
    have hc2' : (w.alloc (.cells #[.int .i64 n, .int .u64 (m : Int)] 76)).cell? ⟨A, q + 1, none⟩ = some (.int .u64 (m : Int)) := (World.cell?_alloc_past _ _ _ hAl).trans hc'
    have HT2 := hide (HT.out (.cells #[.int .i64 n, .int .u64 (m : Int)] 76))
    have HL2 := hide (HL.out (.cells #[.int .i64 n, .int .u64 (m : Int)] 76))
    have hz2 : (w.alloc (.cells #[.int .i64 n, .int .u64 (m : Int)] 76)).frozen? ⟨A, q, none⟩ = false := HZ.out _ _
    have hz2' : (w.alloc (.cells #[.int .i64 n, .int .u64 (m : Int)] 76)).frozen? ⟨A, q + 1, none⟩ = false := HZ.out _ _
    clear HZ
    generalize w.alloc (.cells #[.int .i64 n, .int .u64 (m : Int)] 76) = w2 at *
    go_wp2_with fail
    refine (want_any HL2.out _).mono ?_
    rintro e w1 ⟨rfl, rfl⟩
    have hc3 : (w2.setCell ⟨G, 0, none⟩ (.bool (b || !D))).cell? ⟨A, q, none⟩ = some (.int .i64 n) := cell_other hc2 hn
    have hc3' : (w2.setCell ⟨G, 0, none⟩ (.bool (b || !D))).cell? ⟨A, q + 1, none⟩ = some (.int .u64 (m : Int)) := cell_other hc2' hn
    have hz3 : (w2.setCell ⟨G, 0, none⟩ (.bool (b || !D))).frozen? ⟨A, q, none⟩ = false := by rw [World.frozen?_setCell]; exact hz2
    have hz3' : (w2.setCell ⟨G, 0, none⟩ (.bool (b || !D))).frozen? ⟨A, q + 1, none⟩ = false := by rw [World.frozen?_setCell]; exact hz2'
    have HT3 := hide (HT2.out (b || !D))
    clear HT HT2 HL HL2 hc hc' hc2 hc2' hz hz' hz2 hz2'
    generalize w2.setCell ⟨G, 0, none⟩ (.bool (b || !D)) = w3 at *
    go_wp2
    go_end0
    exact ⟨rfl, by rw [HM2.out]; exact HT3.out⟩
  · have HM : Hid (Rc.may .R (Rc.get .R c) = false) := hide (by
      show (decide _ && (decide _ || decide _) && (decide _ || _)) = _
      rw [decide_eq_false (show ¬ ((Rc.least .R : Int) ≤ Rc.sz .R (Rc.get .R c) ∧ Rc.sz .R (Rc.get .R c) ≤ (Rc.most .R : Int)) from hw)]
      rfl)
    have HT := hide (fun (X : Bool) => (h.want X).clrR)
    have HL := hide h.lk
    have HW := hide (within_F hw)
    clear h hw
    generalize c.rc = n at *
    generalize c.rb = m at *
    generalize 0 + 6 = q at *
    go_enter Tryz.func169, Tryz.ntmps169
    go_wp2_with fail
    refine (HW.out _).mono ?_
    rintro e w1 ⟨rfl, hw⟩
    obtain rfl := hw.symm
    go_wp2_with fail
    refine (want_any HL.out _).mono ?_
    rintro e w1 ⟨rfl, rfl⟩
    have hc3 : (w.setCell ⟨G, 0, none⟩ (.bool (b || !false))).cell? ⟨A, q, none⟩ = some (.int .i64 n) := cell_other hc hn
    have hc3' : (w.setCell ⟨G, 0, none⟩ (.bool (b || !false))).cell? ⟨A, q + 1, none⟩ = some (.int .u64 (m : Int)) := cell_other hc' hn
    have hz3 : (w.setCell ⟨G, 0, none⟩ (.bool (b || !false))).frozen? ⟨A, q, none⟩ = false := by rw [World.frozen?_setCell]; exact hz
    have hz3' : (w.setCell ⟨G, 0, none⟩ (.bool (b || !false))).frozen? ⟨A, q + 1, none⟩ = false := by rw [World.frozen?_setCell]; exact hz'
    have HT3 := hide (HT.out (b || !false))
    clear HT HL hc hc' hz hz'
    generalize w.setCell ⟨G, 0, none⟩ (.bool (b || !false)) = w3 at *
    go_wp2
    go_end0
    exact ⟨rfl, by rw [HM.out]; exact HT3.out⟩
/-- texts looked at so far -/
def okT (l : List ByteArray) : Bool := l.all fun t => decide (t.size ≤ 32)
theorem okT_step {l : List ByteArray} {k : Nat} (h : k < l.length) : okT (l.take (k + 1)) = (okT (l.take k) && decide ((l[k]!).size ≤ 32)) := by
  rw [← List.take_append_getElem h, getElem!_pos l k h]; simp only [okT, List.all_append, List.all_cons, List.all_nil, Bool.and_true]
set_option maxHeartbeats 400000 in
theorem ltexts_any {w0 w : World} {A G : Nat} {b : Bool} {c : Ch} {t : Value} (h : LkI w0 A G (b, c, t) w) :
    Calls Tryz.prog 171 #[.pointer (some ⟨G, 0, none⟩), .pointer (some ⟨A, 0 + 9, none⟩)] w fun e w' => e = .returned (.tuple #[]) ∧ LkI w0 A G (b || !Rc.may .T (Rc.get .T c), Rc.set .T Rc.zV c, .slice none 0 0) w' := by
  obtain ⟨p, cap, ht, h2⟩ := h.tx
  simp only at ht h2
  subst ht
  have hm : Rc.may .T (Rc.get .T c) = (decide ((1 : Int) ≤ (c.tx.length : Int) ∧ (c.tx.length : Int) ≤ 8) && okT c.tx) := by
    show (decide _ && (decide _ || decide _) && (decide _ || _)) = _
    simp only [ne_eq, reduceCtorEq, not_false_eq_true, decide_true, Bool.true_or, Bool.and_true, not_true_eq_false, decide_false, Bool.false_or]
    rfl
  have hlen := h.len
  simp only at hlen
  have HX := hide h2
  have HM := hide hm
  have HI := hide h
  have hct := h.ca.ct
  have hlk := h.lk
  clear h h2 hm
  generalize hn : c.tx.length = n at *
  go_enter Tryz.func171, Tryz.ntmps171
  go_wp2_with fail
  refine (isWithin_any _ _ _ _).mono ?_
  rintro e w1 ⟨rfl, hw⟩
  obtain rfl := hw.symm
  generalize hD : decide ((1 : Int) ≤ (n : Int) ∧ (n : Int) ≤ 8) = D
  have HM2 : Hid (Rc.may .T (Rc.get .T c) = (D && okT c.tx)) := hide (by rw [HM.out, ← hD])
  clear hD HM
  go_wp2_with fail
  refine (want_any hlk _).mono ?_
  rintro e w1 ⟨rfl, rfl⟩
  have HI2 := hide (HI.out.want (b || !D))
  have hct2 := HI2.out.ca.ct
  clear HI hct hlk
  generalize w.setCell ⟨G, 0, none⟩ (.bool (b || !D)) = w2 at *
  go_wp2_with fail
  go_loopw [17] (fun s wr => ∃ k : Nat, k ≤ n ∧ s = .int .i64 (k : Int) ∧ Hid (LkI w0 A G (b || !(D && okT (c.tx.take k)), c, .slice p n cap) wr)) (fun s _ => n - (intOf s).toNat)
  case atStart => exact ⟨0, Nat.zero_le _, rfl, hide (by have := HI2.out; simpa [okT] using this)⟩
  case round =>
    obtain ⟨k, hk, rfl, HK⟩ := hrel
    by_cases hkl : k < n
    · obtain ⟨bb, off, rfl, hlt, hx⟩ := HX.out (by omega)
      have hcx : wr.cell? ⟨bb, off + k, none⟩ = some (.string c.tx[k]!) := (HK.out.bel.cell (p := ⟨bb, off + k, none⟩) hlt).trans (hx k hkl)
      have HS := hide (okT_step (l := c.tx) (k := k) (by omega))
      have hlk := HK.out.lk
      have HW := hide (fun X => HK.out.want X)
      generalize c.tx[k]! = tt at *
      have hki : (k : Int) < (n : Int) := by omega
      have hbl : bb < wr.heap.size := Nat.lt_of_lt_of_le hlt HK.out.bel.size
      clear hx HK
      go_wp2_with fail
      refine (want_any hlk _).mono ?_
      rintro e w1 ⟨rfl, rfl⟩
      have HW2 := hide (HW.out (b || !(D && okT (List.take k c.tx)) || !decide ((tt.size : Int) ≤ 32)))
      generalize wr.setCell ⟨G, 0, none⟩ (.bool (b || !(D && okT (List.take k c.tx)) || !decide ((tt.size : Int) ≤ 32))) = w3 at *
      go_wp2
      go_roundw
      case rel => exact ⟨k + 1, by omega, by go_num, hide (by
        have := HW2.out
        rw [HS.out]
        have e : (b || !(D && (okT (List.take k c.tx) && decide (tt.size ≤ 32)))) = (b || !(D && okT (List.take k c.tx)) || !decide ((tt.size : Int) ≤ 32)) := by
          rw [show decide ((tt.size : Int) ≤ 32) = decide (tt.size ≤ 32) from decide_eq_decide.mpr (by omega)]
          cases b <;> cases D <;> cases okT (List.take k c.tx) <;> simp
        rw [e]; exact this)⟩
      case measure => simp [intOf]; omega
    · obtain rfl : k = n := by omega
      have hki : ¬ (k : Int) < (k : Int) := by omega
      have HF : Hid (LkI w0 A G (b || !(D && okT c.tx), Rc.set .T Rc.zV c, .slice none 0 0) (wr.setCell ⟨A, 0 + 9, none⟩ (.slice none 0 0))) := hide (by
        have h9 := HK.out
        rw [← hn, List.take_length] at h9
        exact h9.put (h9.ca.st _ []) (Tx.nil _) (by simp [Rc.set, Rc.zV]))
      have hct3 : wr.cell? ⟨A, 9, none⟩ = _ := HK.out.ca.ct
      have hz3 := HK.out.ca.z 9
      clear HK
      go_wp2
      go_end0
      exact ⟨rfl, by rw [HM2.out]; exact HF.out⟩
end Go.Proofs.YtepondcflkledaaGreat
end

section
namespace Go.Proofs.YtepondcflkledaaGreat
set_option maxRecDepth 20000
open Go.RowKit
open Rc (L V Ch)

end Go.Proofs.YtepondcflkledaaGreat
end

section
namespace Go.Proofs.YtepondcflkledaaGreat
set_option maxRecDepth 20000
open Go.RowKit
open Rc (L V Ch)

theorem layT_step {l : List ByteArray} {k : Nat} (h : k < l.length) : Rc.layT (l.take (k + 1)) = Rc.layT (l.take k) ++ (Pk.enc (l[k]!).size ++ (l[k]!).data.toList) := by
  rw [← List.take_append_getElem h, getElem!_pos l k h]; simp only [Rc.layT, List.flatMap_append, List.flatMap_cons, List.flatMap_nil, List.append_nil]
theorem layT_len (l : List ByteArray) (h : ∀ t ∈ l, t.size ≤ 32) : (Rc.layT l).length ≤ l.length * 42 := by
  induction l with
  | nil => simp [Rc.layT]
  | cons t l ih =>
    have h1 := h t List.mem_cons_self
    have h2 := ih fun x hx => h x (List.mem_cons_of_mem _ hx)
    have h10 := Pk.enc_ten (n := t.size) (by omega)
    have e : (Rc.layT (t :: l)).length = (Pk.enc t.size).length + t.size + (Rc.layT l).length := by simp [Rc.layT]; omega
    rw [e, List.length_cons]; omega
theorem lay_len {l : L} {v : V} (h : Rc.may l v = true) : (Rc.lay l v).length ≤ 1100 := by
  have hb := Rc.may_num h
  cases l
  case R => 
    simp only [Rc.sz, Rc.most] at hb
    have := Pk.enc_ten (n := v.i.toNat) (by omega)
    simp only [Rc.lay, List.length_append, show (Pk.big8 v.n).length = 8 from rfl]; omega
  case P =>
    simp only [Rc.sz, Rc.most] at hb
    have := Pk.enc_ten (n := v.t.size) (by omega)
    simp only [Rc.lay, List.length_append, show v.t.data.toList.length = v.t.size from rfl]; omega
  case T =>
    simp only [Rc.sz, Rc.most] at hb
    have := Pk.enc_ten (n := v.l.length) (by omega)
    have h2 : ∀ t ∈ v.l, t.size ≤ 32 := by
      unfold Rc.may at h; simp only [Bool.and_eq_true, decide_eq_true_eq, Bool.or_eq_true] at h
      rcases h.2 with h | h
      · exact absurd rfl h
      · simpa using h
    have := layT_len v.l h2
    simp only [Rc.lay, List.length_append]; omega
  all_goals
    simp only [Rc.sz, Rc.most] at hb
    have := Pk.enc_ten (n := v.i.toNat) (by omega)
    simp only [Rc.lay]; omega
end Go.Proofs.YtepondcflkledaaGreat
end

section
namespace Go.Proofs.YtepondcflkledaaGreat
set_option maxRecDepth 20000
open Go.RowKit
open Rc (L V Ch)

theorem toList_inj {a b : ByteArray} (h : a.toList = b.toList) : a = b := by
  rw [ByteArray.toList_eq, ByteArray.toList_eq] at h
  exact ByteArray.ext (Array.toList_inj.mp h)
theorem eql_res (a b : Int) (m n : Nat) (w : World) : (binOp .eql 76 (.agg #[.int .i64 a, .int .u64 (m : Int)]) (.agg #[.int .i64 b, .int .u64 (n : Int)])).run Tryz.prog w = .ok (.bool (decide (a = b ∧ m = n))) w := by
  have : (Op.equalIn 10000 76 (.agg #[.int .i64 a, .int .u64 (m : Int)]) (.agg #[.int .i64 b, .int .u64 (n : Int)])).run Tryz.prog w = .ok (decide (a = b ∧ m = n)) w := by
    go_simp
    by_cases e : a = b ∧ m = n
    · obtain ⟨rfl, rfl⟩ := e; simp
    · by_cases h1 : a = b
      · have h2 : ¬ m = n := fun h => e ⟨h1, h⟩
        have h3 : ¬ (m : Int) = (n : Int) := fun h => h2 (by omega)
        simp [h1, h2, h3]
      · simp [h1]
  rw [run_eql_struct, this]; rfl
theorem blank_iff (c : Ch) : c = Rc.zC c.k ↔ c.n = 0 ∧ c.jo = 0 ∧ c.ba = 0 ∧ c.sl = 0 ∧ c.li = 0 ∧ c.rc = 0 ∧ c.rb = 0 ∧ c.pr = ⟨#[]⟩ ∧ c.tx.length = 0 := by
  constructor
  · intro h; rw [h]; exact ⟨rfl, rfl, rfl, rfl, rfl, rfl, rfl, rfl, rfl⟩
  · rintro ⟨h1, h2, h3, h4, h5, h6, h7, h8, h9⟩
    exact Rc.Ch.ext rfl h1 h2 h3 h4 h5 h6 h7 h8 (List.length_eq_zero_iff.mp h9)

set_option maxHeartbeats 800000 in
theorem isBlank_any (c : Ch) (p : Option Addr) (cap : Nat) (w : World) : Calls Tryz.prog 95 #[.agg (chC c (.slice p c.tx.length cap))] w fun e w' => e = .returned (.bool (decide (c = Rc.zC c.k))) ∧ w' = w.alloc (.cells (chC c (.slice p c.tx.length cap)) 78) := by
  have hb := blank_iff c
  obtain ⟨k, n, jo, ba, sl, li, rc, rb, pr, tx⟩ := c
  simp only [chC] at hb ⊢
  by_cases h_n : n = 0
  case neg =>
    rw [decide_eq_false (fun h => h_n (by have := hb.mp h; omega))]
    have b0 : (n == 0) = false := beq_eq_false_iff_ne.2 h_n
    clear hb h_n
    go_enter Tryz.func95, Tryz.ntmps95
    go_wp2
    go_ret
    exact ⟨rfl, rfl⟩
  subst h_n
  by_cases h_jo : jo = 0
  case neg =>
    rw [decide_eq_false (fun h => h_jo (by have := hb.mp h; omega))]
    have b0 : (jo == 0) = false := beq_eq_false_iff_ne.2 h_jo
    clear hb h_jo
    go_enter Tryz.func95, Tryz.ntmps95
    go_wp2
    go_ret
    exact ⟨rfl, rfl⟩
  subst h_jo
  by_cases h_ba : ba = 0
  case neg =>
    rw [decide_eq_false (fun h => h_ba (by have := hb.mp h; omega))]
    have b0 : (ba == 0) = false := beq_eq_false_iff_ne.2 h_ba
    clear hb h_ba
    go_enter Tryz.func95, Tryz.ntmps95
    go_wp2
    go_ret
    exact ⟨rfl, rfl⟩
  subst h_ba
  by_cases h_sl : sl = 0
  case neg =>
    rw [decide_eq_false (fun h => h_sl (by have := hb.mp h; omega))]
    have b0 : (sl == 0) = false := beq_eq_false_iff_ne.2 h_sl
    clear hb h_sl
    go_enter Tryz.func95, Tryz.ntmps95
    go_wp2
    go_ret
    exact ⟨rfl, rfl⟩
  subst h_sl
  by_cases h_li : li = 0
  case neg =>
    rw [decide_eq_false (fun h => h_li (by have := hb.mp h; omega))]
    have b0 : (li == 0) = false := beq_eq_false_iff_ne.2 h_li
    clear hb h_li
    go_enter Tryz.func95, Tryz.ntmps95
    go_wp2
    go_ret
    exact ⟨rfl, rfl⟩
  subst h_li
  have hE : ∀ (w : World), (binOp .eql 76 (.agg #[.int .i64 rc, .int .u64 (rb : Int)]) (.agg #[.int .i64 0, .int .u64 0])).run Tryz.prog w = .ok (.bool (decide (rc = 0 ∧ rb = 0))) w := fun w => eql_res rc 0 rb 0 w
  by_cases h_r : rc = 0 ∧ rb = 0
  case neg =>
    rw [decide_eq_false (fun h => h_r (by have := hb.mp h; omega))]
    rw [decide_eq_false h_r] at hE
    clear hb h_r
    go_enter Tryz.func95, Tryz.ntmps95
    go_wp2
    go_ret
    exact ⟨rfl, rfl⟩
  rw [decide_eq_true h_r] at hE
  by_cases h_p : pr = ⟨#[]⟩
  case neg =>
    rw [decide_eq_false (fun h => h_p (by have := hb.mp h; exact this.2.2.2.2.2.2.2.1))]
    have b0 : (pr.toList == []) = false := beq_eq_false_iff_ne.2 (fun h => h_p (toList_inj (h.trans (by rw [ByteArray.toList_eq]))))
    have b1 : ¬ pr.toList = [] := fun h => h_p (toList_inj (h.trans (by rw [ByteArray.toList_eq])))
    clear hb h_r h_p
    go_enter Tryz.func95, Tryz.ntmps95
    go_wp2
    go_ret
    exact ⟨rfl, rfl⟩
  subst h_p
  by_cases h_t : tx.length = 0
  case neg =>
    rw [decide_eq_false (fun h => h_t (by have := hb.mp h; exact this.2.2.2.2.2.2.2.2))]
    have b0 : ((tx.length : Int) == 0) = false := beq_eq_false_iff_ne.2 (by omega)
    clear hb h_r
    generalize tx.length = m at *
    clear h_t
    go_enter Tryz.func95, Tryz.ntmps95
    go_wp2
    go_ret
    exact ⟨rfl, rfl⟩
  rw [decide_eq_true (hb.mpr ⟨rfl, rfl, rfl, rfl, rfl, h_r.1, h_r.2, rfl, h_t⟩), h_t]
  clear hb h_r
  go_enter Tryz.func95, Tryz.ntmps95
  go_wp2
  go_ret
  exact ⟨rfl, rfl⟩
end Go.Proofs.YtepondcflkledaaGreat
end

section
namespace Go.Proofs.YtepondcflkledaaGreat
set_option maxRecDepth 20000
open Go.RowKit
open Rc (L V Ch)

theorem Ca.all {w : World} {A : Nat} {c : Ch} {t : Value} (h : Ca w A c t) : w.cell? ⟨A, 0, none⟩ = some (.int .i64 c.k) ∧ w.cell? ⟨A, 1, none⟩ = some (.int .i64 c.n) ∧ w.cell? ⟨A, 2, none⟩ = some (.int .i64 c.jo) ∧ w.cell? ⟨A, 3, none⟩ = some (.int .i64 c.ba) ∧ w.cell? ⟨A, 4, none⟩ = some (.int .i64 c.sl) ∧ w.cell? ⟨A, 5, none⟩ = some (.int .i64 c.li)
    ∧ w.cell? ⟨A, 6, none⟩ = some (.int .i64 c.rc) ∧ w.cell? ⟨A, 7, none⟩ = some (.int .u64 (c.rb : Int)) ∧ w.cell? ⟨A, 8, none⟩ = some (.string c.pr) ∧ w.cell? ⟨A, 9, none⟩ = some t := by
  unfold Ca at h; simp [World.cell?, h, chC]
def kL : L → FuncId
  | .P => 170 | .T => 171 | .R => 169 | _ => 173
/-- what the looker does with a letter -/
def stL (l : L) (s : Bool × Ch × Value) : Option (Bool × Ch × Value) := some (s.1 || !Rc.may l (Rc.get l s.2.1), Rc.set l Rc.zV s.2.1, match l with | .T => .slice none 0 0 | _ => s.2.2)
theorem runL_look (ls : List L) : ∀ b c t, ∃ t', runL stL ls (b, c, t) = some ((Rc.look ls b c).1, (Rc.look ls b c).2, t') := by
  induction ls with
  | nil => intro b c t; exact ⟨t, rfl⟩
  | cons l ls ih => intro b c t; obtain ⟨t', h⟩ := ih (b || !Rc.may l (Rc.get l c)) (Rc.set l Rc.zV c) (match l with | .T => .slice none 0 0 | _ => t); exact ⟨t', h⟩
theorem lookerV {w0 : World} {A G : Nat} (k : Int) : Visitor A 0 k 164 (.pointer (some ⟨G, 0, none⟩)) (.pointer (some ⟨G, 0, none⟩)) kL (fun s w => LkI w0 A G s w ∧ s.2.1.k = k) (fun _ => True) stL (fun _ _ => True) where
  kind := fun s w h => by rw [← h.2]; exact h.1.ca.c0
  drew := fun s w h => ⟨h.1.drew, h.2⟩
  ahead := fun l w => by cases l <;> kernel_rfl
  meth := fun l w => by cases l <;> kernel_rfl
  run := fun l args w => by cases l <;> rfl
  call := fun l s w _ h => by
    obtain ⟨b, c, t⟩ := s
    have hk : (Rc.set l Rc.zV c).k = k := by rw [Rc.k_set]; exact h.2
    cases l
    case P => exact (ltext_any h.1).mono fun e w' h' => ⟨h'.1, h'.2, hk⟩
    case T => exact (ltexts_any h.1).mono fun e w' h' => ⟨h'.1, h'.2, hk⟩
    case R => exact (lresult_any h.1).mono fun e w' h' => ⟨h'.1, h'.2, hk⟩
    all_goals exact (lwhole_any h.1 rfl).mono fun e w' h' => ⟨h'.1, h'.2, hk⟩
theorem lvisit_any {w0 w : World} {A G : Nat} {b : Bool} {c : Ch} {t : Value} (h : LkI w0 A G (b, c, t) w) (hk : 1 ≤ c.k ∧ c.k ≤ 6) :
    Calls Tryz.prog 94 #[.pointer (some ⟨A, 0, none⟩), .iface 164 (.pointer (some ⟨G, 0, none⟩))] w fun e w' => e = .returned (.tuple #[]) ∧ ∃ t', LkI w0 A G ((Rc.look (Rc.letters c.k) b c).1, (Rc.look (Rc.letters c.k) b c).2, t') w' := by
  refine (visit_gen (lookerV (w0 := w0) (A := A) (G := G) c.k) (b, c, t) w ⟨h, rfl⟩ (okAll_true _ _ _) hk).mono ?_
  intro e w' hv
  obtain ⟨t', ht⟩ := runL_look (Rc.letters c.k) b c t
  rw [ht] at hv
  exact ⟨hv.1, t', hv.2.1⟩
set_option maxHeartbeats 800000 in
theorem check_any (c : Ch) (t : Value) (w : World) (hT : Tx w t c.tx) (hl : c.tx.length ≤ 140737488351232) :
    Calls Tryz.prog 64 #[.agg (chC c t)] w fun e w' => e = .returned (.int .i64 (Rc.check c : Int)) ∧ Below w.heap.size w w' := by
  unfold Rc.check
  by_cases h1 : c.k < 1
  · rw [if_pos (.inl h1)]
    go_enter Tryz.func64, Tryz.ntmps64
    simp only [chC]
    go_wp2
    go_ret
    exact ⟨rfl, below_alloc _ _⟩
  by_cases h2 : 6 < c.k
  · rw [if_pos (.inr h2)]
    go_enter Tryz.func64, Tryz.ntmps64
    simp only [chC]
    go_wp2
    go_ret
    exact ⟨rfl, below_alloc _ _⟩
  rw [if_neg (by omega)]
  generalize hE : (if (Rc.look (Rc.letters c.k) false c).1 = false ∧ (Rc.look (Rc.letters c.k) false c).2 = Rc.zC c.k then 0 else 81) = E
  have HE := hide hE
  clear hE
  have HI : Hid (LkI w w.heap.size (w.heap.size + 1) (false, c, t) ((w.alloc (.cells (chC c t) 78)).alloc (.cells #[.bool false] 161))) := hide
    ⟨(Below.heap_alloc _ _ _ (by simp)).trans (heap_alloc_new w _), by unfold Lk; have := heap_alloc_new (w.alloc (.cells (chC c t) 78)) (.cells #[.bool false] 161); simpa using this,
      (below_alloc w _).alloc (by simp) _, hT, Nat.le_refl _, Nat.le_succ _, by omega, hl⟩
  have HV := hide (lvisit_any HI.out ⟨by omega, by omega⟩)
  clear HI
  go_enter Tryz.func64, Tryz.ntmps64
  simp only [chC]
  go_wp2_with fail
  refine HV.out.mono ?_
  rintro e w2 ⟨rfl, t', hI⟩
  have hk := Rc.look_k (Rc.letters c.k) false c
  have HK := hide hk
  clear HV hk
  generalize (Rc.look (Rc.letters c.k) false c).1 = B at *
  generalize (Rc.look (Rc.letters c.k) false c).2 = C at *
  have HBe := hide hI.bel
  obtain ⟨p, cap, ht, -⟩ := hI.tx
  simp only at ht
  subst ht
  have cg := hI.lk.c
  simp only at cg
  cases B
  · obtain ⟨c0, c1, c2, c3, c4, c5, c6, c7, c8, c9⟩ := hI.ca.all
    have HB := hide (isBlank_any C p cap)
    simp only [chC] at HB c0 c1 c2 c3 c4 c5 c6 c7 c8 c9
    clear hI
    go_wp2_with fail
    refine (HB.out _).mono ?_
    rintro e w3 ⟨rfl, rfl⟩
    have HW := hide (HBe.out.alloc HBe.out.size (.cells #[.int .i64 C.k, .int .i64 C.n, .int .i64 C.jo, .int .i64 C.ba, .int .i64 C.sl, .int .i64 C.li, .int .i64 C.rc, .int .u64 (C.rb : Int), .string C.pr, .slice p C.tx.length cap] 78))
    by_cases hz : C = Rc.zC C.k
    · have hE2 := HE.out
      rw [if_pos ⟨by simp, hz.trans (by rw [HK.out])⟩] at hE2
      subst hE2
      rw [decide_eq_true hz]
      clear hz
      go_wp2
      go_ret
      exact ⟨rfl, HW.out⟩
    · have hE2 := HE.out
      rw [if_neg (fun h => hz (h.2.trans (by rw [HK.out])))] at hE2
      subst hE2
      rw [decide_eq_false hz]
      clear hz
      go_wp2
      go_ret
      exact ⟨rfl, HW.out⟩
  · have hE2 := HE.out
    rw [if_neg (by simp)] at hE2
    subst hE2
    clear hI
    go_wp2
    go_ret
    exact ⟨rfl, HBe.out⟩
end Go.Proofs.YtepondcflkledaaGreat
end

section
namespace Go.Proofs.YtepondcflkledaaGreat
set_option maxRecDepth 20000
open Go.RowKit
open Rc (L V Ch)

def stW (c : Ch) (l : L) (acc : List UInt8) : Option (List UInt8) := some (acc ++ Rc.lay l (Rc.get l c))
def okW (c : Ch) (l : L) (acc : List UInt8) : Prop := Rc.may l (Rc.get l c) = true ∧ acc.length ≤ 90000000
theorem runL_W (c : Ch) (ls : List L) : ∀ acc, runL (stW c) ls acc = some (acc ++ Rc.body c ls) := by
  induction ls with
  | nil => intro acc; simp [runL, Rc.body]
  | cons l ls ih => intro acc; simp only [runL, stW, Option.bind_some]; rw [ih]; simp [Rc.body]
theorem okAll_W (c : Ch) (ls : List L) (hm : ∀ l ∈ ls, Rc.may l (Rc.get l c) = true) : ∀ acc : List UInt8, acc.length + ls.length * 1100 ≤ 90000000 → okAll (okW c) (stW c) ls acc := by
  induction ls with
  | nil => intro acc _; trivial
  | cons l ls ih =>
    intro acc h
    rw [List.length_cons] at h
    refine ⟨⟨hm l List.mem_cons_self, by omega⟩, fun s' hs => ?_⟩
    simp only [stW, Option.some.injEq] at hs
    rw [← hs]
    have := lay_len (hm l List.mem_cons_self)
    exact ih (fun l' h' => hm l' (List.mem_cons_of_mem _ h')) _ (by rw [List.length_append]; omega)
/-- a row of changes in memory -/
structure Rw (w : World) (v : Value) (l : List Ch) : Prop where
  form : ∃ p cap, v = .slice p l.length cap ∧ (0 < l.length → ∃ b off, p = some ⟨b, off, none⟩ ∧ b < w.heap.size ∧ ∀ j, j < l.length → ∃ t, Tx w t (l[j]!).tx ∧ (l[j]!).tx.length ≤ 140737488351232 ∧ (l[j]!).rb < 18446744073709551616 ∧ ∀ i u, (chC l[j]! t)[i]? = some u → w.cell? ⟨b, off + j * 10 + i, none⟩ = some u)
theorem Rw.below {w w' : World} {v : Value} {l : List Ch} (h : Rw w v l) {n : Nat} (hb : Below n w w') (hn : w.heap.size ≤ n) : Rw w' v l := by
  obtain ⟨p, cap, hv, h2⟩ := h
  refine ⟨p, cap, hv, fun h0 => ?_⟩
  obtain ⟨b, off, hp, hlt, hc⟩ := h2 h0
  refine ⟨b, off, hp, Nat.lt_of_lt_of_le hlt hb.size, fun j hj => ?_⟩
  obtain ⟨t, ht, h1, h2, h3⟩ := hc j hj
  exact ⟨t, ht.below hb hn, h1, h2, fun i u hi => (hb.cell (p := ⟨b, off + j * 10 + i, none⟩) (Nat.lt_of_lt_of_le hlt hn)).trans (h3 i u hi)⟩
theorem all_step {l : List Ch} {k : Nat} (h : k < l.length) : Rc.all (l.take (k + 1)) = Rc.all (l.take k) ++ Rc.bytes l[k]! := by
  rw [← List.take_append_getElem h, getElem!_pos l k h]; simp only [Rc.all, List.flatMap_append, List.flatMap_cons, List.flatMap_nil, List.append_nil]
theorem body_len (c : Ch) (ls : List L) (hm : ∀ l ∈ ls, Rc.may l (Rc.get l c) = true) : (Rc.body c ls).length ≤ ls.length * 1100 := by
  induction ls with
  | nil => simp [Rc.body]
  | cons l ls ih =>
    have h1 := lay_len (hm l List.mem_cons_self)
    have h2 := ih fun l' h' => hm l' (List.mem_cons_of_mem _ h')
    have e : (Rc.body c (l :: ls)).length = (Rc.lay l (Rc.get l c)).length + (Rc.body c ls).length := by simp [Rc.body]
    rw [e, List.length_cons]; omega
theorem bytes_len {c : Ch} (h : Rc.Ok c) : (Rc.bytes c).length ≤ 5000 := by
  have h4 : (Rc.letters c.k).length ≤ 4 := by unfold Rc.letters; (repeat' split) <;> simp
  have := body_len c _ h.2.1
  have h10 := Pk.enc_ten (n := c.k.toNat) (by have := h.1; omega)
  simp only [Rc.bytes, List.length_append]; omega
theorem all_len (l : List Ch) (h : ∀ c ∈ l, Rc.Ok c) : (Rc.all l).length ≤ l.length * 5000 := by
  induction l with
  | nil => simp [Rc.all]
  | cons c l ih =>
    have h1 := bytes_len (h c List.mem_cons_self)
    have h2 := ih fun x hx => h x (List.mem_cons_of_mem _ hx)
    have e : (Rc.all (c :: l)).length = (Rc.bytes c).length + (Rc.all l).length := by simp [Rc.all]
    rw [e, List.length_cons]; omega
end Go.Proofs.YtepondcflkledaaGreat
end

section
namespace Go.Proofs.YtepondcflkledaaGreat
set_option maxRecDepth 20000
open Go.RowKit
open Rc (L V Ch)

end Go.Proofs.YtepondcflkledaaGreat
end

section
namespace Go.Proofs.YtepondcflkledaaGreat
set_option maxRecDepth 20000
open Go.RowKit
open Rc (L V Ch)

theorem first_step {l : List Ch} {k : Nat} (h : k < l.length) : Rc.first (l.drop k) = if Rc.check l[k]! ≠ 0 then Rc.check l[k]! else Rc.first (l.drop (k + 1)) := by
  rw [List.drop_eq_getElem_cons h, getElem!_pos l k h]; rfl
theorem Rw.len {w : World} {v : Value} {l : List Ch} (h : Rw w v l) : ∃ p cap, v = .slice p l.length cap := by obtain ⟨p, cap, hv, _⟩ := h; exact ⟨p, cap, hv⟩
end Go.Proofs.YtepondcflkledaaGreat
end
