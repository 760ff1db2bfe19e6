import Derived.Test.YtpgehocadohkiaaGreatDoorMgBJ

section
namespace Go.Proofs.YtpgehocadohkiaaGreatDoor.W
open Go.RowKit
open Wr (Ms V L)

/-- a message's cells -/
def msgC (m : Ms) : Array Value := #[.int .i64 m.k, .int .i64 m.se, .int .i64 m.nu, .int .i64 m.jo, .int .i64 m.ba, .int .i64 m.ix, .int .i64 m.co, .int .i64 m.rc, .int .u64 (m.rb : Int), .string m.tx, .string m.pr]
def Mg (w : World) (A : Nat) (m : Ms) : Prop := w.heap[A]? = some (.cells (msgC m) 44 (0, 0))
structure Ch (A B : Nat) (w w' : World) : Prop where
  os : w'.os = w.os
  tape : w'.tape = w.tape
  output : w'.output = w.output
  size : w.heap.size ≤ w'.heap.size
  block : ∀ k, k < w.heap.size → k ≠ A → k ≠ B → w'.heap[k]? = w.heap[k]?
theorem Ch.of_below {A B : Nat} {w w' : World} (h : Below w.heap.size w w') : Ch A B w w' := ⟨h.os, h.tape, h.output, h.size, fun k hk _ _ => h.block k hk⟩
theorem Ch.trans {A B : Nat} {a b c : World} (h : Ch A B a b) (k : Ch A B b c) : Ch A B a c :=
  ⟨k.os.trans h.os, k.tape.trans h.tape, k.output.trans h.output, Nat.le_trans h.size k.size, fun i hi h1 h2 => (k.block i (Nat.lt_of_lt_of_le hi h.size) h1 h2).trans (h.block i hi h1 h2)⟩
theorem Ch.grown {A B : Nat} {w w' : World} (h : w.grownBy w' (some B)) : Ch A B w w' := ⟨h.os, h.tape, h.output, h.size, fun k hk _ h2 => h.block k hk (by simpa using h2)⟩
theorem Ch.set {A B : Nat} (w : World) (o : Nat) (v : Value) : Ch A B w (w.setCell ⟨A, o, none⟩ v) := ⟨rfl, rfl, rfl, by simp, fun k _ h1 _ => Below.heap_setCell w _ v k h1⟩
theorem Ch.wide {A B : Nat} {w w' : World} (h : Ch A A w w') : Ch A B w w' := ⟨h.os, h.tape, h.output, h.size, fun k hk h1 _ => h.block k hk h1 h1⟩

def off : L → Nat
  | .S => 1 | .N => 2 | .J => 3 | .B => 4 | .I => 5 | .C => 6 | .R => 7 | .T => 9 | .P => 10
def isW : L → Bool
  | .R => false | .T => false | .P => false | _ => true
theorem Mg.lt {w : World} {A : Nat} {m : Ms} (h : Mg w A m) : A < w.heap.size := lt_of_block h
theorem Mg.z {w : World} {A : Nat} {m : Ms} (h : Mg w A m) (k : Nat) : w.frozen? ⟨A, k, none⟩ = false := by unfold Mg at h; simp [World.frozen?, h]
theorem Mg.cw {w : World} {A : Nat} {m : Ms} (h : Mg w A m) {l : L} (hl : isW l = true) : w.cell? ⟨A, off l, none⟩ = some (.int .i64 (Wr.get l m).i) := by
  unfold Mg at h; cases l <;> first | (cases hl; done) | simp [World.cell?, h, msgC, off, Wr.get]
theorem Mg.sw {w : World} {A : Nat} {m : Ms} (h : Mg w A m) {l : L} (hl : isW l = true) (x : Int) : Mg (w.setCell ⟨A, off l, none⟩ (.int .i64 x)) A (Wr.set l ⟨x, 0, Wr.e0⟩ m) := by
  unfold Mg at h ⊢
  rw [cells_set h]
  cases l <;> first | (cases hl; done) | rfl
def isT : L → Bool
  | .T => true | .P => true | _ => false
theorem Mg.ct {w : World} {A : Nat} {m : Ms} (h : Mg w A m) {l : L} (hl : isT l = true) : w.cell? ⟨A, off l, none⟩ = some (.string (Wr.get l m).t) := by
  unfold Mg at h; cases l <;> first | (cases hl; done) | simp [World.cell?, h, msgC, off, Wr.get]
theorem Mg.st {w : World} {A : Nat} {m : Ms} (h : Mg w A m) {l : L} (hl : isT l = true) (x : ByteArray) : Mg (w.setCell ⟨A, off l, none⟩ (.string x)) A (Wr.set l ⟨0, 0, x⟩ m) := by
  unfold Mg at h ⊢
  rw [cells_set h]
  cases l <;> first | (cases hl; done) | rfl
theorem Mg.cr {w : World} {A : Nat} {m : Ms} (h : Mg w A m) : w.cell? ⟨A, 7, none⟩ = some (.int .i64 m.rc) ∧ w.cell? ⟨A, 7 + 1, none⟩ = some (.int .u64 (m.rb : Int)) := by
  unfold Mg at h; simp [World.cell?, h, msgC]
theorem Mg.block {w w' : World} {A : Nat} {m : Ms} (h : Mg w A m) (e : w'.heap[A]? = w.heap[A]?) : Mg w' A m := e.trans h

def limP (k : Int) (l : L) : Nat := (Wr.most k l).toNat
structure FdC (A base : Nat) (k : Int) (l : L) (P : World → Prop) (bs : List Nat) (i1 i2 i3 i4 : FuncId) (c1 c2 c3 c4 : Array Value) : Prop where
  may : ∀ w m, P w → Mg w A m → m.k = k → m.rb < 18446744073709551616 → Calls Tryz.prog i1 c1 w fun e w' => e = .returned (.bool (Wr.may k l (Wr.get l m))) ∧ Below w.heap.size w w'
  clr : ∀ w m, P w → Mg w A m → Calls Tryz.prog i2 c2 w fun e w' => e = .returned (.tuple #[]) ∧ Mg w' A (Wr.set l Wr.zV m) ∧ Ch A A w w'
  lay : ∀ w m, P w → Mg w A m → m.k = k → m.rb < 18446744073709551616 → Wr.may k l (Wr.get l m) = true → Calls Tryz.prog i3 c3 w fun e w' => e = .returned (.string ⟨(Wr.lay l (Wr.get l m)).toArray⟩) ∧ Below w.heap.size w w'
  rd : ∀ w m B b p f, P w → Mg w A m → Rd w B b ((p : Nat) : Int) ((f : Nat) : Int) → p ≤ b.size → b.size ≤ 140737488351232 → A ≠ B → B < base → Calls Tryz.prog i4 (#[.pointer (some ⟨B, 0, none⟩)] ++ c4) w fun e w' => e = .returned (.tuple #[]) ∧
    Mg w' A (Wr.set l (Wr.rd b (limP k) l p f).1 m) ∧ Rd w' B b ((Wr.rd b (limP k) l p f).2.1 : Int) ((Wr.rd b (limP k) l p f).2.2 : Int) ∧ Ch A B w w'
  keep : ∀ w w', P w → (∀ j ∈ bs, w'.heap[j]? = w.heap[j]?) → P w'
  low : ∀ j ∈ bs, base ≤ j
  high : ∀ w, P w → ∀ j ∈ bs, j < w.heap.size
  typ : ∀ w, P w → ∀ j ∈ bs, ∀ o, w.heap[j]? = some o → ∀ c fz, o ≠ .cells c 5 fz
  e1 : ∀ w, (callFunc i1 c1).run Tryz.prog w = .ok (.enter i1 c1) w
  e2 : ∀ w, (callFunc i2 c2).run Tryz.prog w = .ok (.enter i2 c2) w
  e3 : ∀ w, (callFunc i3 c3).run Tryz.prog w = .ok (.enter i3 c3) w
  e4 : ∀ w v, (callFunc i4 (#[v] ++ c4)).run Tryz.prog w = .ok (.enter i4 (#[v] ++ c4)) w

theorem most_hi (k : Int) (l : L) : 0 ≤ Wr.most k l ∧ Wr.most k l ≤ 1099511627776 := by cases l <;> simp only [Wr.most] <;> (try split) <;> omega
theorem least_lo (l : L) : 0 ≤ Wr.least l := by cases l <;> decide
theorem rd_w (b : ByteArray) (lim : L → Nat) {l : L} (hl : isW l = true) (p f : Nat) : Wr.rd b lim l p f = (⟨((Wr.rdN b (lim l) p f).1 : Int), 0, Wr.e0⟩, (Wr.rdN b (lim l) p f).2) := by cases l <;> first | (cases hl; done) | rfl
theorem rd_t (b : ByteArray) (lim : L → Nat) {l : L} (hl : isT l = true) (p f : Nat) : Wr.rd b lim l p f = (⟨0, 0, (Wr.rdT b (lim l) p f).1⟩, (Wr.rdT b (lim l) p f).2) := by cases l <;> first | (cases hl; done) | rfl
theorem Rd.block {w w' : World} {B : Nat} {b : ByteArray} {p f : Int} (h : Rd w B b p f) (e : w'.heap[B]? = w.heap[B]?) : Rd w' B b p f := e.trans h
theorem may_w {k : Int} {l : L} (hl : isW l = true) (v : V) : Wr.may k l v = decide (Wr.least l ≤ v.i ∧ v.i ≤ Wr.most k l) := by
  unfold Wr.may
  rw [decide_eq_true (show l ≠ .R by rintro rfl; cases hl), Bool.true_or, Bool.and_true]
  cases l <;> first | (cases hl; done) | rfl
theorem may_t {k : Int} {l : L} (hl : isT l = true) (v : V) : Wr.may k l v = decide (Wr.least l ≤ (v.t.size : Int) ∧ (v.t.size : Int) ≤ Wr.most k l) := by
  unfold Wr.may
  rw [decide_eq_true (show l ≠ .R by rintro rfl; cases hl), Bool.true_or, Bool.and_true]
  cases l <;> first | (cases hl; done) | rfl
theorem lay_w {l : L} (hl : isW l = true) (v : V) : Wr.lay l v = Pk.enc v.i.toNat := by cases l <;> first | (cases hl; done) | rfl
theorem lay_t {l : L} (hl : isT l = true) (v : V) : Wr.lay l v = Pk.enc v.t.size ++ v.t.data.toList := by cases l <;> first | (cases hl; done) | rfl
theorem ba_append (a : List UInt8) (x : ByteArray) : (⟨a.toArray⟩ : ByteArray) ++ x = ⟨(a ++ x.data.toList).toArray⟩ := by
  apply ByteArray.ext; simp
theorem blk {bs : List Nat} {X : Nat} {w w' : World} {o : Obj} (hk : ∀ j ∈ bs, w'.heap[j]? = w.heap[j]?) (hX : X ∈ bs) (h : w.heap[X]? = some o) : w'.heap[X]? = some o := (hk X hX).trans h

set_option maxRecDepth 20000 in
theorem fd_whole {A base X : Nat} {k : Int} {l : L} (hl : isW l = true) (hA : A < base) (hX : base ≤ X) :
    FdC A base k l (fun w => W3 w X ⟨A, off l, none⟩ (Wr.least l) (Wr.most k l)) [X, X + 1, X + 2] 109 110 111 112 #[p0 (X + 1), p0 X, p0 (X + 2)] #[p0 X] #[p0 X] #[p0 (X + 2), p0 X] where
  may := by
    intro w m h hm _ _
    refine (whole1_any h (hm.cw hl)).mono ?_
    rintro e w' ⟨rfl, n, rfl⟩
    exact ⟨by rw [may_w hl], ⟨rfl, rfl, rfl, Nat.le_refl _, fun _ _ => rfl⟩⟩
  clr := by
    intro w m h hm
    refine (whole2_any h (hm.cw hl) (hm.z _)).mono ?_
    rintro e w' ⟨rfl, rfl⟩
    exact ⟨rfl, hm.sw hl 0, Ch.set _ _ _⟩
  lay := by
    intro w m h hm _ _ hy
    rw [may_w hl, decide_eq_true_eq] at hy
    have h0 := least_lo l
    have h1 := most_hi k l
    have e : (Wr.get l m).i = ((Wr.get l m).i.toNat : Int) := (Int.toNat_of_nonneg (by omega)).symm
    refine (whole3_any (x := (Wr.get l m).i.toNat) h (by rw [← e]; exact hm.cw hl) (by omega)).mono ?_
    rintro e w' ⟨rfl, hb⟩
    exact ⟨by rw [lay_w hl], hb⟩
  rd := by
    intro w m B b p f h hm hR hp hb hAB hB
    have h1 := most_hi k l
    have e : Wr.most k l = (limP k l : Int) := (Int.toNat_of_nonneg h1.1).symm
    rw [e] at h
    refine (whole4_any (most := limP k l) h (hm.cw hl) (hm.z _) hR hp hb (by omega) hAB (by show A < X; omega) (by omega)).mono ?_
    rintro e w' ⟨rfl, w1, hg, hR1, rfl⟩
    rw [rd_w b _ hl]
    refine ⟨rfl, (hm.block (hg.block A hm.lt (by simpa using hAB))).sw hl _, Rd.block hR1 (Below.heap_setCell _ _ _ _ (Ne.symm hAB)), (Ch.grown hg).trans (Ch.set _ _ _)⟩
  keep := by
    intro w w' h hk
    exact ⟨blk hk (by simp) h.a, blk hk (by simp) h.l, blk hk (by simp) h.h⟩
  low := by intro j hj; simp at hj; omega
  high := by
    intro w h j hj
    simp at hj
    rcases hj with rfl | rfl | rfl
    · exact lt_of_block h.a
    · exact lt_of_block h.l
    · exact lt_of_block h.h
  typ := by
    intro w h j hj o ho c fz e
    subst e
    simp at hj
    rcases hj with rfl | rfl | rfl
    · have := h.a.symm.trans ho; simp at this
    · have := h.l.symm.trans ho; simp at this
    · have := h.h.symm.trans ho; simp at this
  e1 := fun _ => rfl
  e2 := fun _ => rfl
  e3 := fun _ => rfl
  e4 := fun _ _ => rfl

set_option maxRecDepth 20000 in
theorem fd_text {A base X : Nat} {k : Int} {l : L} (hl : isT l = true) (hA : A < base) (hX : base ≤ X) :
    FdC A base k l (fun w => T3 w X ⟨A, off l, none⟩ (Wr.least l) (Wr.most k l)) [X, X + 1, X + 2] 118 119 120 122 #[p0 (X + 1), p0 X, p0 (X + 2)] #[p0 X] #[p0 X] #[p0 (X + 2), p0 X] where
  may := by
    intro w m h hm _ _
    refine (txt1_any h (hm.ct hl)).mono ?_
    rintro e w' ⟨rfl, n, rfl⟩
    exact ⟨by rw [may_t hl], ⟨rfl, rfl, rfl, Nat.le_refl _, fun _ _ => rfl⟩⟩
  clr := by
    intro w m h hm
    refine (txt2_any h (hm.ct hl) (hm.z _)).mono ?_
    rintro e w' ⟨rfl, rfl⟩
    exact ⟨rfl, hm.st hl _, Ch.set _ _ _⟩
  lay := by
    intro w m h hm _ _ hy
    rw [may_t hl, decide_eq_true_eq] at hy
    have h1 := most_hi k l
    refine (txt3_any h (hm.ct hl) (by omega)).mono ?_
    rintro e w' ⟨rfl, hb⟩
    exact ⟨by rw [lay_t hl, ba_append], hb⟩
  rd := by
    intro w m B b p f h hm hR hp hb hAB hB
    have h1 := most_hi k l
    have e : Wr.most k l = (limP k l : Int) := (Int.toNat_of_nonneg h1.1).symm
    rw [e] at h
    refine (txt4_any (most := limP k l) h (hm.ct hl) (hm.z _) hR hp hb (by omega) hAB (by show A < X; omega) (by omega)).mono ?_
    rintro e w' ⟨rfl, w1, hg, hR1, rfl⟩
    rw [rd_t b _ hl]
    refine ⟨rfl, (hm.block (hg.block A hm.lt (by simpa using hAB))).st hl _, Rd.block hR1 (Below.heap_setCell _ _ _ _ (Ne.symm hAB)), (Ch.grown hg).trans (Ch.set _ _ _)⟩
  keep := by
    intro w w' h hk
    exact ⟨blk hk (by simp) h.a, blk hk (by simp) h.l, blk hk (by simp) h.h⟩
  low := by intro j hj; simp at hj; omega
  high := by
    intro w h j hj
    simp at hj
    rcases hj with rfl | rfl | rfl
    · exact lt_of_block h.a
    · exact lt_of_block h.l
    · exact lt_of_block h.h
  typ := by
    intro w h j hj o ho c fz e
    subst e
    simp at hj
    rcases hj with rfl | rfl | rfl
    · have := h.a.symm.trans ho; simp at this
    · have := h.l.symm.trans ho; simp at this
    · have := h.h.symm.trans ho; simp at this
  e1 := fun _ => rfl
  e2 := fun _ => rfl
  e3 := fun _ => rfl
  e4 := fun _ _ => rfl

set_option maxRecDepth 20000 in
theorem fd_res {A base X Y C : Nat} {k : Int} (hA : A < base) (hX : base ≤ X) (hY : base ≤ Y) (hC : base ≤ C) :
    FdC A base k .R (fun w => R3 w X Y C A 7) [X, Y, Y + 1, Y + 2, C] 113 115 116 117 #[p0 C, p0 X] #[p0 X] #[p0 C, p0 X] #[p0 C, p0 X] where
  may := by
    intro w m h hm _ hn
    obtain ⟨h1, h2⟩ := hm.cr
    refine (res1_any h h1 h2 hn).mono ?_
    rintro e w' ⟨rfl, hb⟩
    exact ⟨rfl, hb⟩
  clr := by
    intro w m h hm
    obtain ⟨h1, h2⟩ := hm.cr
    refine (res2_any h h1 h2 hm.z).mono ?_
    rintro e w' ⟨rfl, rfl⟩
    refine ⟨rfl, ?_, (Ch.set _ _ _).trans (Ch.set _ _ _)⟩
    unfold Mg at hm ⊢
    rw [cells_set (cells_set hm 7 _) (7 + 1) _]; rfl
  lay := by
    intro w m h hm _ hn hy
    obtain ⟨h1, h2⟩ := hm.cr
    have hy : (decide (0 ≤ m.rc ∧ m.rc ≤ 7) && Wr.canonB m.rc m.rb) = true := hy
    rw [Bool.and_eq_true, decide_eq_true_eq] at hy
    have e : m.rc = (m.rc.toNat : Int) := (Int.toNat_of_nonneg (by omega)).symm
    refine (res3_any (c := m.rc.toNat) h (by rw [← e]; exact h1) h2 (by omega) hn).mono ?_
    rintro e w' ⟨rfl, hb⟩
    exact ⟨by rw [ba_append]; rfl, hb⟩
  rd := by
    intro w m B b p f h hm hR hp hb hAB hB
    obtain ⟨h1, h2⟩ := hm.cr
    refine (res4_any h h1 h2 hm.z hR hp hb hAB (by omega) (by omega)).mono ?_
    rintro e w' ⟨rfl, w1, w2, hg1, hg2, hR2, rfl⟩
    refine ⟨rfl, ?_, Rd.block hR2 (Below.heap_setCell _ _ _ _ (Ne.symm hAB)), ((Ch.grown hg1).trans (Ch.set _ _ _)).trans ((Ch.grown hg2).trans (Ch.set _ _ _))⟩
    have m1 := cells_set (hm.block (hg1.block A hm.lt (by simpa using hAB))) 7 (.int .i64 ((Wr.rdN b 7 p f).1 : Int))
    have m2 := cells_set ((hg2.block A (lt_of_block m1) (by simpa using hAB)).trans m1) (7 + 1) (.int .u64 ((Wr.rdB b (Wr.rdN b 7 p f).2.1 (Wr.rdN b 7 p f).2.2).1 : Int))
    exact m2
  keep := by
    intro w w' h hk
    exact ⟨blk hk (by simp) h.a, ⟨blk hk (by simp) h.c.a, blk hk (by simp) h.c.l, blk hk (by simp) h.c.h⟩, blk hk (by simp) h.f⟩
  low := by intro j hj; simp at hj; omega
  high := by
    intro w h j hj
    simp at hj
    rcases hj with rfl | rfl | rfl | rfl | rfl
    · exact lt_of_block h.a
    · exact lt_of_block h.c.a
    · exact lt_of_block h.c.l
    · exact lt_of_block h.c.h
    · exact lt_of_block h.f
  typ := by
    intro w h j hj o ho c fz e
    subst e
    simp at hj
    rcases hj with rfl | rfl | rfl | rfl | rfl
    · have := h.a.symm.trans ho; simp at this
    · have := h.c.a.symm.trans ho; simp at this
    · have := h.c.l.symm.trans ho; simp at this
    · have := h.c.h.symm.trans ho; simp at this
    · have := h.f.symm.trans ho; simp at this
  e1 := fun _ => rfl
  e2 := fun _ => rfl
  e3 := fun _ => rfl
  e4 := fun _ _ => rfl
theorem FdC.mono {A base base' : Nat} {k : Int} {l : L} {P : World → Prop} {bs : List Nat} {i1 i2 i3 i4 : FuncId} {c1 c2 c3 c4 : Array Value} (h : FdC A base' k l P bs i1 i2 i3 i4 c1 c2 c3 c4) (hb : base ≤ base') : FdC A base k l P bs i1 i2 i3 i4 c1 c2 c3 c4 :=
  ⟨h.may, h.clr, h.lay, fun w m B b p f h1 h2 h3 h4 h5 h6 h7 => h.rd w m B b p f h1 h2 h3 h4 h5 h6 (Nat.lt_of_lt_of_le h7 hb), h.keep, fun j hj => Nat.le_trans hb (h.low j hj), h.high, h.typ, h.e1, h.e2, h.e3, h.e4⟩
end Go.Proofs.YtpgehocadohkiaaGreatDoor.W
end

section
namespace Go.Proofs.YtpgehocadohkiaaGreatDoor.W
open Go.RowKit
open Wr (Ms V L)

def chr : L → Int
  | .S => 83 | .N => 78 | .J => 74 | .B => 66 | .I => 73 | .C => 67 | .R => 82 | .T => 84 | .P => 80
/-- four closures of a field, in a world -/
def Fd (A base : Nat) (k : Int) (l : L) (bs : List Nat) (w : World) (v0 v1 v2 v3 : Value) : Prop :=
  ∃ P i1 i2 i3 i4 c1 c2 c3 c4, v0 = .func (.func i1) #[] c1 ∧ v1 = .func (.func i2) #[] c2 ∧ v2 = .func (.func i3) #[] c3 ∧ v3 = .func (.func i4) #[] c4 ∧ P w ∧ FdC A base k l P bs i1 i2 i3 i4 c1 c2 c3 c4
theorem Fd.high {A base : Nat} {k : Int} {l : L} {bs : List Nat} {w : World} {v0 v1 v2 v3 : Value} (h : Fd A base k l bs w v0 v1 v2 v3) : ∀ j ∈ bs, base ≤ j ∧ j < w.heap.size := by
  obtain ⟨P, i1, i2, i3, i4, c1, c2, c3, c4, e0, e1, e2, e3, hP, hF⟩ := h
  exact fun j hj => ⟨hF.low j hj, hF.high _ hP j hj⟩
theorem Fd.mono {A base base' : Nat} {k : Int} {l : L} {bs : List Nat} {w : World} {v0 v1 v2 v3 : Value} (h : Fd A base' k l bs w v0 v1 v2 v3) (hb : base ≤ base') : Fd A base k l bs w v0 v1 v2 v3 := by
  obtain ⟨P, i1, i2, i3, i4, c1, c2, c3, c4, e0, e1, e2, e3, hP, hF⟩ := h
  exact ⟨P, i1, i2, i3, i4, c1, c2, c3, c4, e0, e1, e2, e3, hP, hF.mono hb⟩
theorem Fd.keep {A base : Nat} {k : Int} {l : L} {bs : List Nat} {w w' : World} {v0 v1 v2 v3 : Value} (h : Fd A base k l bs w v0 v1 v2 v3) (hk : ∀ j ∈ bs, w'.heap[j]? = w.heap[j]?) : Fd A base k l bs w' v0 v1 v2 v3 := by
  obtain ⟨P, i1, i2, i3, i4, c1, c2, c3, c4, e0, e1, e2, e3, hP, hF⟩ := h
  exact ⟨P, i1, i2, i3, i4, c1, c2, c3, c4, e0, e1, e2, e3, hF.keep _ _ hP hk, hF⟩
def FOPost (A : Nat) (k : Int) (l : L) (w : World) (e : Ending) (w' : World) : Prop :=
  ∃ v0 v1 v2 v3 bs, e = .returned (.agg #[v0, v1, v2, v3]) ∧ Below w.heap.size w w' ∧ Fd A (w.heap.size + 1) k l bs w' v0 v1 v2 v3
set_option maxHeartbeats 400000 in
theorem lastIndex_any (k : Int) (w : World) : Calls Tryz.prog 81 #[.int .i64 k] w fun e w' => e = .returned (.int .i64 (Wr.most k .I)) ∧ w' = w := by
  by_cases h : k = 6
  · subst h
    go_enter Tryz.func81, Tryz.ntmps81
    go_wp2
    go_ret
    exact ⟨rfl, rfl⟩
  · have hm : Wr.most k .I = 31 := if_neg h
    rw [hm]
    go_enter Tryz.func81, Tryz.ntmps81
    go_wp2
    go_ret
    exact ⟨rfl, rfl⟩
set_option maxHeartbeats 400000 in
theorem mostCount_any (k : Int) (w : World) : Calls Tryz.prog 82 #[.int .i64 k] w fun e w' => e = .returned (.int .i64 (Wr.most k .C)) ∧ w' = w := by
  by_cases h : k = 15
  · subst h
    go_enter Tryz.func82, Tryz.ntmps82
    go_wp2
    go_ret
    exact ⟨rfl, rfl⟩
  · have hm : Wr.most k .C = 32 := if_neg h
    rw [hm]
    go_enter Tryz.func82, Tryz.ntmps82
    go_wp2
    go_ret
    exact ⟨rfl, rfl⟩
theorem Mg.c0 {w : World} {A : Nat} {m : Ms} (h : Mg w A m) : w.cell? ⟨A, 0, none⟩ = some (.int .i64 m.k) := by unfold Mg at h; simp [World.cell?, h, msgC]
def nil4 : Obj := .cells #[.nilFunc, .nilFunc, .nilFunc, .nilFunc] 88
/-- the result's cell, behind the call that made the field -/
structure Fo (w w1 : World) : Prop where
  q0 : w1.cell? ⟨w.heap.size, 0, none⟩ = some .nilFunc
  q1 : ∀ v0, (w1.setCell ⟨w.heap.size, 0, none⟩ v0).cell? ⟨w.heap.size, 1, none⟩ = some .nilFunc
  q2 : ∀ v0 v1, ((w1.setCell ⟨w.heap.size, 0, none⟩ v0).setCell ⟨w.heap.size, 1, none⟩ v1).cell? ⟨w.heap.size, 2, none⟩ = some .nilFunc
  q3 : ∀ v0 v1 v2, (((w1.setCell ⟨w.heap.size, 0, none⟩ v0).setCell ⟨w.heap.size, 1, none⟩ v1).setCell ⟨w.heap.size, 2, none⟩ v2).cell? ⟨w.heap.size, 3, none⟩ = some .nilFunc
  z0 : ∀ k, w1.frozen? ⟨w.heap.size, k, none⟩ = false
  z1 : ∀ k v0, (w1.setCell ⟨w.heap.size, 0, none⟩ v0).frozen? ⟨w.heap.size, k, none⟩ = false
  z2 : ∀ k v0 v1, ((w1.setCell ⟨w.heap.size, 0, none⟩ v0).setCell ⟨w.heap.size, 1, none⟩ v1).frozen? ⟨w.heap.size, k, none⟩ = false
  z3 : ∀ k v0 v1 v2, (((w1.setCell ⟨w.heap.size, 0, none⟩ v0).setCell ⟨w.heap.size, 1, none⟩ v1).setCell ⟨w.heap.size, 2, none⟩ v2).frozen? ⟨w.heap.size, k, none⟩ = false
  r : ∀ v0 v1 v2 v3, ((((w1.setCell ⟨w.heap.size, 0, none⟩ v0).setCell ⟨w.heap.size, 1, none⟩ v1).setCell ⟨w.heap.size, 2, none⟩ v2).setCell ⟨w.heap.size, 3, none⟩ v3).heap[w.heap.size]? = some (.cells #[v0, v1, v2, v3] 88 (0, 0))
  b : ∀ v0 v1 v2 v3, Below w.heap.size w ((((w1.setCell ⟨w.heap.size, 0, none⟩ v0).setCell ⟨w.heap.size, 1, none⟩ v1).setCell ⟨w.heap.size, 2, none⟩ v2).setCell ⟨w.heap.size, 3, none⟩ v3)
  k : ∀ v0 v1 v2 v3 j, j ≠ w.heap.size → ((((w1.setCell ⟨w.heap.size, 0, none⟩ v0).setCell ⟨w.heap.size, 1, none⟩ v1).setCell ⟨w.heap.size, 2, none⟩ v2).setCell ⟨w.heap.size, 3, none⟩ v3).heap[j]? = w1.heap[j]?
theorem fo_of {w w1 : World} (hb : Below (w.alloc nil4).heap.size (w.alloc nil4) w1) : Fo w w1 := by
  have hR : w1.heap[w.heap.size]? = some (.cells #[.nilFunc, .nilFunc, .nilFunc, .nilFunc] 88 (0, 0)) := (hb.block _ (by simp)).trans (heap_alloc_new w _)
  have hc1 := fun v0 => cells_set hR 0 v0
  have hc2 := fun v0 v1 => cells_set (hc1 v0) 1 v1
  have hc3 := fun v0 v1 v2 => cells_set (hc2 v0 v1) 2 v2
  have hc4 := fun v0 v1 v2 v3 => cells_set (hc3 v0 v1 v2) 3 v3
  have fz : ∀ (w2 : World) (cs : Array Value) (k : Nat), w2.heap[w.heap.size]? = some (.cells cs 88 (0, 0)) → w2.frozen? ⟨w.heap.size, k, none⟩ = false := fun w2 cs k h => by simp [World.frozen?, h]
  have hk : ∀ v0 v1 v2 v3 j, j ≠ w.heap.size → ((((w1.setCell ⟨w.heap.size, 0, none⟩ v0).setCell ⟨w.heap.size, 1, none⟩ v1).setCell ⟨w.heap.size, 2, none⟩ v2).setCell ⟨w.heap.size, 3, none⟩ v3).heap[j]? = w1.heap[j]? := fun v0 v1 v2 v3 j hj => by
    rw [Below.heap_setCell _ _ _ _ hj, Below.heap_setCell _ _ _ _ hj, Below.heap_setCell _ _ _ _ hj, Below.heap_setCell _ _ _ _ hj]
  refine ⟨by simp [World.cell?, hR], fun v0 => by simp [World.cell?, hc1 v0], fun v0 v1 => by simp [World.cell?, hc2 v0 v1], fun v0 v1 v2 => by simp [World.cell?, hc3 v0 v1 v2],
    fun k => fz _ _ k hR, fun k v0 => fz _ _ k (hc1 v0), fun k v0 v1 => fz _ _ k (hc2 v0 v1), fun k v0 v1 v2 => fz _ _ k (hc3 v0 v1 v2), fun v0 v1 v2 v3 => hc4 v0 v1 v2 v3, ?_, hk⟩
  intro v0 v1 v2 v3
  have hs := hb.size
  simp at hs
  exact ⟨hb.os, hb.tape, hb.output, by simp; omega, fun j hj => (hk v0 v1 v2 v3 j (by omega)).trans ((hb.block j (by simp; omega)).trans (Below.heap_alloc w _ j hj))⟩
set_option maxHeartbeats 800000 in
theorem fieldOf_S {w : World} {A : Nat} {m : Ms} (h : Mg w A m) :
    Calls Tryz.prog 50 #[.pointer (some ⟨A, 0, none⟩), .int .i32 (chr .S)] w (FOPost A m.k .S w) := by
  have hs := h.lt
  have c0 := h.c0
  have hmf := hmf
  have ca : ∀ ob, (w.alloc ob).cell? ⟨A, 0, none⟩ = some (.int .i64 m.k) := fun ob => Lib.cell?_alloc_some _ c0
  unfold chr
  go_enter Tryz.func50, Tryz.ntmps50
  go_wp2_with fail
  refine (wholeAt_any ⟨A, 1, none⟩ 1 1099511627776 _).mono ?_
  rintro e w1 ⟨rfl, hb1, hs1, h3⟩
  have h3 : W3 w1 (w.heap.size + 1) ⟨A, 1, none⟩ 1 1099511627776 := by simpa using h3
  have HF := hide (fo_of hb1)
  have H3 := hide h3
  obtain ⟨q0, q1, q2, q3, z0, z1, z2, z3, _, _, _⟩ := HF.out
  clear hb1 h3
  unfold wF p0
  go_wp2
  exact bodyPost_ret (results_cell_row (p := 4) (ty := 88) rfl _ _ w.heap.size 88 _ (0, 0) _ rfl (HF.out.r _ _ _ _) Tryz.underlying88 rfl (by kernel_rfl)) rfl
    ⟨_, _, _, _, _, rfl, HF.out.b _ _ _ _, _, _, _, _, _, _, _, _, _, rfl, rfl, rfl, rfl, (fd_whole (l := .S) (k := m.k) (X := w.heap.size + 1) (base := w.heap.size + 1) rfl (by omega) (by omega)).keep w1 _ H3.out (fun j hj => HF.out.k _ _ _ _ j (by simp at hj; omega)), (fd_whole (l := .S) (k := m.k) (X := w.heap.size + 1) (base := w.heap.size + 1) rfl (by omega) (by omega))⟩
set_option maxHeartbeats 800000 in
theorem fieldOf_N {w : World} {A : Nat} {m : Ms} (h : Mg w A m) :
    Calls Tryz.prog 50 #[.pointer (some ⟨A, 0, none⟩), .int .i32 (chr .N)] w (FOPost A m.k .N w) := by
  have hs := h.lt
  have c0 := h.c0
  have hmf := hmf
  have ca : ∀ ob, (w.alloc ob).cell? ⟨A, 0, none⟩ = some (.int .i64 m.k) := fun ob => Lib.cell?_alloc_some _ c0
  unfold chr
  go_enter Tryz.func50, Tryz.ntmps50
  go_wp2_with fail
  refine (wholeAt_any ⟨A, 2, none⟩ 1 1099511627776 _).mono ?_
  rintro e w1 ⟨rfl, hb1, hs1, h3⟩
  have h3 : W3 w1 (w.heap.size + 1) ⟨A, 2, none⟩ 1 1099511627776 := by simpa using h3
  have HF := hide (fo_of hb1)
  have H3 := hide h3
  obtain ⟨q0, q1, q2, q3, z0, z1, z2, z3, _, _, _⟩ := HF.out
  clear hb1 h3
  unfold wF p0
  go_wp2
  exact bodyPost_ret (results_cell_row (p := 4) (ty := 88) rfl _ _ w.heap.size 88 _ (0, 0) _ rfl (HF.out.r _ _ _ _) Tryz.underlying88 rfl (by kernel_rfl)) rfl
    ⟨_, _, _, _, _, rfl, HF.out.b _ _ _ _, _, _, _, _, _, _, _, _, _, rfl, rfl, rfl, rfl, (fd_whole (l := .N) (k := m.k) (X := w.heap.size + 1) (base := w.heap.size + 1) rfl (by omega) (by omega)).keep w1 _ H3.out (fun j hj => HF.out.k _ _ _ _ j (by simp at hj; omega)), (fd_whole (l := .N) (k := m.k) (X := w.heap.size + 1) (base := w.heap.size + 1) rfl (by omega) (by omega))⟩
set_option maxHeartbeats 800000 in
theorem fieldOf_J {w : World} {A : Nat} {m : Ms} (h : Mg w A m) :
    Calls Tryz.prog 50 #[.pointer (some ⟨A, 0, none⟩), .int .i32 (chr .J)] w (FOPost A m.k .J w) := by
  have hs := h.lt
  have c0 := h.c0
  have hmf := hmf
  have ca : ∀ ob, (w.alloc ob).cell? ⟨A, 0, none⟩ = some (.int .i64 m.k) := fun ob => Lib.cell?_alloc_some _ c0
  unfold chr
  go_enter Tryz.func50, Tryz.ntmps50
  go_wp2_with fail
  refine (wholeAt_any ⟨A, 3, none⟩ 1 8 _).mono ?_
  rintro e w1 ⟨rfl, hb1, hs1, h3⟩
  have h3 : W3 w1 (w.heap.size + 1) ⟨A, 3, none⟩ 1 8 := by simpa using h3
  have HF := hide (fo_of hb1)
  have H3 := hide h3
  obtain ⟨q0, q1, q2, q3, z0, z1, z2, z3, _, _, _⟩ := HF.out
  clear hb1 h3
  unfold wF p0
  go_wp2
  exact bodyPost_ret (results_cell_row (p := 4) (ty := 88) rfl _ _ w.heap.size 88 _ (0, 0) _ rfl (HF.out.r _ _ _ _) Tryz.underlying88 rfl (by kernel_rfl)) rfl
    ⟨_, _, _, _, _, rfl, HF.out.b _ _ _ _, _, _, _, _, _, _, _, _, _, rfl, rfl, rfl, rfl, (fd_whole (l := .J) (k := m.k) (X := w.heap.size + 1) (base := w.heap.size + 1) rfl (by omega) (by omega)).keep w1 _ H3.out (fun j hj => HF.out.k _ _ _ _ j (by simp at hj; omega)), (fd_whole (l := .J) (k := m.k) (X := w.heap.size + 1) (base := w.heap.size + 1) rfl (by omega) (by omega))⟩
set_option maxHeartbeats 800000 in
theorem fieldOf_B {w : World} {A : Nat} {m : Ms} (h : Mg w A m) :
    Calls Tryz.prog 50 #[.pointer (some ⟨A, 0, none⟩), .int .i32 (chr .B)] w (FOPost A m.k .B w) := by
  have hs := h.lt
  have c0 := h.c0
  have hmf := hmf
  have ca : ∀ ob, (w.alloc ob).cell? ⟨A, 0, none⟩ = some (.int .i64 m.k) := fun ob => Lib.cell?_alloc_some _ c0
  unfold chr
  go_enter Tryz.func50, Tryz.ntmps50
  go_wp2_with fail
  refine (wholeAt_any ⟨A, 4, none⟩ 1 1099511627776 _).mono ?_
  rintro e w1 ⟨rfl, hb1, hs1, h3⟩
  have h3 : W3 w1 (w.heap.size + 1) ⟨A, 4, none⟩ 1 1099511627776 := by simpa using h3
  have HF := hide (fo_of hb1)
  have H3 := hide h3
  obtain ⟨q0, q1, q2, q3, z0, z1, z2, z3, _, _, _⟩ := HF.out
  clear hb1 h3
  unfold wF p0
  go_wp2
  exact bodyPost_ret (results_cell_row (p := 4) (ty := 88) rfl _ _ w.heap.size 88 _ (0, 0) _ rfl (HF.out.r _ _ _ _) Tryz.underlying88 rfl (by kernel_rfl)) rfl
    ⟨_, _, _, _, _, rfl, HF.out.b _ _ _ _, _, _, _, _, _, _, _, _, _, rfl, rfl, rfl, rfl, (fd_whole (l := .B) (k := m.k) (X := w.heap.size + 1) (base := w.heap.size + 1) rfl (by omega) (by omega)).keep w1 _ H3.out (fun j hj => HF.out.k _ _ _ _ j (by simp at hj; omega)), (fd_whole (l := .B) (k := m.k) (X := w.heap.size + 1) (base := w.heap.size + 1) rfl (by omega) (by omega))⟩
set_option maxHeartbeats 800000 in
theorem fieldOf_I {w : World} {A : Nat} {m : Ms} (h : Mg w A m) :
    Calls Tryz.prog 50 #[.pointer (some ⟨A, 0, none⟩), .int .i32 (chr .I)] w (FOPost A m.k .I w) := by
  have hs := h.lt
  have c0 := h.c0
  have hmf := hmf
  have ca : ∀ ob, (w.alloc ob).cell? ⟨A, 0, none⟩ = some (.int .i64 m.k) := fun ob => Lib.cell?_alloc_some _ c0
  unfold chr
  go_enter Tryz.func50, Tryz.ntmps50
  go_wp2_with fail
  have hsz : (w.alloc (.cells #[.nilFunc, .nilFunc, .nilFunc, .nilFunc] 88)).drew.heap.size = w.heap.size + 1 := by simp
  have hn : A ≠ w.heap.size := by omega
  go_region_held3 (fun w' => w'.cell? ⟨A, 0, none⟩ = some (.int .i64 m.k)) (first | go_keep | exact ka | exact cell_other (cell_other (cell_other (cell_other ka hn) hn) hn) hn) (first
    | (go_at_call 81; refine (lastIndex_any m.k _).mono ?_; rintro e w0 ⟨rfl, rfl⟩)
    | (go_at_call 80; refine (wholeAt_any ⟨A, 5, none⟩ 0 (Wr.most m.k .I) _).mono ?_; rintro e w1 ⟨rfl, hb1, hs1, h3⟩; have HF := hide (fo_of (w := w) (w1 := w1) ⟨hb1.os, hb1.tape, hb1.output, hb1.size, hb1.block⟩); have ka : w1.cell? ⟨A, 0, none⟩ = some (.int .i64 m.k) := (hb1.cell (p := ⟨A, 0, none⟩) (by simp; omega)).trans (ca _); obtain ⟨q0, q1, q2, q3, z0, z1, z2, z3, _, _, _⟩ := HF.out; rw [hsz] at h3 ⊢; have H3 := hide h3; clear h3 hb1 hs1; unfold wF p0))
  go_wp2
  exact bodyPost_ret (results_cell_row (p := 4) (ty := 88) rfl _ _ w.heap.size 88 _ (0, 0) _ rfl (HF.out.r _ _ _ _) Tryz.underlying88 rfl (by kernel_rfl)) rfl
    ⟨_, _, _, _, _, rfl, HF.out.b _ _ _ _, _, _, _, _, _, _, _, _, _, rfl, rfl, rfl, rfl, (fd_whole (l := .I) (k := m.k) (X := w.heap.size + 1) (base := w.heap.size + 1) rfl (by omega) (by omega)).keep w1 _ H3.out (fun j hj => HF.out.k _ _ _ _ j (by simp at hj; omega)), (fd_whole (l := .I) (k := m.k) (X := w.heap.size + 1) (base := w.heap.size + 1) rfl (by omega) (by omega))⟩
set_option maxHeartbeats 800000 in
theorem fieldOf_C {w : World} {A : Nat} {m : Ms} (h : Mg w A m) :
    Calls Tryz.prog 50 #[.pointer (some ⟨A, 0, none⟩), .int .i32 (chr .C)] w (FOPost A m.k .C w) := by
  have hs := h.lt
  have c0 := h.c0
  have hmf := hmf
  have ca : ∀ ob, (w.alloc ob).cell? ⟨A, 0, none⟩ = some (.int .i64 m.k) := fun ob => Lib.cell?_alloc_some _ c0
  unfold chr
  go_enter Tryz.func50, Tryz.ntmps50
  go_wp2_with fail
  have hsz : (w.alloc (.cells #[.nilFunc, .nilFunc, .nilFunc, .nilFunc] 88)).drew.heap.size = w.heap.size + 1 := by simp
  have hn : A ≠ w.heap.size := by omega
  go_region_held3 (fun w' => w'.cell? ⟨A, 0, none⟩ = some (.int .i64 m.k)) (first | go_keep | exact ka | exact cell_other (cell_other (cell_other (cell_other ka hn) hn) hn) hn) (first
    | (go_at_call 82; refine (mostCount_any m.k _).mono ?_; rintro e w0 ⟨rfl, rfl⟩)
    | (go_at_call 80; refine (wholeAt_any ⟨A, 6, none⟩ 0 (Wr.most m.k .C) _).mono ?_; rintro e w1 ⟨rfl, hb1, hs1, h3⟩; have HF := hide (fo_of (w := w) (w1 := w1) ⟨hb1.os, hb1.tape, hb1.output, hb1.size, hb1.block⟩); have ka : w1.cell? ⟨A, 0, none⟩ = some (.int .i64 m.k) := (hb1.cell (p := ⟨A, 0, none⟩) (by simp; omega)).trans (ca _); obtain ⟨q0, q1, q2, q3, z0, z1, z2, z3, _, _, _⟩ := HF.out; rw [hsz] at h3 ⊢; have H3 := hide h3; clear h3 hb1 hs1; unfold wF p0))
  go_wp2
  exact bodyPost_ret (results_cell_row (p := 4) (ty := 88) rfl _ _ w.heap.size 88 _ (0, 0) _ rfl (HF.out.r _ _ _ _) Tryz.underlying88 rfl (by kernel_rfl)) rfl
    ⟨_, _, _, _, _, rfl, HF.out.b _ _ _ _, _, _, _, _, _, _, _, _, _, rfl, rfl, rfl, rfl, (fd_whole (l := .C) (k := m.k) (X := w.heap.size + 1) (base := w.heap.size + 1) rfl (by omega) (by omega)).keep w1 _ H3.out (fun j hj => HF.out.k _ _ _ _ j (by simp at hj; omega)), (fd_whole (l := .C) (k := m.k) (X := w.heap.size + 1) (base := w.heap.size + 1) rfl (by omega) (by omega))⟩
set_option maxHeartbeats 800000 in
theorem fieldOf_R {w : World} {A : Nat} {m : Ms} (h : Mg w A m) :
    Calls Tryz.prog 50 #[.pointer (some ⟨A, 0, none⟩), .int .i32 (chr .R)] w (FOPost A m.k .R w) := by
  have hs := h.lt
  have c0 := h.c0
  have hmf := hmf
  have ca : ∀ ob, (w.alloc ob).cell? ⟨A, 0, none⟩ = some (.int .i64 m.k) := fun ob => Lib.cell?_alloc_some _ c0
  unfold chr
  go_enter Tryz.func50, Tryz.ntmps50
  go_wp2_with fail
  refine (resultAt_any A 7 _).mono ?_
  rintro e w1 ⟨Y, C, hY, hC, rfl, hb1, h3⟩
  have hY : w.heap.size + 1 ≤ Y := by simpa using hY
  have hC : w.heap.size + 1 ≤ C := by simpa using hC
  have h3 : R3 w1 (w.heap.size + 1) Y C A 7 := by simpa using h3
  have HF := hide (fo_of hb1)
  have H3 := hide h3
  obtain ⟨q0, q1, q2, q3, z0, z1, z2, z3, _, _, _⟩ := HF.out
  clear hb1 h3
  unfold rF p0
  go_wp2
  exact bodyPost_ret (results_cell_row (p := 4) (ty := 88) rfl _ _ w.heap.size 88 _ (0, 0) _ rfl (HF.out.r _ _ _ _) Tryz.underlying88 rfl (by kernel_rfl)) rfl
    ⟨_, _, _, _, _, rfl, HF.out.b _ _ _ _, _, _, _, _, _, _, _, _, _, rfl, rfl, rfl, rfl, (fd_res (k := m.k) (A := A) (X := w.heap.size + 1) (Y := Y) (C := C) (base := w.heap.size + 1) (by omega) (by omega) (by omega) (by omega)).keep w1 _ H3.out (fun j hj => HF.out.k _ _ _ _ j (by simp at hj; omega)), (fd_res (k := m.k) (X := w.heap.size + 1) (Y := Y) (C := C) (A := A) (base := w.heap.size + 1) (by omega) (by omega) (by omega) (by omega))⟩
set_option maxHeartbeats 800000 in
theorem fieldOf_T {w : World} {A : Nat} {m : Ms} (h : Mg w A m) :
    Calls Tryz.prog 50 #[.pointer (some ⟨A, 0, none⟩), .int .i32 (chr .T)] w (FOPost A m.k .T w) := by
  have hs := h.lt
  have c0 := h.c0
  have hmf := hmf
  have ca : ∀ ob, (w.alloc ob).cell? ⟨A, 0, none⟩ = some (.int .i64 m.k) := fun ob => Lib.cell?_alloc_some _ c0
  unfold chr
  go_enter Tryz.func50, Tryz.ntmps50
  go_wp2_with fail
  refine (textAt_any ⟨A, 9, none⟩ 0 32 _).mono ?_
  rintro e w1 ⟨rfl, hb1, hs1, h3⟩
  have h3 : T3 w1 (w.heap.size + 1) ⟨A, 9, none⟩ 0 32 := by simpa using h3
  have HF := hide (fo_of hb1)
  have H3 := hide h3
  obtain ⟨q0, q1, q2, q3, z0, z1, z2, z3, _, _, _⟩ := HF.out
  clear hb1 h3
  unfold tF p0
  go_wp2
  exact bodyPost_ret (results_cell_row (p := 4) (ty := 88) rfl _ _ w.heap.size 88 _ (0, 0) _ rfl (HF.out.r _ _ _ _) Tryz.underlying88 rfl (by kernel_rfl)) rfl
    ⟨_, _, _, _, _, rfl, HF.out.b _ _ _ _, _, _, _, _, _, _, _, _, _, rfl, rfl, rfl, rfl, (fd_text (l := .T) (k := m.k) (X := w.heap.size + 1) (base := w.heap.size + 1) rfl (by omega) (by omega)).keep w1 _ H3.out (fun j hj => HF.out.k _ _ _ _ j (by simp at hj; omega)), (fd_text (l := .T) (k := m.k) (X := w.heap.size + 1) (base := w.heap.size + 1) rfl (by omega) (by omega))⟩
set_option maxHeartbeats 800000 in
theorem fieldOf_P {w : World} {A : Nat} {m : Ms} (h : Mg w A m) :
    Calls Tryz.prog 50 #[.pointer (some ⟨A, 0, none⟩), .int .i32 (chr .P)] w (FOPost A m.k .P w) := by
  have hs := h.lt
  have c0 := h.c0
  have hmf := hmf
  have ca : ∀ ob, (w.alloc ob).cell? ⟨A, 0, none⟩ = some (.int .i64 m.k) := fun ob => Lib.cell?_alloc_some _ c0
  unfold chr
  go_enter Tryz.func50, Tryz.ntmps50
  go_wp2_with fail
  refine (textAt_any ⟨A, 10, none⟩ 1 1024 _).mono ?_
  rintro e w1 ⟨rfl, hb1, hs1, h3⟩
  have h3 : T3 w1 (w.heap.size + 1) ⟨A, 10, none⟩ 1 1024 := by simpa using h3
  have HF := hide (fo_of hb1)
  have H3 := hide h3
  obtain ⟨q0, q1, q2, q3, z0, z1, z2, z3, _, _, _⟩ := HF.out
  clear hb1 h3
  unfold tF p0
  go_wp2
  exact bodyPost_ret (results_cell_row (p := 4) (ty := 88) rfl _ _ w.heap.size 88 _ (0, 0) _ rfl (HF.out.r _ _ _ _) Tryz.underlying88 rfl (by kernel_rfl)) rfl
    ⟨_, _, _, _, _, rfl, HF.out.b _ _ _ _, _, _, _, _, _, _, _, _, _, rfl, rfl, rfl, rfl, (fd_text (l := .P) (k := m.k) (X := w.heap.size + 1) (base := w.heap.size + 1) rfl (by omega) (by omega)).keep w1 _ H3.out (fun j hj => HF.out.k _ _ _ _ j (by simp at hj; omega)), (fd_text (l := .P) (k := m.k) (X := w.heap.size + 1) (base := w.heap.size + 1) rfl (by omega) (by omega))⟩
end Go.Proofs.YtpgehocadohkiaaGreatDoor.W
end
