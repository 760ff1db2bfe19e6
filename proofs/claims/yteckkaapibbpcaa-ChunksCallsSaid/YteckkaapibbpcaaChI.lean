import Derived.Test.YteckkaapibbpcaaChH
namespace Go.Proofs.Yteckkaapibbpcaa
open Go.RowKit

/-- a sender and the document's -/
structure Pr where
  b : Nat
  x : Nat
  s : Sn
  T : List ByteArray
  ad : Option Addr
  cap : Nat
  X : Nat
  o : Nat
  adx : Option Addr
  capx : Nat
  Xx : Nat
  ox : Nat
/-- room behind its texts -/
def Pr.sp (p : Pr) : Prop := p.s.R.length < p.cap
structure One (B : Nat) (w : World) (p : Pr) : Prop where
  ok : p.s.ok
  sb : Sb w p.b p.s p.ad p.cap p.X p.o
  rb : Rb w p.x p.s p.T p.adx p.capx p.Xx p.ox
  lb : B ≤ p.b
  lx : B ≤ p.x
  lX : 0 < p.cap → B ≤ p.X
  sep : 0 < p.cap → 0 < p.capx → p.X ≠ p.Xx
/-- what a call at p turns: its two blocks, and, where there is room, the next cell of its texts -/
structure Fr (p : Pr) (w w' : World) : Prop where
  os : w'.os = w.os
  tape : w'.tape = w.tape
  output : w'.output = w.output
  size : w.heap.size ≤ w'.heap.size
  block : ∀ j, j < w.heap.size → j ≠ p.b → j ≠ p.x → (p.sp → j ≠ p.X) → w'.heap[j]? = w.heap[j]?
  cell : p.sp → (∀ i, i ≠ p.o + p.s.R.length → w'.cell? ⟨p.X, i, none⟩ = w.cell? ⟨p.X, i, none⟩) ∧ (∀ cur t, w.heap[p.X]? = some (.cells cur t (0, 0)) → ∃ cur', w'.heap[p.X]? = some (.cells cur' t (0, 0)) ∧ cur'.size = cur.size)
/-- how p may stand behind a call -/
structure Nx (w : World) (p p' : Pr) : Prop where
  b : p'.b = p.b
  x : p'.x = p.x
  X : p'.cap = 0 ∨ w.heap.size ≤ p'.X ∨ (p'.X = p.X ∧ 0 < p.cap ∧ (p'.sp → p.sp) ∧ (p'.o + p'.s.R.length = p.o + p.s.R.length ∨ (p.sp ∧ p'.o + p'.s.R.length = p.o + p.s.R.length + 1)))
  Xx : p'.capx = 0 ∨ w.heap.size ≤ p'.Xx ∨ (p'.Xx = p.Xx ∧ 0 < p.capx)
section
variable {B : Nat} {w w1 w2 : World} {p p' q : Pr}
theorem Pr.sp.pos (h : p.sp) : 0 < p.cap := by unfold Pr.sp at h; omega
theorem One.Xb (h : One B w p) (h0 : 0 < p.cap) : p.X ≠ p.b := h.sb.ne h0
theorem One.Xx_ (h : One B w p) (h0 : 0 < p.cap) : p.X ≠ p.x := by
  obtain ⟨cur, hc, _⟩ := h.sb.rs.blk h0
  exact blk_ne hc h.rb.cb (by decide)
theorem One.bx (h : One B w p) : p.b ≠ p.x := blk_ne h.sb.cb h.rb.cb (by decide)
theorem One.drewN (h : One B w p) (n : Nat) : One B (w.drewN n) p := ⟨h.ok, h.sb.drewN n, h.rb.drewN n, h.lb, h.lx, h.lX, h.sep⟩
/-- all of it below a mark -/
structure Lo (n : Nat) (p : Pr) : Prop where
  b : p.b < n
  x : p.x < n
  X : 0 < p.cap → p.X < n
  Xx : 0 < p.capx → p.Xx < n
theorem One.lo (h : One B w p) : Lo w.heap.size p := ⟨h.sb.lt, h.rb.lt, h.sb.rs.lt, h.rb.rs.lt⟩
theorem Lo.mono {n m : Nat} (h : Lo n p) (hm : n ≤ m) : Lo m p := ⟨by have := h.b; omega, by have := h.x; omega, fun h0 => by have := h.X h0; omega, fun h0 => by have := h.Xx h0; omega⟩
theorem One.keepN {n : Nat} (h : One B w p) (hl : Lo n p) (hb : Below n w w1) : One B w1 p :=
  ⟨h.ok, ⟨(hb.block _ hl.b).trans h.sb.cb, h.sb.rs.keep fun h0 => hb.block _ (hl.X h0)⟩, ⟨(hb.block _ hl.x).trans h.rb.cb, h.rb.rs.keep fun h0 => hb.block _ (hl.Xx h0), h.rb.hi⟩, h.lb, h.lx, h.lX, h.sep⟩
theorem One.below (h : One B w p) (hb : Below w.heap.size w w1) : One B w1 p := h.keepN h.lo hb
theorem Fr.of_below (hb : Below w.heap.size w w1) (hX : p.sp → p.X < w.heap.size) : Fr p w w1 :=
  ⟨hb.os, hb.tape, hb.output, hb.size, fun j hj _ _ _ => hb.block j hj, fun h => ⟨fun _ _ => World.cell?_of_block (hb.block _ (hX h)), fun cur _ hc => ⟨cur, (hb.block _ (hX h)).trans hc, rfl⟩⟩⟩
theorem Fr.refl (h : One B w p) : Fr p w w := Fr.of_below (Below.refl _ w) fun hs => h.sb.rs.lt hs.pos
theorem Fr.onb (h : Fr p w w1) (ho : On p.b w1 w2) (hX : p.sp → p.X < w.heap.size ∧ p.X ≠ p.b) : Fr p w w2 :=
  ⟨ho.os.trans h.os, ho.tape.trans h.tape, ho.output.trans h.output, Nat.le_trans h.size ho.size, fun j hj h1 h2 h3 => (ho.block j (Nat.lt_of_lt_of_le hj h.size) h1).trans (h.block j hj h1 h2 h3), fun hs => by
    have e := ho.block p.X (Nat.lt_of_lt_of_le (hX hs).1 h.size) (hX hs).2
    refine ⟨fun i hi => (World.cell?_of_block e).trans ((h.cell hs).1 i hi), fun cur t hc => ?_⟩
    obtain ⟨cur', h1, h2⟩ := (h.cell hs).2 cur t hc
    exact ⟨cur', e.trans h1, h2⟩⟩
theorem Fr.onx (h : Fr p w w1) (ho : On p.x w1 w2) (hX : p.sp → p.X < w.heap.size ∧ p.X ≠ p.x) : Fr p w w2 :=
  ⟨ho.os.trans h.os, ho.tape.trans h.tape, ho.output.trans h.output, Nat.le_trans h.size ho.size, fun j hj h1 h2 h3 => (ho.block j (Nat.lt_of_lt_of_le hj h.size) h2).trans (h.block j hj h1 h2 h3), fun hs => by
    have e := ho.block p.X (Nat.lt_of_lt_of_le (hX hs).1 h.size) (hX hs).2
    refine ⟨fun i hi => (World.cell?_of_block e).trans ((h.cell hs).1 i hi), fun cur t hc => ?_⟩
    obtain ⟨cur', h1, h2⟩ := (h.cell hs).2 cur t hc
    exact ⟨cur', e.trans h1, h2⟩⟩
theorem Fr.low {n : Nat} (h : Fr p w w1) (hb : Below n w1 w2) (hn : w.heap.size ≤ n) (hX : p.sp → p.X < w.heap.size) : Fr p w w2 :=
  ⟨hb.os.trans h.os, hb.tape.trans h.tape, hb.output.trans h.output, Nat.le_trans h.size hb.size, fun j hj h1 h2 h3 => (hb.block j (by omega)).trans (h.block j hj h1 h2 h3), fun hs => by
    have e := hb.block p.X (by have := hX hs; omega)
    refine ⟨fun i hi => (World.cell?_of_block e).trans ((h.cell hs).1 i hi), fun cur t hc => ?_⟩
    obtain ⟨cur', h1, h2⟩ := (h.cell hs).2 cur t hc
    exact ⟨cur', e.trans h1, h2⟩⟩
theorem Fr.pre {n : Nat} (h : Fr p (w.drewN n) w1) : Fr p w w1 := ⟨h.os, h.tape, h.output, h.size, h.block, h.cell⟩
theorem Fr.pre_alloc {ob : Obj} (h : Fr p (w.alloc ob) w1) (hX : p.sp → p.X < w.heap.size) : Fr p w w1 :=
  ⟨h.os, h.tape, h.output, Nat.le_trans (by rw [World.size_alloc]; omega) h.size, fun j hj h1 h2 h3 => (h.block j (by rw [World.size_alloc]; omega) h1 h2 h3).trans (Below.heap_alloc w ob j hj), fun hs => by
    have e := Below.heap_alloc w ob p.X (hX hs)
    refine ⟨fun i hi => ((h.cell hs).1 i hi).trans (World.cell?_of_block e), fun cur t hc => (h.cell hs).2 cur t (e.trans hc)⟩⟩
theorem Fr.of_pt (h : Pt p.b p.X (p.o + p.s.R.length) w w1) (hs : p.sp) : Fr p w w1 :=
  ⟨h.os, h.tape, h.output, h.size, fun j hj h1 _ h3 => h.block j hj h1 (h3 hs), fun _ => ⟨h.cell, h.shape⟩⟩
theorem Fr.below (h : Fr p w w1) (ho : One B w p) (hB : B ≤ w.heap.size) : Below B w w1 :=
  ⟨h.os, h.tape, h.output, h.size, fun j hj => h.block j (by omega) (by have := ho.lb; omega) (by have := ho.lx; omega) (fun hs => by have := ho.lX hs.pos; omega)⟩
/-- another block is as it was -/
theorem Fr.other (h : Fr p w w1) (ho : One B w p) {j : Nat} {cs : Array Value} {t : TypeId} (hj : w.heap[j]? = some (.cells cs t (0, 0))) (h1 : t ≠ 53) (h2 : t ≠ 37) (h3 : t ≠ 9) : w1.heap[j]? = w.heap[j]? :=
  h.block j (lt_of_block hj) (blk_ne hj ho.sb.cb h1) (blk_ne hj ho.rb.cb h2) (fun hs => by obtain ⟨cur, hc, _⟩ := ho.sb.rs.blk hs.pos; exact blk_ne hj hc h3)
/-- two pairs that do not trouble one another -/
structure Ap (p q : Pr) : Prop where
  b : p.b ≠ q.b
  x : p.x ≠ q.x
  X : 0 < p.cap → 0 < q.cap → p.X = q.X → p.sp → (¬ q.sp ∧ q.o + q.s.R.length ≤ p.o + p.s.R.length)
  s1 : 0 < p.cap → 0 < q.capx → p.X ≠ q.Xx
/-- the other one stays -/
theorem One.fr (h : One B w q) (hf : Fr p w w1) (ho : One B w p) (ha : Ap p q) : One B w1 q := by
  have eb : w1.heap[q.b]? = w.heap[q.b]? := hf.block q.b h.sb.lt (Ne.symm ha.b) (blk_ne h.sb.cb ho.rb.cb (by decide)) (fun hs => by obtain ⟨cur, hc, _⟩ := ho.sb.rs.blk hs.pos; exact blk_ne h.sb.cb hc (by decide))
  have ex : w1.heap[q.x]? = w.heap[q.x]? := hf.block q.x h.rb.lt (blk_ne h.rb.cb ho.sb.cb (by decide)) (Ne.symm ha.x) (fun hs => by obtain ⟨cur, hc, _⟩ := ho.sb.rs.blk hs.pos; exact blk_ne h.rb.cb hc (by decide))
  refine ⟨h.ok, ⟨eb.trans h.sb.cb, ?_⟩, ⟨ex.trans h.rb.cb, h.rb.rs.keep fun h0 => ?_, h.rb.hi⟩, h.lb, h.lx, h.lX, h.sep⟩
  · by_cases hk : p.sp ∧ 0 < q.cap ∧ q.X = p.X
    · obtain ⟨hs, h0, hX⟩ := hk
      obtain ⟨k1, k2⟩ := ha.X hs.pos h0 hX.symm hs
      obtain ⟨c1, c2⟩ := hf.cell hs
      refine ⟨h.sb.rs.le, h.sb.rs.at_, fun h0 => ?_, fun i hi => ?_⟩
      · obtain ⟨cur, hc, hz⟩ := h.sb.rs.blk h0
        rw [hX] at hc
        obtain ⟨cur', h3, h4⟩ := c2 cur _ hc
        rw [hX]
        exact ⟨cur', h3, by omega⟩
      · have := h.sb.rs.c i hi
        rw [hX] at this ⊢
        rw [c1 _ (by omega)]
        exact this
    · refine h.sb.rs.keep fun h0 => ?_
      obtain ⟨cur, hc, _⟩ := h.sb.rs.blk h0
      exact hf.block q.X (h.sb.rs.lt h0) (blk_ne hc ho.sb.cb (by decide)) (blk_ne hc ho.rb.cb (by decide)) (fun hs e => hk ⟨hs, h0, e⟩)
  · obtain ⟨cur, hc, _⟩ := h.rb.rs.blk h0
    exact hf.block q.Xx (h.rb.rs.lt h0) (blk_ne hc ho.sb.cb (by decide)) (blk_ne hc ho.rb.cb (by decide)) (fun hs => Ne.symm (ha.s1 hs.pos h0))
theorem Ap.nx (h : Ap p q) (hn : Nx w p p') (hq : Lo w.heap.size q) : Ap p' q := by
  refine ⟨by rw [hn.b]; exact h.b, by rw [hn.x]; exact h.x, fun h1 h2 h3 h4 => ?_, fun h1 h2 => ?_⟩
  · rcases hn.X with k | k | ⟨k1, k2, k3, k4⟩
    · omega
    · have := hq.X h2; omega
    · obtain ⟨j1, j2⟩ := h.X k2 h2 (by omega) (k3 h4)
      exact ⟨j1, by omega⟩
  · rcases hn.X with k | k | ⟨k1, k2, k3, k4⟩
    · omega
    · have := hq.Xx h2; omega
    · rw [k1]; exact h.s1 k2 h2
theorem Ap.nx2 (h : Ap q p) (hn : Nx w p p') (hq : Lo w.heap.size q) : Ap q p' := by
  refine ⟨by rw [hn.b]; exact h.b, by rw [hn.x]; exact h.x, fun h1 h2 h3 h4 => ?_, fun h1 h2 => ?_⟩
  · rcases hn.X with k | k | ⟨k1, k2, k3, k4⟩
    · omega
    · have := hq.X h1; omega
    · obtain ⟨j1, j2⟩ := h.X h1 k2 (by omega) h4
      refine ⟨fun hs => j1 (k3 hs), ?_⟩
      rcases k4 with k4 | ⟨k4, _⟩
      · omega
      · exact absurd k4 j1
  · rcases hn.Xx with k | k | ⟨k1, k2⟩
    · omega
    · have := hq.X h1; omega
    · rw [k1]; exact h.s1 h1 k2
theorem Nx.same (hs : p'.b = p.b) (hx : p'.x = p.x) (hX : p'.X = p.X) (hc : p'.cap = p.cap) (ho : p'.o = p.o) (hl : p'.s.R.length = p.s.R.length) (hXx : p'.Xx = p.Xx) (hcx : p'.capx = p.capx) : Nx w p p' := by
  refine ⟨hs, hx, ?_, ?_⟩
  · rcases Nat.eq_zero_or_pos p.cap with h0 | h0
    · exact .inl (by omega)
    · refine .inr (.inr ⟨hX, h0, fun h => ?_, .inl (by omega)⟩)
      unfold Pr.sp at h ⊢
      omega
  · rcases Nat.eq_zero_or_pos p.capx with h0 | h0
    · exact .inl (by omega)
    · exact .inr (.inr ⟨hXx, h0⟩)
end
/-- what a call of both leaves -/
def TP (B : Nat) (p : Pr) (w : World) (e : Ending) (w' : World) : Prop := e = .returned (.bool true) ∧ ∃ p', One B w' p' ∧ Fr p w w' ∧ Nx w p p'
set_option maxHeartbeats 4000000 in
set_option maxRecDepth 8000 in
theorem stands_any {B : Nat} {w : World} {p : Pr} (h : One B w p) :
    Calls Try.prog 11 #[.pointer (some ⟨p.b, 0, none⟩), .pointer (some ⟨p.x, 0, none⟩)] w fun e w' => e = .returned (.bool true) ∧ ∃ m, w' = w.drewN m := by
  have c2 := h.rb.c2
  have c3 := h.rb.c3
  have c4 := h.rb.c4
  have c5 := h.rb.c5
  have hl := h.rb.hi.len
  have H1 : Hid (∀ n, Calls Try.prog 19 #[.pointer (some ⟨p.b, 0, none⟩)] (w.drewN n) fun e w' => e = .returned (.int .i64 (p.T.length : Int)) ∧ ∃ m, w' = (w.drewN n).drewN m) := hide fun n => by have := len_any h.ok.l (h.sb.drewN n); rw [hl] at this; exact this
  have H2 : Hid (∀ n, Calls Try.prog 16 #[.pointer (some ⟨p.b, 0, none⟩)] (w.drewN n) fun e w' => e = .returned (.int .i64 (p.s.go : Int)) ∧ w' = w.drewN n) := hide fun n => acked_any (h.sb.drewN n)
  have H3 : Hid (∀ n, Calls Try.prog 17 #[.pointer (some ⟨p.b, 0, none⟩)] (w.drewN n) fun e w' => e = .returned (.int .i64 (p.s.said : Int)) ∧ w' = w.drewN n) := hide fun n => said_any (h.sb.drewN n)
  have H4 : Hid (∀ n, Calls Try.prog 20 #[.pointer (some ⟨p.b, 0, none⟩)] (w.drewN n) fun e w' => e = .returned (.int .i64 (p.s.ti : Int)) ∧ w' = w.drewN n) := hide fun n => timer_any (h.sb.drewN n)
  obtain ⟨rm, hrm⟩ : ∃ rm, decide (p.s.R.length < p.s.wd) = rm := ⟨_, rfl⟩
  have H5 : Hid (∀ n, Calls Try.prog 21 #[.pointer (some ⟨p.b, 0, none⟩)] (w.drewN n) fun e w' => e = .returned (.bool rm) ∧ ∃ m, w' = (w.drewN n).drewN m) := hide fun n => by have := room_any h.ok (h.sb.drewN n); rw [hrm] at this; exact this
  have H6 : Hid (∀ n, Calls Try.prog 26 #[.pointer (some ⟨p.x, 0, none⟩)] (w.drewN n) fun e w' => e = .returned (.bool rm) ∧ ∃ m, w' = (w.drewN n).drewN m) := hide fun n => by have := rroom_any h.ok (h.rb.drewN n); rw [hrm] at this; exact this
  clear h hl hrm
  cases rm <;> (
    go_enter Try.func11, Try.ntmps11
    go_wp2
    go_quiet (first | (go_at_call 19; exact Calls.quiet_of (H1.out _)) | (go_at_call 16; exact Calls.quiet_of_same (H2.out _)) | (go_at_call 17; exact Calls.quiet_of_same (H3.out _)) | (go_at_call 20; exact Calls.quiet_of_same (H4.out _)) | (go_at_call 21; exact Calls.quiet_of (H5.out _)) | (go_at_call 26; exact Calls.quiet_of (H6.out _)))
    go_wp2
    go_ret
    exact ⟨rfl, _, rfl⟩)
end Go.Proofs.Yteckkaapibbpcaa
