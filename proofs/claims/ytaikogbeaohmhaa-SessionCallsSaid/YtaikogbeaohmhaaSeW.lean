import Derived.Test.YtaikogbeaohmhaaSeV
namespace Go.Proofs.Ytaikogbeaohmhaa
open Go.RowKit

/-- a caller's block and sixteen cells are turned -/
structure Mc (b g o : Nat) (w w' : World) : Prop where
  os : w'.os = w.os
  tape : w'.tape = w.tape
  output : w'.output = w.output
  size : w.heap.size ≤ w'.heap.size
  block : ∀ k, k < w.heap.size → k ≠ b → k ≠ g → w'.heap[k]? = w.heap[k]?
  row : ∀ cs t, w.heap[g]? = some (.cells cs t (0, 0)) → ∃ cs', w'.heap[g]? = some (.cells cs' t (0, 0)) ∧ cs'.size = cs.size ∧ ∀ i, i < o ∨ o + 16 ≤ i → cs'[i]? = cs[i]?
theorem Mc.of_on {b g o : Nat} {w w' : World} (h : On b w w') (hn : g ≠ b) : Mc b g o w w' := ⟨h.os, h.tape, h.output, h.size, fun k hk h1 _ => h.block k hk h1, fun cs _ hc => ⟨cs, (h.block g (lt_of_block hc) hn).trans hc, rfl, fun _ _ => rfl⟩⟩
theorem Mc.of_xo {b g o : Nat} {w w' : World} (h : Xo g o w w') : Mc b g o w w' := ⟨h.os, h.tape, h.output, h.size, fun k hk _ h2 => h.block k hk h2, h.row⟩
theorem Mc.of_below {b g o : Nat} {w w' : World} (h : Below w.heap.size w w') : Mc b g o w w' := ⟨h.os, h.tape, h.output, h.size, fun k hk _ _ => h.block k hk, fun cs _ hc => ⟨cs, (h.block g (lt_of_block hc)).trans hc, rfl, fun _ _ => rfl⟩⟩
theorem Mc.trans {b g o : Nat} {u v w : World} (h : Mc b g o u v) (k : Mc b g o v w) : Mc b g o u w :=
  ⟨k.os.trans h.os, k.tape.trans h.tape, k.output.trans h.output, Nat.le_trans h.size k.size, fun i hi h1 h2 => (k.block i (Nat.lt_of_lt_of_le hi h.size) h1 h2).trans (h.block i hi h1 h2), fun cs t hc => by
    obtain ⟨c1, a1, a2, a3⟩ := h.row cs t hc
    obtain ⟨c2, b1, b2, b3⟩ := k.row c1 t a1
    exact ⟨c2, b1, b2.trans a2, fun i hi => (b3 i hi).trans (a3 i hi)⟩⟩
theorem Mc.below {b g o : Nat} {w w' : World} (h : Mc b g o w w') {B : Nat} (h1 : B ≤ b) (h2 : B ≤ g) (h3 : B ≤ w.heap.size) : Below B w w' := ⟨h.os, h.tape, h.output, h.size, fun k hk => h.block k (by omega) (by omega) (by omega)⟩
theorem Xb.ne {w : World} {g o b : Nat} {A : List Value} {c : Cl} (h : Xb w g o A) (hc : Cb w b c) : g ≠ b := by
  obtain ⟨cs, h1, _⟩ := h.blk
  exact blk_ne h1 hc (by decide)
theorem Xb.onC {w w' : World} {g o b : Nat} {A : List Value} {c : Cl} (h : Xb w g o A) (hc : Cb w b c) (ho : On b w w') : Xb w' g o A := h.keep (ho.block g h.lt (h.ne hc))
theorem Cb.onX {w w' : World} {g o b : Nat} {A : List Value} {c : Cl} (hc : Cb w b c) (h : Xb w g o A) (ho : Xo g o w w') : Cb w' b c := (ho.block b hc.lt (Ne.symm (h.ne hc))).trans hc
/-- a call's box -/
def Ox (w : World) (X : Nat) (q : Oc) : Prop := w.heap[X]? = some (.cells #[.int .i64 q.k, .int .i64 q.on, .int .i64 q.m.k, .int .i64 q.m.se, .int .i64 q.m.nu, .int .i64 q.m.jo, .int .i64 q.m.ba, .int .i64 q.m.ix, .int .i64 q.m.co, .int .i64 q.m.rc, .int .u64 (q.m.rb : Int), .string q.m.tx, .string q.m.pr] 41 (0, 0))
theorem Ox.lt {w : World} {X : Nat} {q : Oc} (h : Ox w X q) : X < w.heap.size := lt_of_block h
theorem Ox.onC {w w' : World} {X b : Nat} {q : Oc} {c : Cl} (h : Ox w X q) (hc : Cb w b c) (ho : On b w w') : Ox w' X q := (ho.block _ h.lt (blk_ne h hc (by decide))).trans h
theorem Ox.onX {w w' : World} {X g o : Nat} {q : Oc} {A : List Value} (h : Ox w X q) (hx : Xb w g o A) (ho : Xo g o w w') : Ox w' X q := by
  obtain ⟨cs, h1, _⟩ := hx.blk
  exact (ho.block _ h.lt (blk_ne h h1 (by decide))).trans h
theorem Ox.cells {w : World} {X : Nat} {q : Oc} (h : Ox w X q) : w.cell? ⟨X, 0, none⟩ = some (.int .i64 q.k) ∧ w.cell? ⟨X, 1, none⟩ = some (.int .i64 q.on) ∧ w.cell? ⟨X, 2, none⟩ = some (.int .i64 q.m.k) ∧ w.cell? ⟨X, 3, none⟩ = some (.int .i64 q.m.se) ∧ w.cell? ⟨X, 4, none⟩ = some (.int .i64 q.m.nu) ∧ w.cell? ⟨X, 5, none⟩ = some (.int .i64 q.m.jo) ∧ w.cell? ⟨X, 6, none⟩ = some (.int .i64 q.m.ba) ∧ w.cell? ⟨X, 7, none⟩ = some (.int .i64 q.m.ix) ∧ w.cell? ⟨X, 8, none⟩ = some (.int .i64 q.m.co) ∧ w.cell? ⟨X, 9, none⟩ = some (.int .i64 q.m.rc) ∧ w.cell? ⟨X, 10, none⟩ = some (.int .u64 (q.m.rb : Int)) ∧ w.cell? ⟨X, 11, none⟩ = some (.string q.m.tx) ∧ w.cell? ⟨X, 12, none⟩ = some (.string q.m.pr) := by
  unfold Ox at h
  simp [World.cell?, h]
/-- what a call of both leaves -/
def DPost (w : World) (b g o : Nat) (c : Cl) (l : Int) (q : Oc) (e : Ending) (w' : World) : Prop := e = .returned (.bool true) ∧ Cb w' b (c.does q) ∧ Xb w' g o (xC (c.does q) (lDoes c q l)) ∧ Mc b g o w w'
section
variable {w : World} {b g o : Nat} {c : Cl} {l : Int}

set_option maxHeartbeats 4000000 in
set_option maxRecDepth 8000 in
theorem cdoes_1 (hc : Cb w b c) (hx : Xb w g o (xC c l)) (hk : Lk c l) (q : Oc) (e1 : (q.k == 1) = true) : Calls Try.prog 12 #[.pointer (some ⟨b, 0, none⟩), .pointer (some ⟨g, o, none⟩), .agg #[.int .i64 q.k, .int .i64 q.on, .int .i64 q.m.k, .int .i64 q.m.se, .int .i64 q.m.nu, .int .i64 q.m.jo, .int .i64 q.m.ba, .int .i64 q.m.ix, .int .i64 q.m.co, .int .i64 q.m.rc, .int .u64 (q.m.rb : Int), .string q.m.tx, .string q.m.pr]] w (DPost w b g o c l q) := by
  have HO : Hid (Ox (w.alloc (.cells #[.int .i64 q.k, .int .i64 q.on, .int .i64 q.m.k, .int .i64 q.m.se, .int .i64 q.m.nu, .int .i64 q.m.jo, .int .i64 q.m.ba, .int .i64 q.m.ix, .int .i64 q.m.co, .int .i64 q.m.rc, .int .u64 (q.m.rb : Int), .string q.m.tx, .string q.m.pr] 41)) w.heap.size q) := hide (heap_alloc_new w _)
  have HC := hide (hc.alloc (.cells #[.int .i64 q.k, .int .i64 q.on, .int .i64 q.m.k, .int .i64 q.m.se, .int .i64 q.m.nu, .int .i64 q.m.jo, .int .i64 q.m.ba, .int .i64 q.m.ix, .int .i64 q.m.co, .int .i64 q.m.rc, .int .u64 (q.m.rb : Int), .string q.m.tx, .string q.m.pr] 41))
  have HX := hide (hx.alloc (.cells #[.int .i64 q.k, .int .i64 q.on, .int .i64 q.m.k, .int .i64 q.m.se, .int .i64 q.m.nu, .int .i64 q.m.jo, .int .i64 q.m.ba, .int .i64 q.m.ix, .int .i64 q.m.co, .int .i64 q.m.rc, .int .u64 (q.m.rb : Int), .string q.m.tx, .string q.m.pr] 41))
  have HM : Hid (Mc b g o w (w.alloc (.cells #[.int .i64 q.k, .int .i64 q.on, .int .i64 q.m.k, .int .i64 q.m.se, .int .i64 q.m.nu, .int .i64 q.m.jo, .int .i64 q.m.ba, .int .i64 q.m.ix, .int .i64 q.m.co, .int .i64 q.m.rc, .int .u64 (q.m.rb : Int), .string q.m.tx, .string q.m.pr] 41))) := hide (Mc.of_below (below_alloc w (.cells #[.int .i64 q.k, .int .i64 q.on, .int .i64 q.m.k, .int .i64 q.m.se, .int .i64 q.m.nu, .int .i64 q.m.jo, .int .i64 q.m.ba, .int .i64 q.m.ix, .int .i64 q.m.co, .int .i64 q.m.rc, .int .u64 (q.m.rb : Int), .string q.m.tx, .string q.m.pr] 41)))
  have HK := hide hk
  have HD : Hid (c.does q = c.hello.c) := hide (by unfold Cl.does; rw [if_pos (by simpa using e1)])
  have HL : Hid (lDoes c q l = (if c.m.k = 0 then 0 else l)) := hide (by unfold lDoes; rw [if_pos (by simpa using e1)])
  clear hc hx hk
  go_enter Try.func12, Try.ntmps12
  go_wp2_with fail
  obtain ⟨X, hX⟩ : ∃ X, w.heap.size = X := ⟨_, rfl⟩
  rw [hX] at HO
  try rw [hX]
  clear hX
  generalize w.alloc (.cells #[.int .i64 q.k, .int .i64 q.on, .int .i64 q.m.k, .int .i64 q.m.se, .int .i64 q.m.nu, .int .i64 q.m.jo, .int .i64 q.m.ba, .int .i64 q.m.ix, .int .i64 q.m.co, .int .i64 q.m.rc, .int .u64 (q.m.rb : Int), .string q.m.tx, .string q.m.pr] 41) = W at *
  have HX0 := HX
  refine (hello_any HC.out).mono ?_
  rintro e w1 ⟨rfl, hc1, ho1⟩
  have HX := hide (HX.out.onC HC.out ho1)
  have HM := hide (HM.out.trans (Mc.of_on ho1 (HX0.out.ne HC.out)))
  have HO := hide (HO.out.onC HC.out ho1)
  have HC := hide hc1
  clear hc1 ho1
  go_wp2_with fail
  refine (xhello_any HX.out).mono ?_
  rintro e w2 ⟨rfl, hx1, ho2⟩
  have HC := hide (HC.out.onX HX.out ho2)
  have HM := hide (HM.out.trans (Mc.of_xo ho2))
  have HX := hide hx1
  clear hx1 ho2
  have n1 : (c.hello.e == c.hello.e) = true := by simp
  go_wp2_with fail
  go_ret
  exact ⟨rfl, by rw [HD.out]; exact HC.out, by rw [HD.out, HL.out]; exact HX.out, HM.out⟩

set_option maxHeartbeats 4000000 in
set_option maxRecDepth 8000 in
theorem cdoes_3 (hc : Cb w b c) (hx : Xb w g o (xC c l)) (hk : Lk c l) (q : Oc) (e1 : (q.k == 1) = false) (e2 : (q.k == 2) = false) (e3 : (q.k == 3) = true) : Calls Try.prog 12 #[.pointer (some ⟨b, 0, none⟩), .pointer (some ⟨g, o, none⟩), .agg #[.int .i64 q.k, .int .i64 q.on, .int .i64 q.m.k, .int .i64 q.m.se, .int .i64 q.m.nu, .int .i64 q.m.jo, .int .i64 q.m.ba, .int .i64 q.m.ix, .int .i64 q.m.co, .int .i64 q.m.rc, .int .u64 (q.m.rb : Int), .string q.m.tx, .string q.m.pr]] w (DPost w b g o c l q) := by
  have HO : Hid (Ox (w.alloc (.cells #[.int .i64 q.k, .int .i64 q.on, .int .i64 q.m.k, .int .i64 q.m.se, .int .i64 q.m.nu, .int .i64 q.m.jo, .int .i64 q.m.ba, .int .i64 q.m.ix, .int .i64 q.m.co, .int .i64 q.m.rc, .int .u64 (q.m.rb : Int), .string q.m.tx, .string q.m.pr] 41)) w.heap.size q) := hide (heap_alloc_new w _)
  have HC := hide (hc.alloc (.cells #[.int .i64 q.k, .int .i64 q.on, .int .i64 q.m.k, .int .i64 q.m.se, .int .i64 q.m.nu, .int .i64 q.m.jo, .int .i64 q.m.ba, .int .i64 q.m.ix, .int .i64 q.m.co, .int .i64 q.m.rc, .int .u64 (q.m.rb : Int), .string q.m.tx, .string q.m.pr] 41))
  have HX := hide (hx.alloc (.cells #[.int .i64 q.k, .int .i64 q.on, .int .i64 q.m.k, .int .i64 q.m.se, .int .i64 q.m.nu, .int .i64 q.m.jo, .int .i64 q.m.ba, .int .i64 q.m.ix, .int .i64 q.m.co, .int .i64 q.m.rc, .int .u64 (q.m.rb : Int), .string q.m.tx, .string q.m.pr] 41))
  have HM : Hid (Mc b g o w (w.alloc (.cells #[.int .i64 q.k, .int .i64 q.on, .int .i64 q.m.k, .int .i64 q.m.se, .int .i64 q.m.nu, .int .i64 q.m.jo, .int .i64 q.m.ba, .int .i64 q.m.ix, .int .i64 q.m.co, .int .i64 q.m.rc, .int .u64 (q.m.rb : Int), .string q.m.tx, .string q.m.pr] 41))) := hide (Mc.of_below (below_alloc w (.cells #[.int .i64 q.k, .int .i64 q.on, .int .i64 q.m.k, .int .i64 q.m.se, .int .i64 q.m.nu, .int .i64 q.m.jo, .int .i64 q.m.ba, .int .i64 q.m.ix, .int .i64 q.m.co, .int .i64 q.m.rc, .int .u64 (q.m.rb : Int), .string q.m.tx, .string q.m.pr] 41)))
  have HK := hide hk
  have HD : Hid (c.does q = c.tick) := hide (by unfold Cl.does; rw [if_neg (by intro e; rw [e] at e1; cases e1), if_neg (by intro e; rw [e] at e2; cases e2), if_pos (by simpa using e3)])
  have HL : Hid (lDoes c q l = l) := hide (by unfold lDoes; rw [if_neg (by intro e; rw [e] at e1; cases e1), if_neg (by intro e; rw [e] at e2; cases e2), if_neg (by intro e; rw [e] at e3; cases e3)])
  clear hc hx hk
  go_enter Try.func12, Try.ntmps12
  go_wp2_with fail
  obtain ⟨X, hX⟩ : ∃ X, w.heap.size = X := ⟨_, rfl⟩
  rw [hX] at HO
  try rw [hX]
  clear hX
  generalize w.alloc (.cells #[.int .i64 q.k, .int .i64 q.on, .int .i64 q.m.k, .int .i64 q.m.se, .int .i64 q.m.nu, .int .i64 q.m.jo, .int .i64 q.m.ba, .int .i64 q.m.ix, .int .i64 q.m.co, .int .i64 q.m.rc, .int .u64 (q.m.rb : Int), .string q.m.tx, .string q.m.pr] 41) = W at *
  have HX0 := HX
  refine (tick_any HK.out.ok HC.out).mono ?_
  rintro e w1 ⟨rfl, hc1, ho1⟩
  have HX := hide (HX.out.onC HC.out ho1)
  have HM := hide (HM.out.trans (Mc.of_on ho1 (HX0.out.ne HC.out)))
  have HO := hide (HO.out.onC HC.out ho1)
  have HC := hide hc1
  clear hc1 ho1
  go_wp2_with fail
  refine (xtick_any HK.out.ok HX.out).mono ?_
  rintro e w2 ⟨rfl, hx1, ho2⟩
  have HC := hide (HC.out.onX HX.out ho2)
  have HM := hide (HM.out.trans (Mc.of_xo ho2))
  have HX := hide hx1
  clear hx1 ho2
  go_wp2_with fail
  go_ret
  exact ⟨rfl, by rw [HD.out]; exact HC.out, by rw [HD.out, HL.out]; exact HX.out, HM.out⟩

set_option maxHeartbeats 4000000 in
set_option maxRecDepth 8000 in
theorem cdoes_0 (hc : Cb w b c) (hx : Xb w g o (xC c l)) (hk : Lk c l) (q : Oc) (e1 : (q.k == 1) = false) (e2 : (q.k == 2) = false) (e3 : (q.k == 3) = false) (e4 : (q.k == 4) = false) (e5 : (q.k == 5) = false)  : Calls Try.prog 12 #[.pointer (some ⟨b, 0, none⟩), .pointer (some ⟨g, o, none⟩), .agg #[.int .i64 q.k, .int .i64 q.on, .int .i64 q.m.k, .int .i64 q.m.se, .int .i64 q.m.nu, .int .i64 q.m.jo, .int .i64 q.m.ba, .int .i64 q.m.ix, .int .i64 q.m.co, .int .i64 q.m.rc, .int .u64 (q.m.rb : Int), .string q.m.tx, .string q.m.pr]] w (DPost w b g o c l q) := by
  have HO : Hid (Ox (w.alloc (.cells #[.int .i64 q.k, .int .i64 q.on, .int .i64 q.m.k, .int .i64 q.m.se, .int .i64 q.m.nu, .int .i64 q.m.jo, .int .i64 q.m.ba, .int .i64 q.m.ix, .int .i64 q.m.co, .int .i64 q.m.rc, .int .u64 (q.m.rb : Int), .string q.m.tx, .string q.m.pr] 41)) w.heap.size q) := hide (heap_alloc_new w _)
  have HC := hide (hc.alloc (.cells #[.int .i64 q.k, .int .i64 q.on, .int .i64 q.m.k, .int .i64 q.m.se, .int .i64 q.m.nu, .int .i64 q.m.jo, .int .i64 q.m.ba, .int .i64 q.m.ix, .int .i64 q.m.co, .int .i64 q.m.rc, .int .u64 (q.m.rb : Int), .string q.m.tx, .string q.m.pr] 41))
  have HX := hide (hx.alloc (.cells #[.int .i64 q.k, .int .i64 q.on, .int .i64 q.m.k, .int .i64 q.m.se, .int .i64 q.m.nu, .int .i64 q.m.jo, .int .i64 q.m.ba, .int .i64 q.m.ix, .int .i64 q.m.co, .int .i64 q.m.rc, .int .u64 (q.m.rb : Int), .string q.m.tx, .string q.m.pr] 41))
  have HM : Hid (Mc b g o w (w.alloc (.cells #[.int .i64 q.k, .int .i64 q.on, .int .i64 q.m.k, .int .i64 q.m.se, .int .i64 q.m.nu, .int .i64 q.m.jo, .int .i64 q.m.ba, .int .i64 q.m.ix, .int .i64 q.m.co, .int .i64 q.m.rc, .int .u64 (q.m.rb : Int), .string q.m.tx, .string q.m.pr] 41))) := hide (Mc.of_below (below_alloc w (.cells #[.int .i64 q.k, .int .i64 q.on, .int .i64 q.m.k, .int .i64 q.m.se, .int .i64 q.m.nu, .int .i64 q.m.jo, .int .i64 q.m.ba, .int .i64 q.m.ix, .int .i64 q.m.co, .int .i64 q.m.rc, .int .u64 (q.m.rb : Int), .string q.m.tx, .string q.m.pr] 41)))
  have HK := hide hk
  have HD : Hid (c.does q = c) := hide (by unfold Cl.does; rw [if_neg (by intro e; rw [e] at e1; cases e1), if_neg (by intro e; rw [e] at e2; cases e2), if_neg (by intro e; rw [e] at e3; cases e3), if_neg (by intro e; rw [e] at e4; cases e4), if_neg (by intro e; rw [e] at e5; cases e5)])
  have HL : Hid (lDoes c q l = l) := hide (by unfold lDoes; rw [if_neg (by intro e; rw [e] at e1; cases e1), if_neg (by intro e; rw [e] at e2; cases e2), if_neg (by intro e; rw [e] at e5; cases e5)])
  clear hc hx hk
  go_enter Try.func12, Try.ntmps12
  go_wp2_with fail
  obtain ⟨X, hX⟩ : ∃ X, w.heap.size = X := ⟨_, rfl⟩
  rw [hX] at HO
  try rw [hX]
  clear hX
  generalize w.alloc (.cells #[.int .i64 q.k, .int .i64 q.on, .int .i64 q.m.k, .int .i64 q.m.se, .int .i64 q.m.nu, .int .i64 q.m.jo, .int .i64 q.m.ba, .int .i64 q.m.ix, .int .i64 q.m.co, .int .i64 q.m.rc, .int .u64 (q.m.rb : Int), .string q.m.tx, .string q.m.pr] 41) = W at *
  go_ret
  exact ⟨rfl, by rw [HD.out]; exact HC.out, by rw [HD.out, HL.out]; exact HX.out, HM.out⟩

set_option maxHeartbeats 4000000 in
set_option maxRecDepth 8000 in
theorem cdoes_4 (hc : Cb w b c) (hx : Xb w g o (xC c l)) (hk : Lk c l) (q : Oc) (e1 : (q.k == 1) = false) (e2 : (q.k == 2) = false) (e3 : (q.k == 3) = false) (e4 : (q.k == 4) = true) : Calls Try.prog 12 #[.pointer (some ⟨b, 0, none⟩), .pointer (some ⟨g, o, none⟩), .agg #[.int .i64 q.k, .int .i64 q.on, .int .i64 q.m.k, .int .i64 q.m.se, .int .i64 q.m.nu, .int .i64 q.m.jo, .int .i64 q.m.ba, .int .i64 q.m.ix, .int .i64 q.m.co, .int .i64 q.m.rc, .int .u64 (q.m.rb : Int), .string q.m.tx, .string q.m.pr]] w (DPost w b g o c l q) := by
  have HO : Hid (Ox (w.alloc (.cells #[.int .i64 q.k, .int .i64 q.on, .int .i64 q.m.k, .int .i64 q.m.se, .int .i64 q.m.nu, .int .i64 q.m.jo, .int .i64 q.m.ba, .int .i64 q.m.ix, .int .i64 q.m.co, .int .i64 q.m.rc, .int .u64 (q.m.rb : Int), .string q.m.tx, .string q.m.pr] 41)) w.heap.size q) := hide (heap_alloc_new w _)
  have HC := hide (hc.alloc (.cells #[.int .i64 q.k, .int .i64 q.on, .int .i64 q.m.k, .int .i64 q.m.se, .int .i64 q.m.nu, .int .i64 q.m.jo, .int .i64 q.m.ba, .int .i64 q.m.ix, .int .i64 q.m.co, .int .i64 q.m.rc, .int .u64 (q.m.rb : Int), .string q.m.tx, .string q.m.pr] 41))
  have HX := hide (hx.alloc (.cells #[.int .i64 q.k, .int .i64 q.on, .int .i64 q.m.k, .int .i64 q.m.se, .int .i64 q.m.nu, .int .i64 q.m.jo, .int .i64 q.m.ba, .int .i64 q.m.ix, .int .i64 q.m.co, .int .i64 q.m.rc, .int .u64 (q.m.rb : Int), .string q.m.tx, .string q.m.pr] 41))
  have HM : Hid (Mc b g o w (w.alloc (.cells #[.int .i64 q.k, .int .i64 q.on, .int .i64 q.m.k, .int .i64 q.m.se, .int .i64 q.m.nu, .int .i64 q.m.jo, .int .i64 q.m.ba, .int .i64 q.m.ix, .int .i64 q.m.co, .int .i64 q.m.rc, .int .u64 (q.m.rb : Int), .string q.m.tx, .string q.m.pr] 41))) := hide (Mc.of_below (below_alloc w (.cells #[.int .i64 q.k, .int .i64 q.on, .int .i64 q.m.k, .int .i64 q.m.se, .int .i64 q.m.nu, .int .i64 q.m.jo, .int .i64 q.m.ba, .int .i64 q.m.ix, .int .i64 q.m.co, .int .i64 q.m.rc, .int .u64 (q.m.rb : Int), .string q.m.tx, .string q.m.pr] 41)))
  have HK := hide hk
  have HD : Hid (c.does q = c.due.c) := hide (by unfold Cl.does; rw [if_neg (by intro e; rw [e] at e1; cases e1), if_neg (by intro e; rw [e] at e2; cases e2), if_neg (by intro e; rw [e] at e3; cases e3), if_pos (by simpa using e4)])
  have HL : Hid (lDoes c q l = l) := hide (by unfold lDoes; rw [if_neg (by intro e; rw [e] at e1; cases e1), if_neg (by intro e; rw [e] at e2; cases e2), if_neg (by intro e; rw [e] at e4; cases e4)])
  clear hc hx hk
  go_enter Try.func12, Try.ntmps12
  go_wp2_with fail
  obtain ⟨X, hX⟩ : ∃ X, w.heap.size = X := ⟨_, rfl⟩
  rw [hX] at HO
  try rw [hX]
  clear hX
  generalize w.alloc (.cells #[.int .i64 q.k, .int .i64 q.on, .int .i64 q.m.k, .int .i64 q.m.se, .int .i64 q.m.nu, .int .i64 q.m.jo, .int .i64 q.m.ba, .int .i64 q.m.ix, .int .i64 q.m.co, .int .i64 q.m.rc, .int .u64 (q.m.rb : Int), .string q.m.tx, .string q.m.pr] 41) = W at *
  have HX0 := HX
  refine (due_any HC.out).mono ?_
  rintro e w1 ⟨rfl, hc1, ho1⟩
  have HX := hide (HX.out.onC HC.out ho1)
  have HM := hide (HM.out.trans (Mc.of_on ho1 (HX0.out.ne HC.out)))
  have HO := hide (HO.out.onC HC.out ho1)
  have HC := hide hc1
  clear hc1 ho1
  obtain ⟨r, hr⟩ : ∃ r, c.due = r := ⟨_, rfl⟩
  have HR := hide hr
  rw [hr] at HC ⊢
  clear hr
  obtain ⟨mm, is, cc⟩ := r
  simp only [smC] at HC ⊢
  have HX := hide (HX.out.alloc (.cells #[.int .i64 mm.k, .int .i64 mm.se, .int .i64 mm.nu, .int .i64 mm.jo, .int .i64 mm.ba, .int .i64 mm.ix, .int .i64 mm.co, .int .i64 mm.rc, .int .u64 (mm.rb : Int), .string mm.tx, .string mm.pr] 36))
  have HC := hide (HC.out.alloc (.cells #[.int .i64 mm.k, .int .i64 mm.se, .int .i64 mm.nu, .int .i64 mm.jo, .int .i64 mm.ba, .int .i64 mm.ix, .int .i64 mm.co, .int .i64 mm.rc, .int .u64 (mm.rb : Int), .string mm.tx, .string mm.pr] 36))
  have HM := hide (HM.out.trans (Mc.of_below (below_alloc w1 (.cells #[.int .i64 mm.k, .int .i64 mm.se, .int .i64 mm.nu, .int .i64 mm.jo, .int .i64 mm.ba, .int .i64 mm.ix, .int .i64 mm.co, .int .i64 mm.rc, .int .u64 (mm.rb : Int), .string mm.tx, .string mm.pr] 36))))
  have HY := hide (Mx.new w1 mm)
  unfold smC at HY
  go_wp2_with fail
  obtain ⟨Y, hY⟩ : ∃ Y, w1.heap.size = Y := ⟨_, rfl⟩
  rw [hY] at HY
  try rw [hY]
  clear hY
  generalize w1.alloc (.cells #[.int .i64 mm.k, .int .i64 mm.se, .int .i64 mm.nu, .int .i64 mm.jo, .int .i64 mm.ba, .int .i64 mm.ix, .int .i64 mm.co, .int .i64 mm.rc, .int .u64 (mm.rb : Int), .string mm.tx, .string mm.pr] 36) = W1 at *
  refine (xdue_any HX.out).mono ?_
  rw [HR.out]
  rintro e w2 ⟨rfl, hx1, ho2⟩
  have HY := hide (show Mx w2 Y mm from (ho2.block _ (Mx.lt HY.out) (by obtain ⟨cs, h1, _⟩ := HX.out.blk; exact blk_ne HY.out h1 (by decide))).trans HY.out)
  have HC := hide ((HC.out.onX HX.out ho2).alloc (.cells #[.int .i64 mm.k, .int .i64 mm.se, .int .i64 mm.nu, .int .i64 mm.jo, .int .i64 mm.ba, .int .i64 mm.ix, .int .i64 mm.co, .int .i64 mm.rc, .int .u64 (mm.rb : Int), .string mm.tx, .string mm.pr] 36))
  have HM := hide ((HM.out.trans (Mc.of_xo ho2)).trans (Mc.of_below (below_alloc w2 (.cells #[.int .i64 mm.k, .int .i64 mm.se, .int .i64 mm.nu, .int .i64 mm.jo, .int .i64 mm.ba, .int .i64 mm.ix, .int .i64 mm.co, .int .i64 mm.rc, .int .u64 (mm.rb : Int), .string mm.tx, .string mm.pr] 36))))
  have HX := hide (hx1.alloc (.cells #[.int .i64 mm.k, .int .i64 mm.se, .int .i64 mm.nu, .int .i64 mm.jo, .int .i64 mm.ba, .int .i64 mm.ix, .int .i64 mm.co, .int .i64 mm.rc, .int .u64 (mm.rb : Int), .string mm.tx, .string mm.pr] 36))
  have HZ := hide (Mx.new w2 mm)
  have HY := hide (HY.out.below (below_alloc w2 (.cells #[.int .i64 mm.k, .int .i64 mm.se, .int .i64 mm.nu, .int .i64 mm.jo, .int .i64 mm.ba, .int .i64 mm.ix, .int .i64 mm.co, .int .i64 mm.rc, .int .u64 (mm.rb : Int), .string mm.tx, .string mm.pr] 36)))
  unfold smC at HZ
  clear hx1 ho2
  simp only [smC] at HX ⊢
  have hq : ∀ w, (binOp .eql 36 (.agg #[.int .i64 mm.k, .int .i64 mm.se, .int .i64 mm.nu, .int .i64 mm.jo, .int .i64 mm.ba, .int .i64 mm.ix, .int .i64 mm.co, .int .i64 mm.rc, .int .u64 (mm.rb : Int), .string mm.tx, .string mm.pr]) (.agg #[.int .i64 mm.k, .int .i64 mm.se, .int .i64 mm.nu, .int .i64 mm.jo, .int .i64 mm.ba, .int .i64 mm.ix, .int .i64 mm.co, .int .i64 mm.rc, .int .u64 (mm.rb : Int), .string mm.tx, .string mm.pr])).run Try.prog w = .ok (.bool true) w := fun w => by
    have := eql_sm mm mm w
    rw [decide_eq_true rfl] at this
    exact this
  obtain ⟨k0, k1, k2, k3, k4, k5, k6, k7, k8, k9, k10⟩ := HY.out.cells
  have hyl := HY.out.lt
  cases is with
  | true =>
    go_wp2_with fail
    go_ret
    exact ⟨rfl, by rw [HD.out, HR.out]; exact HC.out, by rw [HD.out, HL.out, HR.out]; exact HX.out, HM.out⟩
  | false =>
    go_wp2_with fail
    go_ret
    exact ⟨rfl, by rw [HD.out, HR.out]; exact HC.out, by rw [HD.out, HL.out, HR.out]; exact HX.out, HM.out⟩

set_option maxHeartbeats 4000000 in
set_option maxRecDepth 8000 in
theorem cdoes_2 (hc : Cb w b c) (hx : Xb w g o (xC c l)) (hk : Lk c l) (q : Oc) (e1 : (q.k == 1) = false) (e2 : (q.k == 2) = true) : Calls Try.prog 12 #[.pointer (some ⟨b, 0, none⟩), .pointer (some ⟨g, o, none⟩), .agg #[.int .i64 q.k, .int .i64 q.on, .int .i64 q.m.k, .int .i64 q.m.se, .int .i64 q.m.nu, .int .i64 q.m.jo, .int .i64 q.m.ba, .int .i64 q.m.ix, .int .i64 q.m.co, .int .i64 q.m.rc, .int .u64 (q.m.rb : Int), .string q.m.tx, .string q.m.pr]] w (DPost w b g o c l q) := by
  have HO : Hid (Ox (w.alloc (.cells #[.int .i64 q.k, .int .i64 q.on, .int .i64 q.m.k, .int .i64 q.m.se, .int .i64 q.m.nu, .int .i64 q.m.jo, .int .i64 q.m.ba, .int .i64 q.m.ix, .int .i64 q.m.co, .int .i64 q.m.rc, .int .u64 (q.m.rb : Int), .string q.m.tx, .string q.m.pr] 41)) w.heap.size q) := hide (heap_alloc_new w _)
  have HC := hide (hc.alloc (.cells #[.int .i64 q.k, .int .i64 q.on, .int .i64 q.m.k, .int .i64 q.m.se, .int .i64 q.m.nu, .int .i64 q.m.jo, .int .i64 q.m.ba, .int .i64 q.m.ix, .int .i64 q.m.co, .int .i64 q.m.rc, .int .u64 (q.m.rb : Int), .string q.m.tx, .string q.m.pr] 41))
  have HX := hide (hx.alloc (.cells #[.int .i64 q.k, .int .i64 q.on, .int .i64 q.m.k, .int .i64 q.m.se, .int .i64 q.m.nu, .int .i64 q.m.jo, .int .i64 q.m.ba, .int .i64 q.m.ix, .int .i64 q.m.co, .int .i64 q.m.rc, .int .u64 (q.m.rb : Int), .string q.m.tx, .string q.m.pr] 41))
  have HM : Hid (Mc b g o w (w.alloc (.cells #[.int .i64 q.k, .int .i64 q.on, .int .i64 q.m.k, .int .i64 q.m.se, .int .i64 q.m.nu, .int .i64 q.m.jo, .int .i64 q.m.ba, .int .i64 q.m.ix, .int .i64 q.m.co, .int .i64 q.m.rc, .int .u64 (q.m.rb : Int), .string q.m.tx, .string q.m.pr] 41))) := hide (Mc.of_below (below_alloc w (.cells #[.int .i64 q.k, .int .i64 q.on, .int .i64 q.m.k, .int .i64 q.m.se, .int .i64 q.m.nu, .int .i64 q.m.jo, .int .i64 q.m.ba, .int .i64 q.m.ix, .int .i64 q.m.co, .int .i64 q.m.rc, .int .u64 (q.m.rb : Int), .string q.m.tx, .string q.m.pr] 41)))
  have HK := hide hk
  have HD : Hid (c.does q = (c.ask q.m).c) := hide (by unfold Cl.does; rw [if_neg (by intro e; rw [e] at e1; cases e1), if_pos (by simpa using e2)])
  have HL : Hid (lDoes c q l = askL c q.m l) := hide (by unfold lDoes; rw [if_neg (by intro e; rw [e] at e1; cases e1), if_pos (by simpa using e2)])
  clear hc hx hk
  go_enter Try.func12, Try.ntmps12
  go_wp2_with fail
  obtain ⟨X, hX⟩ : ∃ X, w.heap.size = X := ⟨_, rfl⟩
  rw [hX] at HO
  try rw [hX]
  clear hX
  generalize w.alloc (.cells #[.int .i64 q.k, .int .i64 q.on, .int .i64 q.m.k, .int .i64 q.m.se, .int .i64 q.m.nu, .int .i64 q.m.jo, .int .i64 q.m.ba, .int .i64 q.m.ix, .int .i64 q.m.co, .int .i64 q.m.rc, .int .u64 (q.m.rb : Int), .string q.m.tx, .string q.m.pr] 41) = W at *
  obtain ⟨ec, hec⟩ : ∃ ec, (c.ask q.m).e = ec := ⟨_, rfl⟩
  have HEC := hide hec
  clear hec
  have HCe : Hid (∀ V, Ox V X q → (V.cell? ⟨X, 0, none⟩ = some (.int .i64 q.k) ∧ V.cell? ⟨X, 1, none⟩ = some (.int .i64 q.on) ∧ V.cell? ⟨X, 2, none⟩ = some (.int .i64 q.m.k) ∧ V.cell? ⟨X, 3, none⟩ = some (.int .i64 q.m.se) ∧ V.cell? ⟨X, 4, none⟩ = some (.int .i64 q.m.nu) ∧ V.cell? ⟨X, 5, none⟩ = some (.int .i64 q.m.jo) ∧ V.cell? ⟨X, 6, none⟩ = some (.int .i64 q.m.ba) ∧ V.cell? ⟨X, 7, none⟩ = some (.int .i64 q.m.ix) ∧ V.cell? ⟨X, 8, none⟩ = some (.int .i64 q.m.co) ∧ V.cell? ⟨X, 9, none⟩ = some (.int .i64 q.m.rc) ∧ V.cell? ⟨X, 10, none⟩ = some (.int .u64 (q.m.rb : Int)) ∧ V.cell? ⟨X, 11, none⟩ = some (.string q.m.tx) ∧ V.cell? ⟨X, 12, none⟩ = some (.string q.m.pr))) := hide fun V hV => hV.cells
  have HCd : Hid (Cb W.drew b c) := HC
  have HXd : Hid (Xb W.drew g o (xC c l)) := hide (HX.out.keep rfl)
  have HMd : Hid (Mc b g o w W.drew) := hide ⟨HM.out.os, HM.out.tape, HM.out.output, HM.out.size, HM.out.block, HM.out.row⟩
  have nq : (ec == ec) = true := by simp
  refine wp_region_held_drew (S := fun w' => Ox w' X q) (by kernel_rfl) (HO.out) (fun hHeld => ?_)
  refine wpAnyH_take (i := 0) (v := .pointer (some ⟨b, 0, none⟩)) rfl (by kernel_rfl) (by kernel_rfl) (by kernel_rfl) (fun _ _ _ h => h) (Or.inl ⟨by kernel_rfl, fun w1 hSw => by clear hHeld; obtain ⟨k0, k1, k2, k3, k4, k5, k6, k7, k8, k9, k10, k11, k12⟩ := HCe.out _ hSw; go_simp⟩) hHeld ?_
  try simp only [Act.put]
  try simp only [List.getElem_toArray]
  try simp only [List.getElem_cons_succ]
  try simp only [List.getElem_cons_zero]
  try simp only [List.setIfInBounds_toArray]
  try simp only [List.set_cons_succ, List.set_cons_zero]
  refine wpAnyH_take (i := 1) (v := .pointer (some ⟨X, 2, none⟩)) rfl (by kernel_rfl) (by kernel_rfl) (by kernel_rfl) (fun _ _ _ h => h) (Or.inl ⟨by kernel_rfl, fun w1 hSw => by clear hHeld; obtain ⟨k0, k1, k2, k3, k4, k5, k6, k7, k8, k9, k10, k11, k12⟩ := HCe.out _ hSw; go_simp⟩) hHeld ?_
  try simp only [Act.put]
  try simp only [List.getElem_toArray]
  try simp only [List.getElem_cons_succ]
  try simp only [List.getElem_cons_zero]
  try simp only [List.setIfInBounds_toArray]
  try simp only [List.set_cons_succ, List.set_cons_zero]
  refine wpAnyH_take (i := 2) (v := .agg #[.int .i64 q.m.k, .int .i64 q.m.se, .int .i64 q.m.nu, .int .i64 q.m.jo, .int .i64 q.m.ba, .int .i64 q.m.ix, .int .i64 q.m.co, .int .i64 q.m.rc, .int .u64 (q.m.rb : Int), .string q.m.tx, .string q.m.pr]) rfl (by kernel_rfl) (by kernel_rfl) (by kernel_rfl) (fun _ _ _ h => h) (Or.inl ⟨by kernel_rfl, fun w1 hSw => by clear hHeld; obtain ⟨k0, k1, k2, k3, k4, k5, k6, k7, k8, k9, k10, k11, k12⟩ := HCe.out _ hSw; go_simp⟩) hHeld ?_
  try simp only [Act.put]
  try simp only [List.getElem_toArray]
  try simp only [List.getElem_cons_succ]
  try simp only [List.getElem_cons_zero]
  try simp only [List.setIfInBounds_toArray]
  try simp only [List.set_cons_succ, List.set_cons_zero]
  refine wpAnyH_take (i := 4) (v := .pointer (some ⟨g, o, none⟩)) rfl (by kernel_rfl) (by kernel_rfl) (by kernel_rfl) (fun _ _ _ h => h) (Or.inl ⟨by kernel_rfl, fun w1 hSw => by clear hHeld; obtain ⟨k0, k1, k2, k3, k4, k5, k6, k7, k8, k9, k10, k11, k12⟩ := HCe.out _ hSw; go_simp⟩) hHeld ?_
  try simp only [Act.put]
  try simp only [List.getElem_toArray]
  try simp only [List.getElem_cons_succ]
  try simp only [List.getElem_cons_zero]
  try simp only [List.setIfInBounds_toArray]
  try simp only [List.set_cons_succ, List.set_cons_zero]
  refine wpAnyH_take (i := 5) (v := .pointer (some ⟨X, 2, none⟩)) rfl (by kernel_rfl) (by kernel_rfl) (by kernel_rfl) (fun _ _ _ h => h) (Or.inl ⟨by kernel_rfl, fun w1 hSw => by clear hHeld; obtain ⟨k0, k1, k2, k3, k4, k5, k6, k7, k8, k9, k10, k11, k12⟩ := HCe.out _ hSw; go_simp⟩) hHeld ?_
  try simp only [Act.put]
  try simp only [List.getElem_toArray]
  try simp only [List.getElem_cons_succ]
  try simp only [List.getElem_cons_zero]
  try simp only [List.setIfInBounds_toArray]
  try simp only [List.set_cons_succ, List.set_cons_zero]
  refine wpAnyH_take (i := 6) (v := .agg #[.int .i64 q.m.k, .int .i64 q.m.se, .int .i64 q.m.nu, .int .i64 q.m.jo, .int .i64 q.m.ba, .int .i64 q.m.ix, .int .i64 q.m.co, .int .i64 q.m.rc, .int .u64 (q.m.rb : Int), .string q.m.tx, .string q.m.pr]) rfl (by kernel_rfl) (by kernel_rfl) (by kernel_rfl) (fun _ _ _ h => h) (Or.inl ⟨by kernel_rfl, fun w1 hSw => by clear hHeld; obtain ⟨k0, k1, k2, k3, k4, k5, k6, k7, k8, k9, k10, k11, k12⟩ := HCe.out _ hSw; go_simp⟩) hHeld ?_
  try simp only [Act.put]
  try simp only [List.getElem_toArray]
  try simp only [List.getElem_cons_succ]
  try simp only [List.getElem_cons_zero]
  try simp only [List.setIfInBounds_toArray]
  try simp only [List.set_cons_succ, List.set_cons_zero]
  refine wpAnyH_ready (rs := [3]) (by kernel_rfl) (by simp) ?_
  refine AllReadyH.cons rfl (fun K hK => ?_) AllReadyH.nil
  go_simp
  refine (ask_any HK.out.ok HCd.out q.m).mono ?_
  rintro e V1 ⟨rfl, hc1, ho1⟩
  rw [HEC.out]
  have HO1 := hide (Ox.onC hHeld HCd.out ho1)
  have HX1 := hide (HXd.out.onC HCd.out ho1)
  have HM1 := hide (HMd.out.trans (Mc.of_on ho1 (HXd.out.ne HCd.out)))
  have HC1 := hide hc1
  clear hc1 ho1
  refine hK.out _ _ (HO1.out) (fun hHeld => ?_)
  clear hK K
  try simp only [Act.put]
  try simp only [List.getElem_toArray]
  try simp only [List.getElem_cons_succ]
  try simp only [List.getElem_cons_zero]
  try simp only [List.setIfInBounds_toArray]
  try simp only [List.set_cons_succ, List.set_cons_zero]
  refine wpAnyH_ready (rs := [7]) (by kernel_rfl) (by simp) ?_
  refine AllReadyH.cons rfl (fun K hK => ?_) AllReadyH.nil
  go_simp
  refine (xask_any HK.out.l0 HK.out.l1 HK.out.ls HX1.out q.m).mono ?_
  rintro e V2 ⟨rfl, hx2, ho2⟩
  rw [HEC.out]
  have HO2 := hide (Ox.onX HO1.out HX1.out ho2)
  have HC2 := hide (HC1.out.onX HX1.out ho2)
  have HM2 := hide (HM1.out.trans (Mc.of_xo ho2))
  have HX2 := hide hx2
  clear hx2 ho2
  refine hK.out _ _ (HO2.out) (fun hHeld => ?_)
  clear hK K
  try simp only [Act.put]
  try simp only [List.getElem_toArray]
  try simp only [List.getElem_cons_succ]
  try simp only [List.getElem_cons_zero]
  try simp only [List.setIfInBounds_toArray]
  try simp only [List.set_cons_succ, List.set_cons_zero]
  refine wpAnyH_take (i := 8) (v := .bool true) rfl (by kernel_rfl) (by kernel_rfl) (by kernel_rfl) (fun _ _ _ h => h) (Or.inl ⟨by kernel_rfl, fun w1 hSw => by clear hHeld; obtain ⟨k0, k1, k2, k3, k4, k5, k6, k7, k8, k9, k10, k11, k12⟩ := HCe.out _ hSw; go_simp⟩) hHeld ?_
  try simp only [Act.put]
  try simp only [List.getElem_toArray]
  try simp only [List.getElem_cons_succ]
  try simp only [List.getElem_cons_zero]
  try simp only [List.setIfInBounds_toArray]
  try simp only [List.set_cons_succ, List.set_cons_zero]
  refine wpAnyH_take (i := 9) (v := .bool true) rfl (by kernel_rfl) (by kernel_rfl) (by kernel_rfl) (fun _ _ _ h => h) (Or.inl ⟨by kernel_rfl, fun w1 hSw => by clear hHeld; obtain ⟨k0, k1, k2, k3, k4, k5, k6, k7, k8, k9, k10, k11, k12⟩ := HCe.out _ hSw; go_simp⟩) hHeld ?_
  try simp only [Act.put]
  try simp only [List.getElem_toArray]
  try simp only [List.getElem_cons_succ]
  try simp only [List.getElem_cons_zero]
  try simp only [List.setIfInBounds_toArray]
  try simp only [List.set_cons_succ, List.set_cons_zero]
  refine wpAnyH_done (by kernel_rfl) ?_ _
  clear hHeld HO1 HO2 HX1 HC1 HM1 HO HX HC HM HCd HXd HMd
  go_wp2_with fail
  go_ret
  exact ⟨rfl, by rw [HD.out]; exact HC2.out, by rw [HD.out, HL.out]; exact HX2.out, HM2.out⟩

set_option maxHeartbeats 4000000 in
set_option maxRecDepth 8000 in
theorem cdoes_5 (hc : Cb w b c) (hx : Xb w g o (xC c l)) (hk : Lk c l) (q : Oc) (e1 : (q.k == 1) = false) (e2 : (q.k == 2) = false) (e3 : (q.k == 3) = false) (e4 : (q.k == 4) = false) (e5 : (q.k == 5) = true) : Calls Try.prog 12 #[.pointer (some ⟨b, 0, none⟩), .pointer (some ⟨g, o, none⟩), .agg #[.int .i64 q.k, .int .i64 q.on, .int .i64 q.m.k, .int .i64 q.m.se, .int .i64 q.m.nu, .int .i64 q.m.jo, .int .i64 q.m.ba, .int .i64 q.m.ix, .int .i64 q.m.co, .int .i64 q.m.rc, .int .u64 (q.m.rb : Int), .string q.m.tx, .string q.m.pr]] w (DPost w b g o c l q) := by
  have HO : Hid (Ox (w.alloc (.cells #[.int .i64 q.k, .int .i64 q.on, .int .i64 q.m.k, .int .i64 q.m.se, .int .i64 q.m.nu, .int .i64 q.m.jo, .int .i64 q.m.ba, .int .i64 q.m.ix, .int .i64 q.m.co, .int .i64 q.m.rc, .int .u64 (q.m.rb : Int), .string q.m.tx, .string q.m.pr] 41)) w.heap.size q) := hide (heap_alloc_new w _)
  have HC := hide (hc.alloc (.cells #[.int .i64 q.k, .int .i64 q.on, .int .i64 q.m.k, .int .i64 q.m.se, .int .i64 q.m.nu, .int .i64 q.m.jo, .int .i64 q.m.ba, .int .i64 q.m.ix, .int .i64 q.m.co, .int .i64 q.m.rc, .int .u64 (q.m.rb : Int), .string q.m.tx, .string q.m.pr] 41))
  have HX := hide (hx.alloc (.cells #[.int .i64 q.k, .int .i64 q.on, .int .i64 q.m.k, .int .i64 q.m.se, .int .i64 q.m.nu, .int .i64 q.m.jo, .int .i64 q.m.ba, .int .i64 q.m.ix, .int .i64 q.m.co, .int .i64 q.m.rc, .int .u64 (q.m.rb : Int), .string q.m.tx, .string q.m.pr] 41))
  have HM : Hid (Mc b g o w (w.alloc (.cells #[.int .i64 q.k, .int .i64 q.on, .int .i64 q.m.k, .int .i64 q.m.se, .int .i64 q.m.nu, .int .i64 q.m.jo, .int .i64 q.m.ba, .int .i64 q.m.ix, .int .i64 q.m.co, .int .i64 q.m.rc, .int .u64 (q.m.rb : Int), .string q.m.tx, .string q.m.pr] 41))) := hide (Mc.of_below (below_alloc w (.cells #[.int .i64 q.k, .int .i64 q.on, .int .i64 q.m.k, .int .i64 q.m.se, .int .i64 q.m.nu, .int .i64 q.m.jo, .int .i64 q.m.ba, .int .i64 q.m.ix, .int .i64 q.m.co, .int .i64 q.m.rc, .int .u64 (q.m.rb : Int), .string q.m.tx, .string q.m.pr] 41)))
  have HK := hide hk
  have HD : Hid (c.does q = (c.hear q.m).c) := hide (by unfold Cl.does; rw [if_neg (by intro e; rw [e] at e1; cases e1), if_neg (by intro e; rw [e] at e2; cases e2), if_neg (by intro e; rw [e] at e3; cases e3), if_neg (by intro e; rw [e] at e4; cases e4), if_pos (by simpa using e5)])
  have HL : Hid (lDoes c q l = hearL c q.m l) := hide (by unfold lDoes; rw [if_neg (by intro e; rw [e] at e1; cases e1), if_neg (by intro e; rw [e] at e2; cases e2), if_pos (by simpa using e5)])
  clear hc hx hk
  go_enter Try.func12, Try.ntmps12
  go_wp2_with fail
  obtain ⟨X, hX⟩ : ∃ X, w.heap.size = X := ⟨_, rfl⟩
  rw [hX] at HO
  try rw [hX]
  clear hX
  generalize w.alloc (.cells #[.int .i64 q.k, .int .i64 q.on, .int .i64 q.m.k, .int .i64 q.m.se, .int .i64 q.m.nu, .int .i64 q.m.jo, .int .i64 q.m.ba, .int .i64 q.m.ix, .int .i64 q.m.co, .int .i64 q.m.rc, .int .u64 (q.m.rb : Int), .string q.m.tx, .string q.m.pr] 41) = W at *
  obtain ⟨ec, hec⟩ : ∃ ec, (c.hear q.m).e = ec := ⟨_, rfl⟩
  have HEC := hide hec
  clear hec
  have HCe : Hid (∀ V, Ox V X q → (V.cell? ⟨X, 0, none⟩ = some (.int .i64 q.k) ∧ V.cell? ⟨X, 1, none⟩ = some (.int .i64 q.on) ∧ V.cell? ⟨X, 2, none⟩ = some (.int .i64 q.m.k) ∧ V.cell? ⟨X, 3, none⟩ = some (.int .i64 q.m.se) ∧ V.cell? ⟨X, 4, none⟩ = some (.int .i64 q.m.nu) ∧ V.cell? ⟨X, 5, none⟩ = some (.int .i64 q.m.jo) ∧ V.cell? ⟨X, 6, none⟩ = some (.int .i64 q.m.ba) ∧ V.cell? ⟨X, 7, none⟩ = some (.int .i64 q.m.ix) ∧ V.cell? ⟨X, 8, none⟩ = some (.int .i64 q.m.co) ∧ V.cell? ⟨X, 9, none⟩ = some (.int .i64 q.m.rc) ∧ V.cell? ⟨X, 10, none⟩ = some (.int .u64 (q.m.rb : Int)) ∧ V.cell? ⟨X, 11, none⟩ = some (.string q.m.tx) ∧ V.cell? ⟨X, 12, none⟩ = some (.string q.m.pr))) := hide fun V hV => hV.cells
  have HCd : Hid (Cb W.drew b c) := HC
  have HXd : Hid (Xb W.drew g o (xC c l)) := hide (HX.out.keep rfl)
  have HMd : Hid (Mc b g o w W.drew) := hide ⟨HM.out.os, HM.out.tape, HM.out.output, HM.out.size, HM.out.block, HM.out.row⟩
  have nq : (ec == ec) = true := by simp
  refine wp_region_held_drew (S := fun w' => Ox w' X q) (by kernel_rfl) (HO.out) (fun hHeld => ?_)
  refine wpAnyH_take (i := 0) (v := .pointer (some ⟨b, 0, none⟩)) rfl (by kernel_rfl) (by kernel_rfl) (by kernel_rfl) (fun _ _ _ h => h) (Or.inl ⟨by kernel_rfl, fun w1 hSw => by clear hHeld; obtain ⟨k0, k1, k2, k3, k4, k5, k6, k7, k8, k9, k10, k11, k12⟩ := HCe.out _ hSw; go_simp⟩) hHeld ?_
  try simp only [Act.put]
  try simp only [List.getElem_toArray]
  try simp only [List.getElem_cons_succ]
  try simp only [List.getElem_cons_zero]
  try simp only [List.setIfInBounds_toArray]
  try simp only [List.set_cons_succ, List.set_cons_zero]
  refine wpAnyH_take (i := 1) (v := .pointer (some ⟨X, 2, none⟩)) rfl (by kernel_rfl) (by kernel_rfl) (by kernel_rfl) (fun _ _ _ h => h) (Or.inl ⟨by kernel_rfl, fun w1 hSw => by clear hHeld; obtain ⟨k0, k1, k2, k3, k4, k5, k6, k7, k8, k9, k10, k11, k12⟩ := HCe.out _ hSw; go_simp⟩) hHeld ?_
  try simp only [Act.put]
  try simp only [List.getElem_toArray]
  try simp only [List.getElem_cons_succ]
  try simp only [List.getElem_cons_zero]
  try simp only [List.setIfInBounds_toArray]
  try simp only [List.set_cons_succ, List.set_cons_zero]
  refine wpAnyH_take (i := 2) (v := .agg #[.int .i64 q.m.k, .int .i64 q.m.se, .int .i64 q.m.nu, .int .i64 q.m.jo, .int .i64 q.m.ba, .int .i64 q.m.ix, .int .i64 q.m.co, .int .i64 q.m.rc, .int .u64 (q.m.rb : Int), .string q.m.tx, .string q.m.pr]) rfl (by kernel_rfl) (by kernel_rfl) (by kernel_rfl) (fun _ _ _ h => h) (Or.inl ⟨by kernel_rfl, fun w1 hSw => by clear hHeld; obtain ⟨k0, k1, k2, k3, k4, k5, k6, k7, k8, k9, k10, k11, k12⟩ := HCe.out _ hSw; go_simp⟩) hHeld ?_
  try simp only [Act.put]
  try simp only [List.getElem_toArray]
  try simp only [List.getElem_cons_succ]
  try simp only [List.getElem_cons_zero]
  try simp only [List.setIfInBounds_toArray]
  try simp only [List.set_cons_succ, List.set_cons_zero]
  refine wpAnyH_take (i := 4) (v := .pointer (some ⟨g, o, none⟩)) rfl (by kernel_rfl) (by kernel_rfl) (by kernel_rfl) (fun _ _ _ h => h) (Or.inl ⟨by kernel_rfl, fun w1 hSw => by clear hHeld; obtain ⟨k0, k1, k2, k3, k4, k5, k6, k7, k8, k9, k10, k11, k12⟩ := HCe.out _ hSw; go_simp⟩) hHeld ?_
  try simp only [Act.put]
  try simp only [List.getElem_toArray]
  try simp only [List.getElem_cons_succ]
  try simp only [List.getElem_cons_zero]
  try simp only [List.setIfInBounds_toArray]
  try simp only [List.set_cons_succ, List.set_cons_zero]
  refine wpAnyH_take (i := 5) (v := .pointer (some ⟨X, 2, none⟩)) rfl (by kernel_rfl) (by kernel_rfl) (by kernel_rfl) (fun _ _ _ h => h) (Or.inl ⟨by kernel_rfl, fun w1 hSw => by clear hHeld; obtain ⟨k0, k1, k2, k3, k4, k5, k6, k7, k8, k9, k10, k11, k12⟩ := HCe.out _ hSw; go_simp⟩) hHeld ?_
  try simp only [Act.put]
  try simp only [List.getElem_toArray]
  try simp only [List.getElem_cons_succ]
  try simp only [List.getElem_cons_zero]
  try simp only [List.setIfInBounds_toArray]
  try simp only [List.set_cons_succ, List.set_cons_zero]
  refine wpAnyH_take (i := 6) (v := .agg #[.int .i64 q.m.k, .int .i64 q.m.se, .int .i64 q.m.nu, .int .i64 q.m.jo, .int .i64 q.m.ba, .int .i64 q.m.ix, .int .i64 q.m.co, .int .i64 q.m.rc, .int .u64 (q.m.rb : Int), .string q.m.tx, .string q.m.pr]) rfl (by kernel_rfl) (by kernel_rfl) (by kernel_rfl) (fun _ _ _ h => h) (Or.inl ⟨by kernel_rfl, fun w1 hSw => by clear hHeld; obtain ⟨k0, k1, k2, k3, k4, k5, k6, k7, k8, k9, k10, k11, k12⟩ := HCe.out _ hSw; go_simp⟩) hHeld ?_
  try simp only [Act.put]
  try simp only [List.getElem_toArray]
  try simp only [List.getElem_cons_succ]
  try simp only [List.getElem_cons_zero]
  try simp only [List.setIfInBounds_toArray]
  try simp only [List.set_cons_succ, List.set_cons_zero]
  refine wpAnyH_ready (rs := [3]) (by kernel_rfl) (by simp) ?_
  refine AllReadyH.cons rfl (fun K hK => ?_) AllReadyH.nil
  go_simp
  refine (hear_any HK.out.ok HCd.out q.m).mono ?_
  rintro e V1 ⟨rfl, hc1, ho1⟩
  rw [HEC.out]
  have HO1 := hide (Ox.onC hHeld HCd.out ho1)
  have HX1 := hide (HXd.out.onC HCd.out ho1)
  have HM1 := hide (HMd.out.trans (Mc.of_on ho1 (HXd.out.ne HCd.out)))
  have HC1 := hide hc1
  clear hc1 ho1
  refine hK.out _ _ (HO1.out) (fun hHeld => ?_)
  clear hK K
  try simp only [Act.put]
  try simp only [List.getElem_toArray]
  try simp only [List.getElem_cons_succ]
  try simp only [List.getElem_cons_zero]
  try simp only [List.setIfInBounds_toArray]
  try simp only [List.set_cons_succ, List.set_cons_zero]
  refine wpAnyH_ready (rs := [7]) (by kernel_rfl) (by simp) ?_
  refine AllReadyH.cons rfl (fun K hK => ?_) AllReadyH.nil
  go_simp
  refine (xhear_any HK.out.ok HX1.out q.m).mono ?_
  rintro e V2 ⟨rfl, hx2, ho2⟩
  rw [HEC.out]
  have HO2 := hide (Ox.onX HO1.out HX1.out ho2)
  have HC2 := hide (HC1.out.onX HX1.out ho2)
  have HM2 := hide (HM1.out.trans (Mc.of_xo ho2))
  have HX2 := hide hx2
  clear hx2 ho2
  refine hK.out _ _ (HO2.out) (fun hHeld => ?_)
  clear hK K
  try simp only [Act.put]
  try simp only [List.getElem_toArray]
  try simp only [List.getElem_cons_succ]
  try simp only [List.getElem_cons_zero]
  try simp only [List.setIfInBounds_toArray]
  try simp only [List.set_cons_succ, List.set_cons_zero]
  refine wpAnyH_take (i := 8) (v := .bool true) rfl (by kernel_rfl) (by kernel_rfl) (by kernel_rfl) (fun _ _ _ h => h) (Or.inl ⟨by kernel_rfl, fun w1 hSw => by clear hHeld; obtain ⟨k0, k1, k2, k3, k4, k5, k6, k7, k8, k9, k10, k11, k12⟩ := HCe.out _ hSw; go_simp⟩) hHeld ?_
  try simp only [Act.put]
  try simp only [List.getElem_toArray]
  try simp only [List.getElem_cons_succ]
  try simp only [List.getElem_cons_zero]
  try simp only [List.setIfInBounds_toArray]
  try simp only [List.set_cons_succ, List.set_cons_zero]
  refine wpAnyH_take (i := 9) (v := .bool true) rfl (by kernel_rfl) (by kernel_rfl) (by kernel_rfl) (fun _ _ _ h => h) (Or.inl ⟨by kernel_rfl, fun w1 hSw => by clear hHeld; obtain ⟨k0, k1, k2, k3, k4, k5, k6, k7, k8, k9, k10, k11, k12⟩ := HCe.out _ hSw; go_simp⟩) hHeld ?_
  try simp only [Act.put]
  try simp only [List.getElem_toArray]
  try simp only [List.getElem_cons_succ]
  try simp only [List.getElem_cons_zero]
  try simp only [List.setIfInBounds_toArray]
  try simp only [List.set_cons_succ, List.set_cons_zero]
  refine wpAnyH_done (by kernel_rfl) ?_ _
  clear hHeld HO1 HO2 HX1 HC1 HM1 HO HX HC HM HCd HXd HMd
  go_wp2_with fail
  go_ret
  exact ⟨rfl, by rw [HD.out]; exact HC2.out, by rw [HD.out, HL.out]; exact HX2.out, HM2.out⟩

theorem cdoes_any (hc : Cb w b c) (hx : Xb w g o (xC c l)) (hk : Lk c l) (q : Oc) : Calls Try.prog 12 #[.pointer (some ⟨b, 0, none⟩), .pointer (some ⟨g, o, none⟩), .agg #[.int .i64 q.k, .int .i64 q.on, .int .i64 q.m.k, .int .i64 q.m.se, .int .i64 q.m.nu, .int .i64 q.m.jo, .int .i64 q.m.ba, .int .i64 q.m.ix, .int .i64 q.m.co, .int .i64 q.m.rc, .int .u64 (q.m.rb : Int), .string q.m.tx, .string q.m.pr]] w (DPost w b g o c l q) := by
  cases e1 : q.k == 1 with
  | true => exact cdoes_1 hc hx hk q e1
  | false => cases e2 : q.k == 2 with
    | true => exact cdoes_2 hc hx hk q e1 e2
    | false => cases e3 : q.k == 3 with
      | true => exact cdoes_3 hc hx hk q e1 e2 e3
      | false => cases e4 : q.k == 4 with
        | true => exact cdoes_4 hc hx hk q e1 e2 e3 e4
        | false => cases e5 : q.k == 5 with
          | true => exact cdoes_5 hc hx hk q e1 e2 e3 e4 e5
          | false => exact cdoes_0 hc hx hk q e1 e2 e3 e4 e5
end
end Go.Proofs.Ytaikogbeaohmhaa
