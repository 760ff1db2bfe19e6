import Derived.Test.YthjngodkpldpfaaGreatDoorMgAX
import Derived.Test.YthjngodkpldpfaaGreatDoorMgAW
import Derived.Deep.RegionHeld3

section
namespace Go.Proofs.YthjngodkpldpfaaGreatDoor
open Go.RowKit Go.Shelf

/-- which blocks a call turns, and which it may turn behind it -/
structure Mw (F F' : Nat → Prop) (w w' : World) : Prop where
  os : w'.os = w.os
  tape : w'.tape = w.tape
  output : w'.output = w.output
  size : w.heap.size ≤ w'.heap.size
  block : ∀ k, k < w.heap.size → ¬ F k → w'.heap[k]? = w.heap[k]?
  foot : ∀ k, F' k → F k ∨ w.heap.size ≤ k
theorem Mw.trans {F G H : Nat → Prop} {a b c : World} (h : Mw F G a b) (k : Mw G H b c) : Mw F H a c :=
  ⟨k.os.trans h.os, k.tape.trans h.tape, k.output.trans h.output, Nat.le_trans h.size k.size,
    fun i hi hn => (k.block i (Nat.lt_of_lt_of_le hi h.size) (fun hg => (h.foot i hg).elim hn (fun e => by omega))).trans (h.block i hi hn),
    fun i hi => (k.foot i hi).elim (h.foot i) (fun e => .inr (Nat.le_trans h.size e))⟩
theorem mw_grown {F : Nat → Prop} {a b : World} {r : Option Nat} (g : a.grownBy b r) (hr : ∀ k, r = some k → F k) : Mw F F a b :=
  ⟨g.os, g.tape, g.output, g.size, fun i hi hn => g.block i hi (fun e => hn (hr i e.symm)), fun _ h => .inl h⟩
theorem mw_below {F : Nat → Prop} {a b : World} (g : Below a.heap.size a b) : Mw F F a b :=
  ⟨g.os, g.tape, g.output, g.size, fun i hi _ => g.block i hi, fun _ h => .inl h⟩
theorem mw_foot {F G H : Nat → Prop} {a b : World} (h : Mw F G a b) (k : ∀ i, H i → G i ∨ a.heap.size ≤ i) : Mw F H a b :=
  ⟨h.os, h.tape, h.output, h.size, h.block, fun i hi => (k i hi).elim (h.foot i) .inr⟩
def ftD (B : Nat) (nv pv : Value) (k : Nat) : Prop := k = B ∨ nv.ownBlock = some k ∨ pv.ownBlock = some k
def un64 (l : List Nat) : List Value := l.map fun x : Nat => Value.int .u64 (x : Int)
def in64 (l : List Nat) : List Value := l.map fun x : Nat => Value.int .i64 (x : Int)
/-- the document's machine, with its stacks and its code -/
structure Rm (w : World) (B : Nat) (d : Dc) (ns ps : List Nat) (v nv pv : Value) (xs : List In) (fuel : Nat) : Prop where
  b : Rb w B d v nv pv fuel
  n : w.ownsRow (B + 1) 43 1 nv ns.length (un64 ns)
  p : w.ownsRow (B + 1) 3 1 pv ps.length (in64 ps)
  a : ∀ g, nv.ownBlock = some g → pv.ownBlock ≠ some g
  c : ∃ cb off cap, v = .slice (some ⟨cb, off, none⟩) xs.length cap ∧ cb < B ∧ ∀ j, j < xs.length → ∀ i u, (xs[j]!).cs[i]? = some u → w.cell? ⟨cb, off + j * 6 + i, none⟩ = some u
theorem Rm.mw {w w' : World} {B : Nat} {d : Dc} {ns ps : List Nat} {v nv pv : Value} {xs : List In} {fuel : Nat} (h : Rm w B d ns ps v nv pv xs fuel) {F G : Nat → Prop} (k : Mw F G w w') (h1 : ¬ F B) (h2 : ∀ g, nv.ownBlock = some g → ¬ F g) (h3 : ∀ g, pv.ownBlock = some g → ¬ F g) (h4 : ∀ g, g < B → ¬ F g) : Rm w' B d ns ps v nv pv xs fuel := by
  have hlt := h.b.lt
  refine ⟨⟨(k.block B hlt h1).trans h.b.blk, h.b.r8⟩, ?_, ?_, h.a, ?_⟩
  · refine ⟨h.n.1, ?_⟩
    rcases h.n.2 with q | ⟨g, cap, cur, rfl, hk, hh, q⟩
    · exact .inl q
    · exact .inr ⟨g, cap, cur, rfl, hk, (k.block g (lt_of_block hh) (h2 g rfl)).trans hh, q⟩
  · refine ⟨h.p.1, ?_⟩
    rcases h.p.2 with q | ⟨g, cap, cur, rfl, hk, hh, q⟩
    · exact .inl q
    · exact .inr ⟨g, cap, cur, rfl, hk, (k.block g (lt_of_block hh) (h3 g rfl)).trans hh, q⟩
  · obtain ⟨cb, off, cap, hv, hb, hc⟩ := h.c
    refine ⟨cb, off, cap, hv, hb, fun j hj i u hi => ?_⟩
    have hq := hc j hj i u hi
    unfold World.cell? at hq ⊢
    rw [k.block cb (by omega) (h4 cb hb)]
    exact hq
theorem Rm.below {w w' : World} {B : Nat} {d : Dc} {ns ps : List Nat} {v nv pv : Value} {xs : List In} {fuel : Nat} (h : Rm w B d ns ps v nv pv xs fuel) (k : Below w.heap.size w w') : Rm w' B d ns ps v nv pv xs fuel :=
  h.mw (F := fun _ => False) (G := fun _ => False) (mw_below k) id (fun _ _ => id) (fun _ _ => id) (fun _ _ => id)
/-- a cell of the block itself -/
theorem Rm.set {w : World} {B : Nat} {d d' : Dc} {ns ps : List Nat} {v nv pv : Value} {xs : List In} {fuel : Nat} (h : Rm w B d ns ps v nv pv xs fuel) {i : Nat} {u : Value} (he : (d.vs v nv pv fuel).set i u = d'.vs v nv pv fuel) (r8 : d'.R.length = 8) : Rm (w.setCell ⟨B, i, none⟩ u) B d' ns ps v nv pv xs fuel := by
  have g := grown_set w B i u
  obtain ⟨cb, off, cap, hv, hb, hc⟩ := h.c
  refine ⟨h.b.set he r8, rown_grown h.n g (fun k e e2 => by have := (h.n.lt k e).1; injection e2 with e2; omega), rown_grown h.p g (fun k e e2 => by have := (h.p.lt k e).1; injection e2 with e2; omega), h.a, ⟨cb, off, cap, hv, hb, fun j hj i u hi => g.cell (hc j hj i u hi) (by simp; omega)⟩⟩
theorem mw_set {B : Nat} {nv pv : Value} (w : World) (i : Nat) (u : Value) : Mw (ftD B nv pv) (ftD B nv pv) w (w.setCell ⟨B, i, none⟩ u) := mw_grown (grown_set w B i u) (fun k e => .inl (by injection e with e; exact e.symm))
namespace Im
/-- what the document's flows comes to -/
def flw (d : Dc) (ns ps : List Nat) (x : In) (many : Nat) : Nat × Dc × List Nat × List Nat :=
  if x.op = 14 then (0, { d with pl := x.n.toNat }, ns, ps)
  else if x.op = 15 then (0, { d with pl := if clsN d.R[x.a.toNat]! = 2 then d.pl + 1 else x.n.toNat }, ns, ps)
  else if x.op = 16 then
    if Gn.intOk d.R[x.a.toNat]! = true ∧ 0 ≤ Gn.intV d.R[x.a.toNat]! ∧ Gn.intV d.R[x.a.toNat]! ≤ (many : Int) then (0, { d with pl := (Gn.intV d.R[x.a.toNat]!).toNat }, ns, ps) else (4, { d with pl := d.pl + 1 }, ns, ps)
  else if x.op = 17 then
    if ps.length = 8 then (2, { d with pl := d.pl + 1 }, ns, ps) else (0, { d with pl := x.n.toNat }, ns, ps ++ [d.pl + 1])
  else if x.op = 18 then
    if ps.length = 0 then (3, { d with pl := d.pl + 1 }, ns, ps) else (0, { d with pl := ps[ps.length - 1]! }, ns, ps.take (ps.length - 1))
  else if x.op = 19 then
    if ns.length = 8 then (2, { d with pl := d.pl + 1 }, ns, ps) else (0, { d with pl := d.pl + 1 }, ns ++ [d.R[x.a.toNat]!], ps)
  else if x.op = 20 then
    if ns.length = 0 then (3, { d with pl := d.pl + 1 }, ns, ps) else (0, { d with pl := d.pl + 1, R := d.R.set x.a.toNat ns[ns.length - 1]! }, ns.take (ns.length - 1), ps)
  else if x.op = 23 then (7, { d with pl := d.pl + 1 }, ns, ps)
  else (0, { d with pl := d.pl + 1 }, ns, ps)
end Im
/-- what a call of flows leaves -/
def FlP (w : World) (B : Nat) (r : Nat × Dc × List Nat × List Nat) (v nv pv : Value) (xs : List In) (fuel : Nat) (e : Ending) (w' : World) : Prop :=
  ∃ nv' pv', e = .returned (.int .i64 (r.1 : Int)) ∧ Rm w' B r.2.1 r.2.2.1 r.2.2.2 v nv' pv' xs fuel ∧ Mw (ftD B nv pv) (ftD B nv' pv') w w'
theorem infoInt : (Tryz.prog.info? 3).map (fun i => (i.zero, i.size, i.bytes)) = some (some (.int .i64 0), 1, 8) := by kernel_rfl
theorem infoU64 : (Tryz.prog.info? 43).map (fun i => (i.zero, i.size, i.bytes)) = some (some (.int .u64 0), 1, 8) := by kernel_rfl
theorem grown_da (w : World) (o : Obj) : w.grownBy (w.drew.alloc o) none := grown_trans (grown_below (bd_drew w 1) none) (grown_one _ o none)
theorem blk_new (w : World) (B i : Nat) (u : Value) (o : Obj) : ((w.setCell ⟨B, i, none⟩ u).alloc o).heap[w.heap.size]? = some o := by
  have e := heap_alloc_new (w.setCell ⟨B, i, none⟩ u) o
  rw [show (w.setCell ⟨B, i, none⟩ u).heap.size = w.heap.size by simp] at e
  exact e
/-- a place more on the stack of places -/
theorem rm_pushP {W0 W1 w9 : World} {B fuel g n cap H q : Nat} {d : Dc} {ns ps : List Nat} {v nv pv : Value} {xs : List In} (h : Rm W0 B d ns ps v nv pv xs fuel) (hW : W0.grownBy W1 none)
    (hown : w9.ownsRow (B + 1) 3 1 (.slice (some ⟨g, 0, none⟩) n cap) n (in64 ps ++ [.int .i64 (q : Int)])) (hn : n = ps.length + 1) (hgrow : W1.grownBy w9 pv.ownBlock) (hat : pv.ownBlock = some g ∨ g = H) (hH : W1.heap.size = H) :
    Rm (w9.setCell ⟨B, 13, none⟩ (.slice (some ⟨g, 0, none⟩) n cap)) B d ns (ps ++ [q]) v nv (.slice (some ⟨g, 0, none⟩) n cap) xs fuel ∧ Mw (ftD B nv pv) (ftD B nv (.slice (some ⟨g, 0, none⟩) n cap)) W0 (w9.setCell ⟨B, 13, none⟩ (.slice (some ⟨g, 0, none⟩) n cap)) := by
  have hs := grown_set w9 B 13 (.slice (some ⟨g, 0, none⟩) n cap)
  have hpb : ∀ k, pv.ownBlock = some k → B + 1 ≤ k := fun k e => (h.p.lt k e).1
  have hnb : ∀ k, nv.ownBlock = some k → B + 1 ≤ k ∧ k < W0.heap.size := fun k e => h.n.lt k e
  have hg : B + 1 ≤ g := (hown.lt g rfl).1
  have hlt := h.b.lt
  have hsz := hW.size
  obtain ⟨cb, off, ccap, hv, hb, hc⟩ := h.c
  refine ⟨⟨((h.b.grown hW (by simp)).grown hgrow (fun e => by have := hpb B e.symm; omega)).set (Dc.s_pv h.b.r8 v nv pv fuel _) h.b.r8, ?_, ?_, ?_, ⟨cb, off, ccap, hv, hb, fun j hj i u hi => ?_⟩⟩, ?_⟩
  · exact rown_grown (rown_grown (rown_grown h.n hW (fun _ _ => by simp)) hgrow (fun k e e2 => h.a k e e2.symm)) hs (fun k e e2 => by have := hnb k e; injection e2 with e2; omega)
  · have := rown_grown hown hs (fun k e e2 => by simp only [Value.ownBlock] at e; injection e with e; injection e2 with e2; omega)
    rw [List.length_append, show in64 (ps ++ [q]) = in64 ps ++ [.int .i64 (q : Int)] by unfold in64; simp]
    subst hn
    exact this
  · intro k e e2
    simp only [Value.ownBlock] at e2
    injection e2 with e2
    subst e2
    rcases hat with h1 | h1
    · exact h.a _ e h1
    · have := (hnb _ e).2; omega
  · exact hs.cell (hgrow.cell (hW.cell (hc j hj i u hi) (by simp)) (fun e => by have := hpb cb e.symm; omega)) (by simp; omega)
  · refine ⟨hs.os.trans (hgrow.os.trans hW.os), hs.tape.trans (hgrow.tape.trans hW.tape), hs.output.trans (hgrow.output.trans hW.output), Nat.le_trans hsz (Nat.le_trans hgrow.size hs.size), fun k hk hF => ?_, fun k hF => ?_⟩
    · exact (hs.block k (Nat.lt_of_lt_of_le hk (Nat.le_trans hsz hgrow.size)) (fun e => hF (.inl (by injection e)))).trans ((hgrow.block k (Nat.lt_of_lt_of_le hk hsz) (fun e => hF (.inr (.inr e.symm)))).trans (hW.block k hk (by simp)))
    · rcases hF with h1 | h1 | h1
      · exact .inl (.inl h1)
      · exact .inl (.inr (.inl h1))
      · simp only [Value.ownBlock] at h1
        injection h1 with h1
        subst h1
        rcases hat with h2 | h2
        · exact .inl (.inr (.inr h2))
        · exact .inr (by omega)
/-- a number more on the stack of numbers -/
theorem rm_pushN {W0 W1 w9 : World} {B fuel g n cap H q : Nat} {d : Dc} {ns ps : List Nat} {v nv pv : Value} {xs : List In} (h : Rm W0 B d ns ps v nv pv xs fuel) (hW : W0.grownBy W1 none)
    (hown : w9.ownsRow (B + 1) 43 1 (.slice (some ⟨g, 0, none⟩) n cap) n (un64 ns ++ [.int .u64 (q : Int)])) (hn : n = ns.length + 1) (hgrow : W1.grownBy w9 nv.ownBlock) (hat : nv.ownBlock = some g ∨ g = H) (hH : W1.heap.size = H) :
    Rm (w9.setCell ⟨B, 12, none⟩ (.slice (some ⟨g, 0, none⟩) n cap)) B d (ns ++ [q]) ps v (.slice (some ⟨g, 0, none⟩) n cap) pv xs fuel ∧ Mw (ftD B nv pv) (ftD B (.slice (some ⟨g, 0, none⟩) n cap) pv) W0 (w9.setCell ⟨B, 12, none⟩ (.slice (some ⟨g, 0, none⟩) n cap)) := by
  have hs := grown_set w9 B 12 (.slice (some ⟨g, 0, none⟩) n cap)
  have hpb : ∀ k, nv.ownBlock = some k → B + 1 ≤ k := fun k e => (h.n.lt k e).1
  have hnb : ∀ k, pv.ownBlock = some k → B + 1 ≤ k ∧ k < W0.heap.size := fun k e => h.p.lt k e
  have hg : B + 1 ≤ g := (hown.lt g rfl).1
  have hlt := h.b.lt
  have hsz := hW.size
  obtain ⟨cb, off, ccap, hv, hb, hc⟩ := h.c
  refine ⟨⟨((h.b.grown hW (by simp)).grown hgrow (fun e => by have := hpb B e.symm; omega)).set (Dc.s_nv h.b.r8 v nv pv fuel _) h.b.r8, ?_, ?_, ?_, ⟨cb, off, ccap, hv, hb, fun j hj i u hi => ?_⟩⟩, ?_⟩
  · have := rown_grown hown hs (fun k e e2 => by simp only [Value.ownBlock] at e; injection e with e; injection e2 with e2; omega)
    rw [List.length_append, show un64 (ns ++ [q]) = un64 ns ++ [.int .u64 (q : Int)] by unfold un64; simp]
    subst hn
    exact this
  · exact rown_grown (rown_grown (rown_grown h.p hW (fun _ _ => by simp)) hgrow (fun k e e2 => h.a k e2.symm e)) hs (fun k e e2 => by have := hnb k e; injection e2 with e2; omega)
  · intro k e e2
    simp only [Value.ownBlock] at e
    injection e with e
    subst e
    rcases hat with h1 | h1
    · exact h.a _ h1 e2
    · have := (hnb _ e2).2; omega
  · exact hs.cell (hgrow.cell (hW.cell (hc j hj i u hi) (by simp)) (fun e => by have := hpb cb e.symm; omega)) (by simp; omega)
  · refine ⟨hs.os.trans (hgrow.os.trans hW.os), hs.tape.trans (hgrow.tape.trans hW.tape), hs.output.trans (hgrow.output.trans hW.output), Nat.le_trans hsz (Nat.le_trans hgrow.size hs.size), fun k hk hF => ?_, fun k hF => ?_⟩
    · exact (hs.block k (Nat.lt_of_lt_of_le hk (Nat.le_trans hsz hgrow.size)) (fun e => hF (.inl (by injection e)))).trans ((hgrow.block k (Nat.lt_of_lt_of_le hk hsz) (fun e => hF (.inr (.inl e.symm)))).trans (hW.block k hk (by simp)))
    · rcases hF with h1 | h1 | h1
      · exact .inl (.inl h1)
      · simp only [Value.ownBlock] at h1
        injection h1 with h1
        subst h1
        rcases hat with h2 | h2
        · exact .inl (.inr (.inl h2))
        · exact .inr (by omega)
      · exact .inl (.inr (.inr h1))
theorem own_less {w : World} {base e n g cap : Nat} {xs : List Value} (h : w.ownsRow base e 1 (.slice (some ⟨g, 0, none⟩) n cap) n xs) (h0 : 0 < n) : w.ownsRow base e 1 (.slice (some ⟨g, 0, none⟩) (n - 1) cap) (n - 1) (xs.take (n - 1)) := by
  obtain ⟨h1, h2⟩ := h
  refine ⟨by rw [List.length_take]; omega, .inr ?_⟩
  rcases h2 with ⟨h2, _⟩ | ⟨g', cap', cur, hv, hb, hh, a1, a2, a3, a4⟩
  · cases h2
  · injection hv with e1 e2 e3
    injection e1 with e1
    injection e1 with e1
    subst e1 e3
    refine ⟨g, cap, cur, rfl, hb, hh, by omega, a2, a3, ?_⟩
    rw [← a4, List.take_take]
    congr 1
    omega
/-- one less on the stack of places -/
theorem rm_popP {W0 : World} {B fuel g cap : Nat} {d : Dc} {ns ps : List Nat} {v nv : Value} {xs : List In} (h : Rm W0 B d ns ps v nv (.slice (some ⟨g, 0, none⟩) ps.length cap) xs fuel) (h0 : 0 < ps.length) :
    Rm (W0.setCell ⟨B, 13, none⟩ (.slice (some ⟨g, 0, none⟩) (ps.length - 1) cap)) B d ns (ps.take (ps.length - 1)) v nv (.slice (some ⟨g, 0, none⟩) (ps.length - 1) cap) xs fuel := by
  have hs := grown_set W0 B 13 (.slice (some ⟨g, 0, none⟩) (ps.length - 1) cap)
  obtain ⟨cb, off, ccap, hv, hb, hc⟩ := h.c
  have hl : (ps.take (ps.length - 1)).length = ps.length - 1 := by rw [List.length_take]; omega
  refine ⟨h.b.set (Dc.s_pv h.b.r8 v nv _ fuel _) h.b.r8, rown_grown h.n hs (fun k e e2 => by have := (h.n.lt k e).1; injection e2 with e2; omega), ?_, h.a, ⟨cb, off, ccap, hv, hb, fun j hj i u hi => hs.cell (hc j hj i u hi) (by simp; omega)⟩⟩
  have := rown_grown (own_less h.p h0) hs (fun k e e2 => by have := (h.p.lt k e).1; injection e2 with e2; omega)
  rw [hl]
  rw [show in64 (ps.take (ps.length - 1)) = (in64 ps).take (ps.length - 1) by unfold in64; rw [List.map_take]]
  exact this
/-- one less on the stack of numbers -/
theorem rm_popN {W0 : World} {B fuel g cap : Nat} {d : Dc} {ns ps : List Nat} {v pv : Value} {xs : List In} (h : Rm W0 B d ns ps v (.slice (some ⟨g, 0, none⟩) ns.length cap) pv xs fuel) (h0 : 0 < ns.length) :
    Rm (W0.setCell ⟨B, 12, none⟩ (.slice (some ⟨g, 0, none⟩) (ns.length - 1) cap)) B d (ns.take (ns.length - 1)) ps v (.slice (some ⟨g, 0, none⟩) (ns.length - 1) cap) pv xs fuel := by
  have hs := grown_set W0 B 12 (.slice (some ⟨g, 0, none⟩) (ns.length - 1) cap)
  obtain ⟨cb, off, ccap, hv, hb, hc⟩ := h.c
  have hl : (ns.take (ns.length - 1)).length = ns.length - 1 := by rw [List.length_take]; omega
  refine ⟨h.b.set (Dc.s_nv h.b.r8 v _ pv fuel _) h.b.r8, ?_, rown_grown h.p hs (fun k e e2 => by have := (h.p.lt k e).1; injection e2 with e2; omega), h.a, ⟨cb, off, ccap, hv, hb, fun j hj i u hi => hs.cell (hc j hj i u hi) (by simp; omega)⟩⟩
  have := rown_grown (own_less h.n h0) hs (fun k e e2 => by have := (h.n.lt k e).1; injection e2 with e2; omega)
  rw [hl]
  rw [show un64 (ns.take (ns.length - 1)) = (un64 ns).take (ns.length - 1) by unfold un64; rw [List.map_take]]
  exact this
theorem own_cap {w : World} {base e n g cap : Nat} {xs : List Value} (h : w.ownsRow base e 1 (.slice (some ⟨g, 0, none⟩) n cap) n xs) : n ≤ cap := by
  rcases h.2 with ⟨h2, _⟩ | ⟨g', cap', cur, hv, hb, hh, a1, _⟩
  · cases h2
  · injection hv with e1 e2 e3
    omega
theorem bd_two (w : World) : Below w.heap.size w w.drew.drew := ⟨rfl, rfl, rfl, Nat.le_refl _, fun _ _ => rfl⟩
/-- a box more -/
theorem fl_one {w W : World} {B : Nat} {t : Nat} {d : Dc} {ns ps : List Nat} {v nv pv nv' pv' : Value} {xs : List In} {fuel : Nat} (h : Rm W B d ns ps v nv' pv' xs fuel) (k : Mw (ftD B nv pv) (ftD B nv' pv') w W) (o : Obj) : FlP w B (t, d, ns, ps) v nv pv xs fuel (.returned (.int .i64 (t : Int))) (W.alloc o) :=
  ⟨nv', pv', rfl, h.below (below_one W o), k.trans (mw_below (below_one W o))⟩
set_option maxRecDepth 20000 in
set_option maxHeartbeats 1000000 in
theorem flows_jump {w : World} {B fuel : Nat} {d : Dc} {ns ps : List Nat} {v nv pv : Value} {xs : List In} {x : In} (h : Rm w B d ns ps v nv pv xs fuel) (hpl : d.pl < 1000000) (g : x.Good xs.length) (hop : x.op = 14) :
    Calls Tryz.prog 43 #[.pointer (some ⟨B, 0, none⟩), .agg x.cs.toArray] w (FlP w B (Im.flw d ns ps x xs.length) v nv pv xs fuel) := by
  have c2 := h.b.cell (Dc.g_pl h.b.r8 v nv pv fuel)
  have hz := h.b.z
  have hlt := h.b.lt
  have HR := hide h
  obtain ⟨op, a, b, c, n, k⟩ := x
  simp only at hop
  subst hop
  have hn0 := g.n0
  have ha0 := g.a0
  have ha1 := g.a1
  simp only at hn0 ha0 ha1
  obtain ⟨n, rfl⟩ : ∃ q : Nat, n = (q : Int) := ⟨n.toNat, by omega⟩
  obtain ⟨a, rfl⟩ : ∃ q : Nat, a = (q : Int) := ⟨a.toNat, by omega⟩
  have ha : a < 8 := by omega

  have e1 : Im.flw d ns ps ⟨14, (a : Int), b, c, (n : Int), k⟩ xs.length = (0, { d with pl := n }, ns, ps) := rfl
  rw [e1]
  simp only [In.cs]
  clear g h
  go_enter Tryz.func43, Tryz.ntmps43
  go_wp2_with fail
  go_ret
  exact fl_one ((HR.out.set (Dc.s_pl HR.out.b.r8 v nv pv fuel (d.pl + 1)) HR.out.b.r8).set (Dc.s_pl (m := { d with pl := d.pl + 1 }) HR.out.b.r8 v nv pv fuel n) HR.out.b.r8) ((mw_set w 2 _).trans (mw_set _ 2 _)) _
set_option maxRecDepth 20000 in
set_option maxHeartbeats 1000000 in
theorem flows_fail {w : World} {B fuel : Nat} {d : Dc} {ns ps : List Nat} {v nv pv : Value} {xs : List In} {x : In} (h : Rm w B d ns ps v nv pv xs fuel) (hpl : d.pl < 1000000) (g : x.Good xs.length) (hop : x.op = 23) :
    Calls Tryz.prog 43 #[.pointer (some ⟨B, 0, none⟩), .agg x.cs.toArray] w (FlP w B (Im.flw d ns ps x xs.length) v nv pv xs fuel) := by
  have c2 := h.b.cell (Dc.g_pl h.b.r8 v nv pv fuel)
  have hz := h.b.z
  have hlt := h.b.lt
  have HR := hide h
  obtain ⟨op, a, b, c, n, k⟩ := x
  simp only at hop
  subst hop
  have hn0 := g.n0
  have ha0 := g.a0
  have ha1 := g.a1
  simp only at hn0 ha0 ha1
  obtain ⟨n, rfl⟩ : ∃ q : Nat, n = (q : Int) := ⟨n.toNat, by omega⟩
  obtain ⟨a, rfl⟩ : ∃ q : Nat, a = (q : Int) := ⟨a.toNat, by omega⟩
  have ha : a < 8 := by omega

  have e1 : Im.flw d ns ps ⟨23, (a : Int), b, c, (n : Int), k⟩ xs.length = (7, { d with pl := d.pl + 1 }, ns, ps) := rfl
  rw [e1]
  simp only [In.cs]
  clear g h
  go_enter Tryz.func43, Tryz.ntmps43
  go_wp2_with fail
  go_ret
  exact fl_one (HR.out.set (Dc.s_pl HR.out.b.r8 v nv pv fuel (d.pl + 1)) HR.out.b.r8) (mw_set w 2 _) _
set_option maxRecDepth 20000 in
set_option maxHeartbeats 1000000 in
theorem flows_halt {w : World} {B fuel : Nat} {d : Dc} {ns ps : List Nat} {v nv pv : Value} {xs : List In} {x : In} (h : Rm w B d ns ps v nv pv xs fuel) (hpl : d.pl < 1000000) (g : x.Good xs.length) (hop : x.op = 24) :
    Calls Tryz.prog 43 #[.pointer (some ⟨B, 0, none⟩), .agg x.cs.toArray] w (FlP w B (Im.flw d ns ps x xs.length) v nv pv xs fuel) := by
  have c2 := h.b.cell (Dc.g_pl h.b.r8 v nv pv fuel)
  have hz := h.b.z
  have hlt := h.b.lt
  have HR := hide h
  obtain ⟨op, a, b, c, n, k⟩ := x
  simp only at hop
  subst hop
  have hn0 := g.n0
  have ha0 := g.a0
  have ha1 := g.a1
  simp only at hn0 ha0 ha1
  obtain ⟨n, rfl⟩ : ∃ q : Nat, n = (q : Int) := ⟨n.toNat, by omega⟩
  obtain ⟨a, rfl⟩ : ∃ q : Nat, a = (q : Int) := ⟨a.toNat, by omega⟩
  have ha : a < 8 := by omega

  have e1 : Im.flw d ns ps ⟨24, (a : Int), b, c, (n : Int), k⟩ xs.length = (0, { d with pl := d.pl + 1 }, ns, ps) := rfl
  rw [e1]
  simp only [In.cs]
  clear g h
  go_enter Tryz.func43, Tryz.ntmps43
  go_wp2_with fail
  go_ret
  exact fl_one (HR.out.set (Dc.s_pl HR.out.b.r8 v nv pv fuel (d.pl + 1)) HR.out.b.r8) (mw_set w 2 _) _
set_option maxRecDepth 20000 in
set_option maxHeartbeats 1000000 in
theorem flows_call8 {w : World} {B fuel : Nat} {d : Dc} {ns ps : List Nat} {v nv pv : Value} {xs : List In} {x : In} (h : Rm w B d ns ps v nv pv xs fuel) (hpl : d.pl < 1000000) (g : x.Good xs.length) (hop : x.op = 17) (h8 : ps.length = 8) :
    Calls Tryz.prog 43 #[.pointer (some ⟨B, 0, none⟩), .agg x.cs.toArray] w (FlP w B (Im.flw d ns ps x xs.length) v nv pv xs fuel) := by
  have c2 := h.b.cell (Dc.g_pl h.b.r8 v nv pv fuel)
  have hz := h.b.z
  have hlt := h.b.lt
  have HR := hide h
  obtain ⟨op, a, b, c, n, k⟩ := x
  simp only at hop
  subst hop
  have hn0 := g.n0
  have ha0 := g.a0
  have ha1 := g.a1
  simp only at hn0 ha0 ha1
  obtain ⟨n, rfl⟩ : ∃ q : Nat, n = (q : Int) := ⟨n.toNat, by omega⟩
  obtain ⟨a, rfl⟩ : ∃ q : Nat, a = (q : Int) := ⟨a.toNat, by omega⟩
  have ha : a < 8 := by omega
  have c13 := h.b.cell (Dc.g_pv h.b.r8 v nv pv fuel)
  obtain ⟨pa, pcap, rfl⟩ := rown_slice h.p
  rw [h8] at c13
  have e1 : Im.flw d ns ps ⟨17, (a : Int), b, c, (n : Int), k⟩ xs.length = (2, { d with pl := d.pl + 1 }, ns, ps) := by show ite (ps.length = 8) _ _ = _; exact if_pos h8
  rw [e1]
  simp only [In.cs]
  clear g h
  go_enter Tryz.func43, Tryz.ntmps43
  go_wp2_with fail
  go_ret
  exact fl_one (HR.out.set (Dc.s_pl HR.out.b.r8 v nv _ fuel (d.pl + 1)) HR.out.b.r8) (mw_set w 2 _) _
set_option maxRecDepth 20000 in
set_option maxHeartbeats 1000000 in
theorem flows_ret0 {w : World} {B fuel : Nat} {d : Dc} {ns ps : List Nat} {v nv pv : Value} {xs : List In} {x : In} (h : Rm w B d ns ps v nv pv xs fuel) (hpl : d.pl < 1000000) (g : x.Good xs.length) (hop : x.op = 18) (h8 : ps.length = 0) :
    Calls Tryz.prog 43 #[.pointer (some ⟨B, 0, none⟩), .agg x.cs.toArray] w (FlP w B (Im.flw d ns ps x xs.length) v nv pv xs fuel) := by
  have c2 := h.b.cell (Dc.g_pl h.b.r8 v nv pv fuel)
  have hz := h.b.z
  have hlt := h.b.lt
  have HR := hide h
  obtain ⟨op, a, b, c, n, k⟩ := x
  simp only at hop
  subst hop
  have hn0 := g.n0
  have ha0 := g.a0
  have ha1 := g.a1
  simp only at hn0 ha0 ha1
  obtain ⟨n, rfl⟩ : ∃ q : Nat, n = (q : Int) := ⟨n.toNat, by omega⟩
  obtain ⟨a, rfl⟩ : ∃ q : Nat, a = (q : Int) := ⟨a.toNat, by omega⟩
  have ha : a < 8 := by omega
  have c13 := h.b.cell (Dc.g_pv h.b.r8 v nv pv fuel)
  obtain ⟨pa, pcap, rfl⟩ := rown_slice h.p
  rw [h8] at c13
  have e1 : Im.flw d ns ps ⟨18, (a : Int), b, c, (n : Int), k⟩ xs.length = (3, { d with pl := d.pl + 1 }, ns, ps) := by show ite (ps.length = 0) _ _ = _; exact if_pos h8
  rw [e1]
  simp only [In.cs]
  clear g h
  go_enter Tryz.func43, Tryz.ntmps43
  go_wp2_with fail
  go_ret
  exact fl_one (HR.out.set (Dc.s_pl HR.out.b.r8 v nv _ fuel (d.pl + 1)) HR.out.b.r8) (mw_set w 2 _) _
set_option maxRecDepth 20000 in
set_option maxHeartbeats 1000000 in
theorem flows_push8 {w : World} {B fuel : Nat} {d : Dc} {ns ps : List Nat} {v nv pv : Value} {xs : List In} {x : In} (h : Rm w B d ns ps v nv pv xs fuel) (hpl : d.pl < 1000000) (g : x.Good xs.length) (hop : x.op = 19) (h8 : ns.length = 8) :
    Calls Tryz.prog 43 #[.pointer (some ⟨B, 0, none⟩), .agg x.cs.toArray] w (FlP w B (Im.flw d ns ps x xs.length) v nv pv xs fuel) := by
  have c2 := h.b.cell (Dc.g_pl h.b.r8 v nv pv fuel)
  have hz := h.b.z
  have hlt := h.b.lt
  have HR := hide h
  obtain ⟨op, a, b, c, n, k⟩ := x
  simp only at hop
  subst hop
  have hn0 := g.n0
  have ha0 := g.a0
  have ha1 := g.a1
  simp only at hn0 ha0 ha1
  obtain ⟨n, rfl⟩ : ∃ q : Nat, n = (q : Int) := ⟨n.toNat, by omega⟩
  obtain ⟨a, rfl⟩ : ∃ q : Nat, a = (q : Int) := ⟨a.toNat, by omega⟩
  have ha : a < 8 := by omega
  have c12 := h.b.cell (Dc.g_nv h.b.r8 v nv pv fuel)
  obtain ⟨pa, pcap, rfl⟩ := rown_slice h.n
  rw [h8] at c12
  have e1 : Im.flw d ns ps ⟨19, (a : Int), b, c, (n : Int), k⟩ xs.length = (2, { d with pl := d.pl + 1 }, ns, ps) := by show ite (ns.length = 8) _ _ = _; exact if_pos h8
  rw [e1]
  simp only [In.cs]
  clear g h
  go_enter Tryz.func43, Tryz.ntmps43
  go_wp2_with fail
  go_ret
  exact fl_one (HR.out.set (Dc.s_pl HR.out.b.r8 v _ pv fuel (d.pl + 1)) HR.out.b.r8) (mw_set w 2 _) _
set_option maxRecDepth 20000 in
set_option maxHeartbeats 1000000 in
theorem flows_pop0 {w : World} {B fuel : Nat} {d : Dc} {ns ps : List Nat} {v nv pv : Value} {xs : List In} {x : In} (h : Rm w B d ns ps v nv pv xs fuel) (hpl : d.pl < 1000000) (g : x.Good xs.length) (hop : x.op = 20) (h8 : ns.length = 0) :
    Calls Tryz.prog 43 #[.pointer (some ⟨B, 0, none⟩), .agg x.cs.toArray] w (FlP w B (Im.flw d ns ps x xs.length) v nv pv xs fuel) := by
  have c2 := h.b.cell (Dc.g_pl h.b.r8 v nv pv fuel)
  have hz := h.b.z
  have hlt := h.b.lt
  have HR := hide h
  obtain ⟨op, a, b, c, n, k⟩ := x
  simp only at hop
  subst hop
  have hn0 := g.n0
  have ha0 := g.a0
  have ha1 := g.a1
  simp only at hn0 ha0 ha1
  obtain ⟨n, rfl⟩ : ∃ q : Nat, n = (q : Int) := ⟨n.toNat, by omega⟩
  obtain ⟨a, rfl⟩ : ∃ q : Nat, a = (q : Int) := ⟨a.toNat, by omega⟩
  have ha : a < 8 := by omega
  have c12 := h.b.cell (Dc.g_nv h.b.r8 v nv pv fuel)
  obtain ⟨pa, pcap, rfl⟩ := rown_slice h.n
  rw [h8] at c12
  have e1 : Im.flw d ns ps ⟨20, (a : Int), b, c, (n : Int), k⟩ xs.length = (3, { d with pl := d.pl + 1 }, ns, ps) := by show ite (ns.length = 0) _ _ = _; exact if_pos h8
  rw [e1]
  simp only [In.cs]
  clear g h
  go_enter Tryz.func43, Tryz.ntmps43
  go_wp2_with fail
  go_ret
  exact fl_one (HR.out.set (Dc.s_pl HR.out.b.r8 v _ pv fuel (d.pl + 1)) HR.out.b.r8) (mw_set w 2 _) _
set_option maxRecDepth 20000 in
set_option maxHeartbeats 1000000 in
theorem flows_call {w : World} {B fuel : Nat} {d : Dc} {ns ps : List Nat} {v nv pv : Value} {xs : List In} {x : In} (h : Rm w B d ns ps v nv pv xs fuel) (hpl : d.pl < 1000000) (g : x.Good xs.length) (hop : x.op = 17) (hps : ps.length ≤ 8) (h8 : ¬ ps.length = 8) :
    Calls Tryz.prog 43 #[.pointer (some ⟨B, 0, none⟩), .agg x.cs.toArray] w (FlP w B (Im.flw d ns ps x xs.length) v nv pv xs fuel) := by
  have c2 := h.b.cell (Dc.g_pl h.b.r8 v nv pv fuel)
  have hz := h.b.z
  have hlt := h.b.lt
  have HR := hide h
  obtain ⟨op, a, b, c, n, k⟩ := x
  simp only at hop
  subst hop
  have hn0 := g.n0
  have ha0 := g.a0
  have ha1 := g.a1
  simp only at hn0 ha0 ha1
  obtain ⟨n, rfl⟩ : ∃ q : Nat, n = (q : Int) := ⟨n.toNat, by omega⟩
  obtain ⟨a, rfl⟩ : ∃ q : Nat, a = (q : Int) := ⟨a.toNat, by omega⟩
  have ha : a < 8 := by omega
  have c13 := h.b.cell (Dc.g_pv h.b.r8 v nv pv fuel)
  obtain ⟨pa, pcap, rfl⟩ := rown_slice h.p
  have hb8 : ((ps.length : Int) == 8) = false := by rw [beq_eq_false_iff_ne]; omega
  have e1 : Im.flw d ns ps ⟨17, (a : Int), b, c, (n : Int), k⟩ xs.length = (0, { d with pl := n }, ns, ps ++ [d.pl + 1]) := by show ite (ps.length = 8) _ _ = _; exact if_neg h8
  rw [e1]
  simp only [In.cs]
  clear g h
  go_enter Tryz.func43, Tryz.ntmps43
  go_wp2_with fail
  have hR0 : Rm ((w.setCell ⟨B, 2, none⟩ (.int .i64 ((d.pl : Int) + 1))).alloc (.cells #[.int .i64 17, .int .i64 (a : Int), .int .i64 b, .int .i64 c, .int .i64 (n : Int), .int .u64 (k : Int)] 66)) B { d with pl := d.pl + 1 } ns ps v nv (.slice pa ps.length pcap) xs fuel := (HR.out.set (Dc.s_pl HR.out.b.r8 v nv _ fuel (d.pl + 1)) HR.out.b.r8).below (below_one _ _)
  have hM0 : Mw (ftD B nv (.slice pa ps.length pcap)) (ftD B nv (.slice pa ps.length pcap)) w ((w.setCell ⟨B, 2, none⟩ (.int .i64 ((d.pl : Int) + 1))).alloc (.cells #[.int .i64 17, .int .i64 (a : Int), .int .i64 b, .int .i64 c, .int .i64 (n : Int), .int .u64 (k : Int)] 66)) := (mw_set w 2 _).trans (mw_below (below_one _ _))
  have x4 : ((w.setCell ⟨B, 2, none⟩ (.int .i64 ((d.pl : Int) + 1))).alloc (.cells #[.int .i64 17, .int .i64 (a : Int), .int .i64 b, .int .i64 c, .int .i64 (n : Int), .int .u64 (k : Int)] 66)).cell? ⟨w.heap.size, 4, none⟩ = some (.int .i64 (n : Int)) := cell_of_block (blk_new w B 2 _ _) rfl
  have hsz0 : w.heap.size < ((w.setCell ⟨B, 2, none⟩ (.int .i64 ((d.pl : Int) + 1))).alloc (.cells #[.int .i64 17, .int .i64 (a : Int), .int .i64 b, .int .i64 c, .int .i64 (n : Int), .int .u64 (k : Int)] 66)).heap.size := by simp
  generalize ((w.setCell ⟨B, 2, none⟩ (.int .i64 ((d.pl : Int) + 1))).alloc (.cells #[.int .i64 17, .int .i64 (a : Int), .int .i64 b, .int .i64 c, .int .i64 (n : Int), .int .u64 (k : Int)] 66)) = W0 at *
  have HR0 := hide hR0
  have HM0 := hide hM0
  have HX4 := hide x4
  have HXN : Hid (Value.ownBlock (.slice pa ps.length pcap) ≠ some w.heap.size) := fun e => by have := (HR.out.p.lt _ e).2; omega
  have c13 := hR0.b.cell (Dc.g_pv hR0.b.r8 v nv (.slice pa ps.length pcap) fuel)
  have c2 : W0.cell? ⟨B, 2, none⟩ = some (.int .i64 ((d.pl : Int) + 1)) := hR0.b.cell (Dc.g_pl hR0.b.r8 v nv (.slice pa ps.length pcap) fuel)
  have hlt0 := hR0.b.lt
  clear hR0 hM0 HR
  obtain ⟨i0, hi0, hz0, hz1, hz2⟩ := info_parts infoInt
  refine wp_region_but (S := (fun w' => w'.cell? ⟨B, 13, none⟩ = some (.slice pa ps.length pcap) ∧ w'.cell? ⟨B, 2, none⟩ = some (.int .i64 ((d.pl : Int) + 1)))) 13 (by kernel_rfl) ⟨c13, c2⟩ (fun hH => ?_)
  refine anyBut_plain (i := 0) (v := .pointer (some ⟨B, 0, none⟩)) rfl (by decide) (by kernel_rfl) (by kernel_rfl) (by kernel_rfl) (fun _ _ _ h => h) (Or.inl ⟨by kernel_rfl, fun w9 _ => by kernel_rfl⟩) hH ?_
  simp only [Act.put, List.setIfInBounds_toArray]
  refine anyBut_plain (i := 1) (v := .pointer (some ⟨B, 0, none⟩)) rfl (by decide) (by kernel_rfl) (by kernel_rfl) (by kernel_rfl) (fun _ _ _ h => h) (Or.inl ⟨by kernel_rfl, fun w9 _ => by kernel_rfl⟩) hH ?_
  try simp only [Act.put]
  refine anyBut_plain (i := 2) (v := .pointer (some ⟨B, 0, none⟩)) rfl (by decide) (by kernel_rfl) (by kernel_rfl) (by kernel_rfl) (fun _ _ _ h => h) (Or.inl ⟨by kernel_rfl, fun w9 _ => by go_simp⟩) hH ?_
  try simp only [Act.put]
  refine anyBut_plain (i := 3) (v := .pointer (some ⟨B, 13, none⟩)) rfl (by decide) (by kernel_rfl) (by kernel_rfl) (by kernel_rfl) (fun _ _ _ h => h) (Or.inl ⟨by kernel_rfl, fun w9 _ => by go_simp⟩) hH ?_
  try simp only [Act.put]
  refine anyBut_load (i := 4) (v := .slice pa ps.length pcap) rfl (by decide) (by kernel_rfl) (by kernel_rfl) (by kernel_rfl) (by kernel_rfl) (by kernel_rfl) (fun _ _ _ h => h) (Or.inl ⟨by kernel_rfl, fun w9 hS => by obtain ⟨s0, s1⟩ := hS; go_simp⟩) hH ?_
  try simp only [Act.put]
  refine anyBut_plain (i := 5) (v := .pointer (some ⟨B, 0, none⟩)) rfl (by decide) (by kernel_rfl) (by kernel_rfl) (by kernel_rfl) (fun _ _ _ h => h) (Or.inl ⟨by kernel_rfl, fun w9 _ => by kernel_rfl⟩) hH ?_
  try simp only [Act.put]
  refine anyBut_plain (i := 6) (v := .pointer (some ⟨B, 0, none⟩)) rfl (by decide) (by kernel_rfl) (by kernel_rfl) (by kernel_rfl) (fun _ _ _ h => h) (Or.inl ⟨by kernel_rfl, fun w9 _ => by go_simp⟩) hH ?_
  try simp only [Act.put]
  refine anyBut_plain (i := 7) (v := .pointer (some ⟨B, 2, none⟩)) rfl (by decide) (by kernel_rfl) (by kernel_rfl) (by kernel_rfl) (fun _ _ _ h => h) (Or.inl ⟨by kernel_rfl, fun w9 _ => by go_simp⟩) hH ?_
  try simp only [Act.put]
  refine anyBut_load (i := 8) (v := .int .i64 ((d.pl : Int) + 1)) rfl (by decide) (by kernel_rfl) (by kernel_rfl) (by kernel_rfl) (by kernel_rfl) (by kernel_rfl) (fun _ _ _ h => h) (Or.inl ⟨by kernel_rfl, fun w9 hS => by obtain ⟨s0, s1⟩ := hS; go_simp⟩) hH ?_
  try simp only [Act.put]
  refine anyBut_one (i := 9) rfl (by kernel_rfl) (fun K hK => ?_)
  go_simp
  have q1 : (W0.drew.alloc (.cells #[.int .i64 ((d.pl : Int) + 1)] 3)).cell? ⟨B, 13, none⟩ = some (.slice pa ps.length pcap) := Lib.cell?_alloc_some _ c13
  have q2 : (W0.drew.alloc (.cells #[.int .i64 ((d.pl : Int) + 1)] 3)).cell? ⟨B, 2, none⟩ = some (.int .i64 ((d.pl : Int) + 1)) := Lib.cell?_alloc_some _ c2
  refine hK.out _ _ (fun _ => ⟨q1, q2⟩) ?_
  clear hK K
  try simp only [Act.put]
  refine anyBut_one (i := 10) rfl (by kernel_rfl) (fun K hK => ?_)
  refine step_append_lies _ rfl (.tmp 84) (.tmp 89) 53 rfl (B + 1) 3 i0 (.int .i64 0) 1 8 Tryz.underlying53 hi0 hz0 hz1 hz2 rfl (by decide) (.slice pa ps.length pcap) ps.length (in64 ps) rfl (rown_grown HR0.out.p (grown_da W0 _) (fun _ _ => by simp)) ⟨W0.heap.size, 0, none⟩ 1 1 [.int .i64 ((d.pl : Int) + 1)] rfl rfl (World.news_of_block (heap_alloc_new W0.drew _)) (by simp [Value.oneCell']) (by decide) (by unfold maxLen; omega) (by omega) (by simp; omega) _ rfl ?_
  intro g9 cap9 w9 hown9 hgrow9 hat9 hlt9
  have HR9 := hide ((HR0.out.b.grown (grown_da W0 _) (by simp)).grown hgrow9 (fun e => by have := (HR0.out.p.lt B e.symm).1; omega))
  have q13 : w9.cell? ⟨B, 13, none⟩ = some (.slice pa ps.length pcap) := HR9.out.cell (Dc.g_pv HR9.out.r8 v nv _ fuel)
  have q3 : w9.cell? ⟨B, 2, none⟩ = some (.int .i64 ((d.pl : Int) + 1)) := HR9.out.cell (Dc.g_pl HR9.out.r8 v nv _ fuel)
  have qz := HR9.out.z 13
  have HOW9 := hide hown9
  have HGR9 := hide hgrow9
  have HAT9 := hide hat9
  have hlt9B := HR9.out.lt
  clear hown9 hgrow9 hat9 q1 q2
  refine hK.out _ _ (fun _ => ⟨q13, q3⟩) ?_
  clear hK K
  try simp only [Act.put]
  refine anyBut_plain (i := 11) (v := .pointer (some ⟨B, 0, none⟩)) rfl (by decide) (by kernel_rfl) (by kernel_rfl) (by kernel_rfl) (fun _ _ _ h => h) (Or.inl ⟨by kernel_rfl, fun w9 _ => by go_simp⟩) ⟨q13, q3⟩ ?_
  try simp only [Act.put]
  refine anyBut_plain (i := 12) (v := .pointer (some ⟨B, 13, none⟩)) rfl (by decide) (by kernel_rfl) (by kernel_rfl) (by kernel_rfl) (fun _ _ _ h => h) (Or.inl ⟨by kernel_rfl, fun w9 _ => by go_simp⟩) ⟨q13, q3⟩ ?_
  try simp only [Act.put]
  refine anyBut_one (i := 13) rfl (by kernel_rfl) (fun K hK => ?_)
  go_simp
  refine hK.out _ _ (fun h0 => absurd h0 (by decide)) (anyBut_done (by kernel_rfl) ?_ _)
  clear hK K hH
  have hpp := rm_pushP HR0.out (grown_da W0 _) HOW9.out rfl HGR9.out HAT9.out rfl
  have hX9 : (w9.setCell ⟨B, 13, none⟩ (.slice (some ⟨g9, 0, none⟩) (ps.length + 1) cap9)).cell? ⟨w.heap.size, 4, none⟩ = some (.int .i64 (n : Int)) := by
    refine (grown_set w9 B 13 _).cell (HGR9.out.cell ((grown_da W0 _).cell HX4.out (by simp)) (fun e => HXN.out e.symm)) (by simp; omega)
  generalize w9.setCell ⟨B, 13, none⟩ (.slice (some ⟨g9, 0, none⟩) (ps.length + 1) cap9) = w10 at *
  have HPP := hide hpp
  have z2 := hpp.1.b.z 2
  have c2 : w10.cell? ⟨B, 2, none⟩ = some (.int .i64 ((d.pl : Int) + 1)) := hpp.1.b.cell (Dc.g_pl hpp.1.b.r8 v nv _ fuel)
  have hlt10 := hpp.1.b.lt
  clear hpp
  go_wp2_with fail
  go_ret
  refine ⟨nv, _, rfl, HPP.out.1.set (Dc.s_pl (m := { d with pl := d.pl + 1 }) HPP.out.1.b.r8 v nv _ fuel n) HPP.out.1.b.r8, HM0.out.trans (HPP.out.2.trans (mw_set _ 2 _))⟩
set_option maxRecDepth 20000 in
set_option maxHeartbeats 1000000 in
theorem flows_ret {w : World} {B fuel : Nat} {d : Dc} {ns ps : List Nat} {v nv pv : Value} {xs : List In} {x : In} (h : Rm w B d ns ps v nv pv xs fuel) (hpl : d.pl < 1000000) (g : x.Good xs.length) (hop : x.op = 18) (hps : ps.length ≤ 8) (h8 : ¬ ps.length = 0) :
    Calls Tryz.prog 43 #[.pointer (some ⟨B, 0, none⟩), .agg x.cs.toArray] w (FlP w B (Im.flw d ns ps x xs.length) v nv pv xs fuel) := by
  have c2 := h.b.cell (Dc.g_pl h.b.r8 v nv pv fuel)
  have hz := h.b.z
  have hlt := h.b.lt
  have HR := hide h
  obtain ⟨op, a, b, c, n, k⟩ := x
  simp only at hop
  subst hop
  have hn0 := g.n0
  have ha0 := g.a0
  have ha1 := g.a1
  simp only at hn0 ha0 ha1
  obtain ⟨n, rfl⟩ : ∃ q : Nat, n = (q : Int) := ⟨n.toNat, by omega⟩
  obtain ⟨a, rfl⟩ : ∃ q : Nat, a = (q : Int) := ⟨a.toNat, by omega⟩
  have ha : a < 8 := by omega
  have c13 := h.b.cell (Dc.g_pv h.b.r8 v nv pv fuel)
  obtain ⟨pa, pcap, rfl⟩ := rown_slice h.p
  have hb8 : ((ps.length : Int) == 0) = false := by rw [beq_eq_false_iff_ne]; omega
  have e1 : Im.flw d ns ps ⟨18, (a : Int), b, c, (n : Int), k⟩ xs.length = (0, { d with pl := ps[ps.length - 1]! }, ns, ps.take (ps.length - 1)) := by show ite (ps.length = 0) _ _ = _; exact if_neg h8
  rw [e1]
  simp only [In.cs]
  clear g h
  go_enter Tryz.func43, Tryz.ntmps43
  go_wp2_with fail
  have hR0 : Rm ((w.setCell ⟨B, 2, none⟩ (.int .i64 ((d.pl : Int) + 1))).alloc (.cells #[.int .i64 18, .int .i64 (a : Int), .int .i64 b, .int .i64 c, .int .i64 (n : Int), .int .u64 (k : Int)] 66)) B { d with pl := d.pl + 1 } ns ps v nv (.slice pa ps.length pcap) xs fuel := (HR.out.set (Dc.s_pl HR.out.b.r8 v nv _ fuel (d.pl + 1)) HR.out.b.r8).below (below_one _ _)
  have hM0 : Mw (ftD B nv (.slice pa ps.length pcap)) (ftD B nv (.slice pa ps.length pcap)) w ((w.setCell ⟨B, 2, none⟩ (.int .i64 ((d.pl : Int) + 1))).alloc (.cells #[.int .i64 18, .int .i64 (a : Int), .int .i64 b, .int .i64 c, .int .i64 (n : Int), .int .u64 (k : Int)] 66)) := (mw_set w 2 _).trans (mw_below (below_one _ _))
  generalize ((w.setCell ⟨B, 2, none⟩ (.int .i64 ((d.pl : Int) + 1))).alloc (.cells #[.int .i64 18, .int .i64 (a : Int), .int .i64 b, .int .i64 c, .int .i64 (n : Int), .int .u64 (k : Int)] 66)) = W0 at *
  obtain ⟨m, hm⟩ : ∃ m, ps.length = m + 1 := ⟨ps.length - 1, by omega⟩
  obtain ⟨q, hq⟩ : ∃ q, ps[m]! = q := ⟨_, rfl⟩
  obtain ⟨gp, cap', hgp⟩ := own_some hR0.p (by omega)
  injection hgp with e1 e2 e3
  subst e1 e3
  have hrow := hR0.p.cells rfl m (.int .i64 (q : Int)) (by unfold in64; rw [List.getElem?_map, List.getElem?_eq_getElem (by omega), ← hq, getElem!_pos ps m (by omega)]; rfl)
  rw [addr_add, Nat.zero_add] at hrow
  have hgB := (hR0.p.lt gp rfl).1
  have c13 := hR0.b.cell (Dc.g_pv hR0.b.r8 v nv (.slice (some ⟨gp, 0, none⟩) ps.length pcap) fuel)
  have z2 := hR0.b.z 2
  have hlt0 := hR0.b.lt
  have c2' : W0.cell? ⟨B, 2, none⟩ = some (.int .i64 ((d.pl : Int) + 1)) := hR0.b.cell (Dc.g_pl hR0.b.r8 v nv _ fuel)
  have HR0 := hide hR0
  have HM0 := hide hM0
  have hpm : ps[ps.length - 1]! = q := by rw [hm, Nat.add_sub_cancel]; exact hq
  have HPM := hide hpm
  have hneg : ¬ gp = B := by omega
  have hneg2 : ¬ B = gp := by omega
  have hmb : (m : Int) + 1 ≤ 9 := by omega
  clear hR0 hM0 hpm hz c2
  rw [hm] at c13
  have hw1 : IntKind.i64.wrap (m : Int) = (m : Int) := by rw [IntKind.wrap_i64]; omega
  have hw2 : IntKind.i64.wrap ((m : Int) + 1 - 1) = (m : Int) := by rw [IntKind.wrap_i64]; omega
  have hw3 : IntKind.i64.wrap (((m + 1 : Nat) : Int) - 1) = (m : Int) := by rw [IntKind.wrap_i64]; omega
  have hi0 : (0 : Int) ≤ (m : Int) := by omega
  have hi1 : (m : Int) < (m : Int) + 1 := by omega
  have hi2 : (m : Int) < ((m + 1 : Nat) : Int) := by omega
  have hR1 : Rm (W0.setCell ⟨B, 2, none⟩ (.int .i64 (q : Int))) B { d with pl := q } ns ps v nv (.slice (some ⟨gp, 0, none⟩) ps.length pcap) xs fuel := HR0.out.set (Dc.s_pl (m := { d with pl := d.pl + 1 }) HR0.out.b.r8 v nv _ fuel q) HR0.out.b.r8
  have kc13 : (W0.setCell ⟨B, 2, none⟩ (.int .i64 (q : Int))).cell? ⟨B, 13, none⟩ = some (.slice (some ⟨gp, 0, none⟩) (m + 1) pcap) := by rw [← hm]; exact hR1.b.cell (Dc.g_pv hR1.b.r8 v nv _ fuel)
  have khr : (W0.setCell ⟨B, 2, none⟩ (.int .i64 (q : Int))).cell? ⟨gp, m, none⟩ = some (.int .i64 (q : Int)) := (grown_set W0 B 2 _).cell hrow (by simp; omega)
  have HR1 := hide hR1
  clear hR1
  have hcap : (m : Int) ≤ (pcap : Int) := by have := own_cap HR0.out.p; omega
  go_region_held3 (fun w' => w'.cell? ⟨B, 13, none⟩ = some (.slice (some ⟨gp, 0, none⟩) (m + 1) pcap) ∧ w'.cell? ⟨gp, m, none⟩ = some (.int .i64 (q : Int))) (first | exact ⟨c13, hrow⟩ | exact ⟨kc13, khr⟩ | go_keep) (fail)
  have HM1 := hide (HM0.out.trans (mw_set W0 2 (.int .i64 (q : Int))))
  generalize W0.setCell ⟨B, 2, none⟩ (.int .i64 (q : Int)) = W1 at *
  clear c13 hrow khr z2 c2' HR0 HM0
  have z13 := HR1.out.b.z 13
  have hlt1 := HR1.out.b.lt
  go_wp2_with fail
  refine wp_region_but (S := (fun w' => w'.cell? ⟨B, 13, none⟩ = some (.slice (some ⟨gp, 0, none⟩) (m + 1) pcap))) 14 (by kernel_rfl) kc13 (fun hH => ?_)
  refine anyBut_plain (i := 0) (v := .pointer (some ⟨B, 0, none⟩)) rfl (by decide) (by kernel_rfl) (by kernel_rfl) (by kernel_rfl) (fun _ _ _ h => h) (Or.inl ⟨by kernel_rfl, fun w9 _ => by kernel_rfl⟩) hH ?_
  simp only [Act.put, List.setIfInBounds_toArray]
  refine anyBut_plain (i := 1) (v := .pointer (some ⟨B, 0, none⟩)) rfl (by decide) (by kernel_rfl) (by kernel_rfl) (by kernel_rfl) (fun _ _ _ h => h) (Or.inl ⟨by kernel_rfl, fun w9 _ => by kernel_rfl⟩) hH ?_
  simp only [Act.put]
  refine anyBut_plain (i := 2) (v := .pointer (some ⟨B, 0, none⟩)) rfl (by decide) (by kernel_rfl) (by kernel_rfl) (by kernel_rfl) (fun _ _ _ h => h) (Or.inl ⟨by kernel_rfl, fun w9 _ => by go_simp⟩) hH ?_
  simp only [Act.put]
  refine anyBut_plain (i := 3) (v := .pointer (some ⟨B, 13, none⟩)) rfl (by decide) (by kernel_rfl) (by kernel_rfl) (by kernel_rfl) (fun _ _ _ h => h) (Or.inl ⟨by kernel_rfl, fun w9 _ => by go_simp⟩) hH ?_
  simp only [Act.put]
  refine anyBut_load (i := 4) (v := .slice (some ⟨gp, 0, none⟩) (m + 1) pcap) rfl (by decide) (by kernel_rfl) (by kernel_rfl) (by kernel_rfl) (by kernel_rfl) (by kernel_rfl) (fun _ _ _ h => h) (Or.inl ⟨by kernel_rfl, fun w9 hS => by go_simp⟩) hH ?_
  simp only [Act.put]
  refine anyBut_plain (i := 5) (v := .pointer (some ⟨B, 0, none⟩)) rfl (by decide) (by kernel_rfl) (by kernel_rfl) (by kernel_rfl) (fun _ _ _ h => h) (Or.inl ⟨by kernel_rfl, fun w9 _ => by kernel_rfl⟩) hH ?_
  simp only [Act.put]
  refine anyBut_plain (i := 6) (v := .pointer (some ⟨B, 0, none⟩)) rfl (by decide) (by kernel_rfl) (by kernel_rfl) (by kernel_rfl) (fun _ _ _ h => h) (Or.inl ⟨by kernel_rfl, fun w9 _ => by go_simp⟩) hH ?_
  simp only [Act.put]
  refine anyBut_plain (i := 7) (v := .pointer (some ⟨B, 13, none⟩)) rfl (by decide) (by kernel_rfl) (by kernel_rfl) (by kernel_rfl) (fun _ _ _ h => h) (Or.inl ⟨by kernel_rfl, fun w9 _ => by go_simp⟩) hH ?_
  simp only [Act.put]
  refine anyBut_load (i := 8) (v := .slice (some ⟨gp, 0, none⟩) (m + 1) pcap) rfl (by decide) (by kernel_rfl) (by kernel_rfl) (by kernel_rfl) (by kernel_rfl) (by kernel_rfl) (fun _ _ _ h => h) (Or.inl ⟨by kernel_rfl, fun w9 hS => by go_simp⟩) hH ?_
  simp only [Act.put]
  refine anyBut_one (i := 9) rfl (by kernel_rfl) (fun K hK => ?_)
  go_simp
  refine hK.out _ _ (fun _ => kc13) ?_
  clear hK K
  try simp only [Act.put]
  refine anyBut_plain (i := 10) (v := .int .i64 (m : Int)) rfl (by decide) (by kernel_rfl) (by kernel_rfl) (by kernel_rfl) (fun _ _ _ h => h) (Or.inl ⟨by kernel_rfl, fun w9 _ => by go_simp⟩) hH ?_
  simp only [Act.put]
  refine anyBut_plain (i := 11) (v := .slice (some ⟨gp, 0, none⟩) m pcap) rfl (by decide) (by kernel_rfl) (by kernel_rfl) (by kernel_rfl) (fun _ _ _ h => h) (Or.inl ⟨by kernel_rfl, fun w9 _ => by go_simp⟩) hH ?_
  simp only [Act.put]
  refine anyBut_plain (i := 12) (v := .pointer (some ⟨B, 0, none⟩)) rfl (by decide) (by kernel_rfl) (by kernel_rfl) (by kernel_rfl) (fun _ _ _ h => h) (Or.inl ⟨by kernel_rfl, fun w9 _ => by go_simp⟩) hH ?_
  simp only [Act.put]
  refine anyBut_plain (i := 13) (v := .pointer (some ⟨B, 13, none⟩)) rfl (by decide) (by kernel_rfl) (by kernel_rfl) (by kernel_rfl) (fun _ _ _ h => h) (Or.inl ⟨by kernel_rfl, fun w9 _ => by go_simp⟩) hH ?_
  simp only [Act.put]
  refine anyBut_one (i := 14) rfl (by kernel_rfl) (fun K hK => ?_)
  go_simp
  refine hK.out _ _ (fun h0 => absurd h0 (by decide)) (anyBut_done (by kernel_rfl) ?_ _)
  clear hK K hH
  have hpop := rm_popP (HR1.out.below (bd_two W1)) (by omega)
  rw [hm, Nat.add_sub_cancel] at hpop
  have HPO := hide hpop
  have HMO := hide ((HM1.out.trans (mw_below (bd_two W1))).trans (mw_set W1.drew.drew 13 (.slice (some ⟨gp, 0, none⟩) m pcap)))
  clear hpop
  go_wp2_with fail
  go_ret
  refine ⟨nv, .slice (some ⟨gp, 0, none⟩) m pcap, rfl, ?_, HMO.out⟩
  show Rm _ B { d with pl := ps[ps.length - 1]! } ns (ps.take (ps.length - 1)) v nv _ xs fuel
  rw [HPM.out, hm, Nat.add_sub_cancel]
  exact HPO.out
end Go.Proofs.YthjngodkpldpfaaGreatDoor
end
