import Derived.Test.YtnbmgddkaclneaaNtT
import Derived.Test.YtnbmgddkaclneaaNtI
import Derived.Laws.EntriesVeiled
namespace Go.Proofs.Ytnbmgddkaclneaa
open Go.RowKit Go.Shelf

theorem below_ofT {w W w' : World} (h : Below w.heap.size w W) (k : Below W.heap.size W w') : Below w.heap.size w w' := h.trans ((Mv.of_below (F := fun _ => False) k).below h.size (fun _ x => x.elim))
/-- what NetGoes has sent -/
def goD (S : Nat → ByteArray) (j : Nat) : Dg := ⟨(j : Int) + 1, j, 0, 0, 0, S j⟩
def goL (S : Nat → ByteArray) (i : Nat) : List Dg := (List.range i).map (goD S)
theorem goL_len (S : Nat → ByteArray) (i : Nat) : (goL S i).length = i := by simp [goL]
theorem goL_succ (S : Nat → ByteArray) (i : Nat) : goL S (i + 1) = goL S i ++ [goD S i] := by simp [goL, List.range_succ]
theorem goL_get (S : Nat → ByteArray) (i j : Nat) (h : j < i) : (goL S i)[j]?.getD dg0 = goD S j := by simp [goL, h]

/-- a box of another type than a bag's blocks -/
theorem box_mv {base : Nat} {W W' : World} {b : Nat} {v : Value} {l : List Dg} {s : Int} {B : Nat} {t : TypeId} {u : Value} {F' : Nat → Prop} (h : Boxed W B t u) (hB : Bag 58 base W b v l s) (h1 : t ≠ 46) (h2 : t ≠ 58) (hM : Mv (Ft b v) F' W W') : Boxed W' B t u := by
  refine (hM.block B h.lt ?_).trans h
  rintro (e | e)
  · subst e
    have h3 := hB.blk
    rw [show W.heap[B]? = _ from h] at h3
    injection h3 with h3
    injection h3 with h3 h4 h5
    exact h2 h4
  · exact Boxed.not_row h h1 hB.row e.symm
theorem box_below {W W' : World} {B : Nat} {t : TypeId} {u : Value} (h : Boxed W B t u) (hb : Below W.heap.size W W') : Boxed W' B t u := (hb.block B h.lt).trans h

/-- the boxes that stand -/
structure Fix (W : World) (H : Nat) (dv : Value) (lv : Int) (sv : Value) : Prop where
  d : Boxed W H 40 dv
  l : Boxed W (H + 1) 3 (.int .i64 lv)
  s : Boxed W (H + 2) 22 sv
  r : Boxed W (H + 3) 4 (.bool false)
  n : Boxed W (H + 5) 23 (.pointer (some ⟨H + 4, 0, none⟩))
section
variable {W W' : World} {H : Nat} {dv : Value} {lv : Int} {sv : Value}
theorem Fix.below (h : Fix W H dv lv sv) (hb : Below W.heap.size W W') : Fix W' H dv lv sv := ⟨box_below h.d hb, box_below h.l hb, box_below h.s hb, box_below h.r hb, box_below h.n hb⟩
theorem Fix.alloc (h : Fix W H dv lv sv) (o : Obj) : Fix (W.alloc o) H dv lv sv := h.below ((Below.refl _ W).alloc (Nat.le_refl _) o)
theorem Fix.heap (h : Fix W H dv lv sv) (e : W'.heap = W.heap) : Fix W' H dv lv sv := by
  have hb : ∀ {B t u}, Boxed W B t u → Boxed W' B t u := fun h => by unfold Boxed; rw [e]; exact h
  exact ⟨hb h.d, hb h.l, hb h.s, hb h.r, hb h.n⟩
theorem Fix.mv {base : Nat} {b : Nat} {v : Value} {l : List Dg} {s : Int} {F' : Nat → Prop} (h : Fix W H dv lv sv) (hB : Bag 58 base W b v l s) (hM : Mv (Ft b v) F' W W') : Fix W' H dv lv sv :=
  ⟨box_mv h.d hB (by decide) (by decide) hM, box_mv h.l hB (by decide) (by decide) hM, box_mv h.s hB (by decide) (by decide) hM, box_mv h.r hB (by decide) (by decide) hM, box_mv h.n hB (by decide) (by decide) hM⟩
theorem Fix.set (h : Fix W H dv lv sv) {B : Nat} (hB : H + 5 < B) (u : Value) : Fix (W.setCell ⟨B, 0, none⟩ u) H dv lv sv :=
  ⟨h.d.other (by omega) _, h.l.other (by omega) _, h.s.other (by omega) _, h.r.other (by omega) _, h.n.other (by omega) _⟩
theorem Fix.grown (h : Fix W H dv lv sv) {row : Option Nat} (hg : W.grownBy W' row) (hr : ∀ r, row = some r → ∃ o : Obj, W.heap[r]? = some o ∧ o.isCells = false) : Fix W' H dv lv sv := by
  have hb : ∀ {B t u}, Boxed W B t u → Boxed W' B t u := fun {B t u} h => h.kept hg (fun e => by obtain ⟨o, ho, hc⟩ := hr B e.symm; rw [show W.heap[B]? = _ from h] at ho; cases ho; cases hc)
  exact ⟨hb h.d, hb h.l, hb h.s, hb h.r, hb h.n⟩
end

/-- where NetGoes stands in its range: j rounds are over; the bag -/
structure Gs (w : World) (H C : Nat) (dv : Value) (lv : Int) (sv : Value) (j : Nat) (v : Value) (l : List Dg) (s : Int) (W : World) : Prop where
  fix : Fix W H dv lv sv
  cp : Boxed W C 23 (.pointer (some ⟨H + 4, 0, none⟩))
  ov : Boxed W (C + 1) 43 (.func (.func 28) #[] #[.pointer (some ⟨C, 0, none⟩)])
  kb : Boxed W (C + 2) 3 (.int .i64 (j : Int))
  bag : Bag 58 H W (H + 4) v l s
  low : Below H w W
/-- what a round turns -/
def goF (H C : Nat) (W : World) (k : Nat) : Prop := k = C + 2 ∨ k = H + 4 ∨ ∃ v, W.cell? ⟨H + 4, 0, none⟩ = some v ∧ v.ownBlock = some k

section
variable {w W W' : World} {H C : Nat} {dv : Value} {lv : Int} {sv : Value} {j : Nat} {v : Value} {l : List Dg} {s : Int}
theorem Gs.below (h : Gs w H C dv lv sv j v l s W) (hH : H = w.heap.size) (hb : Below W.heap.size W W') : Gs w H C dv lv sv j v l s W' := by
  subst hH
  exact ⟨h.fix.below hb, box_below h.cp hb, box_below h.ov hb, box_below h.kb hb, h.bag.below hb, below_ofT h.low hb⟩
theorem Gs.drewN (h : Gs w H C dv lv sv j v l s W) (q : Nat) : Gs w H C dv lv sv j v l s (W.drewN q) := ⟨h.fix.heap rfl, h.cp, h.ov, h.kb, h.bag.keep (fun _ _ => rfl), ⟨h.low.os, h.low.tape, h.low.output, h.low.size, h.low.block⟩⟩
theorem Gs.drew (h : Gs w H C dv lv sv j v l s W) : Gs w H C dv lv sv j v l s W.drew := ⟨h.fix.heap rfl, h.cp, h.ov, h.kb, h.bag.keep (fun _ _ => rfl), h.low.drew⟩
theorem Gs.mv {v' : Value} {l' : List Dg} {s' : Int} (h : Gs w H C dv lv sv j v l s W) (hH : H ≤ W.heap.size) (hB : Bag 58 H W' (H + 4) v' l' s') (hM : Mv (Ft (H + 4) v) (Ft (H + 4) v') W W') : Gs w H C dv lv sv j v' l' s' W' :=
  ⟨h.fix.mv h.bag hM, box_mv h.cp h.bag (by decide) (by decide) hM, box_mv h.ov h.bag (by decide) (by decide) hM, box_mv h.kb h.bag (by decide) (by decide) hM, hB, h.low.trans (hM.below hH h.bag.ftlow)⟩
theorem Gs.kset (h : Gs w H C dv lv sv j v l s W) (hC : H + 5 < C) (j' : Nat) : Gs w H C dv lv sv j' v l s (W.setCell ⟨C + 2, 0, none⟩ (.int .i64 (j' : Int))) := by
  refine ⟨h.fix.set (by omega) _, h.cp.other (by omega) _, h.ov.other (by omega) _, h.kb.set _, h.bag.keep fun k hk => Below.heap_setCell W ⟨C + 2, 0, none⟩ _ k (fun e => ?_), h.low.setCell (p := ⟨C + 2, 0, none⟩) (by show H ≤ C + 2; omega) _⟩
  have e : k = C + 2 := e
  subst e
  rcases hk with e | e
  · omega
  · exact Boxed.not_row h.kb (by decide) h.bag.row e.symm
theorem Gs.other (h : Gs w H C dv lv sv j v l s W) {B : Nat} (hC : H + 5 < C) (hB : C + 2 < B) {t : TypeId} {u0 : Value} (hb : Boxed W B t u0) (ht : t ≠ 46) (u : Value) : Gs w H C dv lv sv j v l s (W.setCell ⟨B, 0, none⟩ u) := by
  refine ⟨h.fix.set (by omega) _, h.cp.other (by omega) _, h.ov.other (by omega) _, h.kb.other (by omega) _, h.bag.keep fun k hk => Below.heap_setCell W ⟨B, 0, none⟩ _ k (fun e => ?_), h.low.setCell (p := ⟨B, 0, none⟩) (by show H ≤ B; omega) _⟩
  have e : k = B := e
  subst e
  rcases hk with e | e
  · omega
  · exact Boxed.not_row hb ht h.bag.row e.symm
theorem Gs.grown (h : Gs w H C dv lv sv j v l s W) {row : Option Nat} {B : Nat} (hH : H ≤ B) (hw : H ≤ w.heap.size) (hg : W.grownBy W' row) (hr : ∀ r, row = some r → B ≤ r ∧ ∃ o : Obj, W.heap[r]? = some o ∧ o.isCells = false) : Gs w H C dv lv sv j v l s W' := by
  have hr2 : ∀ r, row = some r → ∃ o : Obj, W.heap[r]? = some o ∧ o.isCells = false := fun r e => (hr r e).2
  have hb : ∀ {B t u}, Boxed W B t u → Boxed W' B t u := fun {B t u} h => h.kept hg (fun e => by obtain ⟨o, ho, hc⟩ := hr2 B e.symm; rw [show W.heap[B]? = _ from h] at ho; cases ho; cases hc)
  refine ⟨h.fix.grown hg hr2, hb h.cp, hb h.ov, hb h.kb, h.bag.keep fun k hk => hg.block k (h.bag.ftlt k hk).2 (fun e => ?_), h.low.grown hg (Nat.le_trans hw h.low.size) (fun k e => Nat.le_trans hH (hr k e).1)⟩
  obtain ⟨o, ho, hc⟩ := hr2 k e.symm
  rcases hk with rfl | hk
  · rw [h.bag.blk] at ho; cases ho; cases hc
  · rcases h.bag.row.2 with ⟨h1, _⟩ | ⟨g, cap, cur, rfl, _, hgb, _⟩
    · rw [h1] at hk; simp [Value.ownBlock] at hk
    · simp only [Value.ownBlock] at hk; injection hk with hk; subst hk; rw [hgb] at ho; cases ho; cases hc

theorem goF_cell {A B : World} (h : B.cell? ⟨H + 4, 0, none⟩ = A.cell? ⟨H + 4, 0, none⟩) {k : Nat} (hf : goF H C B k) : goF H C A k := by
  rcases hf with e | e | ⟨v, h1, h2⟩
  · exact .inl e
  · exact .inr (.inl e)
  · exact .inr (.inr ⟨v, by rw [← h]; exact h1, h2⟩)
theorem goF_bag (h : Gs w H C dv lv sv j v l s W) {k : Nat} (hf : goF H C W k) : k = C + 2 ∨ Ft (H + 4) v k := by
  rcases hf with e | e | ⟨v', h1, h2⟩
  · exact .inl e
  · exact .inr (.inl e)
  · rw [h.bag.c0] at h1; injection h1 with h1; subst h1; exact .inr (.inr h2)
theorem goF_ft (h : Gs w H C dv lv sv j v l s W) {k : Nat} (hf : Ft (H + 4) v k) : goF H C W k := by
  rcases hf with e | e
  · exact .inr (.inl e)
  · exact .inr (.inr ⟨v, h.bag.c0, e⟩)
theorem goF_lt (h : Gs w H C dv lv sv j v l s W) {k : Nat} (hf : goF H C W k) : k < W.heap.size := by
  rcases goF_bag h hf with rfl | hf
  · exact h.kb.lt
  · exact (h.bag.ftlt k hf).2

/-- what the outer range asks of a round, so far -/
structure Rnd (H C B : Nat) (W W' : World) : Prop where
  kc : Kc (goF H C) W W'
  ko : KeepsFrom B W W'
theorem Rnd.refl (B : Nat) (W : World) : Rnd H C B W W := ⟨⟨Nat.le_refl _, fun _ _ h _ _ => h, fun _ h => .inl h⟩, KeepsFrom.refl _ _⟩
theorem Rnd.trans {B : Nat} {X Y Z : World} (h : Rnd H C B X Y) (k : Rnd H C B Y Z) : Rnd H C B X Z := ⟨h.kc.trans k.kc, h.ko.trans k.ko⟩
theorem Rnd.below {B : Nat} (hl : H + 4 < W.heap.size) (hb : Below W.heap.size W W') : Rnd H C B W W' :=
  ⟨⟨hb.size, fun k _ ho _ _ => (hb.block k (lt_of_block ho)).trans ho, fun _ hk => .inl (goF_cell (hb.cell (p := ⟨H + 4, 0, none⟩) hl) hk)⟩, (⟨hb.size, fun k _ ho _ => (hb.block k (lt_of_block ho)).trans ho⟩ : KeepsOthers W W').from _⟩
theorem Rnd.drewN (B : Nat) (W : World) (q : Nat) : Rnd H C B W (W.drewN q) := ⟨⟨Nat.le_refl _, fun _ _ h _ _ => h, fun _ h => .inl h⟩, (⟨Nat.le_refl _, fun _ _ h _ => h⟩ : KeepsOthers W (W.drewN q)).from _⟩
theorem Rnd.mv {B : Nat} {v' : Value} {l' : List Dg} {s' : Int} (h : Gs w H C dv lv sv j v l s W) (hB : Bag 58 H W' (H + 4) v' l' s') (hM : Mv (Ft (H + 4) v) (Ft (H + 4) v') W W') : Rnd H C B W W' := by
  refine ⟨⟨hM.size, fun k o ho _ hn => (hM.block k (lt_of_block ho) (fun hf => hn (goF_ft h hf))).trans ho, fun k hk => ?_⟩, (⟨hM.size, fun k o ho hc => (hM.block k (lt_of_block ho) (fun hf => ?_)).trans ho⟩ : KeepsOthers W W').from _⟩
  · rcases hk with e | e | ⟨u, h1, h2⟩
    · exact .inl (.inl e)
    · exact .inl (.inr (.inl e))
    · rw [hB.c0] at h1; injection h1 with h1; subst h1
      exact (hM.foot k (.inr h2)).elim (fun hf => .inl (goF_ft h hf)) .inr
  · rcases hf with rfl | hf
    · rw [h.bag.blk] at ho; cases ho; cases hc
    · rcases h.bag.row.2 with ⟨h1, _⟩ | ⟨g, cap, cur, rfl, _, hgb, _⟩
      · rw [h1] at hf; simp [Value.ownBlock] at hf
      · simp only [Value.ownBlock] at hf; injection hf with hf; subst hf; rw [hgb] at ho; cases ho; cases hc
theorem Rnd.kset {B : Nat} (hC : H + 4 ≠ C + 2) (u : Value) : Rnd H C B W (W.setCell ⟨C + 2, 0, none⟩ u) := by
  refine ⟨⟨(KeepsOthers.setCell W ⟨C + 2, 0, none⟩ u).size, fun k o ho _ hn => (Below.heap_setCell W ⟨C + 2, 0, none⟩ u k (fun e => hn (.inl e))).trans ho, fun k hk => .inl (goF_cell (World.cell?_setCell_far W ⟨C + 2, 0, none⟩ ⟨H + 4, 0, none⟩ u (fun e => hC (Eq.symm e))) hk)⟩, (KeepsOthers.setCell W _ _).from _⟩
/-- a store into a block that was not there when the round began -/
theorem Rnd.oset {B : Nat} {W0 : World} (h : Rnd H C B W0 W) {N : Nat} (hN : W0.heap.size ≤ N) (hl : H + 4 ≠ N) (u : Value) : Rnd H C B W0 (W.setCell ⟨N, 0, none⟩ u) := by
  refine ⟨⟨Nat.le_trans h.kc.size (KeepsOthers.setCell W ⟨N, 0, none⟩ u).size, fun k o ho hc hn => (Below.heap_setCell W ⟨N, 0, none⟩ u k (fun e => by have e : k = N := e; have := lt_of_block ho; omega)).trans (h.kc.block k o ho hc hn), fun k hk => h.kc.foot k (goF_cell (World.cell?_setCell_far W ⟨N, 0, none⟩ ⟨H + 4, 0, none⟩ u (fun e => hl (Eq.symm e))) hk)⟩, h.ko.trans ((KeepsOthers.setCell W _ _).from _)⟩
theorem Rnd.grown {B B' : Nat} {W0 : World} {row : Option Nat} (h : Rnd H C B W0 W) (hl : H + 4 < W.heap.size) (hB : W0.heap.size ≤ B') (hcl : ∃ o : Obj, W.heap[H + 4]? = some o ∧ o.isCells = true) (hg : W.grownBy W' row) (hr : ∀ r, row = some r → B' ≤ r ∧ ∃ o : Obj, W.heap[r]? = some o ∧ o.isCells = false) : Rnd H C B W0 W' := by
  have hne : some (H + 4) ≠ row := fun e => by obtain ⟨_, o, ho, hc⟩ := hr _ e.symm; obtain ⟨o', ho', hc'⟩ := hcl; rw [ho] at ho'; cases ho'; rw [hc] at hc'; cases hc'
  have hcell : W'.cell? ⟨H + 4, 0, none⟩ = W.cell? ⟨H + 4, 0, none⟩ := by
    have := hg.block (H + 4) hl hne
    simp only [World.cell?, this]
  refine ⟨⟨Nat.le_trans h.kc.size hg.size, fun k o ho hc hn => ?_, fun k hk => h.kc.foot k (goF_cell hcell hk)⟩, ⟨Nat.le_trans h.ko.size hg.size, fun k o hk ho hc => ?_⟩⟩
  · have h1 := h.kc.block k o ho hc hn
    exact (hg.block k (lt_of_block h1) (fun e => by obtain ⟨_, o', ho', hc'⟩ := hr k e.symm; rw [h1] at ho'; cases ho'; rw [hc] at hc'; cases hc')).trans h1
  · have h1 := h.ko.same k o hk ho hc
    exact (hg.block k (lt_of_block h1) (fun e => by have := (hr k e.symm).1; have := lt_of_block ho; omega)).trans h1
/-- a cut within a round -/
theorem cut_then {F : Fence} {n : Nat} {P : Program} {c : Code} {K R : Act → World → Prop} {Q : Exit → Act → World → Prop} {a : Act} {x : World} (h : c.wpIn F n P (Exit.then R Q) a x) (hr : ∀ a w, R a w → K a w) : c.wpIn F n P (Exit.then K Q) a x :=
  Code.wpIn_mono (fun e a w h => by cases e <;> first | exact hr a w h | exact h) h
theorem seq_cut {F : Fence} {n : Nat} {P : Program} {c d : Code} (R : Act → World → Prop) {Q : Exit → Act → World → Prop} {a : Act} {x : World} (h : c.wpIn F n P (Exit.then R Q) a x) (hr : ∀ a w, R a w → d.wpIn F n P Q a w) : (c.seq d).wpIn F n P Q a x :=
  wpIn_seq (cut_then h hr)
end
end Go.Proofs.Ytnbmgddkaclneaa
