import Derived.Test.YtjpcghkdedldiaaLsDa
namespace Go.Proofs.Ytjpcghkdedldiaa
open Go.RowKit Go.Shelf

section
variable {P : Program} {ops : Array Oper} {md : Region.Mode} {n : Nat}
theorem rows_wide {row : String} {args : Array Value} {w : World} {R : Value → World → Prop} (h : Rows P row args w R) : RowsIn Fence.wide n P row args w R :=
  fun c cs _ => let ⟨v, w', r, s⟩ := h c cs; ⟨v, w', r, stepsIn_wide.2 s⟩
theorem oper_wide {Q : Exit → Act → World → Prop} {o : Oper} {a : Act} {w : World} {K K' : Act → World → Prop} (hp : plainOp o = true) (hK : ∀ a w, K a w → K' a w) (h : o.wp P a w K Q) : o.wpIn Fence.wide n P a w K' Q := by
  unfold Oper.wp at h
  unfold Oper.wpIn
  refine ⟨fun _ _ => trivial, ?_⟩
  rw [Oper.semAt_plain _ a.eval o (plainOp_ne hp)]
  generalize (execOp a.eval o).run P w = r at *
  cases r with
  | ok x w' =>
    cases x
    case value v => exact hK _ _ h
    case skip => exact hK _ _ h
    case defer d => exact hK _ _ h
    case enter f args =>
      refine ⟨(fun e => by cases e), callsIn_wide.2 (Calls.mono h ?_)⟩
      intro e w'' he
      cases e with
      | returned v => exact hK _ _ he
      | panicked c => exact he
      | outgrown => exact he
    case row row args =>
      refine ⟨(fun e => by cases e), rows_wide (fun c cs => ?_)⟩
      obtain ⟨v, w', r, s⟩ := h c cs
      exact ⟨v, w', hK _ _ r, s⟩
    all_goals exact h.elim
  | halt x w' =>
    cases x <;> first | exact h | exact h.elim
theorem any_wide {Q : Exit → Act → World → Prop} (hp : ops.toList.all plainOp = true) (hq : ¬ LetsOut Q) : ∀ (fuel : Nat) (listed : Array Bool) (a : Act) (w : World), wpAny P md ops Q fuel listed a w → wpAnyIn Fence.wide n P md ops Q fuel listed a w
  | 0, _, _, _, h => h
  | fuel + 1, _, _, _, h => ⟨h.1, fun i hi => by
    have h2 := h.2 i hi
    unfold wpOp at h2
    unfold wpOpIn
    split
    · rename_i ho
      simp only [ho] at h2
      exact any_wide hp hq fuel _ _ _ h2
    · rename_i o ho
      simp only [ho] at h2
      have hpo : plainOp o = true := List.all_eq_true.1 hp o (by have := Array.getElem?_eq_some_iff.1 ho; obtain ⟨h1, h2⟩ := this; rw [← h2]; exact Array.getElem_mem_toList h1)
      split
      · rename_i hw
        simp only [hw, if_true] at h2
        exact oper_wide hpo (fun a' w' h3 => any_wide hp hq fuel _ a' w' h3) (h2.resolve_right (fun h3 => hq h3.2))
      · rename_i hw
        simp only [hw] at h2
        exact ⟨fun _ _ => trivial, any_wide hp hq fuel _ _ _ h2⟩⟩
/-- a region that draws its order, outside a round, some cells held -/
theorem wide_held {Q : Exit → Act → World → Prop} {S : World → Prop} {id : Nat} {a : Act} {w : World} (hp : ops.toList.all plainOp = true) (hm : P.follows .mixedOrders = true) (hS : S w.drew)
    (h : S w.drew → wpAnyH P .any ops (Good Q) S ops.size (Array.replicate ops.size false) a w.drew) : (Code.region id ops true).wpIn Fence.wide n P Q a w := by
  have h1 : (Code.region id ops true).wpIn Fence.wide n P (Good Q) a w := wpIn_region_any hm (any_wide hp (good_out Q) _ _ _ _ (wpAny_of_held _ _ _ _ (h hS)))
  exact Code.wpIn_mono (fun e a w h => by obtain ⟨rfl, h⟩ := h; exact h) h1
/-- a range whose round has one variable, in a box of its own -/
theorem range_boxed {α : Type} {g : Operand} {ps : Array Tmp} {assign body : Code} {Q : Exit → Act → World → Prop} {a : Act} {w : World} {F : Fence} (slot : Nat) (ob : α → Obj) (hob : ∀ x, (ob x).isCells = true)
    (hro : F.round = none) (h1 : 1 ≤ n) {gf : Nat} {lb : Array Value} (hg : a.eval g = .func (.func gf) #[] lb) (hFg : F.fn gf) (eg : ∀ args w, (callFunc gf args).run P w = .ok (.enter gf args) w)
    {encs : α → Array Value} {Kp : World → World → Prop} {S Sp : List α → Prop} {N : Nat} {w0 : World} (hseq : SeqStopsK F (n - 1) P gf lb encs Kp S Sp N w0)
    (hKt : ∀ {A B C : World}, Kp A B → Kp B C → Kp A C) (hKb : ∀ (W : World) (l : Nat) (o o' : Obj), w.heap.size ≤ l → W.heap[l]? = some o → o.isCells = false → o.isWalk = false → Kp W (W.putObj l o')) (hb0 : Below w0.heap.size w0 w) (hps : ∀ x, (encs x).size = ps.size)
    (I : List α → World → Prop) (Ix : Code → List α → World → Prop) (hI : OwnFrom w.heap.size I) (hIx : ∀ c, OwnFrom w.heap.size (Ix c)) (h0 : I [] w)
    (hassign : ∀ (l : Nat) (pre : List α) (x : α) (W : World) (K : Act → World → Prop), I pre W → (∀ a' W', KeepsFrom w.heap.size W W' → Kp W W' → I pre W' → (∃ Bx, W'.heap[Bx]? = some (ob x) ∧ a' = { tmps := ((ps.zip (encs x)).foldl (fun t (p, v) => t.setIfInBounds p v) a.tmps).setIfInBounds slot (.pointer (some ⟨Bx, 0, none⟩)), defers := [] }) → K a' W') →
      assign.wpIn (F.inRound l) (n - 1 - 1) P (Exit.then K (fun _ _ _ => False)) { tmps := (ps.zip (encs x)).foldl (fun t (p, v) => t.setIfInBounds p v) a.tmps, defers := [] } W)
    (hbody : ∀ (l : Nat) (pre : List α) (x : α) (Bx : Nat) (W : World), I pre W → W.heap[Bx]? = some (ob x) → pre.length < N → body.wpIn (F.inRound l) (n - 1 - 1) P (ownPostG w.heap.size Kp I Ix (pre ++ [x]) W) { tmps := ((ps.zip (encs x)).foldl (fun t (p, v) => t.setIfInBounds p v) a.tmps).setIfInBounds slot (.pointer (some ⟨Bx, 0, none⟩)), defers := [] } W)
    (hdone : ∀ (D : Nat) (xs : List α) (W : World), w.heap.size ≤ D → S xs → I xs W → W.heap[D]? = some (.deferred (some [])) → Q .normal { a with defers := { target := .collected D, args := #[] } :: a.defers } W)
    (hstop : ∀ (D : Nat) (c : Code) (pre : List α) (W : World), w.heap.size ≤ D → Sp pre → Ix c pre W → W.heap[D]? = some (.deferred (some [])) → c.wpIn F n P Q { a with defers := { target := .collected D, args := #[] } :: a.defers } W) :
    (Code.rangeFunc g ps assign body).wpIn F n P Q a w := by
  refine wpIn_rangeFunc_ownH hro h1 hg hFg eg hseq hKt hKb hb0 hps I Ix hI hIx h0
    (fun x a' W => ∃ Bx, W.heap[Bx]? = some (ob x) ∧ a' = { tmps := ((ps.zip (encs x)).foldl (fun t (p, v) => t.setIfInBounds p v) a.tmps).setIfInBounds slot (.pointer (some ⟨Bx, 0, none⟩)), defers := [] })
    ?hAx hassign ?body hdone hstop
  case hAx =>
    rintro x a' _ X Y row ⟨Bx, h2, h3⟩ hg hr
    refine ⟨Bx, (hg.block Bx (lt_of_block h2) (fun e => ?_)).trans h2, h3⟩
    obtain ⟨_, o, ho, hc⟩ := hr Bx e.symm
    rw [h2] at ho
    injection ho with ho
    rw [← ho, hob] at hc
    cases hc
  case body =>
    rintro l pre x a' W _ _ hi ⟨Bx, hx, rfl⟩ hlen
    exact hbody l pre x Bx W hi hx hlen
end
theorem cell_cells {W : World} {k o : Nat} {v : Value} (h : W.cell? ⟨k, o, none⟩ = some v) : ∃ ob : Obj, W.heap[k]? = some ob ∧ ob.isCells = true := by
  obtain ⟨ob, ho, hw⟩ := not_walk_of_cell h
  refine ⟨ob, ho, ?_⟩
  unfold World.cell? at h
  simp only [ho] at h
  cases ob <;> first | rfl | (simp at h)
section
variable {w W W' W1 : World} {T : Int} {s : Sc} {m x : Nat}
/-- what has a second cell stays -/
def Wide (W W' : World) : Prop := ∀ k v, W.cell? ⟨k, 1, none⟩ = some v → W'.heap[k]? = W.heap[k]?
theorem Rs.keep1 {ad : Option Addr} {ab : Nat} {L : List Lz} (h : Rs W ad ab 0 L) (hk : Wide W W') : Rs W' ad ab 0 L := h.keep fun h0 => hk ab _ (by
  have h3 := h.c 0 h0 1 (by decide)
  exact h3)
theorem Pr.keep1 (h : Pr T W s) (hk : Wide W W') (hm : W'.heap[s.m]? = W.heap[s.m]?) : Pr T W' s := by
  obtain ⟨ad, ab, cap, hX⟩ := h.xa
  exact ⟨⟨h.ta.tb.keep (hk _ _ h.ta.tb.c1) hm, h.ta.ok, h.ta.t1, h.ta.t2⟩, ⟨ad, ab, cap, ⟨(hk _ _ hX.c1).trans hX.blk, hX.rs.keep1 hk, hX.hc, hX.ha⟩⟩⟩
theorem wide_set {B : Nat} {t : TypeId} {u v : Value} (h : Boxed W B t u) : Wide W (W.setCell ⟨B, 0, none⟩ v) := fun k q hq => Below.heap_setCell W ⟨B, 0, none⟩ _ k (fun e => by
  have e : k = B := e
  subst e
  simp [World.cell?, show W.heap[k]? = _ from h] at hq)
theorem wide_others {row : Option Nat} (hg : W.grownBy W' row) (hr : ∀ r, row = some r → ∃ o : Obj, W.heap[r]? = some o ∧ o.isCells = false) : Wide W W' := fun k q hq => by
  obtain ⟨ob, h1, h2⟩ := cell_cells hq
  refine hg.block k (lt_of_block h1) (fun e => ?_)
  obtain ⟨o, h3, h4⟩ := hr k e.symm
  rw [h1] at h3
  injection h3 with h3
  rw [h3, h4] at h2
  cases h2
theorem box_nem {B : Nat} {t : TypeId} {u : Value} (h : Boxed W B t u) (hm : ∃ es c, W.heap[m]? = some (.map es c)) : B ≠ m := fun e => by
  obtain ⟨es, c, h1⟩ := hm
  subst e
  rw [show W.heap[B]? = _ from h] at h1
  cases h1
theorem box_nex {B : Nat} {t : TypeId} {u : Value} (h : Boxed W B t u) (hx : ∃ v, W.cell? ⟨x, 1, none⟩ = some v) : B ≠ x := fun e => by
  obtain ⟨v, h1⟩ := hx
  subst e
  simp [World.cell?, show W.heap[B]? = _ from h] at h1
theorem Pr.mm (h : Pr T W s) : ∃ es c, W.heap[s.m]? = some (.map es c) := h.ta.tb.map.block
theorem Pr.x1 (h : Pr T W s) : ∃ v, W.cell? ⟨s.x, 1, none⟩ = some v := by obtain ⟨ad, ab, cap, hX⟩ := h.xa; exact ⟨_, hX.c1⟩
theorem box_two {B : Nat} {t : TypeId} {u : Value} (h : Boxed W B t u) (hp : Pr T W s) (h2 : Two s.m s.x W W') : Boxed W' B t u := (h2.block B h.lt (box_nem h hp.mm) (box_nex h hp.x1)).trans h
theorem Rs.two {ad : Option Addr} {ab : Nat} {L : List Lz} (h : Rs W ad ab 0 L) (hp : Pr T W s) (h2 : Two s.m s.x W W') : Rs W' ad ab 0 L := h.keep fun h0 => by
  obtain ⟨a, n, c, hx⟩ := hp.xa.blk
  obtain ⟨es, cl, hm⟩ := hp.mm
  obtain ⟨ob, h1, h3⟩ := cell_cells (h.c 0 h0 0 (by decide))
  refine h2.block ab (h.lt h0) (fun e => ?_) (rs_ne h h0 hx)
  rw [e, hm] at h1
  injection h1 with h1
  rw [← h1] at h3
  cases h3
theorem lease_two {B : Nat} {y : Lz} (h : W.heap[B]? = some y.obj) (hp : Pr T W s) (h2 : Two s.m s.x W W') : W'.heap[B]? = some y.obj := by
  obtain ⟨a, n, c, hx⟩ := hp.xa.blk
  obtain ⟨es, cl, hm⟩ := hp.mm
  refine (h2.block B (lt_of_block h) (fun e => ?_) (fun e => ?_)).trans h
  · rw [e, hm] at h; cases h
  · rw [e, hx] at h
    injection h with h
    injection h with _ h4
    exact absurd h4 (by decide)
/-- the state of LeaseTells -/
structure Te (w : World) (P Q b m x : Nat) (st : Int) (L : List Lz) (W : World) : Prop where
  bs : Boxed W w.heap.size 3 (.int .i64 st)
  br : Boxed W (w.heap.size + 1) 4 (.bool false)
  bt : Boxed W P 23 (.pointer (some ⟨b, 0, none⟩))
  bx : Boxed W Q 27 (.pointer (some ⟨x, 0, none⟩))
  pr : Pr 3 W ⟨b, m, x, L⟩
  low : Below w.heap.size w W
  lo : w.heap.size ≤ m ∧ w.heap.size ≤ x
variable {P Q b : Nat} {st : Int} {L L' : List Lz}
theorem box_below {B : Nat} {t : TypeId} {u : Value} (h : Boxed W B t u) (hb : Below W.heap.size W W') : Boxed W' B t u := (hb.block B h.lt).trans h
theorem Te.below (h : Te w P Q b m x st L W) (hb : Below W.heap.size W W') : Te w P Q b m x st L W' := ⟨box_below h.bs hb, box_below h.br hb, box_below h.bt hb, box_below h.bx hb, h.pr.below hb, below_of h.low hb, h.lo⟩
theorem Te.two (h : Te w P Q b m x st L W) (hp : Pr 3 W' ⟨b, m, x, L'⟩) (h2 : Two m x W W') : Te w P Q b m x st L' W' := ⟨box_two h.bs h.pr h2, box_two h.br h.pr h2, box_two h.bt h.pr h2, box_two h.bx h.pr h2, hp, h.low.trans (h2.below h.low.size h.lo.1 h.lo.2), h.lo⟩
theorem Te.others {row : Option Nat} (h : Te w P Q b m x st L W) (hg : W.grownBy W' row) (hr : ∀ q, row = some q → (w.heap.size ≤ q ∧ m < q) ∧ ∃ o : Obj, W.heap[q]? = some o ∧ o.isCells = false) : Te w P Q b m x st L W' := by
  have hr2 : ∀ q, row = some q → ∃ o : Obj, W.heap[q]? = some o ∧ o.isCells = false := fun q e => (hr q e).2
  exact ⟨box_others h.bs hg hr2, box_others h.br hg hr2, box_others h.bt hg hr2, box_others h.bx hg hr2, h.pr.keep1 (wide_others hg hr2) (hg.block m h.pr.ta.tb.map.lt (fun e => by have := (hr m e.symm).1.2; omega)), h.low.grown hg h.low.size (fun k e => (hr k e).1.1), h.lo⟩
theorem Te.set {B : Nat} {t : TypeId} {u v : Value} (h : Te w P Q b m x st L W) (hB : Boxed W B t u) (h1 : w.heap.size + 1 < B) (h2 : P ≠ B) (h3 : Q ≠ B) : Te w P Q b m x st L (W.setCell ⟨B, 0, none⟩ v) :=
  ⟨h.bs.other (by omega) _, h.br.other (by omega) _, h.bt.other h2 _, h.bx.other h3 _, h.pr.keep1 (wide_set hB) (Below.heap_setCell W ⟨B, 0, none⟩ _ m (fun e => box_nem hB h.pr.mm e.symm)), h.low.setCell (p := ⟨B, 0, none⟩) (by show w.heap.size ≤ B; omega) _, h.lo⟩
/-- a call's first half: the table has turned, the document's not yet -/
theorem Te.mid (h : Te w P Q b m x st L W) (hg : W.grownBy W1 (some m)) : W1.cell? ⟨Q, 0, none⟩ = some (.pointer (some ⟨x, 0, none⟩)) ∧ Xa W1 x 3 L := ⟨(h.bx.kept hg (fun e => box_nem h.bx h.pr.mm (by injection e))).cell, h.pr.xa.map h.pr.mm hg⟩
theorem lease_mid {B : Nat} {y : Lz} (h : W.heap[B]? = some y.obj) (hm : ∃ es c, W.heap[m]? = some (.map es c)) (hg : W.grownBy W1 (some m)) : W1.heap[B]? = some y.obj := (hg.block B (lt_of_block h) (fun e => by
  obtain ⟨es, c, h1⟩ := hm
  injection e with e
  rw [e, h1] at h
  cases h)).trans h
theorem kl_two {S : Nat → Prop} {B : Nat} {t : TypeId} {u : Value} (hp : Pr T W s) (hS : S s.x) (hB : Boxed W B t u) (h2 : Two s.m s.x W W') : Kl S B W W' := by
  refine ⟨h2.size, fun k o hk ho _ hn => ?_, fun k hk => .inl (OB.cell ?_ hk)⟩
  · refine (h2.block k (lt_of_block hk) (fun e => ?_) (fun e => hn (.inl (e ▸ hS)))).trans hk
    obtain ⟨es, c, h1⟩ := hp.mm
    rw [e, h1] at hk
    cases hk
    cases ho
  · rw [(box_two hB hp h2).cell, hB.cell]
theorem kl_set {S : Nat → Prop} {B : Nat} {t : TypeId} {u : Value} {k : Int} (hS : S B) (hB : Boxed W B t u) : Kl S B W (W.setCell ⟨B, 0, none⟩ (.int .i64 k)) := by
  refine ⟨by simp, fun j o hk ho _ hn => (Below.heap_setCell W ⟨B, 0, none⟩ _ j (fun e => hn (.inl (by have e : j = B := e; rw [e]; exact hS)))).trans hk, fun j hk => ?_⟩
  rcases hk with hk | ⟨v, h1, h2⟩
  · exact .inl (.inl hk)
  · rw [(hB.set (.int .i64 k)).cell] at h1
    cases h1
    cases h2
theorem keeps_two {N : Nat} (hp : Pr T W s) (hm : s.m < N) (h2 : Two s.m s.x W W') : KeepsFrom N W W' := by
  refine ⟨h2.size, fun k o hk h1 hc => (h2.block k (lt_of_block h1) (by omega) (fun e => ?_)).trans h1⟩
  obtain ⟨a, n, c, hx⟩ := hp.xa.blk
  rw [e, hx] at h1
  cases h1
  cases hc
end
end Go.Proofs.Ytjpcghkdedldiaa
