import Derived.Test.YtjabnddjahhgoaaRcR
namespace Go.Proofs.Ytjabnddjahhgoaa
open Go.RowKit
open Rc (L V Ch)
variable {w0 w1 : World} {A B : Nat} {b : ByteArray} {pre post : List Value}

def kR : L → FuncId
  | .P => 81 | .T => 82 | .R => 80 | _ => 83
theorem vis_and {α : Type} {Inv : α → World → Prop} {Q : World → Prop} {P : α → Prop} {x : Option α} {e : Ending} {w : World} (h : Vis Inv Q x e w) (hx : ∀ s, x = some s → P s) : Vis (fun s w => Inv s w ∧ P s) Q x e w := by
  cases x with
  | none => exact h
  | some s => exact ⟨h.1, h.2, hx s rfl⟩
theorem stR_k {l : L} {s s' : Nat × Ch} (h : stR b l s = some s') : s'.2.k = s.2.k := by
  unfold stR at h
  rw [Option.map_eq_some_iff] at h
  obtain ⟨x, _, rfl⟩ := h
  exact Rc.k_set _ _ _
theorem readerV (hb : b.size ≤ 140737488351232) (k : Int) : Visitor A pre.length k 68 (rvB B) (rvB B) kR (fun s w => RdI w0 w1 A B b pre post s w ∧ s.2.k = k) (RdQ w0) (stR b) (fun _ _ => True) where
  kind := fun s w h => by
    obtain ⟨u, hu, t, ht⟩ := h.1.cell 0 (by decide)
    simp [chC] at ht
    rw [Nat.add_zero] at hu
    rw [hu, ← ht, h.2]
  drew := fun s w h => ⟨h.1.drew, h.2⟩
  ahead := fun l w => by cases l <;> kernel_rfl
  meth := fun l w => by cases l <;> kernel_rfl
  run := fun l args w => by cases l <;> rfl
  call := fun l s w _ h => by
    obtain ⟨p, c⟩ := s
    have hk : ∀ s', stR b l (p, c) = some s' → s'.2.k = k := fun s' hs => (stR_k hs).trans h.2
    cases l
    case P => exact (rtextL_any h.1 hb).mono fun _ _ h' => vis_and h' hk
    case T => exact (rtexts_any h.1 hb).mono fun _ _ h' => vis_and h' hk
    case R => exact (rresult_any h.1 hb).mono fun _ _ h' => vis_and h' hk
    all_goals exact (rwhole_any h.1 hb rfl).mono fun _ _ h' => vis_and h' hk
theorem rvisit_any {p : Nat} {c : Ch} {w : World} (h : RdI w0 w1 A B b pre post (p, c) w) (hb : b.size ≤ 140737488351232) (hk : 1 ≤ c.k ∧ c.k ≤ 6) :
    Calls Try.prog 22 #[.pointer (some ⟨A, pre.length, none⟩), .iface 68 (rvB B)] w fun e w' =>
      match Rc.rFs b (Rc.letters c.k) p c with | some x => e = .returned (.tuple #[]) ∧ RdI w0 w1 A B b pre post (x.2, x.1) w' | none => Gives e 83 ∧ RdQ w0 w' := by
  refine (visit_gen (readerV (w0 := w0) (w1 := w1) (A := A) (B := B) (pre := pre) (post := post) hb c.k) (p, c) w ⟨h, rfl⟩ (okAll_true _ _ _) hk).mono ?_
  intro e w' hv
  rw [runL_R] at hv
  cases hr : Rc.rFs b (Rc.letters c.k) p c with
  | none => simp only [hr, Option.map_none] at hv; exact hv
  | some x => simp only [hr, Option.map_some] at hv; exact ⟨hv.1, hv.2.1⟩
/-- changes as cells -/
def flatV (vals : List (Ch × Value)) : List Value := vals.flatMap fun x => (chC x.1 x.2).toList
def zc : List Value := (chC (Rc.zC 0) (.slice none 0 0)).toList
def zs (m : Nat) : List Value := (List.replicate m zc).flatten
theorem flatV_len (vals : List (Ch × Value)) : (flatV vals).length = vals.length * 10 := by
  induction vals with
  | nil => rfl
  | cons x l ih =>
    have : flatV (x :: l) = (chC x.1 x.2).toList ++ flatV l := by simp [flatV]
    rw [this, List.length_append, ih, List.length_cons]; simp [chC]; omega
theorem flatV_snoc (vals : List (Ch × Value)) (x : Ch × Value) : flatV (vals ++ [x]) = flatV vals ++ (chC x.1 x.2).toList := by simp [flatV]
theorem zs_succ (m : Nat) : zs (m + 1) = zc ++ zs m := by simp [zs, List.replicate_succ]
structure RwI (w0 : World) (A B X0 : Nat) (b : ByteArray) (q : Nat) (vals : List (Ch × Value)) (m : Nat) (w : World) : Prop where
  rd : Rd w B b (q : Int) 0
  hp : q ≤ b.size
  ch : w.heap[A]? = some (.cells (flatV vals ++ zs m).toArray 29 (0, 0))
  own : ∀ x ∈ vals, w.ownsRow w0.heap.size 9 1 x.2 x.1.tx.length (strs x.1.tx)
  bo : Bo w X0 B
  bel : Below w0.heap.size w0 w
  hA : w0.heap.size ≤ A
  hB : w0.heap.size ≤ B
variable {X0 : Nat}
theorem RwI.AB {q m : Nat} {vals : List (Ch × Value)} {w : World} (h : RwI w0 A B X0 b q vals m w) : A ≠ B := blk_ne h.ch h.rd (by decide)
theorem RwI.grown {q q' m : Nat} {vals : List (Ch × Value)} {w w' : World} (h : RwI w0 A B X0 b q vals m w) (hg : w.grownBy w' (some B)) (hr : Rd w' B b (q' : Int) 0) (hq : q' ≤ b.size) : RwI w0 A B X0 b q' vals m w' :=
  ⟨hr, hq, (hg.block _ (lt_of_block h.ch) (by simpa using h.AB)).trans h.ch, fun x hx => own_stepS (h.own x hx) fun X hX => hg.block _ ((h.own x hx).lt X hX.symm).2 (fun e => own_typeS (h.own x hx) (show w.heap[B]? = some (.cells _ 88 (0, 0)) from h.rd) (by decide) (by rw [← e]; exact hX)),
    h.bo.grown (blk_ne h.bo h.rd (by decide)) hg, h.bel.trans ⟨hg.os, hg.tape, hg.output, hg.size, fun k hk => hg.block _ (Nat.lt_of_lt_of_le hk h.bel.size) (by simp; have := h.hB; omega)⟩, h.hA, h.hB⟩
theorem RwI.below {q m : Nat} {vals : List (Ch × Value)} {w w' : World} (h : RwI w0 A B X0 b q vals m w) (hb : Below w.heap.size w w') : RwI w0 A B X0 b q vals m w' := h.grown (grown_below hb _) (rd_below h.rd hb) h.hp
theorem RwI.giveG {q m : Nat} {vals : List (Ch × Value)} {w w' : World} (h : RwI w0 A B X0 b q vals m w) (hg : w.grownBy w' (some B)) : RdQ w0 w' :=
  h.bel.trans ⟨hg.os, hg.tape, hg.output, hg.size, fun k hk => hg.block _ (Nat.lt_of_lt_of_le hk h.bel.size) (by simp; have := h.hB; omega)⟩
theorem RwI.start {q m : Nat} {vals : List (Ch × Value)} {w : World} (h : RwI w0 A B X0 b q vals (m + 1) w) (K : Int) : RdI w0 (w.setCell ⟨A, (flatV vals).length, none⟩ (.int .i64 K)) A B b (flatV vals) (zs m) (q, Rc.zC K) (w.setCell ⟨A, (flatV vals).length, none⟩ (.int .i64 K)) := by
  refine ⟨(Below.heap_setCell _ _ _ _ (fun e => h.AB e.symm)).trans h.rd, h.hp, ⟨.slice none 0 0, ?_, World.ownsRow_nil _ _ _ _⟩, h.bel.setCell h.hA _, h.hA, h.hB, Nat.le_refl _, fun _ _ _ _ => rfl⟩
  have hc := h.ch
  rw [zs_succ, ← List.append_assoc] at hc
  rw [cells_set hc]
  have := mid_set (flatV vals) (zs m) zc 0 (by simp [zc, chC]) (.int .i64 K)
  rw [Nat.add_zero] at this
  rw [this]; rfl
theorem RwI.next {q q' m : Nat} {vals : List (Ch × Value)} {w w' : World} {K : Int} {c : Ch} (h : RwI w0 A B X0 b q vals (m + 1) w) (h' : RdI w0 (w.setCell ⟨A, (flatV vals).length, none⟩ (.int .i64 K)) A B b (flatV vals) (zs m) (q', c) w') : ∃ t, RwI w0 A B X0 b q' (vals ++ [(c, t)]) m w' := by
  obtain ⟨t, ht, ho⟩ := h'.ch
  have hs : (w.setCell ⟨A, (flatV vals).length, none⟩ (.int .i64 K)).heap.size = w.heap.size := by simp
  refine ⟨t, h'.rd, h'.hp, by rw [flatV_snoc]; exact ht, ?_, ?_, h'.bel, h.hA, h.hB⟩
  · intro x hx
    rcases List.mem_append.mp hx with hx | hx
    · have o1 := h.own x hx
      refine own_stepS o1 fun X hX => ?_
      have n1 : X ≠ A := fun e => own_typeS o1 h.ch (by decide) (by rw [← e]; exact hX)
      have n2 : X ≠ B := fun e => own_typeS o1 (show w.heap[B]? = some (.cells _ 88 (0, 0)) from h.rd) (by decide) (by rw [← e]; exact hX)
      exact (h'.kp X (by rw [hs]; exact (o1.lt X hX.symm).2) n1 n2).trans (Below.heap_setCell _ _ _ _ n1)
    · simp only [List.mem_singleton] at hx
      subst hx; exact ho
  · have n1 : X0 ≠ A := blk_ne h.bo h.ch (by decide)
    have n2 : X0 ≠ B := blk_ne h.bo h.rd (by decide)
    exact ((h'.kp X0 (by rw [hs]; exact lt_of_block h.bo) n1 n2).trans (Below.heap_setCell _ _ _ _ n1)).trans h.bo
theorem RwI.k0 {q m : Nat} {vals : List (Ch × Value)} {w : World} (h : RwI w0 A B X0 b q vals (m + 1) w) : w.cell? ⟨A, (flatV vals).length, none⟩ = some (.int .i64 0) ∧ w.frozen? ⟨A, (flatV vals).length, none⟩ = false := by
  have hc := h.ch
  rw [zs_succ] at hc
  refine ⟨?_, by simp [World.frozen?, hc]⟩
  simp only [World.cell?, hc]
  simp [zc, chC, Rc.zC]
theorem Try.infoC : (Try.prog.info? 29).map (fun i => (i.zero, i.size, i.bytes)) = some (some (.agg (chC (Rc.zC 0) (.slice none 0 0))), 10, 104) := by kernel_rfl
end Go.Proofs.Ytjabnddjahhgoaa
