import Derived.Test.YtjabnddjahhgoaaRcL
namespace Go.Proofs.Ytjabnddjahhgoaa
open Go.RowKit
open Rc (L V Ch)

def strs (l : List ByteArray) : List Value := l.map Value.string
theorem own_typeS {w : World} {n0 n : Nat} {v : Value} {xs : List Value} (h : w.ownsRow n0 9 1 v n xs) {X : Nat} {cs : Array Value} {ty : TypeId} (hX : w.heap[X]? = some (.cells cs ty (0, 0))) (hty : ty ≠ 9) : some X ≠ v.ownBlock := by
  rcases h.2 with ⟨rfl, _⟩ | ⟨g, cap, cur, rfl, _, hg, _⟩
  · simp [Value.ownBlock]
  · intro e
    simp only [Value.ownBlock, Option.some.injEq] at e
    subst e
    rw [hg] at hX
    simp only [Option.some.injEq, Obj.cells.injEq] at hX
    exact hty hX.2.1.symm
theorem own_stepS {w w' : World} {n0 n : Nat} {v : Value} {xs : List Value} (h : w.ownsRow n0 9 1 v n xs) (hb : ∀ X, some X = v.ownBlock → w'.heap[X]? = w.heap[X]?) : w'.ownsRow n0 9 1 v n xs := by
  refine ⟨h.1, ?_⟩
  rcases h.2 with h2 | ⟨g, cap, cur, rfl, h3, hg, h4⟩
  · exact .inl h2
  · exact .inr ⟨g, cap, cur, rfl, h3, (hb g rfl).trans hg, h4⟩
/-- the reader's state: place and change, the change among others -/
structure RdI (w0 w1 : World) (A B : Nat) (b : ByteArray) (pre post : List Value) (s : Nat × Ch) (w : World) : Prop where
  rd : Rd w B b (s.1 : Int) 0
  hp : s.1 ≤ b.size
  ch : ∃ t, w.heap[A]? = some (.cells (pre ++ (chC s.2 t).toList ++ post).toArray 29 (0, 0)) ∧ w.ownsRow w0.heap.size 9 1 t s.2.tx.length (strs s.2.tx)
  bel : Below w0.heap.size w0 w
  hA : w0.heap.size ≤ A
  hB : w0.heap.size ≤ B
  size : w1.heap.size ≤ w.heap.size
  kp : ∀ g, g < w1.heap.size → g ≠ A → g ≠ B → w.heap[g]? = w1.heap[g]?
variable {w0 w1 : World} {A B : Nat} {b : ByteArray} {pre post : List Value}
theorem RdI.ne {s : Nat × Ch} {w : World} (h : RdI w0 w1 A B b pre post s w) : A ≠ B := by
  obtain ⟨t, ht, _⟩ := h.ch
  intro e; subst e
  have := h.rd; unfold Rd at this; rw [this] at ht
  simp only [Option.some.injEq, Obj.cells.injEq] at ht
  exact absurd ht.2.1 (by decide)
theorem RdI.grown {p q : Nat} {c : Ch} {w w' : World} (h : RdI w0 w1 A B b pre post (p, c) w) (hg : w.grownBy w' (some B)) (hr : Rd w' B b (q : Int) 0) (hq : q ≤ b.size) : RdI w0 w1 A B b pre post (q, c) w' := by
  obtain ⟨t, ht, ho⟩ := h.ch
  have hBt := own_typeS ho (show w.heap[B]? = some (.cells _ 88 (0, 0)) from h.rd) (by decide)
  refine ⟨hr, hq, ⟨t, (hg.block _ (lt_of_block ht) (by simpa using h.ne)).trans ht, own_stepS ho fun X hX => hg.block _ (ho.lt X hX.symm).2 (fun e => hBt (by rw [← e]; exact hX))⟩, ?_, h.hA, h.hB, Nat.le_trans h.size hg.size, fun g h1 h2 h3 => (hg.block _ (Nat.lt_of_lt_of_le h1 h.size) (by simpa using h3)).trans (h.kp g h1 h2 h3)⟩
  exact h.bel.trans ⟨hg.os, hg.tape, hg.output, hg.size, fun k hk => hg.block _ (Nat.lt_of_lt_of_le hk h.bel.size) (by simp; have := h.hB; omega)⟩
theorem RdI.below {s : Nat × Ch} {w w' : World} (h : RdI w0 w1 A B b pre post s w) (hb : Below w.heap.size w w') : RdI w0 w1 A B b pre post s w' := by
  obtain ⟨p, c⟩ := s
  exact h.grown (grown_below hb _) (rd_below h.rd hb) h.hp
theorem RdI.drew {s : Nat × Ch} {w : World} (h : RdI w0 w1 A B b pre post s w) : RdI w0 w1 A B b pre post s w.drew := h.below (Below.refl _ _).drew
theorem mid_set (pre post m : List Value) (j : Nat) (hj : j < m.length) (u : Value) : (pre ++ m ++ post).toArray.setIfInBounds (pre.length + j) u = (pre ++ m.set j u ++ post).toArray := by
  rw [List.setIfInBounds_toArray]
  congr 1
  rw [List.append_assoc, List.set_append, if_neg (by omega), List.append_assoc]
  congr 1
  rw [show pre.length + j - pre.length = j by omega, List.set_append, if_pos hj]
theorem RdI.put {p : Nat} {c : Ch} {w : World} (h : RdI w0 w1 A B b pre post (p, c) w) (j : Nat) (hj : j < 10) (u : Value) (c' : Ch) (hc : ∀ t, (chC c t).toList.set j u = (chC c' t).toList) (ht' : c'.tx = c.tx) :
    RdI w0 w1 A B b pre post (p, c') (w.setCell ⟨A, pre.length + j, none⟩ u) := by
  obtain ⟨t, ht, ho⟩ := h.ch
  have hAt := own_typeS ho ht (by decide)
  refine ⟨(Below.heap_setCell _ _ _ _ (fun e => h.ne e.symm)).trans h.rd, h.hp, ⟨t, ?_, ?_⟩, h.bel.setCell h.hA _, h.hA, h.hB, ?_, fun g h1 h2 h3 => (Below.heap_setCell _ _ _ _ h2).trans (h.kp g h1 h2 h3)⟩
  · rw [cells_set ht, mid_set _ _ _ _ (by simpa [chC] using hj), hc]
  · rw [ht']; exact own_stepS ho fun X hX => Below.heap_setCell _ _ _ _ (fun e => hAt (by rw [show A = X from e.symm]; exact hX))
  · have := h.size; simpa using this
theorem RdI.cell {p : Nat} {c : Ch} {w : World} (h : RdI w0 w1 A B b pre post (p, c) w) (j : Nat) (hj : j < 10) : ∃ u, w.cell? ⟨A, pre.length + j, none⟩ = some u ∧ ∃ t, (chC c t)[j]? = some u := by
  obtain ⟨t, ht, ho⟩ := h.ch
  have hl : j < (chC c t).size := by simpa [chC] using hj
  refine ⟨(chC c t)[j], ?_, t, by simp [hl]⟩
  simp only [World.cell?, ht]
  simp [List.getElem?_append_left, List.getElem?_append_right, hl]
theorem RdI.z {s : Nat × Ch} {w : World} (h : RdI w0 w1 A B b pre post s w) (k : Nat) : w.frozen? ⟨A, k, none⟩ = false := by
  obtain ⟨t, ht, _⟩ := h.ch
  simp [World.frozen?, ht]
theorem RdI.ltA {s : Nat × Ch} {w : World} (h : RdI w0 w1 A B b pre post s w) : A < w.heap.size := by
  obtain ⟨t, ht, _⟩ := h.ch
  exact lt_of_block ht
/-- what is there when reading gives up -/
def RdQ (w0 : World) (w : World) : Prop := Below w0.heap.size w0 w
theorem RdI.giveG {s : Nat × Ch} {w w' : World} (h : RdI w0 w1 A B b pre post s w) (hg : w.grownBy w' (some B)) : RdQ w0 w' :=
  h.bel.trans ⟨hg.os, hg.tape, hg.output, hg.size, fun k hk => hg.block _ (Nat.lt_of_lt_of_le hk h.bel.size) (by simp; have := h.hB; omega)⟩
/-- what reading a letter comes to -/
def stR (b : ByteArray) (l : L) (s : Nat × Ch) : Option (Nat × Ch) := (Rc.rF b l s.1).map fun x => (x.2, Rc.set l x.1 s.2)
theorem runL_R (b : ByteArray) (ls : List L) : ∀ s, runL (stR b) ls s = (Rc.rFs b ls s.1 s.2).map fun x => (x.2, x.1) := by
  induction ls with
  | nil => intro s; rfl
  | cons l ls ih =>
    intro s
    simp only [runL, stR, Rc.rFs]
    cases h : Rc.rF b l s.1 with
    | none => rfl
    | some x => simp only [Option.map_some, Option.bind_some]; rw [ih]
set_option maxHeartbeats 400000 in
theorem rwhole_any {p : Nat} {c : Ch} {w : World} (h : RdI w0 w1 A B b pre post (p, c) w) (hb : b.size ≤ 140737488351232) {l : L} (hl : isW l = true) :
    Calls Try.prog 83 #[rvB B, .pointer (some ⟨A, pre.length + offL l, none⟩), .int .i64 (Rc.least l : Int), .int .i64 (Rc.most l : Int)] w (Vis (RdI w0 w1 A B b pre post) (RdQ w0) (stR b l (p, c))) := by
  have hj : offL l < 10 := by cases l <;> decide
  have hh : Rc.most l < 9223372036854775808 := by cases l <;> decide
  have h1 := h.below (below_alloc w (.cells #[.pointer (some ⟨B, 0, none⟩)] 68))
  have HN := hide (rnumber_any h1.rd h.hp hb (Rc.least l) (Rc.most l) hh)
  have hAl := h.ltA
  have hBl := lt_of_block h.rd
  have HH := hide h1
  cases hr : Rc.rN b (Rc.least l) (Rc.most l) p with
  | none =>
    have HS : Hid (stR b l (p, c) = none) := hide (by unfold stR; cases l <;> first | (cases hl; done) | simp [Rc.rF, hr])
    rw [hr] at HN
    unfold rvB at *
    clear h h1 hr
    generalize pre.length + offL l = q at *
    generalize (Rc.least l : Int) = lo at *
    generalize (Rc.most l : Int) = hi at *
    go_enter Try.func83, Try.ntmps83
    go_wp2_with fail
    refine HN.out.mono ?_
    rintro e w2 ⟨he, hg⟩
    have HQ := hide (HH.out.giveG hg)
    unfold Gives at he
    subst he
    clear HN HH hg
    go_wp2
    refine ⟨rfl, ?_⟩
    exact Vis.none HS.out rfl HQ.out
  | some y =>
    obtain ⟨N, q2⟩ := y
    have hq2 := (Rc.rN_form h.hp hr).1
    have HS : Hid (stR b l (p, c) = some (q2, Rc.set l ⟨(N : Int), 0, Rc.e0, []⟩ c)) := hide (by unfold stR; cases l <;> first | (cases hl; done) | simp [Rc.rF, hr])
    have HP : Hid (∀ W, RdI w0 w1 A B b pre post (q2, c) W → RdI w0 w1 A B b pre post (q2, Rc.set l ⟨(N : Int), 0, Rc.e0, []⟩ c) (W.setCell ⟨A, pre.length + offL l, none⟩ (.int .i64 (N : Int)))) := hide fun W hW =>
      hW.put (offL l) hj _ _ (fun t => by cases l <;> first | (cases hl; done) | rfl) (by cases l <;> first | (cases hl; done) | rfl)
    have HC : Hid (∀ W, RdI w0 w1 A B b pre post (q2, c) W → (∃ x, W.cell? ⟨A, pre.length + offL l, none⟩ = some (.int .i64 x)) ∧ W.frozen? ⟨A, pre.length + offL l, none⟩ = false) := hide fun W hW => by
      obtain ⟨u, hu, t, ht⟩ := hW.cell (offL l) hj
      refine ⟨?_, hW.z _⟩
      cases l <;> first | (cases hl; done) | (simp [chC, offL] at ht; exact ⟨_, by rw [hu, ← ht]⟩)
    rw [hr] at HN
    unfold rvB at *
    clear h h1 hr
    generalize pre.length + offL l = q at *
    generalize (Rc.least l : Int) = lo at *
    generalize (Rc.most l : Int) = hi at *
    go_enter Try.func83, Try.ntmps83
    go_wp2_with fail
    refine HN.out.mono ?_
    rintro e w2 ⟨⟨rfl, hr2⟩, hg⟩
    have h2 := HH.out.grown hg hr2 hq2
    have HF := hide (HP.out _ h2)
    obtain ⟨⟨x, hx⟩, hz⟩ := HC.out _ h2
    clear HN HH hg hr2 HP HC h2
    go_wp2
    go_end0
    exact Vis.some HS.out HF.out
end Go.Proofs.Ytjabnddjahhgoaa
