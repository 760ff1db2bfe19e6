import Derived.Test.YtkfnedhllfdghaaGreatDoorMgAT
import Derived.Deep.RegionHeld3
import Derived.Laws.EntriesVeiled
import Derived.Deep.QuietTactic
import Derived.BigQuiet

section
namespace Go.Proofs.YtkfnedhllfdghaaGreatDoor
set_option maxRecDepth 20000
open Go.RowKit Go.Shelf

/-! A region whose last operation L writes what others read: a condition on the world is asked behind each operation till L has come up. -/
section
variable {P : Program} {ops : Array Oper} {Q : Exit → Act → World → Prop} {md : Region.Mode} {S T : World → Prop} {L : Nat}
def anyBut (P : Program) (md : Region.Mode) (ops : Array Oper) (Q : Exit → Act → World → Prop) (S : World → Prop) (L : Nat) : Nat → Array Bool → Act → World → Prop
  | 0, done, a, w => Region.ready md ops done = [] ∧ Q .normal a w
  | n + 1, done, a, w => (Region.ready md ops done = [] → Q .normal a w) ∧ ∀ i ∈ Region.ready md ops done, wpOp P ops Q i (fun a' w' => ((done.setIfInBounds i true).getD L true = false → S w') ∧ anyBut P md ops Q S L n (done.setIfInBounds i true) a' w') a w
theorem anyBut.any : ∀ (n : Nat) (done : Array Bool) (a : Act) (w : World), anyBut P md ops Q S L n done a w → wpAny P md ops Q n done a w
  | 0, _, _, _, h => h
  | n + 1, _, _, _, h => ⟨h.1, fun i hi => wpOp_mono (fun a' w' k => anyBut.any n _ a' w' k.2) (h.2 i hi)⟩
/-- L waits for i -/
def waitsFor (md : Region.Mode) (ops : Array Oper) (L i : Nat) : Bool := match ops[L]? with
  | some o => o.after.any fun e => Region.binds md e && e.on == i
  | none => false
theorem anyBut.first {i : Nat} {oi : Oper} {v : Value} (hi : ops[i]? = some oi) (hiL : L ≠ i) (hsel : ∀ (j : Nat) (o : Oper) cs b, ops[j]? = some o → o.op ≠ .select cs b)
    (hQ : ∀ c a w, Q (.panic c) (a.put oi.dst v) w → Q (.panic c) a w) (hw : (waitsFor md ops L i = true ∧ ∀ w, S w → T w) ∨ ∀ w, T w) :
    ∀ (n : Nat) (done : Array Bool) (a : Act) (w : World),
      (∀ j oj, ops[j]? = some oj → j ≠ i → done.getD j true = false → (∀ e ∈ oj.after, Region.binds md e = true → e.on ≠ i) → oi.apart ops oj = true) →
      i ∈ Region.ready md ops done → YieldsIf P ops T oi v a → (done.getD L true = false → S w) → ((∀ w, T w) ∨ done.getD L true = false) →
      anyBut P md ops Q S L n (done.setIfInBounds i true) (a.put oi.dst v) w → anyBut P md ops Q S L (n + 1) done a w := by
  intro n
  have unmet : ∀ {done : Array Bool}, i ∈ Region.ready md ops done → ¬ done.getD i false = true := fun {done} hr h1 => by
    have h0 := (mem_ready.1 hr).1
    rcases Nat.lt_or_ge i done.size with h' | h'
    · simp [h'] at h0 h1; rw [h0] at h1; cases h1
    · simp [Array.getElem?_eq_none h'] at h1
  have notL : waitsFor md ops L i = true → ∀ {done : Array Bool} {j : Nat}, i ∈ Region.ready md ops done → j ∈ Region.ready md ops done → j ≠ L := fun hw {_ _} hr hj e => by
    subst e
    obtain ⟨_, o, ho, hall⟩ := mem_ready.1 hj
    unfold waitsFor at hw
    rw [ho] at hw
    obtain ⟨k, hk, h1⟩ := Array.any_eq_true'.1 hw
    simp only [Bool.and_eq_true, beq_iff_eq] at h1
    have := hall k hk h1.1
    rw [h1.2] at this
    exact unmet hr this
  have same : ∀ (done : Array Bool) (d : Bool), (done.setIfInBounds i true).getD L d = done.getD L d := fun done d => getD_set_ne d (Ne.symm hiL)
  have hTw : ∀ {done : Array Bool} {w : World}, (done.getD L true = false → S w) → ((∀ w, T w) ∨ done.getD L true = false) → T w := fun hS hd => by
    rcases hw with ⟨_, h1⟩ | h1
    · rcases hd with h2 | h2
      · exact h2 _
      · exact h1 _ (hS h2)
    · exact h1 _
  induction n with
  | zero =>
    intro done a w _ hr hy hS hd H
    refine ⟨fun h => (by rw [h] at hr; cases hr), fun j hj => ?_⟩
    by_cases hji : j = i
    · subst hji; exact hy.wpOp hi (hTw hS hd) ⟨fun h => hS (by rw [← same]; exact h), H⟩
    · have := ready_mono hj hji
      rw [H.1] at this
      cases this
  | succ n ih =>
    intro done a w hfree hr hy hS hd H
    refine ⟨fun h => (by rw [h] at hr; cases hr), fun j hj => ?_⟩
    by_cases hji : j = i
    · subst hji; exact hy.wpOp hi (hTw hS hd) ⟨fun h => hS (by rw [← same]; exact h), H⟩
    · obtain ⟨hjun, oj, hoj, hall⟩ := mem_ready.1 hj
      have hnot : ∀ e ∈ oj.after, Region.binds md e = true → e.on ≠ i := fun e he hb heq => unmet hr (heq ▸ hall e he hb)
      have h2 := wpOp_putIf hoj (hfree j oj hoj hji hjun hnot) (fun cs b => hsel i oi cs b hi) (fun cs b => hsel j oj cs b hoj) hQ hy (H.2 j (ready_mono hj hji))
      have hS' : ∀ {w'}, (((done.setIfInBounds i true).setIfInBounds j true).getD L true = false → S w') → (done.setIfInBounds j true).getD L true = false → S w' := fun h1 h2 => h1 (by rw [Array.setIfInBounds_comm _ _ (Ne.symm hji), same]; exact h2)
      refine wpOp_mono (fun a' w' h3 => ⟨hS' h3.2.1, ih (done.setIfInBounds j true) a' w' (fun k ok hk hki hun hno => hfree k ok hk hki ?_ hno) (ready_mono hr (Ne.symm hji)) h3.1 (hS' h3.2.1) ?_ ?_⟩) h2
      · by_cases hjk : j = k
        · subst hjk; exact hjun
        · rw [getD_set_ne true hjk] at hun; exact hun
      · rcases hd with hd | hd
        · exact .inl hd
        · rcases hw with ⟨h1, _⟩ | h1
          · exact .inr (by rw [getD_set_ne true (notL h1 hr hj)]; exact hd)
          · exact .inl h1
      · rw [Array.setIfInBounds_comm _ _ hji]; exact h3.2.2
/-- a load that L waits for -/
theorem anyBut_load {i : Nat} {oi : Oper} {v : Value} {n : Nat} {done : Array Bool} {a : Act} {w : World} (hi : ops[i]? = some oi) (hiL : L ≠ i)
    (hs : Region.noSelect ops = true) (hf : Region.free md ops done i = true) (hr : (Region.ready md ops done).contains i = true) (hw : waitsFor md ops L i = true) (hd : done.getD L true = false)
    (hQ : ∀ c a w, Q (.panic c) (a.put oi.dst v) w → Q (.panic c) a w) (hy : YieldsIf P ops S oi v a) (hS : S w)
    (h : anyBut P md ops Q S L n (done.setIfInBounds i true) (a.put oi.dst v) w) : anyBut P md ops Q S L (n + 1) done a w :=
  anyBut.first hi hiL (Region.noSelect_spec hs) hQ (.inl ⟨hw, fun _ k => k⟩) n done a w (Region.free_spec hi hf) (by simpa using hr) hy (fun _ => hS) (.inr hd) h
/-- what does not hang on the world -/
theorem anyBut_plain {i : Nat} {oi : Oper} {v : Value} {n : Nat} {done : Array Bool} {a : Act} {w : World} (hi : ops[i]? = some oi) (hiL : L ≠ i)
    (hs : Region.noSelect ops = true) (hf : Region.free md ops done i = true) (hr : (Region.ready md ops done).contains i = true)
    (hQ : ∀ c a w, Q (.panic c) (a.put oi.dst v) w → Q (.panic c) a w) (hy : YieldsIf P ops (fun _ => True) oi v a) (hS : S w)
    (h : anyBut P md ops Q S L n (done.setIfInBounds i true) (a.put oi.dst v) w) : anyBut P md ops Q S L (n + 1) done a w :=
  anyBut.first (T := fun _ => True) hi hiL (Region.noSelect_spec hs) hQ (.inr fun _ => trivial) n done a w (Region.free_spec hi hf) (by simpa using hr) hy (fun _ => hS) (.inl fun _ => trivial) h
/-- one alone comes up -/
theorem anyBut_one {i : Nat} {o : Oper} {n : Nat} {done : Array Bool} {a : Act} {w : World} (ho : ops[i]? = some o) (hr : Region.ready md ops done = [i])
    (h : ∀ K' : Act → World → Prop, Shut (∀ a w, ((done.setIfInBounds i true).getD L true = false → S w) → anyBut P md ops Q S L n (done.setIfInBounds i true) a w → K' a w) → if Region.wanted o (yielded ops a.tmps) = true then Oper.wp P o a w K' Q else K' (a.put o.dst undef) w) :
    anyBut P md ops Q S L (n + 1) done a w :=
  ⟨fun h0 => (by rw [hr] at h0; cases h0), fun j hj => by
    rw [hr] at hj
    obtain rfl : j = i := by simpa using hj
    exact wpOp_step ho (fun K' hK => h K' (fun a w hS hW => hK a w ⟨hS, hW⟩))⟩
theorem anyBut_done {done : Array Bool} {a : Act} {w : World} (hr : Region.ready md ops done = []) (h : Q .normal a w) : ∀ n, anyBut P md ops Q S L n done a w
  | 0 => ⟨hr, h⟩
  | _ + 1 => ⟨fun _ => h, by rw [hr]; simp⟩
theorem wp_region_but (L : Nat) {id : Nat} {a : Act} {w : World} (hm : P.follows .mixedOrders = true) (hS : S w.drew)
    (h : S w.drew → anyBut P .any ops Q S L ops.size (Array.replicate ops.size false) a w.drew) : (Code.region id ops true).wp P Q a w :=
  wp_region_any hm (anyBut.any _ _ _ _ (h hS))
end
end Go.Proofs.YtkfnedhllfdghaaGreatDoor
end

section
namespace Go.Proofs.YtkfnedhllfdghaaGreatDoor
set_option maxRecDepth 20000
open Go.RowKit Go.Shelf

/-- what is told by nothing -/
abbrev noAct : Value := .agg #[.int .i64 0, .string ⟨#[]⟩]
/-- the table at an op -/
def MeanAt (op : Int) (t0 t1 t2 : Value) : Prop := ∀ W : World, (Instr.index 264 (.agg meansC) (.int .i64 op)).run Tryz.prog W = .ok (.agg #[t0, t1, t2]) W
theorem i_grown_trans {a b c : World} {r : Option Nat} (h : a.grownBy b r) (k : b.grownBy c r) : a.grownBy c r :=
  ⟨k.os.trans h.os, k.tape.trans h.tape, k.output.trans h.output, Nat.le_trans h.size k.size, fun i hi hn => (k.block i (Nat.lt_of_lt_of_le hi h.size) hn).trans (h.block i hi hn)⟩
theorem i_grown_set (w : World) (B k : Nat) (u : Value) : w.grownBy (w.setCell ⟨B, k, none⟩ u) (some B) :=
  ⟨rfl, rfl, rfl, by show _ ≤ (w.heap.modify B _).size; simp, fun i _ hi => Below.heap_setCell w ⟨B, k, none⟩ u i (fun e => hi (by rw [e]))⟩
theorem i_grown_below {w w' : World} (h : Below w.heap.size w w') (r : Option Nat) : w.grownBy w' r := ⟨h.os, h.tape, h.output, h.size, fun i hi _ => h.block i hi⟩
theorem i_grown_one (w : World) (o : Obj) (r : Option Nat) : w.grownBy (w.alloc o) r := i_grown_below (below_one w o) r
theorem three_new {W w1 : World} {T X : Nat} {k : Nat} (hb : Below k (W.alloc (.cells #[.nilFunc, .nilFunc, .nilFunc] T)) w1) (hX : W.heap.size = X) (hk : X < k) :
    (w1.cell? ⟨X, 0, none⟩ = some .nilFunc ∧ w1.cell? ⟨X, 1, none⟩ = some .nilFunc ∧ w1.cell? ⟨X, 2, none⟩ = some .nilFunc) ∧ ∀ i, w1.frozen? ⟨X, i, none⟩ = false := by
  subst hX
  have h := (hb.block _ hk).trans (heap_alloc_new W _)
  exact ⟨⟨by simp [World.cell?, h], by simp [World.cell?, h], by simp [World.cell?, h]⟩, fun i => by simp [World.frozen?, h]⟩
theorem below_undrew {k : Nat} {W w' : World} (h : Below k W.drew w') : Below k W w' := ⟨h.os, h.tape, h.output, h.size, h.block⟩
theorem neq_nil2 (W : World) : (binOp .neq 134 .nilFunc .nilFunc).run Tryz.prog W = .ok (.bool false) W := by kernel_rfl
theorem neq_nil3 (W : World) : (binOp .neq 241 .nilFunc .nilFunc).run Tryz.prog W = .ok (.bool false) W := by kernel_rfl
theorem neq_fun2 (C : FuncId) (W : World) : (binOp .neq 134 (.func (.func C) #[] #[]) .nilFunc).run Tryz.prog W = .ok (.bool true) W := by kernel_rfl
theorem neq_fun3 (C : FuncId) (W : World) : (binOp .neq 241 (.func (.func C) #[] #[]) .nilFunc).run Tryz.prog W = .ok (.bool true) W := by kernel_rfl
/-- the world with the instruction and the answer's cells -/
abbrev W2 (w : World) (op : Int) (a b c : Nat) (n : Int) (k : Nat) : World := (w.alloc (.cells #[.int .i64 op, .int .i64 (a : Int), .int .i64 (b : Int), .int .i64 (c : Int), .int .i64 n, .int .u64 (k : Int)] 189)).alloc (.cells #[.int .i64 0, .string ⟨#[]⟩] 207)
/-- behind the look into the table -/
structure DoW (w w3 : World) (X B : Nat) (m : Mc) (v : Value) (fuel : Nat) (op : Int) (a b c : Nat) (n : Int) (k : Nat) (t0 t1 t2 : Value) : Prop where
  x0 : w3.cell? ⟨X, 0, none⟩ = some t0
  x1 : w3.cell? ⟨X, 1, none⟩ = some t1
  x2 : w3.cell? ⟨X, 2, none⟩ = some t2
  i0 : w3.cell? ⟨w.heap.size, 0, none⟩ = some (.int .i64 op)
  i1 : w3.cell? ⟨w.heap.size, 1, none⟩ = some (.int .i64 (a : Int))
  i2 : w3.cell? ⟨w.heap.size, 2, none⟩ = some (.int .i64 (b : Int))
  i3 : w3.cell? ⟨w.heap.size, 3, none⟩ = some (.int .i64 (c : Int))
  i4 : w3.cell? ⟨w.heap.size, 4, none⟩ = some (.int .i64 n)
  i5 : w3.cell? ⟨w.heap.size, 5, none⟩ = some (.int .u64 (k : Int))
  rz : w3.heap[w.heap.size + 1]? = some (.cells #[.int .i64 0, .string ⟨#[]⟩] 207 (0, 0))
  mb : Mb w3 B m v fuel
  gr : Below w.heap.size w w3
  sz : w.heap.size + 2 ≤ w3.heap.size
  xl : w.heap.size + 2 ≤ X
theorem doW_of {w w3 : World} {X B fuel k a b c : Nat} {m : Mc} {v t0 t1 t2 : Value} {op n : Int} (h : Mb w B m v fuel) (hb : Below (w.heap.size + 2) (W2 w op a b c n k) w3) (hX : w.heap.size + 2 ≤ X)
    (x0 : w3.cell? ⟨X, 0, none⟩ = some t0) (x1 : w3.cell? ⟨X, 1, none⟩ = some t1) (x2 : w3.cell? ⟨X, 2, none⟩ = some t2) : DoW w w3 X B m v fuel op a b c n k t0 t1 t2 := by
  have b1 : w3.heap[w.heap.size]? = some (.cells #[.int .i64 op, .int .i64 (a : Int), .int .i64 (b : Int), .int .i64 (c : Int), .int .i64 n, .int .u64 (k : Int)] 189 (0, 0)) :=
    (hb.block _ (by omega)).trans ((heap_alloc_old _ _ (by simp)).trans (heap_alloc_new w _))
  have b2 : w3.heap[w.heap.size + 1]? = some (.cells #[.int .i64 0, .string ⟨#[]⟩] 207 (0, 0)) :=
    (hb.block _ (by omega)).trans (by have q := heap_alloc_new (w.alloc (.cells #[.int .i64 op, .int .i64 (a : Int), .int .i64 (b : Int), .int .i64 (c : Int), .int .i64 n, .int .u64 (k : Int)] 189)) (.cells #[.int .i64 0, .string ⟨#[]⟩] 207); rw [World.size_alloc] at q; exact q)
  have g2 : Below w.heap.size w w3 := ((below_one w _).trans ((below_one _ _).mono (by simp))).trans (hb.mono (by omega))
  have hs : w.heap.size + 2 ≤ w3.heap.size := Nat.le_trans (by simp [W2]) hb.size
  exact ⟨x0, x1, x2, by simp [World.cell?, b1], by simp [World.cell?, b1], by simp [World.cell?, b1], by simp [World.cell?, b1], by simp [World.cell?, b1], by simp [World.cell?, b1], b2, h.below g2 h.lt, g2, hs, hX⟩
/-- behind what an instruction did: the machine, the answer's cells, what else is as it was -/
structure DoE (w w5 : World) (B : Nat) (m : Mc) (v : Value) (fuel : Nat) : Prop where
  rz : w5.heap[w.heap.size + 1]? = some (.cells #[.int .i64 0, .string ⟨#[]⟩] 207 (0, 0))
  mb : Mb w5 B m v fuel
  gr : w.grownBy w5 (some B)
theorem DoE.act {w w5 : World} {B fuel : Nat} {m : Mc} {v : Value} (h : DoE w w5 B m v fuel) : w5.cell? ⟨w.heap.size + 1, 0, none⟩ = some (.int .i64 0) ∧ w5.cell? ⟨w.heap.size + 1, 1, none⟩ = some (.string ⟨#[]⟩) ∧ ∀ i, w5.frozen? ⟨w.heap.size + 1, i, none⟩ = false :=
  ⟨by simp [World.cell?, h.rz], by simp [World.cell?, h.rz], fun i => by simp [World.frozen?, h.rz]⟩
theorem DoW.set {w w3 : World} {X B fuel k a b c : Nat} {m m' : Mc} {v t0 t1 t2 : Value} {op n : Int} (h : DoW w w3 X B m v fuel op a b c n k t0 t1 t2) (q : Nat) (hB : B < w.heap.size) {i : Nat} {u : Value}
    (he : (m.vs v fuel).set i u = m'.vs v fuel) (l8 : m'.L8) : DoE w ((w3.drewN q).setCell ⟨B, i, none⟩ u) B m' v fuel :=
  have g1 : w.grownBy (w3.drewN q) (some B) := ⟨h.gr.os, h.gr.tape, h.gr.output, h.gr.size, fun i hi _ => h.gr.block i hi⟩
  ⟨(Below.heap_setCell (w3.drewN q) ⟨B, i, none⟩ u _ (by show w.heap.size + 1 ≠ B; omega)).trans h.rz, Mb.set (w := w3.drewN q) ⟨h.mb.blk, h.mb.l8⟩ he l8, i_grown_trans g1 (i_grown_set _ _ _ _)⟩
theorem Mc.L8.setR {m : Mc} (h : m.L8) (i x : Nat) : ({ m with R := m.R.set i x } : Mc).L8 := ⟨by simp [h.R], h.S, h.P⟩
theorem three_end {w w3 : World} {X B fuel k a b c : Nat} {m : Mc} {v t0 t1 t2 : Value} {op n : Int} {r : Nat} (h : DoW w w3 X B m v fuel op a b c n k t0 t1 t2) (q : Nat) (ha : a < 8) (hB : B < w.heap.size) : DoE w ((w3.drewN (1 + q)).setCell ⟨B, 3 + a, none⟩ (.int .u64 (r : Int))) B { m with R := m.R.set a r } v fuel :=
  h.set _ hB (h.mb.l8.gRs v fuel a r ha) (h.mb.l8.setR _ _)
theorem two_set {w5 : World} {Y T : Nat} {k0 t0 : Value} (h : w5.heap[Y]? = some (.cells #[k0, t0] T (0, 0))) (k t : Value) : ((w5.setCell ⟨Y, 0, none⟩ k).setCell ⟨Y, 1, none⟩ t).heap[Y]? = some (.cells #[k, t] T (0, 0)) := by
  have hlt := lt_of_block h
  have h' : w5.heap[Y] = .cells #[k0, t0] T (0, 0) := by simpa [Array.getElem?_eq_getElem hlt] using h
  have h1 : (w5.setCell ⟨Y, 0, none⟩ k).heap[Y]? = some (.cells #[k, t0] T (0, 0)) := by
    show (w5.heap.modify Y _)[Y]? = _
    rw [Array.getElem?_eq_getElem (by simpa using hlt), Array.getElem_modify_self, h']
    rfl
  have hlt1 := lt_of_block h1
  have h1' : (w5.setCell ⟨Y, 0, none⟩ k).heap[Y] = .cells #[k, t0] T (0, 0) := by simpa [Array.getElem?_eq_getElem hlt1] using h1
  show ((w5.setCell ⟨Y, 0, none⟩ k).heap.modify Y _)[Y]? = _
  rw [Array.getElem?_eq_getElem (by simpa using hlt1), Array.getElem_modify_self, h1']
  rfl
theorem DoE.fin {w w5 : World} {B fuel : Nat} {m : Mc} {v : Value} (h : DoE w w5 B m v fuel) (hB : B < w.heap.size) (k t : Value) :
    ((w5.setCell ⟨w.heap.size + 1, 0, none⟩ k).setCell ⟨w.heap.size + 1, 1, none⟩ t).heap[w.heap.size + 1]? = some (.cells #[k, t] 207 (0, 0)) ∧
    Mb ((w5.setCell ⟨w.heap.size + 1, 0, none⟩ k).setCell ⟨w.heap.size + 1, 1, none⟩ t) B m v fuel ∧ w.grownBy ((w5.setCell ⟨w.heap.size + 1, 0, none⟩ k).setCell ⟨w.heap.size + 1, 1, none⟩ t) (some B) :=
  have hb : ∀ i, i < w.heap.size → ((w5.setCell ⟨w.heap.size + 1, 0, none⟩ k).setCell ⟨w.heap.size + 1, 1, none⟩ t).heap[i]? = w5.heap[i]? := fun i hi =>
    (Below.heap_setCell _ ⟨w.heap.size + 1, 1, none⟩ t i (by show i ≠ w.heap.size + 1; omega)).trans (Below.heap_setCell w5 ⟨w.heap.size + 1, 0, none⟩ k i (by show i ≠ w.heap.size + 1; omega))
  have g2 := i_grown_trans (i_grown_set w5 (w.heap.size + 1) 0 k) (i_grown_set _ (w.heap.size + 1) 1 t)
  ⟨two_set h.rz k t, ⟨(hb B hB).trans h.mb.blk, h.mb.l8⟩, ⟨h.gr.os, h.gr.tape, h.gr.output, Nat.le_trans h.gr.size g2.size, fun i hi hn => (hb i hi).trans (h.gr.block i hi hn)⟩⟩
set_option maxRecDepth 20000 in
set_option maxHeartbeats 8000000 in
theorem do_three (op : Int) (C : FuncId) (hop : MeanAt op .nilFunc (.func (.func C) #[] #[]) .nilFunc) (a b c : Nat) (ha : a < 8) (hb : b < 8) (hc : c < 8) (n : Int) (k : Nat) (r rb rc : Nat) {w : World} {B fuel : Nat} {m : Mc} {v : Value} (h : Mb w B m v fuel) (hrb : m.R[b]! = rb) (hrc : m.R[c]! = rc)
    (hrun : ∀ (l : Array Value) (w1 : World), (callFunc C l).run Tryz.prog w1 = .ok (.enter C l) w1)
    (hC : ∀ w1, Calls Tryz.prog C #[.int .u64 (rb : Int), .int .u64 (rc : Int)] w1 fun e w' => e = .returned (.int .u64 (r : Int)) ∧ ∃ n, w' = w1.drewN n) :
    Calls Tryz.prog 155 #[.pointer (some ⟨B, 0, none⟩), .agg #[.int .i64 op, .int .i64 (a : Int), .int .i64 (b : Int), .int .i64 (c : Int), .int .i64 n, .int .u64 (k : Int)]] w
      fun e w' => e = .returned noAct ∧ Mb w' B { m with R := m.R.set a r } v fuel ∧ w.grownBy w' (some B) := by
  have HM := hide meanings_any
  have HI := hide hop
  have HC := hide hC
  have HB := hide h
  have hlt := h.lt
  clear hop hC
  have HRB := hide hrb
  have HRC := hide hrc
  clear hrb hrc
  go_enter Tryz.func155, Tryz.ntmps155
  go_wp2_with fail
  have hidx := HI.out
  unfold MeanAt at hidx
  refine wp_region_held_drew (S := fun w' => w'.cell? ⟨w.heap.size, 0, none⟩ = some (.int .i64 op)) (by kernel_rfl) (by simp) (fun hHeld => ?_)
  refine wpAnyH_take (i := 1) (v := .pointer (some ⟨w.heap.size, 0, none⟩)) rfl (by kernel_rfl) (by kernel_rfl) (by kernel_rfl) (fun _ _ _ h => h) (Or.inl ⟨by rfl, fun w1 hSw => by clear hHeld; go_simp⟩) hHeld ?_
  simp only [Act.put, List.setIfInBounds_toArray]
  refine wpAnyH_take (i := 2) (v := .int .i64 op) rfl (by kernel_rfl) (by kernel_rfl) (by kernel_rfl) (fun _ _ _ h => h) (Or.inl ⟨by rfl, fun w1 hSw => by clear hHeld; go_simp⟩) hHeld ?_
  simp only [Act.put]
  refine wpAnyH_ready (rs := [0, 4]) (by kernel_rfl) (by simp) ?_
  refine AllReadyH.cons rfl (fun K hK => ?_) (AllReadyH.cons rfl (fun K hK => ?_) AllReadyH.nil)
  · go_simp
    refine (HM.out _).mono ?_
    rintro e w1 ⟨rfl, hb1'⟩
    have hb1 := below_undrew hb1'
    clear hb1'
    have hc1 : w1.cell? ⟨w.heap.size, 0, none⟩ = some (.int .i64 op) := (hb1.cell (p := ⟨w.heap.size, 0, none⟩) (by simp; omega)).trans hHeld
    refine hK.out _ _ hc1 (fun hHeld => ?_)
    refine wpAnyH_take (i := 3) (v := .agg #[.nilFunc, .func (.func C) #[] #[], .nilFunc]) rfl (by kernel_rfl) (by kernel_rfl) (by kernel_rfl) (fun _ _ _ h => h) (Or.inl ⟨by rfl, fun w1 hSw => by clear hHeld; go_simp⟩) hHeld ?_
    simp only [Act.put]
    refine wpAnyH_ready (rs := [4]) (by kernel_rfl) (by simp) ?_
    refine AllReadyH.cons rfl (fun K hK => ?_) AllReadyH.nil
    go_simp
    have hc2 : (w1.alloc (.cells #[.nilFunc, .nilFunc, .nilFunc] 263)).cell? ⟨w.heap.size, 0, none⟩ = some (.int .i64 op) := Lib.cell?_alloc_some _ hc1
    refine hK.out _ _ hc2 (fun hHeld => ?_)
    refine wpAnyH_ready (rs := [5]) (by kernel_rfl) (by simp) ?_
    refine AllReadyH.cons rfl (fun K hK => ?_) AllReadyH.nil
    go_simp
    refine hK.out _ _ (Lib.cell?_alloc_some _ hc1) (fun _ => ?_)
    refine wpAnyH_done (by kernel_rfl) ?_ _
    have hbl : Below (w.heap.size + 2) (W2 w op a b c n k) (w1.alloc (.cells #[.nilFunc, .func (.func C) #[] #[], .nilFunc] 263)) := (hb1.mono (show w.heap.size + 2 ≤ _ by simp) : Below (w.heap.size + 2) (W2 w op a b c n k) w1).alloc (Nat.le_trans (show w.heap.size + 2 ≤ _ by simp) hb1.size) _
    have hD := doW_of (X := w1.heap.size) (t0 := .nilFunc) (t1 := .func (.func C) #[] #[]) (t2 := .nilFunc) h hbl (Nat.le_trans (show w.heap.size + 2 ≤ _ by simp) hb1.size) (by simp) (by simp) (by simp)
    have HD := hide hD
    generalize w1.alloc (.cells #[.nilFunc, .func (.func C) #[] #[], .nilFunc] 263) = w3 at *
    generalize w1.heap.size = X at *
    clear hb1 hc1 hc2 hbl hD hHeld hK
    have hai : (a : Int) < 8 := by omega
    have hbi : (b : Int) < 8 := by omega
    have hci : (c : Int) < 8 := by omega
    have hne : ¬ B = w.heap.size := by omega
    have hne1 : ¬ B = w.heap.size + 1 := by omega
    have hnX : ¬ B = X := by have := HD.out.xl; omega
    have e1 := neq_nil2
    have e2 := neq_fun3 C
    have x0 := HD.out.x0
    have x1 := HD.out.x1
    have i1 := HD.out.i1
    have i2 := HD.out.i2
    have i3 := HD.out.i3
    have cb : w3.cell? ⟨B, 3 + b, none⟩ = some (.int .u64 (rb : Int)) := by rw [← HRB.out]; exact HD.out.mb.cell (HD.out.mb.l8.gR v fuel b hb)
    have cc : w3.cell? ⟨B, 3 + c, none⟩ = some (.int .u64 (rc : Int)) := by rw [← HRC.out]; exact HD.out.mb.cell (HD.out.mb.l8.gR v fuel c hc)
    obtain ⟨ra, hra⟩ : ∃ ra, m.R[a]! = ra := ⟨_, rfl⟩
    have ca := HD.out.mb.cell (HD.out.mb.l8.gR v fuel a ha)
    rw [hra] at ca
    clear hra
    have za := HD.out.mb.z (3 + a)
    go_wp2_with fail
    refine wp_region_but (S := (fun w' => w'.cell? ⟨w.heap.size, 1, none⟩ = some (.int .i64 (a : Int)) ∧ w'.cell? ⟨w.heap.size, 2, none⟩ = some (.int .i64 (b : Int)) ∧ w'.cell? ⟨w.heap.size, 3, none⟩ = some (.int .i64 (c : Int)) ∧ w'.cell? ⟨X, 1, none⟩ = some (.func (.func C) #[] #[]) ∧ w'.cell? ⟨B, 3 + b, none⟩ = some (.int .u64 (rb : Int)) ∧ w'.cell? ⟨B, 3 + c, none⟩ = some (.int .u64 (rc : Int)))) 23 (by kernel_rfl) ⟨i1, i2, i3, x1, cb, cc⟩ (fun hH => ?_)
    refine anyBut_plain (i := 0) (v := .pointer (some ⟨B, 0, none⟩)) rfl (by decide) (by kernel_rfl) (by kernel_rfl) (by kernel_rfl) (fun _ _ _ h => h) (Or.inl ⟨by kernel_rfl, fun w9 _ => by kernel_rfl⟩) hH ?_
    simp only [Act.put, List.setIfInBounds_toArray]
    refine anyBut_plain (i := 1) (v := .pointer (some ⟨w.heap.size, 1, none⟩)) rfl (by decide) (by kernel_rfl) (by kernel_rfl) (by kernel_rfl) (fun _ _ _ h => h) (Or.inl ⟨by kernel_rfl, fun w9 _ => by kernel_rfl⟩) hH ?_
    simp only [Act.put]
    refine anyBut_load (i := 2) (v := .int .i64 (a : Int)) rfl (by decide) (by kernel_rfl) (by kernel_rfl) (by kernel_rfl) (by kernel_rfl) (by kernel_rfl) (fun _ _ _ h => h) (Or.inl ⟨by kernel_rfl, fun w9 hS => by obtain ⟨s0, s1, s2, s3, s4, s5⟩ := hS; go_simp⟩) hH ?_
    simp only [Act.put]
    refine anyBut_plain (i := 3) (v := .pointer (some ⟨X, 1, none⟩)) rfl (by decide) (by kernel_rfl) (by kernel_rfl) (by kernel_rfl) (fun _ _ _ h => h) (Or.inl ⟨by kernel_rfl, fun w9 _ => by kernel_rfl⟩) hH ?_
    simp only [Act.put]
    refine anyBut_load (i := 4) (v := .func (.func C) #[] #[]) rfl (by decide) (by kernel_rfl) (by kernel_rfl) (by kernel_rfl) (by kernel_rfl) (by kernel_rfl) (fun _ _ _ h => h) (Or.inl ⟨by kernel_rfl, fun w9 hS => by obtain ⟨s0, s1, s2, s3, s4, s5⟩ := hS; go_simp⟩) hH ?_
    simp only [Act.put]
    refine anyBut_plain (i := 5) (v := .pointer (some ⟨B, 0, none⟩)) rfl (by decide) (by kernel_rfl) (by kernel_rfl) (by kernel_rfl) (fun _ _ _ h => h) (Or.inl ⟨by kernel_rfl, fun w9 _ => by kernel_rfl⟩) hH ?_
    simp only [Act.put]
    refine anyBut_plain (i := 6) (v := .pointer (some ⟨w.heap.size, 2, none⟩)) rfl (by decide) (by kernel_rfl) (by kernel_rfl) (by kernel_rfl) (fun _ _ _ h => h) (Or.inl ⟨by kernel_rfl, fun w9 _ => by kernel_rfl⟩) hH ?_
    simp only [Act.put]
    refine anyBut_load (i := 7) (v := .int .i64 (b : Int)) rfl (by decide) (by kernel_rfl) (by kernel_rfl) (by kernel_rfl) (by kernel_rfl) (by kernel_rfl) (fun _ _ _ h => h) (Or.inl ⟨by kernel_rfl, fun w9 hS => by obtain ⟨s0, s1, s2, s3, s4, s5⟩ := hS; go_simp⟩) hH ?_
    simp only [Act.put]
    refine anyBut_plain (i := 8) (v := .pointer (some ⟨B, 0, none⟩)) rfl (by decide) (by kernel_rfl) (by kernel_rfl) (by kernel_rfl) (fun _ _ _ h => h) (Or.inl ⟨by kernel_rfl, fun w9 _ => by kernel_rfl⟩) hH ?_
    simp only [Act.put]
    refine anyBut_plain (i := 9) (v := .pointer (some ⟨B, 3, none⟩)) rfl (by decide) (by kernel_rfl) (by kernel_rfl) (by kernel_rfl) (fun _ _ _ h => h) (Or.inl ⟨by kernel_rfl, fun w9 _ => by kernel_rfl⟩) hH ?_
    simp only [Act.put]
    refine anyBut_plain (i := 10) (v := .pointer (some ⟨B, 3 + b, none⟩)) rfl (by decide) (by kernel_rfl) (by kernel_rfl) (by kernel_rfl) (fun _ _ _ h => h) (Or.inl ⟨by kernel_rfl, fun w9 _ => by go_simp⟩) hH ?_
    simp only [Act.put]
    refine anyBut_load (i := 11) (v := .int .u64 (rb : Int)) rfl (by decide) (by kernel_rfl) (by kernel_rfl) (by kernel_rfl) (by kernel_rfl) (by kernel_rfl) (fun _ _ _ h => h) (Or.inl ⟨by kernel_rfl, fun w9 hS => by obtain ⟨s0, s1, s2, s3, s4, s5⟩ := hS; go_simp⟩) hH ?_
    simp only [Act.put]
    refine anyBut_plain (i := 12) (v := .pointer (some ⟨B, 0, none⟩)) rfl (by decide) (by kernel_rfl) (by kernel_rfl) (by kernel_rfl) (fun _ _ _ h => h) (Or.inl ⟨by kernel_rfl, fun w9 _ => by kernel_rfl⟩) hH ?_
    simp only [Act.put]
    refine anyBut_plain (i := 13) (v := .pointer (some ⟨w.heap.size, 3, none⟩)) rfl (by decide) (by kernel_rfl) (by kernel_rfl) (by kernel_rfl) (fun _ _ _ h => h) (Or.inl ⟨by kernel_rfl, fun w9 _ => by kernel_rfl⟩) hH ?_
    simp only [Act.put]
    refine anyBut_load (i := 14) (v := .int .i64 (c : Int)) rfl (by decide) (by kernel_rfl) (by kernel_rfl) (by kernel_rfl) (by kernel_rfl) (by kernel_rfl) (fun _ _ _ h => h) (Or.inl ⟨by kernel_rfl, fun w9 hS => by obtain ⟨s0, s1, s2, s3, s4, s5⟩ := hS; go_simp⟩) hH ?_
    simp only [Act.put]
    refine anyBut_plain (i := 15) (v := .pointer (some ⟨B, 0, none⟩)) rfl (by decide) (by kernel_rfl) (by kernel_rfl) (by kernel_rfl) (fun _ _ _ h => h) (Or.inl ⟨by kernel_rfl, fun w9 _ => by kernel_rfl⟩) hH ?_
    simp only [Act.put]
    refine anyBut_plain (i := 16) (v := .pointer (some ⟨B, 3, none⟩)) rfl (by decide) (by kernel_rfl) (by kernel_rfl) (by kernel_rfl) (fun _ _ _ h => h) (Or.inl ⟨by kernel_rfl, fun w9 _ => by kernel_rfl⟩) hH ?_
    simp only [Act.put]
    refine anyBut_plain (i := 17) (v := .pointer (some ⟨B, 3 + c, none⟩)) rfl (by decide) (by kernel_rfl) (by kernel_rfl) (by kernel_rfl) (fun _ _ _ h => h) (Or.inl ⟨by kernel_rfl, fun w9 _ => by go_simp⟩) hH ?_
    simp only [Act.put]
    refine anyBut_load (i := 18) (v := .int .u64 (rc : Int)) rfl (by decide) (by kernel_rfl) (by kernel_rfl) (by kernel_rfl) (by kernel_rfl) (by kernel_rfl) (fun _ _ _ h => h) (Or.inl ⟨by kernel_rfl, fun w9 hS => by obtain ⟨s0, s1, s2, s3, s4, s5⟩ := hS; go_simp⟩) hH ?_
    simp only [Act.put]
    refine anyBut_plain (i := 20) (v := .pointer (some ⟨B, 0, none⟩)) rfl (by decide) (by kernel_rfl) (by kernel_rfl) (by kernel_rfl) (fun _ _ _ h => h) (Or.inl ⟨by kernel_rfl, fun w9 _ => by kernel_rfl⟩) hH ?_
    simp only [Act.put]
    refine anyBut_plain (i := 21) (v := .pointer (some ⟨B, 3, none⟩)) rfl (by decide) (by kernel_rfl) (by kernel_rfl) (by kernel_rfl) (fun _ _ _ h => h) (Or.inl ⟨by kernel_rfl, fun w9 _ => by kernel_rfl⟩) hH ?_
    simp only [Act.put]
    refine anyBut_one (i := 19) rfl (by kernel_rfl) (fun K hK => ?_)
    go_simp
    refine (HC.out _).mono ?_
    rintro e w4 ⟨rfl, n4, rfl⟩
    refine hK.out _ _ (fun _ => ⟨i1, i2, i3, x1, cb, cc⟩) ?_
    refine anyBut_plain (i := 22) (v := .pointer (some ⟨B, 3 + a, none⟩)) rfl (by decide) (by kernel_rfl) (by kernel_rfl) (by kernel_rfl) (fun _ _ _ h => h) (Or.inl ⟨by kernel_rfl, fun w9 _ => by go_simp⟩) ⟨i1, i2, i3, x1, cb, cc⟩ ?_
    simp only [Act.put, List.setIfInBounds_toArray]
    refine anyBut_one (i := 23) rfl (by kernel_rfl) (fun K hK => ?_)
    go_simp
    refine hK.out _ _ (fun h0 => absurd h0 (by decide)) (anyBut_done (by kernel_rfl) ?_ _)
    have HW := hide (three_end (r := r) HD.out n4 ha hlt)
    generalize (w3.drewN (1 + n4)).setCell ⟨B, 3 + a, none⟩ (.int .u64 (r : Int)) = w5 at *
    obtain ⟨r0, r1, rf⟩ := HW.out.act
    clear x0 x1 i1 i2 i3 cb cc ca za hH hK HD
    go_wp2_with fail
    obtain ⟨q1, q2, q3⟩ := HW.out.fin hlt (.int .i64 0) (.string ⟨#[]⟩)
    exact bodyPost_ret (results_cell_row (p := 4) (ty := 207) rfl _ _ (w.heap.size + 1) 207 _ (0, 0) _ rfl q1 Tryz.underlying207 rfl (by kernel_rfl)) rfl ⟨rfl, q2, q3⟩
  · go_simp
    have hc0 : ((((w.alloc (.cells #[.int .i64 op, .int .i64 (a : Int), .int .i64 (b : Int), .int .i64 (c : Int), .int .i64 n, .int .u64 (k : Int)] 189)).alloc (.cells #[.int .i64 0, .string ⟨#[]⟩] 207)).alloc (.cells #[.nilFunc, .nilFunc, .nilFunc] 263)).drew).cell? ⟨w.heap.size, 0, none⟩ = some (.int .i64 op) := Lib.cell?_alloc_some (W := W2 w op a b c n k) _ hHeld
    refine hK.out _ _ hc0 (fun hHeld => ?_)
    refine wpAnyH_ready (rs := [0]) (by kernel_rfl) (by simp) ?_
    refine AllReadyH.cons rfl (fun K hK => ?_) AllReadyH.nil
    go_simp
    refine (HM.out _).mono ?_
    rintro e w1 ⟨rfl, hb1'⟩
    have hb1 := below_undrew hb1'
    clear hb1'
    have hc1 : w1.cell? ⟨w.heap.size, 0, none⟩ = some (.int .i64 op) := (hb1.cell (p := ⟨w.heap.size, 0, none⟩) (by simp; omega)).trans hc0
    refine hK.out _ _ hc1 (fun hHeld => ?_)
    refine wpAnyH_take (i := 3) (v := .agg #[.nilFunc, .func (.func C) #[] #[], .nilFunc]) rfl (by kernel_rfl) (by kernel_rfl) (by kernel_rfl) (fun _ _ _ h => h) (Or.inl ⟨by rfl, fun w1 hSw => by clear hHeld; go_simp⟩) hHeld ?_
    simp only [Act.put]
    refine wpAnyH_ready (rs := [5]) (by kernel_rfl) (by simp) ?_
    refine AllReadyH.cons rfl (fun K hK => ?_) AllReadyH.nil
    have hbk : w1.heap[w.heap.size + 1 + 1]? = some (.cells #[.nilFunc, .nilFunc, .nilFunc] 263 (0, 0)) := (hb1.block (w.heap.size + 1 + 1) (by simp)).trans (by have q := heap_alloc_new ((w.alloc (.cells #[.int .i64 op, .int .i64 (a : Int), .int .i64 (b : Int), .int .i64 (c : Int), .int .i64 n, .int .u64 (k : Int)] 189)).alloc (.cells #[.int .i64 0, .string ⟨#[]⟩] 207)) (.cells #[.nilFunc, .nilFunc, .nilFunc] 263); rw [World.size_alloc, World.size_alloc] at q; exact q)
    refine wp_store_row 263 _ _ rfl (w.heap.size + 1 + 1) #[.nilFunc, .func (.func C) #[] #[], .nilFunc] rfl rfl 263 #[.nilFunc, .nilFunc, .nilFunc] hbk (by kernel_rfl) rfl (by simp [Value.oneCell']) ?_
    simp only [Act.put, List.setIfInBounds_toArray, List.getElem_toArray, List.getElem_cons_succ, List.getElem_cons_zero, List.set_cons_succ, List.set_cons_zero]
    refine hK.out _ _ ((cell_setRow_other _ _ _ _ (by show w.heap.size ≠ _; omega)).trans hc1) (fun _ => ?_)
    refine wpAnyH_done (by kernel_rfl) ?_ _
    have hbl : Below (w.heap.size + 2) (W2 w op a b c n k) (w1.setRow (w.heap.size + 1 + 1) #[.nilFunc, .func (.func C) #[] #[], .nilFunc]) := by
      have q1 : Below (w.heap.size + 2) (W2 w op a b c n k) w1 := ((below_one (W2 w op a b c n k) (.cells #[.nilFunc, .nilFunc, .nilFunc] 263)).mono (by simp [W2])).trans (hb1.mono (show w.heap.size + 2 ≤ _ by simp))
      exact q1.trans ⟨rfl, rfl, rfl, by simp [World.setRow], fun i hi => setRow_other _ _ _ _ (by omega)⟩
    have hD := doW_of (X := w.heap.size + 1 + 1) h hbl (Nat.le_refl _) (cell_setRow_same _ _ _ _ _ _ _ hbk) (cell_setRow_same _ _ _ _ _ _ _ hbk) (cell_setRow_same _ _ _ _ _ _ _ hbk)
    have HD := hide hD
    generalize w1.setRow (w.heap.size + 1 + 1) #[.nilFunc, .func (.func C) #[] #[], .nilFunc] = w3 at *
    clear hb1 hc1 hc0 hbl hD hbk hHeld
    generalize w.heap.size + 1 + 1 = X at *
    have hai : (a : Int) < 8 := by omega
    have hbi : (b : Int) < 8 := by omega
    have hci : (c : Int) < 8 := by omega
    have hne : ¬ B = w.heap.size := by omega
    have hne1 : ¬ B = w.heap.size + 1 := by omega
    have hnX : ¬ B = X := by have := HD.out.xl; omega
    have e1 := neq_nil2
    have e2 := neq_fun3 C
    have x0 := HD.out.x0
    have x1 := HD.out.x1
    have i1 := HD.out.i1
    have i2 := HD.out.i2
    have i3 := HD.out.i3
    have cb : w3.cell? ⟨B, 3 + b, none⟩ = some (.int .u64 (rb : Int)) := by rw [← HRB.out]; exact HD.out.mb.cell (HD.out.mb.l8.gR v fuel b hb)
    have cc : w3.cell? ⟨B, 3 + c, none⟩ = some (.int .u64 (rc : Int)) := by rw [← HRC.out]; exact HD.out.mb.cell (HD.out.mb.l8.gR v fuel c hc)
    obtain ⟨ra, hra⟩ : ∃ ra, m.R[a]! = ra := ⟨_, rfl⟩
    have ca := HD.out.mb.cell (HD.out.mb.l8.gR v fuel a ha)
    rw [hra] at ca
    clear hra
    have za := HD.out.mb.z (3 + a)
    go_wp2_with fail
    refine wp_region_but (S := (fun w' => w'.cell? ⟨w.heap.size, 1, none⟩ = some (.int .i64 (a : Int)) ∧ w'.cell? ⟨w.heap.size, 2, none⟩ = some (.int .i64 (b : Int)) ∧ w'.cell? ⟨w.heap.size, 3, none⟩ = some (.int .i64 (c : Int)) ∧ w'.cell? ⟨X, 1, none⟩ = some (.func (.func C) #[] #[]) ∧ w'.cell? ⟨B, 3 + b, none⟩ = some (.int .u64 (rb : Int)) ∧ w'.cell? ⟨B, 3 + c, none⟩ = some (.int .u64 (rc : Int)))) 23 (by kernel_rfl) ⟨i1, i2, i3, x1, cb, cc⟩ (fun hH => ?_)
    refine anyBut_plain (i := 0) (v := .pointer (some ⟨B, 0, none⟩)) rfl (by decide) (by kernel_rfl) (by kernel_rfl) (by kernel_rfl) (fun _ _ _ h => h) (Or.inl ⟨by kernel_rfl, fun w9 _ => by kernel_rfl⟩) hH ?_
    simp only [Act.put, List.setIfInBounds_toArray]
    refine anyBut_plain (i := 1) (v := .pointer (some ⟨w.heap.size, 1, none⟩)) rfl (by decide) (by kernel_rfl) (by kernel_rfl) (by kernel_rfl) (fun _ _ _ h => h) (Or.inl ⟨by kernel_rfl, fun w9 _ => by kernel_rfl⟩) hH ?_
    simp only [Act.put]
    refine anyBut_load (i := 2) (v := .int .i64 (a : Int)) rfl (by decide) (by kernel_rfl) (by kernel_rfl) (by kernel_rfl) (by kernel_rfl) (by kernel_rfl) (fun _ _ _ h => h) (Or.inl ⟨by kernel_rfl, fun w9 hS => by obtain ⟨s0, s1, s2, s3, s4, s5⟩ := hS; go_simp⟩) hH ?_
    simp only [Act.put]
    refine anyBut_plain (i := 3) (v := .pointer (some ⟨X, 1, none⟩)) rfl (by decide) (by kernel_rfl) (by kernel_rfl) (by kernel_rfl) (fun _ _ _ h => h) (Or.inl ⟨by kernel_rfl, fun w9 _ => by kernel_rfl⟩) hH ?_
    simp only [Act.put]
    refine anyBut_load (i := 4) (v := .func (.func C) #[] #[]) rfl (by decide) (by kernel_rfl) (by kernel_rfl) (by kernel_rfl) (by kernel_rfl) (by kernel_rfl) (fun _ _ _ h => h) (Or.inl ⟨by kernel_rfl, fun w9 hS => by obtain ⟨s0, s1, s2, s3, s4, s5⟩ := hS; go_simp⟩) hH ?_
    simp only [Act.put]
    refine anyBut_plain (i := 5) (v := .pointer (some ⟨B, 0, none⟩)) rfl (by decide) (by kernel_rfl) (by kernel_rfl) (by kernel_rfl) (fun _ _ _ h => h) (Or.inl ⟨by kernel_rfl, fun w9 _ => by kernel_rfl⟩) hH ?_
    simp only [Act.put]
    refine anyBut_plain (i := 6) (v := .pointer (some ⟨w.heap.size, 2, none⟩)) rfl (by decide) (by kernel_rfl) (by kernel_rfl) (by kernel_rfl) (fun _ _ _ h => h) (Or.inl ⟨by kernel_rfl, fun w9 _ => by kernel_rfl⟩) hH ?_
    simp only [Act.put]
    refine anyBut_load (i := 7) (v := .int .i64 (b : Int)) rfl (by decide) (by kernel_rfl) (by kernel_rfl) (by kernel_rfl) (by kernel_rfl) (by kernel_rfl) (fun _ _ _ h => h) (Or.inl ⟨by kernel_rfl, fun w9 hS => by obtain ⟨s0, s1, s2, s3, s4, s5⟩ := hS; go_simp⟩) hH ?_
    simp only [Act.put]
    refine anyBut_plain (i := 8) (v := .pointer (some ⟨B, 0, none⟩)) rfl (by decide) (by kernel_rfl) (by kernel_rfl) (by kernel_rfl) (fun _ _ _ h => h) (Or.inl ⟨by kernel_rfl, fun w9 _ => by kernel_rfl⟩) hH ?_
    simp only [Act.put]
    refine anyBut_plain (i := 9) (v := .pointer (some ⟨B, 3, none⟩)) rfl (by decide) (by kernel_rfl) (by kernel_rfl) (by kernel_rfl) (fun _ _ _ h => h) (Or.inl ⟨by kernel_rfl, fun w9 _ => by kernel_rfl⟩) hH ?_
    simp only [Act.put]
    refine anyBut_plain (i := 10) (v := .pointer (some ⟨B, 3 + b, none⟩)) rfl (by decide) (by kernel_rfl) (by kernel_rfl) (by kernel_rfl) (fun _ _ _ h => h) (Or.inl ⟨by kernel_rfl, fun w9 _ => by go_simp⟩) hH ?_
    simp only [Act.put]
    refine anyBut_load (i := 11) (v := .int .u64 (rb : Int)) rfl (by decide) (by kernel_rfl) (by kernel_rfl) (by kernel_rfl) (by kernel_rfl) (by kernel_rfl) (fun _ _ _ h => h) (Or.inl ⟨by kernel_rfl, fun w9 hS => by obtain ⟨s0, s1, s2, s3, s4, s5⟩ := hS; go_simp⟩) hH ?_
    simp only [Act.put]
    refine anyBut_plain (i := 12) (v := .pointer (some ⟨B, 0, none⟩)) rfl (by decide) (by kernel_rfl) (by kernel_rfl) (by kernel_rfl) (fun _ _ _ h => h) (Or.inl ⟨by kernel_rfl, fun w9 _ => by kernel_rfl⟩) hH ?_
    simp only [Act.put]
    refine anyBut_plain (i := 13) (v := .pointer (some ⟨w.heap.size, 3, none⟩)) rfl (by decide) (by kernel_rfl) (by kernel_rfl) (by kernel_rfl) (fun _ _ _ h => h) (Or.inl ⟨by kernel_rfl, fun w9 _ => by kernel_rfl⟩) hH ?_
    simp only [Act.put]
    refine anyBut_load (i := 14) (v := .int .i64 (c : Int)) rfl (by decide) (by kernel_rfl) (by kernel_rfl) (by kernel_rfl) (by kernel_rfl) (by kernel_rfl) (fun _ _ _ h => h) (Or.inl ⟨by kernel_rfl, fun w9 hS => by obtain ⟨s0, s1, s2, s3, s4, s5⟩ := hS; go_simp⟩) hH ?_
    simp only [Act.put]
    refine anyBut_plain (i := 15) (v := .pointer (some ⟨B, 0, none⟩)) rfl (by decide) (by kernel_rfl) (by kernel_rfl) (by kernel_rfl) (fun _ _ _ h => h) (Or.inl ⟨by kernel_rfl, fun w9 _ => by kernel_rfl⟩) hH ?_
    simp only [Act.put]
    refine anyBut_plain (i := 16) (v := .pointer (some ⟨B, 3, none⟩)) rfl (by decide) (by kernel_rfl) (by kernel_rfl) (by kernel_rfl) (fun _ _ _ h => h) (Or.inl ⟨by kernel_rfl, fun w9 _ => by kernel_rfl⟩) hH ?_
    simp only [Act.put]
    refine anyBut_plain (i := 17) (v := .pointer (some ⟨B, 3 + c, none⟩)) rfl (by decide) (by kernel_rfl) (by kernel_rfl) (by kernel_rfl) (fun _ _ _ h => h) (Or.inl ⟨by kernel_rfl, fun w9 _ => by go_simp⟩) hH ?_
    simp only [Act.put]
    refine anyBut_load (i := 18) (v := .int .u64 (rc : Int)) rfl (by decide) (by kernel_rfl) (by kernel_rfl) (by kernel_rfl) (by kernel_rfl) (by kernel_rfl) (fun _ _ _ h => h) (Or.inl ⟨by kernel_rfl, fun w9 hS => by obtain ⟨s0, s1, s2, s3, s4, s5⟩ := hS; go_simp⟩) hH ?_
    simp only [Act.put]
    refine anyBut_plain (i := 20) (v := .pointer (some ⟨B, 0, none⟩)) rfl (by decide) (by kernel_rfl) (by kernel_rfl) (by kernel_rfl) (fun _ _ _ h => h) (Or.inl ⟨by kernel_rfl, fun w9 _ => by kernel_rfl⟩) hH ?_
    simp only [Act.put]
    refine anyBut_plain (i := 21) (v := .pointer (some ⟨B, 3, none⟩)) rfl (by decide) (by kernel_rfl) (by kernel_rfl) (by kernel_rfl) (fun _ _ _ h => h) (Or.inl ⟨by kernel_rfl, fun w9 _ => by kernel_rfl⟩) hH ?_
    simp only [Act.put]
    refine anyBut_one (i := 19) rfl (by kernel_rfl) (fun K hK => ?_)
    go_simp
    refine (HC.out _).mono ?_
    rintro e w4 ⟨rfl, n4, rfl⟩
    refine hK.out _ _ (fun _ => ⟨i1, i2, i3, x1, cb, cc⟩) ?_
    refine anyBut_plain (i := 22) (v := .pointer (some ⟨B, 3 + a, none⟩)) rfl (by decide) (by kernel_rfl) (by kernel_rfl) (by kernel_rfl) (fun _ _ _ h => h) (Or.inl ⟨by kernel_rfl, fun w9 _ => by go_simp⟩) ⟨i1, i2, i3, x1, cb, cc⟩ ?_
    simp only [Act.put, List.setIfInBounds_toArray]
    refine anyBut_one (i := 23) rfl (by kernel_rfl) (fun K hK => ?_)
    go_simp
    refine hK.out _ _ (fun h0 => absurd h0 (by decide)) (anyBut_done (by kernel_rfl) ?_ _)
    have HW := hide (three_end (r := r) HD.out n4 ha hlt)
    generalize (w3.drewN (1 + n4)).setCell ⟨B, 3 + a, none⟩ (.int .u64 (r : Int)) = w5 at *
    obtain ⟨r0, r1, rf⟩ := HW.out.act
    clear x0 x1 i1 i2 i3 cb cc ca za hH hK HD
    go_wp2_with fail
    obtain ⟨q1, q2, q3⟩ := HW.out.fin hlt (.int .i64 0) (.string ⟨#[]⟩)
    exact bodyPost_ret (results_cell_row (p := 4) (ty := 207) rfl _ _ (w.heap.size + 1) 207 _ (0, 0) _ rfl q1 Tryz.underlying207 rfl (by kernel_rfl)) rfl ⟨rfl, q2, q3⟩
end Go.Proofs.YtkfnedhllfdghaaGreatDoor
end

section
namespace Go.Proofs.YtkfnedhllfdghaaGreatDoor
set_option maxRecDepth 20000
open Go.RowKit Go.Shelf

set_option maxRecDepth 20000 in
set_option maxHeartbeats 8000000 in
theorem do_two (op : Int) (C : FuncId) (hop : MeanAt op (.func (.func C) #[] #[]) .nilFunc .nilFunc) (a b c : Nat) (ha : a < 8) (hb : b < 8) (n : Int) (k : Nat) (r rb : Nat) {w : World} {B fuel : Nat} {m : Mc} {v : Value} (h : Mb w B m v fuel) (hrb : m.R[b]! = rb)
    (hrun : ∀ (l : Array Value) (w1 : World), (callFunc C l).run Tryz.prog w1 = .ok (.enter C l) w1)
    (hC : ∀ w1, Calls Tryz.prog C #[.int .u64 (rb : Int)] w1 fun e w' => e = .returned (.int .u64 (r : Int)) ∧ ∃ n, w' = w1.drewN n) :
    Calls Tryz.prog 155 #[.pointer (some ⟨B, 0, none⟩), .agg #[.int .i64 op, .int .i64 (a : Int), .int .i64 (b : Int), .int .i64 (c : Int), .int .i64 n, .int .u64 (k : Int)]] w
      fun e w' => e = .returned noAct ∧ Mb w' B { m with R := m.R.set a r } v fuel ∧ w.grownBy w' (some B) := by
  have HM := hide meanings_any
  have HI := hide hop
  have HC := hide hC
  have HB := hide h
  have hlt := h.lt
  clear hop hC
  have HRB := hide hrb
  clear hrb
  go_enter Tryz.func155, Tryz.ntmps155
  go_wp2_with fail
  have hidx := HI.out
  unfold MeanAt at hidx
  refine wp_region_held_drew (S := fun w' => w'.cell? ⟨w.heap.size, 0, none⟩ = some (.int .i64 op)) (by kernel_rfl) (by simp) (fun hHeld => ?_)
  refine wpAnyH_take (i := 1) (v := .pointer (some ⟨w.heap.size, 0, none⟩)) rfl (by kernel_rfl) (by kernel_rfl) (by kernel_rfl) (fun _ _ _ h => h) (Or.inl ⟨by rfl, fun w1 hSw => by clear hHeld; go_simp⟩) hHeld ?_
  simp only [Act.put, List.setIfInBounds_toArray]
  refine wpAnyH_take (i := 2) (v := .int .i64 op) rfl (by kernel_rfl) (by kernel_rfl) (by kernel_rfl) (fun _ _ _ h => h) (Or.inl ⟨by rfl, fun w1 hSw => by clear hHeld; go_simp⟩) hHeld ?_
  simp only [Act.put]
  refine wpAnyH_ready (rs := [0, 4]) (by kernel_rfl) (by simp) ?_
  refine AllReadyH.cons rfl (fun K hK => ?_) (AllReadyH.cons rfl (fun K hK => ?_) AllReadyH.nil)
  · go_simp
    refine (HM.out _).mono ?_
    rintro e w1 ⟨rfl, hb1'⟩
    have hb1 := below_undrew hb1'
    clear hb1'
    have hc1 : w1.cell? ⟨w.heap.size, 0, none⟩ = some (.int .i64 op) := (hb1.cell (p := ⟨w.heap.size, 0, none⟩) (by simp; omega)).trans hHeld
    refine hK.out _ _ hc1 (fun hHeld => ?_)
    refine wpAnyH_take (i := 3) (v := .agg #[.func (.func C) #[] #[], .nilFunc, .nilFunc]) rfl (by kernel_rfl) (by kernel_rfl) (by kernel_rfl) (fun _ _ _ h => h) (Or.inl ⟨by rfl, fun w1 hSw => by clear hHeld; go_simp⟩) hHeld ?_
    simp only [Act.put]
    refine wpAnyH_ready (rs := [4]) (by kernel_rfl) (by simp) ?_
    refine AllReadyH.cons rfl (fun K hK => ?_) AllReadyH.nil
    go_simp
    have hc2 : (w1.alloc (.cells #[.nilFunc, .nilFunc, .nilFunc] 263)).cell? ⟨w.heap.size, 0, none⟩ = some (.int .i64 op) := Lib.cell?_alloc_some _ hc1
    refine hK.out _ _ hc2 (fun hHeld => ?_)
    refine wpAnyH_ready (rs := [5]) (by kernel_rfl) (by simp) ?_
    refine AllReadyH.cons rfl (fun K hK => ?_) AllReadyH.nil
    go_simp
    refine hK.out _ _ (Lib.cell?_alloc_some _ hc1) (fun _ => ?_)
    refine wpAnyH_done (by kernel_rfl) ?_ _
    have hbl : Below (w.heap.size + 2) (W2 w op a b c n k) (w1.alloc (.cells #[.func (.func C) #[] #[], .nilFunc, .nilFunc] 263)) := (hb1.mono (show w.heap.size + 2 ≤ _ by simp) : Below (w.heap.size + 2) (W2 w op a b c n k) w1).alloc (Nat.le_trans (show w.heap.size + 2 ≤ _ by simp) hb1.size) _
    have hD := doW_of (X := w1.heap.size) (t0 := .func (.func C) #[] #[]) (t1 := .nilFunc) (t2 := .nilFunc) h hbl (Nat.le_trans (show w.heap.size + 2 ≤ _ by simp) hb1.size) (by simp) (by simp) (by simp)
    have HD := hide hD
    generalize w1.alloc (.cells #[.func (.func C) #[] #[], .nilFunc, .nilFunc] 263) = w3 at *
    generalize w1.heap.size = X at *
    clear hb1 hc1 hc2 hbl hD hHeld hK
    have hai : (a : Int) < 8 := by omega
    have hbi : (b : Int) < 8 := by omega
    have hne : ¬ B = w.heap.size := by omega
    have hne1 : ¬ B = w.heap.size + 1 := by omega
    have hnX : ¬ B = X := by have := HD.out.xl; omega
    have e2 := neq_fun2 C
    have x0 := HD.out.x0
    have i1 := HD.out.i1
    have i2 := HD.out.i2
    have cb : w3.cell? ⟨B, 3 + b, none⟩ = some (.int .u64 (rb : Int)) := by rw [← HRB.out]; exact HD.out.mb.cell (HD.out.mb.l8.gR v fuel b hb)
    obtain ⟨ra, hra⟩ : ∃ ra, m.R[a]! = ra := ⟨_, rfl⟩
    have ca := HD.out.mb.cell (HD.out.mb.l8.gR v fuel a ha)
    rw [hra] at ca
    clear hra
    have za := HD.out.mb.z (3 + a)
    go_wp2_with fail
    refine wp_region_but (S := (fun w' => w'.cell? ⟨w.heap.size, 1, none⟩ = some (.int .i64 (a : Int)) ∧ w'.cell? ⟨w.heap.size, 2, none⟩ = some (.int .i64 (b : Int)) ∧ w'.cell? ⟨X, 0, none⟩ = some (.func (.func C) #[] #[]) ∧ w'.cell? ⟨B, 3 + b, none⟩ = some (.int .u64 (rb : Int)))) 16 (by kernel_rfl) ⟨i1, i2, x0, cb⟩ (fun hH => ?_)
    refine anyBut_plain (i := 0) (v := .pointer (some ⟨B, 0, none⟩)) rfl (by decide) (by kernel_rfl) (by kernel_rfl) (by kernel_rfl) (fun _ _ _ h => h) (Or.inl ⟨by kernel_rfl, fun w9 _ => by kernel_rfl⟩) hH ?_
    simp only [Act.put, List.setIfInBounds_toArray]
    refine anyBut_plain (i := 1) (v := .pointer (some ⟨w.heap.size, 1, none⟩)) rfl (by decide) (by kernel_rfl) (by kernel_rfl) (by kernel_rfl) (fun _ _ _ h => h) (Or.inl ⟨by kernel_rfl, fun w9 _ => by kernel_rfl⟩) hH ?_
    simp only [Act.put]
    refine anyBut_load (i := 2) (v := .int .i64 (a : Int)) rfl (by decide) (by kernel_rfl) (by kernel_rfl) (by kernel_rfl) (by kernel_rfl) (by kernel_rfl) (fun _ _ _ h => h) (Or.inl ⟨by kernel_rfl, fun w9 hS => by obtain ⟨s0, s1, s2, s3⟩ := hS; go_simp⟩) hH ?_
    simp only [Act.put]
    refine anyBut_plain (i := 3) (v := .pointer (some ⟨X, 0, none⟩)) rfl (by decide) (by kernel_rfl) (by kernel_rfl) (by kernel_rfl) (fun _ _ _ h => h) (Or.inl ⟨by kernel_rfl, fun w9 _ => by kernel_rfl⟩) hH ?_
    simp only [Act.put]
    refine anyBut_load (i := 4) (v := .func (.func C) #[] #[]) rfl (by decide) (by kernel_rfl) (by kernel_rfl) (by kernel_rfl) (by kernel_rfl) (by kernel_rfl) (fun _ _ _ h => h) (Or.inl ⟨by kernel_rfl, fun w9 hS => by obtain ⟨s0, s1, s2, s3⟩ := hS; go_simp⟩) hH ?_
    simp only [Act.put]
    refine anyBut_plain (i := 5) (v := .pointer (some ⟨B, 0, none⟩)) rfl (by decide) (by kernel_rfl) (by kernel_rfl) (by kernel_rfl) (fun _ _ _ h => h) (Or.inl ⟨by kernel_rfl, fun w9 _ => by kernel_rfl⟩) hH ?_
    simp only [Act.put]
    refine anyBut_plain (i := 6) (v := .pointer (some ⟨w.heap.size, 2, none⟩)) rfl (by decide) (by kernel_rfl) (by kernel_rfl) (by kernel_rfl) (fun _ _ _ h => h) (Or.inl ⟨by kernel_rfl, fun w9 _ => by kernel_rfl⟩) hH ?_
    simp only [Act.put]
    refine anyBut_load (i := 7) (v := .int .i64 (b : Int)) rfl (by decide) (by kernel_rfl) (by kernel_rfl) (by kernel_rfl) (by kernel_rfl) (by kernel_rfl) (fun _ _ _ h => h) (Or.inl ⟨by kernel_rfl, fun w9 hS => by obtain ⟨s0, s1, s2, s3⟩ := hS; go_simp⟩) hH ?_
    simp only [Act.put]
    refine anyBut_plain (i := 8) (v := .pointer (some ⟨B, 0, none⟩)) rfl (by decide) (by kernel_rfl) (by kernel_rfl) (by kernel_rfl) (fun _ _ _ h => h) (Or.inl ⟨by kernel_rfl, fun w9 _ => by kernel_rfl⟩) hH ?_
    simp only [Act.put]
    refine anyBut_plain (i := 9) (v := .pointer (some ⟨B, 3, none⟩)) rfl (by decide) (by kernel_rfl) (by kernel_rfl) (by kernel_rfl) (fun _ _ _ h => h) (Or.inl ⟨by kernel_rfl, fun w9 _ => by kernel_rfl⟩) hH ?_
    simp only [Act.put]
    refine anyBut_plain (i := 10) (v := .pointer (some ⟨B, 3 + b, none⟩)) rfl (by decide) (by kernel_rfl) (by kernel_rfl) (by kernel_rfl) (fun _ _ _ h => h) (Or.inl ⟨by kernel_rfl, fun w9 _ => by go_simp⟩) hH ?_
    simp only [Act.put]
    refine anyBut_load (i := 11) (v := .int .u64 (rb : Int)) rfl (by decide) (by kernel_rfl) (by kernel_rfl) (by kernel_rfl) (by kernel_rfl) (by kernel_rfl) (fun _ _ _ h => h) (Or.inl ⟨by kernel_rfl, fun w9 hS => by obtain ⟨s0, s1, s2, s3⟩ := hS; go_simp⟩) hH ?_
    simp only [Act.put]
    refine anyBut_plain (i := 13) (v := .pointer (some ⟨B, 0, none⟩)) rfl (by decide) (by kernel_rfl) (by kernel_rfl) (by kernel_rfl) (fun _ _ _ h => h) (Or.inl ⟨by kernel_rfl, fun w9 _ => by kernel_rfl⟩) hH ?_
    simp only [Act.put]
    refine anyBut_plain (i := 14) (v := .pointer (some ⟨B, 3, none⟩)) rfl (by decide) (by kernel_rfl) (by kernel_rfl) (by kernel_rfl) (fun _ _ _ h => h) (Or.inl ⟨by kernel_rfl, fun w9 _ => by kernel_rfl⟩) hH ?_
    simp only [Act.put]
    refine anyBut_one (i := 12) rfl (by kernel_rfl) (fun K hK => ?_)
    go_simp
    refine (HC.out _).mono ?_
    rintro e w4 ⟨rfl, n4, rfl⟩
    refine hK.out _ _ (fun _ => ⟨i1, i2, x0, cb⟩) ?_
    refine anyBut_plain (i := 15) (v := .pointer (some ⟨B, 3 + a, none⟩)) rfl (by decide) (by kernel_rfl) (by kernel_rfl) (by kernel_rfl) (fun _ _ _ h => h) (Or.inl ⟨by kernel_rfl, fun w9 _ => by go_simp⟩) ⟨i1, i2, x0, cb⟩ ?_
    simp only [Act.put, List.setIfInBounds_toArray]
    refine anyBut_one (i := 16) rfl (by kernel_rfl) (fun K hK => ?_)
    go_simp
    refine hK.out _ _ (fun h0 => absurd h0 (by decide)) (anyBut_done (by kernel_rfl) ?_ _)
    have HW := hide (three_end (r := r) HD.out n4 ha hlt)
    generalize (w3.drewN (1 + n4)).setCell ⟨B, 3 + a, none⟩ (.int .u64 (r : Int)) = w5 at *
    obtain ⟨r0, r1, rf⟩ := HW.out.act
    clear x0 i1 i2 cb ca za hH hK HD
    go_wp2_with fail
    obtain ⟨q1, q2, q3⟩ := HW.out.fin hlt (.int .i64 0) (.string ⟨#[]⟩)
    exact bodyPost_ret (results_cell_row (p := 4) (ty := 207) rfl _ _ (w.heap.size + 1) 207 _ (0, 0) _ rfl q1 Tryz.underlying207 rfl (by kernel_rfl)) rfl ⟨rfl, q2, q3⟩
  · go_simp
    have hc0 : ((((w.alloc (.cells #[.int .i64 op, .int .i64 (a : Int), .int .i64 (b : Int), .int .i64 (c : Int), .int .i64 n, .int .u64 (k : Int)] 189)).alloc (.cells #[.int .i64 0, .string ⟨#[]⟩] 207)).alloc (.cells #[.nilFunc, .nilFunc, .nilFunc] 263)).drew).cell? ⟨w.heap.size, 0, none⟩ = some (.int .i64 op) := Lib.cell?_alloc_some (W := W2 w op a b c n k) _ hHeld
    refine hK.out _ _ hc0 (fun hHeld => ?_)
    refine wpAnyH_ready (rs := [0]) (by kernel_rfl) (by simp) ?_
    refine AllReadyH.cons rfl (fun K hK => ?_) AllReadyH.nil
    go_simp
    refine (HM.out _).mono ?_
    rintro e w1 ⟨rfl, hb1'⟩
    have hb1 := below_undrew hb1'
    clear hb1'
    have hc1 : w1.cell? ⟨w.heap.size, 0, none⟩ = some (.int .i64 op) := (hb1.cell (p := ⟨w.heap.size, 0, none⟩) (by simp; omega)).trans hc0
    refine hK.out _ _ hc1 (fun hHeld => ?_)
    refine wpAnyH_take (i := 3) (v := .agg #[.func (.func C) #[] #[], .nilFunc, .nilFunc]) rfl (by kernel_rfl) (by kernel_rfl) (by kernel_rfl) (fun _ _ _ h => h) (Or.inl ⟨by rfl, fun w1 hSw => by clear hHeld; go_simp⟩) hHeld ?_
    simp only [Act.put]
    refine wpAnyH_ready (rs := [5]) (by kernel_rfl) (by simp) ?_
    refine AllReadyH.cons rfl (fun K hK => ?_) AllReadyH.nil
    have hbk : w1.heap[w.heap.size + 1 + 1]? = some (.cells #[.nilFunc, .nilFunc, .nilFunc] 263 (0, 0)) := (hb1.block (w.heap.size + 1 + 1) (by simp)).trans (by have q := heap_alloc_new ((w.alloc (.cells #[.int .i64 op, .int .i64 (a : Int), .int .i64 (b : Int), .int .i64 (c : Int), .int .i64 n, .int .u64 (k : Int)] 189)).alloc (.cells #[.int .i64 0, .string ⟨#[]⟩] 207)) (.cells #[.nilFunc, .nilFunc, .nilFunc] 263); rw [World.size_alloc, World.size_alloc] at q; exact q)
    refine wp_store_row 263 _ _ rfl (w.heap.size + 1 + 1) #[.func (.func C) #[] #[], .nilFunc, .nilFunc] rfl rfl 263 #[.nilFunc, .nilFunc, .nilFunc] hbk (by kernel_rfl) rfl (by simp [Value.oneCell']) ?_
    simp only [Act.put, List.setIfInBounds_toArray, List.getElem_toArray, List.getElem_cons_succ, List.getElem_cons_zero, List.set_cons_succ, List.set_cons_zero]
    refine hK.out _ _ ((cell_setRow_other _ _ _ _ (by show w.heap.size ≠ _; omega)).trans hc1) (fun _ => ?_)
    refine wpAnyH_done (by kernel_rfl) ?_ _
    have hbl : Below (w.heap.size + 2) (W2 w op a b c n k) (w1.setRow (w.heap.size + 1 + 1) #[.func (.func C) #[] #[], .nilFunc, .nilFunc]) := by
      have q1 : Below (w.heap.size + 2) (W2 w op a b c n k) w1 := ((below_one (W2 w op a b c n k) (.cells #[.nilFunc, .nilFunc, .nilFunc] 263)).mono (by simp [W2])).trans (hb1.mono (show w.heap.size + 2 ≤ _ by simp))
      exact q1.trans ⟨rfl, rfl, rfl, by simp [World.setRow], fun i hi => setRow_other _ _ _ _ (by omega)⟩
    have hD := doW_of (X := w.heap.size + 1 + 1) h hbl (Nat.le_refl _) (cell_setRow_same _ _ _ _ _ _ _ hbk) (cell_setRow_same _ _ _ _ _ _ _ hbk) (cell_setRow_same _ _ _ _ _ _ _ hbk)
    have HD := hide hD
    generalize w1.setRow (w.heap.size + 1 + 1) #[.func (.func C) #[] #[], .nilFunc, .nilFunc] = w3 at *
    clear hb1 hc1 hc0 hbl hD hbk hHeld
    generalize w.heap.size + 1 + 1 = X at *
    have hai : (a : Int) < 8 := by omega
    have hbi : (b : Int) < 8 := by omega
    have hne : ¬ B = w.heap.size := by omega
    have hne1 : ¬ B = w.heap.size + 1 := by omega
    have hnX : ¬ B = X := by have := HD.out.xl; omega
    have e2 := neq_fun2 C
    have x0 := HD.out.x0
    have i1 := HD.out.i1
    have i2 := HD.out.i2
    have cb : w3.cell? ⟨B, 3 + b, none⟩ = some (.int .u64 (rb : Int)) := by rw [← HRB.out]; exact HD.out.mb.cell (HD.out.mb.l8.gR v fuel b hb)
    obtain ⟨ra, hra⟩ : ∃ ra, m.R[a]! = ra := ⟨_, rfl⟩
    have ca := HD.out.mb.cell (HD.out.mb.l8.gR v fuel a ha)
    rw [hra] at ca
    clear hra
    have za := HD.out.mb.z (3 + a)
    go_wp2_with fail
    refine wp_region_but (S := (fun w' => w'.cell? ⟨w.heap.size, 1, none⟩ = some (.int .i64 (a : Int)) ∧ w'.cell? ⟨w.heap.size, 2, none⟩ = some (.int .i64 (b : Int)) ∧ w'.cell? ⟨X, 0, none⟩ = some (.func (.func C) #[] #[]) ∧ w'.cell? ⟨B, 3 + b, none⟩ = some (.int .u64 (rb : Int)))) 16 (by kernel_rfl) ⟨i1, i2, x0, cb⟩ (fun hH => ?_)
    refine anyBut_plain (i := 0) (v := .pointer (some ⟨B, 0, none⟩)) rfl (by decide) (by kernel_rfl) (by kernel_rfl) (by kernel_rfl) (fun _ _ _ h => h) (Or.inl ⟨by kernel_rfl, fun w9 _ => by kernel_rfl⟩) hH ?_
    simp only [Act.put, List.setIfInBounds_toArray]
    refine anyBut_plain (i := 1) (v := .pointer (some ⟨w.heap.size, 1, none⟩)) rfl (by decide) (by kernel_rfl) (by kernel_rfl) (by kernel_rfl) (fun _ _ _ h => h) (Or.inl ⟨by kernel_rfl, fun w9 _ => by kernel_rfl⟩) hH ?_
    simp only [Act.put]
    refine anyBut_load (i := 2) (v := .int .i64 (a : Int)) rfl (by decide) (by kernel_rfl) (by kernel_rfl) (by kernel_rfl) (by kernel_rfl) (by kernel_rfl) (fun _ _ _ h => h) (Or.inl ⟨by kernel_rfl, fun w9 hS => by obtain ⟨s0, s1, s2, s3⟩ := hS; go_simp⟩) hH ?_
    simp only [Act.put]
    refine anyBut_plain (i := 3) (v := .pointer (some ⟨X, 0, none⟩)) rfl (by decide) (by kernel_rfl) (by kernel_rfl) (by kernel_rfl) (fun _ _ _ h => h) (Or.inl ⟨by kernel_rfl, fun w9 _ => by kernel_rfl⟩) hH ?_
    simp only [Act.put]
    refine anyBut_load (i := 4) (v := .func (.func C) #[] #[]) rfl (by decide) (by kernel_rfl) (by kernel_rfl) (by kernel_rfl) (by kernel_rfl) (by kernel_rfl) (fun _ _ _ h => h) (Or.inl ⟨by kernel_rfl, fun w9 hS => by obtain ⟨s0, s1, s2, s3⟩ := hS; go_simp⟩) hH ?_
    simp only [Act.put]
    refine anyBut_plain (i := 5) (v := .pointer (some ⟨B, 0, none⟩)) rfl (by decide) (by kernel_rfl) (by kernel_rfl) (by kernel_rfl) (fun _ _ _ h => h) (Or.inl ⟨by kernel_rfl, fun w9 _ => by kernel_rfl⟩) hH ?_
    simp only [Act.put]
    refine anyBut_plain (i := 6) (v := .pointer (some ⟨w.heap.size, 2, none⟩)) rfl (by decide) (by kernel_rfl) (by kernel_rfl) (by kernel_rfl) (fun _ _ _ h => h) (Or.inl ⟨by kernel_rfl, fun w9 _ => by kernel_rfl⟩) hH ?_
    simp only [Act.put]
    refine anyBut_load (i := 7) (v := .int .i64 (b : Int)) rfl (by decide) (by kernel_rfl) (by kernel_rfl) (by kernel_rfl) (by kernel_rfl) (by kernel_rfl) (fun _ _ _ h => h) (Or.inl ⟨by kernel_rfl, fun w9 hS => by obtain ⟨s0, s1, s2, s3⟩ := hS; go_simp⟩) hH ?_
    simp only [Act.put]
    refine anyBut_plain (i := 8) (v := .pointer (some ⟨B, 0, none⟩)) rfl (by decide) (by kernel_rfl) (by kernel_rfl) (by kernel_rfl) (fun _ _ _ h => h) (Or.inl ⟨by kernel_rfl, fun w9 _ => by kernel_rfl⟩) hH ?_
    simp only [Act.put]
    refine anyBut_plain (i := 9) (v := .pointer (some ⟨B, 3, none⟩)) rfl (by decide) (by kernel_rfl) (by kernel_rfl) (by kernel_rfl) (fun _ _ _ h => h) (Or.inl ⟨by kernel_rfl, fun w9 _ => by kernel_rfl⟩) hH ?_
    simp only [Act.put]
    refine anyBut_plain (i := 10) (v := .pointer (some ⟨B, 3 + b, none⟩)) rfl (by decide) (by kernel_rfl) (by kernel_rfl) (by kernel_rfl) (fun _ _ _ h => h) (Or.inl ⟨by kernel_rfl, fun w9 _ => by go_simp⟩) hH ?_
    simp only [Act.put]
    refine anyBut_load (i := 11) (v := .int .u64 (rb : Int)) rfl (by decide) (by kernel_rfl) (by kernel_rfl) (by kernel_rfl) (by kernel_rfl) (by kernel_rfl) (fun _ _ _ h => h) (Or.inl ⟨by kernel_rfl, fun w9 hS => by obtain ⟨s0, s1, s2, s3⟩ := hS; go_simp⟩) hH ?_
    simp only [Act.put]
    refine anyBut_plain (i := 13) (v := .pointer (some ⟨B, 0, none⟩)) rfl (by decide) (by kernel_rfl) (by kernel_rfl) (by kernel_rfl) (fun _ _ _ h => h) (Or.inl ⟨by kernel_rfl, fun w9 _ => by kernel_rfl⟩) hH ?_
    simp only [Act.put]
    refine anyBut_plain (i := 14) (v := .pointer (some ⟨B, 3, none⟩)) rfl (by decide) (by kernel_rfl) (by kernel_rfl) (by kernel_rfl) (fun _ _ _ h => h) (Or.inl ⟨by kernel_rfl, fun w9 _ => by kernel_rfl⟩) hH ?_
    simp only [Act.put]
    refine anyBut_one (i := 12) rfl (by kernel_rfl) (fun K hK => ?_)
    go_simp
    refine (HC.out _).mono ?_
    rintro e w4 ⟨rfl, n4, rfl⟩
    refine hK.out _ _ (fun _ => ⟨i1, i2, x0, cb⟩) ?_
    refine anyBut_plain (i := 15) (v := .pointer (some ⟨B, 3 + a, none⟩)) rfl (by decide) (by kernel_rfl) (by kernel_rfl) (by kernel_rfl) (fun _ _ _ h => h) (Or.inl ⟨by kernel_rfl, fun w9 _ => by go_simp⟩) ⟨i1, i2, x0, cb⟩ ?_
    simp only [Act.put, List.setIfInBounds_toArray]
    refine anyBut_one (i := 16) rfl (by kernel_rfl) (fun K hK => ?_)
    go_simp
    refine hK.out _ _ (fun h0 => absurd h0 (by decide)) (anyBut_done (by kernel_rfl) ?_ _)
    have HW := hide (three_end (r := r) HD.out n4 ha hlt)
    generalize (w3.drewN (1 + n4)).setCell ⟨B, 3 + a, none⟩ (.int .u64 (r : Int)) = w5 at *
    obtain ⟨r0, r1, rf⟩ := HW.out.act
    clear x0 i1 i2 cb ca za hH hK HD
    go_wp2_with fail
    obtain ⟨q1, q2, q3⟩ := HW.out.fin hlt (.int .i64 0) (.string ⟨#[]⟩)
    exact bodyPost_ret (results_cell_row (p := 4) (ty := 207) rfl _ _ (w.heap.size + 1) 207 _ (0, 0) _ rfl q1 Tryz.underlying207 rfl (by kernel_rfl)) rfl ⟨rfl, q2, q3⟩
end Go.Proofs.YtkfnedhllfdghaaGreatDoor
end

section
namespace Go.Proofs.YtkfnedhllfdghaaGreatDoor
set_option maxRecDepth 20000
open Go.RowKit Go.Shelf

/-- a panic with a trap -/
def Traps (e : Ending) (t : Nat) : Prop := e = .panicked [{ v := .iface 202 (.int .i64 (t : Int)), recovered := false }]
/-- what an instruction comes to -/
structure APost (w : World) (B : Nat) (v : Value) (fuel : Nat) (d : Nat × Mc × Nat × ByteArray) (e : Ending) (w' : World) : Prop where
  ok : d.1 = 0 → e = .returned (.agg #[.int .i64 (d.2.2.1 : Int), .string d.2.2.2])
  no : d.1 ≠ 0 → Traps e d.1
  mb : Mb w' B d.2.1 v fuel
  gr : w.grownBy w' (some B)
set_option maxRecDepth 20000 in
set_option maxHeartbeats 8000000 in
theorem do_does (op : Int) (C : FuncId) (hop : MeanAt op .nilFunc .nilFunc (.func (.func C) #[] #[])) (a b c : Nat) (n : Int) (k : Nat) (d : Nat × Mc × Nat × ByteArray) {w : World} {B fuel : Nat} {m : Mc} {v : Value} (h : Mb w B m v fuel)
    (hrun : ∀ (l : Array Value) (w1 : World), (callFunc C l).run Tryz.prog w1 = .ok (.enter C l) w1)
    (hC : ∀ w1, Mb w1 B m v fuel → w.grownBy w1 (some B) → Calls Tryz.prog C #[.pointer (some ⟨B, 0, none⟩), .agg #[.int .i64 op, .int .i64 (a : Int), .int .i64 (b : Int), .int .i64 (c : Int), .int .i64 n, .int .u64 (k : Int)]] w1 (APost w1 B v fuel d)) :
    Calls Tryz.prog 155 #[.pointer (some ⟨B, 0, none⟩), .agg #[.int .i64 op, .int .i64 (a : Int), .int .i64 (b : Int), .int .i64 (c : Int), .int .i64 n, .int .u64 (k : Int)]] w (APost w B v fuel d) := by
  have HM := hide meanings_any
  have HI := hide hop
  have HC := hide hC
  have HB := hide h
  have hlt := h.lt
  clear hop hC
  go_enter Tryz.func155, Tryz.ntmps155
  go_wp2_with fail
  have hidx := HI.out
  unfold MeanAt at hidx
  refine wp_region_held_drew (S := fun w' => w'.cell? ⟨w.heap.size, 0, none⟩ = some (.int .i64 op)) (by kernel_rfl) (by simp) (fun hHeld => ?_)
  refine wpAnyH_take (i := 1) (v := .pointer (some ⟨w.heap.size, 0, none⟩)) rfl (by kernel_rfl) (by kernel_rfl) (by kernel_rfl) (fun _ _ _ h => h) (Or.inl ⟨by rfl, fun w1 hSw => by clear hHeld; go_simp⟩) hHeld ?_
  simp only [Act.put, List.setIfInBounds_toArray]
  refine wpAnyH_take (i := 2) (v := .int .i64 op) rfl (by kernel_rfl) (by kernel_rfl) (by kernel_rfl) (fun _ _ _ h => h) (Or.inl ⟨by rfl, fun w1 hSw => by clear hHeld; go_simp⟩) hHeld ?_
  simp only [Act.put]
  refine wpAnyH_ready (rs := [0, 4]) (by kernel_rfl) (by simp) ?_
  refine AllReadyH.cons rfl (fun K hK => ?_) (AllReadyH.cons rfl (fun K hK => ?_) AllReadyH.nil)
  · go_simp
    refine (HM.out _).mono ?_
    rintro e w1 ⟨rfl, hb1'⟩
    have hb1 := below_undrew hb1'
    clear hb1'
    have hc1 : w1.cell? ⟨w.heap.size, 0, none⟩ = some (.int .i64 op) := (hb1.cell (p := ⟨w.heap.size, 0, none⟩) (by simp; omega)).trans hHeld
    refine hK.out _ _ hc1 (fun hHeld => ?_)
    refine wpAnyH_take (i := 3) (v := .agg #[.nilFunc, .nilFunc, .func (.func C) #[] #[]]) rfl (by kernel_rfl) (by kernel_rfl) (by kernel_rfl) (fun _ _ _ h => h) (Or.inl ⟨by rfl, fun w1 hSw => by clear hHeld; go_simp⟩) hHeld ?_
    simp only [Act.put]
    refine wpAnyH_ready (rs := [4]) (by kernel_rfl) (by simp) ?_
    refine AllReadyH.cons rfl (fun K hK => ?_) AllReadyH.nil
    go_simp
    have hc2 : (w1.alloc (.cells #[.nilFunc, .nilFunc, .nilFunc] 263)).cell? ⟨w.heap.size, 0, none⟩ = some (.int .i64 op) := Lib.cell?_alloc_some _ hc1
    refine hK.out _ _ hc2 (fun hHeld => ?_)
    refine wpAnyH_ready (rs := [5]) (by kernel_rfl) (by simp) ?_
    refine AllReadyH.cons rfl (fun K hK => ?_) AllReadyH.nil
    go_simp
    refine hK.out _ _ (Lib.cell?_alloc_some _ hc1) (fun _ => ?_)
    refine wpAnyH_done (by kernel_rfl) ?_ _
    have hbl : Below (w.heap.size + 2) (W2 w op a b c n k) (w1.alloc (.cells #[.nilFunc, .nilFunc, .func (.func C) #[] #[]] 263)) := (hb1.mono (show w.heap.size + 2 ≤ _ by simp) : Below (w.heap.size + 2) (W2 w op a b c n k) w1).alloc (Nat.le_trans (show w.heap.size + 2 ≤ _ by simp) hb1.size) _
    have hD := doW_of (X := w1.heap.size) (t0 := .nilFunc) (t1 := .nilFunc) (t2 := .func (.func C) #[] #[]) h hbl (Nat.le_trans (show w.heap.size + 2 ≤ _ by simp) hb1.size) (by simp) (by simp) (by simp)
    have HD := hide hD
    generalize w1.alloc (.cells #[.nilFunc, .nilFunc, .func (.func C) #[] #[]] 263) = w3 at *
    generalize w1.heap.size = X at *
    clear hb1 hc1 hc2 hbl hD hHeld hK
    have e1 := neq_nil2
    have e2 := neq_nil3
    have x0 := HD.out.x0
    have x1 := HD.out.x1
    have x2 := HD.out.x2
    have i0 := HD.out.i0
    have i1 := HD.out.i1
    have i2 := HD.out.i2
    have i3 := HD.out.i3
    have i4 := HD.out.i4
    have i5 := HD.out.i5
    have hg3 := i_grown_below HD.out.gr (some B)
    go_wp2_with fail
    refine (HC.out w3 HD.out.mb hg3).mono ?_
    rintro e w4 ⟨hok, hno, hmb, hgr⟩
    have rz4 : w4.heap[w.heap.size + 1]? = some (.cells #[.int .i64 0, .string ⟨#[]⟩] 207 (0, 0)) := (hgr.block _ (by have := HD.out.sz; omega) (by simp; omega)).trans HD.out.rz
    have HW : Hid (DoE w w4 B d.2.1 v fuel) := ⟨rz4, hmb, i_grown_trans hg3 hgr⟩
    obtain ⟨r0, r1, rf⟩ := HW.out.act
    clear x0 x1 x2 i0 i1 i2 i3 i4 i5 HD rz4 hmb hgr hg3
    by_cases hd : d.1 = 0
    · have he := hok hd
      subst he
      clear hok hno
      go_wp2_with fail
      obtain ⟨q1, q2, q3⟩ := HW.out.fin hlt (.int .i64 (d.2.2.1 : Int)) (.string d.2.2.2)
      exact bodyPost_ret (results_cell_row (p := 4) (ty := 207) rfl _ _ (w.heap.size + 1) 207 _ (0, 0) _ rfl q1 Tryz.underlying207 rfl (by kernel_rfl)) rfl ⟨fun _ => rfl, fun h0 => absurd hd h0, q2, q3⟩
    · have he := hno hd
      unfold Traps at he
      subst he
      clear hok hno
      go_wp2_with fail
      exact ⟨rfl, fun h0 => absurd h0 hd, fun _ => rfl, HW.out.mb, HW.out.gr⟩
  · go_simp
    have hc0 : ((((w.alloc (.cells #[.int .i64 op, .int .i64 (a : Int), .int .i64 (b : Int), .int .i64 (c : Int), .int .i64 n, .int .u64 (k : Int)] 189)).alloc (.cells #[.int .i64 0, .string ⟨#[]⟩] 207)).alloc (.cells #[.nilFunc, .nilFunc, .nilFunc] 263)).drew).cell? ⟨w.heap.size, 0, none⟩ = some (.int .i64 op) := Lib.cell?_alloc_some (W := W2 w op a b c n k) _ hHeld
    refine hK.out _ _ hc0 (fun hHeld => ?_)
    refine wpAnyH_ready (rs := [0]) (by kernel_rfl) (by simp) ?_
    refine AllReadyH.cons rfl (fun K hK => ?_) AllReadyH.nil
    go_simp
    refine (HM.out _).mono ?_
    rintro e w1 ⟨rfl, hb1'⟩
    have hb1 := below_undrew hb1'
    clear hb1'
    have hc1 : w1.cell? ⟨w.heap.size, 0, none⟩ = some (.int .i64 op) := (hb1.cell (p := ⟨w.heap.size, 0, none⟩) (by simp; omega)).trans hc0
    refine hK.out _ _ hc1 (fun hHeld => ?_)
    refine wpAnyH_take (i := 3) (v := .agg #[.nilFunc, .nilFunc, .func (.func C) #[] #[]]) rfl (by kernel_rfl) (by kernel_rfl) (by kernel_rfl) (fun _ _ _ h => h) (Or.inl ⟨by rfl, fun w1 hSw => by clear hHeld; go_simp⟩) hHeld ?_
    simp only [Act.put]
    refine wpAnyH_ready (rs := [5]) (by kernel_rfl) (by simp) ?_
    refine AllReadyH.cons rfl (fun K hK => ?_) AllReadyH.nil
    have hbk : w1.heap[w.heap.size + 1 + 1]? = some (.cells #[.nilFunc, .nilFunc, .nilFunc] 263 (0, 0)) := (hb1.block (w.heap.size + 1 + 1) (by simp)).trans (by have q := heap_alloc_new ((w.alloc (.cells #[.int .i64 op, .int .i64 (a : Int), .int .i64 (b : Int), .int .i64 (c : Int), .int .i64 n, .int .u64 (k : Int)] 189)).alloc (.cells #[.int .i64 0, .string ⟨#[]⟩] 207)) (.cells #[.nilFunc, .nilFunc, .nilFunc] 263); rw [World.size_alloc, World.size_alloc] at q; exact q)
    refine wp_store_row 263 _ _ rfl (w.heap.size + 1 + 1) #[.nilFunc, .nilFunc, .func (.func C) #[] #[]] rfl rfl 263 #[.nilFunc, .nilFunc, .nilFunc] hbk (by kernel_rfl) rfl (by simp [Value.oneCell']) ?_
    simp only [Act.put, List.setIfInBounds_toArray, List.getElem_toArray, List.getElem_cons_succ, List.getElem_cons_zero, List.set_cons_succ, List.set_cons_zero]
    refine hK.out _ _ ((cell_setRow_other _ _ _ _ (by show w.heap.size ≠ _; omega)).trans hc1) (fun _ => ?_)
    refine wpAnyH_done (by kernel_rfl) ?_ _
    have hbl : Below (w.heap.size + 2) (W2 w op a b c n k) (w1.setRow (w.heap.size + 1 + 1) #[.nilFunc, .nilFunc, .func (.func C) #[] #[]]) := by
      have q1 : Below (w.heap.size + 2) (W2 w op a b c n k) w1 := ((below_one (W2 w op a b c n k) (.cells #[.nilFunc, .nilFunc, .nilFunc] 263)).mono (by simp [W2])).trans (hb1.mono (show w.heap.size + 2 ≤ _ by simp))
      exact q1.trans ⟨rfl, rfl, rfl, by simp [World.setRow], fun i hi => setRow_other _ _ _ _ (by omega)⟩
    have hD := doW_of (X := w.heap.size + 1 + 1) h hbl (Nat.le_refl _) (cell_setRow_same _ _ _ _ _ _ _ hbk) (cell_setRow_same _ _ _ _ _ _ _ hbk) (cell_setRow_same _ _ _ _ _ _ _ hbk)
    have HD := hide hD
    generalize w1.setRow (w.heap.size + 1 + 1) #[.nilFunc, .nilFunc, .func (.func C) #[] #[]] = w3 at *
    clear hb1 hc1 hc0 hbl hD hbk hHeld
    generalize w.heap.size + 1 + 1 = X at *
    have e1 := neq_nil2
    have e2 := neq_nil3
    have x0 := HD.out.x0
    have x1 := HD.out.x1
    have x2 := HD.out.x2
    have i0 := HD.out.i0
    have i1 := HD.out.i1
    have i2 := HD.out.i2
    have i3 := HD.out.i3
    have i4 := HD.out.i4
    have i5 := HD.out.i5
    have hg3 := i_grown_below HD.out.gr (some B)
    go_wp2_with fail
    refine (HC.out w3 HD.out.mb hg3).mono ?_
    rintro e w4 ⟨hok, hno, hmb, hgr⟩
    have rz4 : w4.heap[w.heap.size + 1]? = some (.cells #[.int .i64 0, .string ⟨#[]⟩] 207 (0, 0)) := (hgr.block _ (by have := HD.out.sz; omega) (by simp; omega)).trans HD.out.rz
    have HW : Hid (DoE w w4 B d.2.1 v fuel) := ⟨rz4, hmb, i_grown_trans hg3 hgr⟩
    obtain ⟨r0, r1, rf⟩ := HW.out.act
    clear x0 x1 x2 i0 i1 i2 i3 i4 i5 HD rz4 hmb hgr hg3
    by_cases hd : d.1 = 0
    · have he := hok hd
      subst he
      clear hok hno
      go_wp2_with fail
      obtain ⟨q1, q2, q3⟩ := HW.out.fin hlt (.int .i64 (d.2.2.1 : Int)) (.string d.2.2.2)
      exact bodyPost_ret (results_cell_row (p := 4) (ty := 207) rfl _ _ (w.heap.size + 1) 207 _ (0, 0) _ rfl q1 Tryz.underlying207 rfl (by kernel_rfl)) rfl ⟨fun _ => rfl, fun h0 => absurd hd h0, q2, q3⟩
    · have he := hno hd
      unfold Traps at he
      subst he
      clear hok hno
      go_wp2_with fail
      exact ⟨rfl, fun h0 => absurd h0 hd, fun _ => rfl, HW.out.mb, HW.out.gr⟩
end Go.Proofs.YtkfnedhllfdghaaGreatDoor
end

section
namespace Go.Proofs.YtkfnedhllfdghaaGreatDoor
set_option maxRecDepth 20000
open Go.RowKit Go.Shelf

theorem w2_E {w : World} {B fuel k a b c : Nat} {m : Mc} {v : Value} {op n : Int} (h : Mb w B m v fuel) : DoE w (W2 w op a b c n k) B m v fuel :=
  have g2 : Below w.heap.size w (W2 w op a b c n k) := (below_one w _).trans ((below_one _ _).mono (by simp))
  ⟨by have q := heap_alloc_new (w.alloc (.cells #[.int .i64 op, .int .i64 (a : Int), .int .i64 (b : Int), .int .i64 (c : Int), .int .i64 n, .int .u64 (k : Int)] 189)) (.cells #[.int .i64 0, .string ⟨#[]⟩] 207); rw [World.size_alloc] at q; exact q, h.below g2 h.lt, i_grown_below g2 _⟩
theorem DoE.drew {w w5 : World} {B fuel : Nat} {m : Mc} {v : Value} (h : DoE w w5 B m v fuel) (q : Nat) : DoE w (w5.drewN q) B m v fuel :=
  ⟨h.rz, ⟨h.mb.blk, h.mb.l8⟩, ⟨h.gr.os, h.gr.tape, h.gr.output, h.gr.size, h.gr.block⟩⟩
theorem DoE.grow {w w5 w6 : World} {B fuel : Nat} {m m' : Mc} {v : Value} (h : DoE w w5 B m v fuel) (hB : B < w.heap.size) (g : w5.grownBy w6 (some B)) (hm : Mb w6 B m' v fuel) : DoE w w6 B m' v fuel :=
  ⟨(g.block _ (lt_of_block h.rz) (by simp; omega)).trans h.rz, hm, i_grown_trans h.gr g⟩
theorem DoE.set {w w5 : World} {B fuel : Nat} {m m' : Mc} {v : Value} (h : DoE w w5 B m v fuel) (hB : B < w.heap.size) {i : Nat} {u : Value}
    (he : (m.vs v fuel).set i u = m'.vs v fuel) (l8 : m'.L8) : DoE w (w5.setCell ⟨B, i, none⟩ u) B m' v fuel :=
  h.grow hB (i_grown_set _ _ _ _) (h.mb.set he l8)

theorem Mc.L8.of {m m' : Mc} (h : m.L8) (hR : m'.R.length = m.R.length) (hS : m'.S.length = m.S.length) (hP : m'.P.length = m.P.length) : m'.L8 := ⟨hR.trans h.R, hS.trans h.S, hP.trans h.P⟩
theorem Mb.drew {w : World} {B fuel : Nat} {m : Mc} {v : Value} (h : Mb w B m v fuel) : Mb w.drew B m v fuel := ⟨h.blk, h.l8⟩
theorem i_grown_drew {w w' : World} {r : Option Nat} (h : w.grownBy w' r) : w.grownBy w'.drew r := ⟨h.os, h.tape, h.output, h.size, h.block⟩
set_option maxHeartbeats 1000000 in
theorem pushI_ok {w : World} {B fuel : Nat} {m : Mc} {v : Value} (h : Mb w B m v fuel) (hp : m.pn < 8) (x : Nat) :
    Calls Tryz.prog 271 #[.pointer (some ⟨B, 20, none⟩), .int .i64 (x : Int)] w fun e w' => e = .returned (.tuple #[]) ∧ Mb w' B { m with P := m.P.set m.pn x, pn := m.pn + 1 } v fuel ∧ w.grownBy w' (some B) := by
  have c28 := h.cell (h.l8.g_pn v fuel)
  obtain ⟨y, hy⟩ : ∃ y, m.P[m.pn]! = y := ⟨_, rfl⟩
  have cy := h.cell (h.l8.gP v fuel m.pn hp)
  rw [hy] at cy
  clear hy
  have z := h.z
  have h1 := h.set (m' := { m with P := m.P.set m.pn x }) (h.l8.gPs v fuel m.pn x hp) (h.l8.of rfl rfl (by simp))
  have HS := hide (h1.set (h1.l8.s_pn v fuel (m.pn + 1)) (h1.l8.of rfl rfl rfl))
  have hk := h1.cell (h1.l8.g_pn v fuel)
  have hz1 := h1.z
  clear h1
  have HG := hide (i_grown_trans (i_grown_set w B (20 + m.pn) (.int .i64 (x : Int))) (i_grown_set _ B 28 (.int .i64 ((m.pn + 1 : Nat) : Int))))
  obtain ⟨n, hn⟩ : ∃ n, m.pn = n := ⟨_, rfl⟩
  rw [hn] at c28 cy hp HS HG ⊢
  simp only [hn] at hk hz1
  have hni : (n : Int) < 8 := by omega
  have hb : ((n : Int) == 8) = false := by rw [beq_eq_false_iff_ne]; omega
  clear hn h
  go_enter Tryz.func271, Tryz.ntmps271
  go_wp2_with fail
  go_region_held3 (fun w' => w'.cell? ⟨B, 28, none⟩ = some (.int .i64 (n : Int))) (first | exact c28 | exact hk) (first | fail)
  go_wp2_with fail
  exact ⟨rfl, _, results_none rfl _ _ _, rfl, HS.out.drew, i_grown_drew HG.out⟩
set_option maxHeartbeats 1000000 in
theorem pushI_no {w : World} {B fuel : Nat} {m : Mc} {v : Value} (h : Mb w B m v fuel) (hp : m.pn = 8) (x : Nat) :
    Calls Tryz.prog 271 #[.pointer (some ⟨B, 20, none⟩), .int .i64 (x : Int)] w fun e w' => Traps e 2 ∧ w' = w := by
  have c28 := h.cell (h.l8.g_pn v fuel)
  rw [hp] at c28
  unfold Traps
  go_enter Tryz.func271, Tryz.ntmps271
  go_wp2_with fail
  exact ⟨rfl, rfl, rfl⟩
set_option maxHeartbeats 1000000 in
theorem pushU_ok {w : World} {B fuel : Nat} {m : Mc} {v : Value} (h : Mb w B m v fuel) (hp : m.sn < 8) (x : Nat) :
    Calls Tryz.prog 273 #[.pointer (some ⟨B, 11, none⟩), .int .u64 (x : Int)] w fun e w' => e = .returned (.tuple #[]) ∧ Mb w' B { m with S := m.S.set m.sn x, sn := m.sn + 1 } v fuel ∧ w.grownBy w' (some B) := by
  have c28 := h.cell (h.l8.g_sn v fuel)
  obtain ⟨y, hy⟩ : ∃ y, m.S[m.sn]! = y := ⟨_, rfl⟩
  have cy := h.cell (h.l8.gS v fuel m.sn hp)
  rw [hy] at cy
  clear hy
  have z := h.z
  have h1 := h.set (m' := { m with S := m.S.set m.sn x }) (h.l8.gSs v fuel m.sn x hp) (h.l8.of rfl (by simp) rfl)
  have HS := hide (h1.set (h1.l8.s_sn v fuel (m.sn + 1)) (h1.l8.of rfl rfl rfl))
  have hk := h1.cell (h1.l8.g_sn v fuel)
  have hz1 := h1.z
  clear h1
  have HG := hide (i_grown_trans (i_grown_set w B (11 + m.sn) (.int .u64 (x : Int))) (i_grown_set _ B 19 (.int .i64 ((m.sn + 1 : Nat) : Int))))
  obtain ⟨n, hn⟩ : ∃ n, m.sn = n := ⟨_, rfl⟩
  rw [hn] at c28 cy hp HS HG ⊢
  simp only [hn] at hk hz1
  have hni : (n : Int) < 8 := by omega
  have hb : ((n : Int) == 8) = false := by rw [beq_eq_false_iff_ne]; omega
  clear hn h
  go_enter Tryz.func273, Tryz.ntmps273
  go_wp2_with fail
  go_region_held3 (fun w' => w'.cell? ⟨B, 19, none⟩ = some (.int .i64 (n : Int))) (first | exact c28 | exact hk) (first | fail)
  go_wp2_with fail
  exact ⟨rfl, _, results_none rfl _ _ _, rfl, HS.out.drew, i_grown_drew HG.out⟩
set_option maxHeartbeats 1000000 in
theorem pushU_no {w : World} {B fuel : Nat} {m : Mc} {v : Value} (h : Mb w B m v fuel) (hp : m.sn = 8) (x : Nat) :
    Calls Tryz.prog 273 #[.pointer (some ⟨B, 11, none⟩), .int .u64 (x : Int)] w fun e w' => Traps e 2 ∧ w' = w := by
  have c28 := h.cell (h.l8.g_sn v fuel)
  rw [hp] at c28
  unfold Traps
  go_enter Tryz.func273, Tryz.ntmps273
  go_wp2_with fail
  exact ⟨rfl, rfl, rfl⟩
set_option maxHeartbeats 1000000 in
theorem popI_ok {w : World} {B fuel : Nat} {m : Mc} {v : Value} (h : Mb w B m v fuel) (hp : m.pn ≤ 8) (h0 : m.pn ≠ 0) :
    Calls Tryz.prog 272 #[.pointer (some ⟨B, 20, none⟩)] w fun e w' => e = .returned (.int .i64 (m.P[m.pn - 1]! : Int)) ∧ Mb w' B { m with pn := m.pn - 1 } v fuel ∧ w.grownBy w' (some B) := by
  have c28 := h.cell (h.l8.g_pn v fuel)
  have z := h.z
  have h1 := h.set (h.l8.s_pn v fuel (m.pn - 1)) (h.l8.of rfl rfl rfl)
  have HS := hide h1
  obtain ⟨y, hy⟩ : ∃ y, m.P[m.pn - 1]! = y := ⟨_, rfl⟩
  have cy := h1.cell (h1.l8.gP v fuel (m.pn - 1) (by omega))
  have hk := h1.cell (h1.l8.g_pn v fuel)
  clear h1
  rw [hy] at cy ⊢
  clear hy
  have HG := hide (i_grown_set w B 28 (.int .i64 ((m.pn - 1 : Nat) : Int)))
  obtain ⟨n, hn⟩ : ∃ n, m.pn = n + 1 := ⟨m.pn - 1, by omega⟩
  rw [hn] at c28 hp h0
  rw [hn, Nat.add_sub_cancel] at HS HG cy ⊢
  simp only [hn, Nat.add_sub_cancel] at hk
  have hni : (n : Int) < 8 := by omega
  have hb : ((n : Int) + 1 == 0) = false := by rw [beq_eq_false_iff_ne]; omega
  have hcast : ((n + 1 : Nat) : Int) = (n : Int) + 1 := by omega
  rw [hcast] at c28
  clear hn h h0 hcast
  go_enter Tryz.func272, Tryz.ntmps272
  go_wp2_with fail
  go_region_held3 (fun w' => w'.cell? ⟨B, 28, none⟩ = some (.int .i64 (n : Int)) ∧ w'.cell? ⟨B, 20 + n, none⟩ = some (.int .i64 (y : Int))) (first | exact ⟨hk, cy⟩) (first | fail)
  go_wp2_with fail
  go_ret
  exact ⟨rfl, HS.out.drew, i_grown_drew HG.out⟩
set_option maxHeartbeats 1000000 in
theorem popI_no {w : World} {B fuel : Nat} {m : Mc} {v : Value} (h : Mb w B m v fuel) (hp : m.pn = 0) :
    Calls Tryz.prog 272 #[.pointer (some ⟨B, 20, none⟩)] w fun e w' => Traps e 3 ∧ w' = w := by
  have c28 := h.cell (h.l8.g_pn v fuel)
  rw [hp] at c28
  unfold Traps
  go_enter Tryz.func272, Tryz.ntmps272
  go_wp2_with fail
  exact ⟨rfl, rfl, rfl⟩
set_option maxHeartbeats 1000000 in
theorem popU_ok {w : World} {B fuel : Nat} {m : Mc} {v : Value} (h : Mb w B m v fuel) (hp : m.sn ≤ 8) (h0 : m.sn ≠ 0) :
    Calls Tryz.prog 274 #[.pointer (some ⟨B, 11, none⟩)] w fun e w' => e = .returned (.int .u64 (m.S[m.sn - 1]! : Int)) ∧ Mb w' B { m with sn := m.sn - 1 } v fuel ∧ w.grownBy w' (some B) := by
  have c28 := h.cell (h.l8.g_sn v fuel)
  have z := h.z
  have h1 := h.set (h.l8.s_sn v fuel (m.sn - 1)) (h.l8.of rfl rfl rfl)
  have HS := hide h1
  obtain ⟨y, hy⟩ : ∃ y, m.S[m.sn - 1]! = y := ⟨_, rfl⟩
  have cy := h1.cell (h1.l8.gS v fuel (m.sn - 1) (by omega))
  have hk := h1.cell (h1.l8.g_sn v fuel)
  clear h1
  rw [hy] at cy ⊢
  clear hy
  have HG := hide (i_grown_set w B 19 (.int .i64 ((m.sn - 1 : Nat) : Int)))
  obtain ⟨n, hn⟩ : ∃ n, m.sn = n + 1 := ⟨m.sn - 1, by omega⟩
  rw [hn] at c28 hp h0
  rw [hn, Nat.add_sub_cancel] at HS HG cy ⊢
  simp only [hn, Nat.add_sub_cancel] at hk
  have hni : (n : Int) < 8 := by omega
  have hb : ((n : Int) + 1 == 0) = false := by rw [beq_eq_false_iff_ne]; omega
  have hcast : ((n + 1 : Nat) : Int) = (n : Int) + 1 := by omega
  rw [hcast] at c28
  clear hn h h0 hcast
  go_enter Tryz.func274, Tryz.ntmps274
  go_wp2_with fail
  go_region_held3 (fun w' => w'.cell? ⟨B, 19, none⟩ = some (.int .i64 (n : Int)) ∧ w'.cell? ⟨B, 11 + n, none⟩ = some (.int .u64 (y : Int))) (first | exact ⟨hk, cy⟩) (first | fail)
  go_wp2_with fail
  go_ret
  exact ⟨rfl, HS.out.drew, i_grown_drew HG.out⟩
set_option maxHeartbeats 1000000 in
theorem popU_no {w : World} {B fuel : Nat} {m : Mc} {v : Value} (h : Mb w B m v fuel) (hp : m.sn = 0) :
    Calls Tryz.prog 274 #[.pointer (some ⟨B, 11, none⟩)] w fun e w' => Traps e 3 ∧ w' = w := by
  have c28 := h.cell (h.l8.g_sn v fuel)
  rw [hp] at c28
  unfold Traps
  go_enter Tryz.func274, Tryz.ntmps274
  go_wp2_with fail
  exact ⟨rfl, rfl, rfl⟩
end Go.Proofs.YtkfnedhllfdghaaGreatDoor
end

section
namespace Go.Proofs.YtkfnedhllfdghaaGreatDoor
set_option maxRecDepth 20000
open Go.RowKit Go.Shelf

theorem fin2 {w w' : World} {B fuel : Nat} {m : Mc} {v : Value} (h : Mb w' B m v fuel) (g : w.grownBy w' (some B)) (hs : w'.heap.size = w.heap.size) (o1 : Obj) (k t : Value) :
    ((w'.alloc o1).alloc (.cells #[k, t] 207)).heap[w.heap.size + 1]? = some (.cells #[k, t] 207 (0, 0)) ∧ Mb ((w'.alloc o1).alloc (.cells #[k, t] 207)) B m v fuel ∧ w.grownBy ((w'.alloc o1).alloc (.cells #[k, t] 207)) (some B) := by
  have g2 : Below w'.heap.size w' ((w'.alloc o1).alloc (.cells #[k, t] 207)) := (below_one w' _).trans ((below_one _ _).mono (by simp))
  refine ⟨?_, h.below g2 h.lt, i_grown_trans g (i_grown_below g2 _)⟩
  have q := heap_alloc_new (w'.alloc o1) (.cells #[k, t] 207)
  rw [World.size_alloc, hs] at q
  exact q
theorem w2_cell {w w' : World} (hs : w'.heap.size = w.heap.size) (cs : Array Value) (T : Nat) (o2 : Obj) (i : Nat) (u : Value) (hi : cs[i]? = some u) : ((w'.alloc (.cells cs T)).alloc o2).cell? ⟨w.heap.size, i, none⟩ = some u := by
  have q : ((w'.alloc (.cells cs T)).alloc o2).heap[w.heap.size]? = some (.cells cs T (0, 0)) := (heap_alloc_old _ _ (by simp [hs])).trans (by rw [← hs]; exact heap_alloc_new w' _)
  simp [World.cell?, q, hi]
theorem size_set (w : World) (B i : Nat) (u : Value) : (w.setCell ⟨B, i, none⟩ u).heap.size = w.heap.size := by show (w.heap.modify B _).size = _; simp
set_option maxRecDepth 20000 in
set_option maxHeartbeats 2000000 in
theorem jump_any (op : Int) (a b c n k : Nat)  {w : World} {B fuel : Nat} {m : Mc} {v : Value} (h : Mb w B m v fuel) :
    Calls Tryz.prog 236 #[.pointer (some ⟨B, 0, none⟩), .agg #[.int .i64 op, .int .i64 (a : Int), .int .i64 (b : Int), .int .i64 (c : Int), .int .i64 (n : Int), .int .u64 (k : Int)]] w (APost w B v fuel (0, { m with pl := n }, 0, ByteArray.empty)) := by
  have HB := hide h
  have hlt := h.lt
  have hne : ¬ B = w.heap.size := by omega
  have hne1 : ¬ B = w.heap.size + 1 := by omega
  have za := h.z
  have c2 := h.cell (h.l8.g_pl v fuel)
  have H1 := hide (h.set (h.l8.s_pl v fuel n) (h.l8.of rfl rfl rfl))
  go_enter Tryz.func236, Tryz.ntmps236
  go_wp2_with fail
  obtain ⟨q1, q2, q3⟩ := fin2 H1.out (i_grown_set w B 2 _) (size_set w B 2 _) (.cells #[.int .i64 op, .int .i64 (a : Int), .int .i64 (b : Int), .int .i64 (c : Int), .int .i64 (n : Int), .int .u64 (k : Int)] 189) (.int .i64 0) (.string ⟨#[]⟩)
  exact bodyPost_ret (results_cell_row (p := 4) (ty := 207) rfl _ _ (w.heap.size + 1) 207 _ (0, 0) _ rfl q1 Tryz.underlying207 rfl (by kernel_rfl)) rfl ⟨fun _ => rfl, fun h0 => absurd rfl h0, q2, q3⟩
set_option maxRecDepth 20000 in
set_option maxHeartbeats 2000000 in
theorem i_set_any (op : Int) (a b c n k : Nat) (ha : a < 8) {w : World} {B fuel : Nat} {m : Mc} {v : Value} (h : Mb w B m v fuel) :
    Calls Tryz.prog 223 #[.pointer (some ⟨B, 0, none⟩), .agg #[.int .i64 op, .int .i64 (a : Int), .int .i64 (b : Int), .int .i64 (c : Int), .int .i64 (n : Int), .int .u64 (k : Int)]] w (APost w B v fuel (0, { m with R := m.R.set a k }, 0, ByteArray.empty)) := by
  have HB := hide h
  have hlt := h.lt
  have hne : ¬ B = w.heap.size := by omega
  have hne1 : ¬ B = w.heap.size + 1 := by omega
  have za := h.z
  have hai : (a : Int) < 8 := by omega
  obtain ⟨ra, hra⟩ : ∃ ra, m.R[a]! = ra := ⟨_, rfl⟩
  have ca := h.cell (h.l8.gR v fuel a ha)
  rw [hra] at ca
  clear hra
  have H1 := hide (h.set (h.l8.gRs v fuel a k ha) (h.l8.setR a k))
  have k1 := w2_cell (size_set w B (3 + a) (.int .u64 (k : Int))) #[.int .i64 op, .int .i64 (a : Int), .int .i64 (b : Int), .int .i64 (c : Int), .int .i64 (n : Int), .int .u64 (k : Int)] 189 (.cells #[.int .i64 0, .string ⟨#[]⟩] 207) 1 _ rfl
  have k5 := w2_cell (size_set w B (3 + a) (.int .u64 (k : Int))) #[.int .i64 op, .int .i64 (a : Int), .int .i64 (b : Int), .int .i64 (c : Int), .int .i64 (n : Int), .int .u64 (k : Int)] 189 (.cells #[.int .i64 0, .string ⟨#[]⟩] 207) 5 _ rfl
  go_enter Tryz.func223, Tryz.ntmps223
  go_wp2_with fail
  go_region_held3 (fun w' => w'.cell? ⟨w.heap.size, 1, none⟩ = some (.int .i64 (a : Int)) ∧ w'.cell? ⟨w.heap.size, 5, none⟩ = some (.int .u64 (k : Int))) (first | go_keep | exact ⟨k1, k5⟩) (first | fail)
  go_wp2_with fail
  obtain ⟨q1, q2, q3⟩ := fin2 H1.out (i_grown_set w B (3 + a) _) (size_set w B (3 + a) _) (.cells #[.int .i64 op, .int .i64 (a : Int), .int .i64 (b : Int), .int .i64 (c : Int), .int .i64 (n : Int), .int .u64 (k : Int)] 189) (.int .i64 0) (.string ⟨#[]⟩)
  exact bodyPost_ret (results_cell_row (p := 4) (ty := 207) rfl _ _ (w.heap.size + 1) 207 _ (0, 0) _ rfl q1 Tryz.underlying207 rfl (by kernel_rfl)) rfl ⟨fun _ => rfl, fun h0 => absurd rfl h0, q2.drew, i_grown_drew q3⟩
set_option maxRecDepth 20000 in
set_option maxHeartbeats 2000000 in
theorem halt_any (op : Int) (a b c n k : Nat)  {w : World} {B fuel : Nat} {m : Mc} {v : Value} (h : Mb w B m v fuel) :
    Calls Tryz.prog 246 #[.pointer (some ⟨B, 0, none⟩), .agg #[.int .i64 op, .int .i64 (a : Int), .int .i64 (b : Int), .int .i64 (c : Int), .int .i64 (n : Int), .int .u64 (k : Int)]] w (APost w B v fuel (0, { m with ov := true }, 0, ByteArray.empty)) := by
  have HB := hide h
  have hlt := h.lt
  have hne : ¬ B = w.heap.size := by omega
  have hne1 : ¬ B = w.heap.size + 1 := by omega
  have za := h.z
  have c2 := h.cell (h.l8.g_ov v fuel)
  have H1 := hide (h.set (h.l8.s_ov v fuel true) (h.l8.of rfl rfl rfl))
  go_enter Tryz.func246, Tryz.ntmps246
  go_wp2_with fail
  obtain ⟨q1, q2, q3⟩ := fin2 H1.out (i_grown_set w B 32 _) (size_set w B 32 _) (.cells #[.int .i64 op, .int .i64 (a : Int), .int .i64 (b : Int), .int .i64 (c : Int), .int .i64 (n : Int), .int .u64 (k : Int)] 189) (.int .i64 0) (.string ⟨#[]⟩)
  exact bodyPost_ret (results_cell_row (p := 4) (ty := 207) rfl _ _ (w.heap.size + 1) 207 _ (0, 0) _ rfl q1 Tryz.underlying207 rfl (by kernel_rfl)) rfl ⟨fun _ => rfl, fun h0 => absurd rfl h0, q2, q3⟩
set_option maxRecDepth 20000 in
set_option maxHeartbeats 2000000 in
theorem fail_any (op : Int) (a b c n k : Nat)  {w : World} {B fuel : Nat} {m : Mc} {v : Value} (h : Mb w B m v fuel) :
    Calls Tryz.prog 245 #[.pointer (some ⟨B, 0, none⟩), .agg #[.int .i64 op, .int .i64 (a : Int), .int .i64 (b : Int), .int .i64 (c : Int), .int .i64 (n : Int), .int .u64 (k : Int)]] w (APost w B v fuel (7, m, 0, ByteArray.empty)) := by
  have HB := hide h
  have hlt := h.lt
  have hne : ¬ B = w.heap.size := by omega
  have hne1 : ¬ B = w.heap.size + 1 := by omega
  have za := h.z
  go_enter Tryz.func245, Tryz.ntmps245
  go_wp2_with fail
  obtain ⟨q1, q2, q3⟩ := fin2 HB.out (w := w) ⟨rfl, rfl, rfl, Nat.le_refl _, fun _ _ _ => rfl⟩ rfl (.cells #[.int .i64 op, .int .i64 (a : Int), .int .i64 (b : Int), .int .i64 (c : Int), .int .i64 (n : Int), .int .u64 (k : Int)] 189) (.int .i64 0) (.string ⟨#[]⟩)
  exact ⟨rfl, fun h0 => absurd (show (7 : Nat) = 0 from h0) (by decide), fun _ => rfl, q2, q3⟩
set_option maxRecDepth 20000 in
set_option maxHeartbeats 2000000 in
theorem jumpIf_any (op : Int) (a b c n k : Nat) (ha : a < 8) (ra : Nat) (h64 : ra < 18446744073709551616) {w : World} {B fuel : Nat} {m : Mc} {v : Value} (h : Mb w B m v fuel) (hr : m.R[a]! = ra) :
    Calls Tryz.prog 237 #[.pointer (some ⟨B, 0, none⟩), .agg #[.int .i64 op, .int .i64 (a : Int), .int .i64 (b : Int), .int .i64 (c : Int), .int .i64 (n : Int), .int .u64 (k : Int)]] w (APost w B v fuel (0, { m with pl := if clsN ra = 2 then m.pl else n }, 0, ByteArray.empty)) := by
  have HB := hide h
  have hlt := h.lt
  have hne : ¬ B = w.heap.size := by omega
  have hne1 : ¬ B = w.heap.size + 1 := by omega
  have za := h.z
  have hai : (a : Int) < 8 := by omega
  have ca := h.cell (h.l8.gR v fuel a ha)
  rw [hr] at ca
  have c2 := h.cell (h.l8.g_pl v fuel)
  have H1 := hide (h.set (h.l8.s_pl v fuel n) (h.l8.of rfl rfl rfl))
  have HC := hide (class_any ra h64)
  by_cases hc : clsN ra = 2
  · rw [if_pos hc]
    rw [hc] at HC
    clear hc
    go_enter Tryz.func237, Tryz.ntmps237
    go_wp2_with fail
    go_region_held3 (fun w' => w'.cell? ⟨w.heap.size, 1, none⟩ = some (.int .i64 (a : Int)) ∧ w'.cell? ⟨B, 3 + a, none⟩ = some (.int .u64 (ra : Int))) (go_keep) (first | (go_at_call 269; refine (HC.out _).mono ?_; rintro e w4 ⟨rfl, rfl⟩))
    go_wp2_with fail
    obtain ⟨q1, q2, q3⟩ := fin2 HB.out (w := w) ⟨rfl, rfl, rfl, Nat.le_refl _, fun _ _ _ => rfl⟩ rfl (.cells #[.int .i64 op, .int .i64 (a : Int), .int .i64 (b : Int), .int .i64 (c : Int), .int .i64 (n : Int), .int .u64 (k : Int)] 189) (.int .i64 0) (.string ⟨#[]⟩)
    exact bodyPost_ret (results_cell_row (p := 4) (ty := 207) rfl _ _ (w.heap.size + 1) 207 _ (0, 0) _ rfl q1 Tryz.underlying207 rfl (by kernel_rfl)) rfl ⟨fun _ => rfl, fun h0 => absurd rfl h0, q2.drew, i_grown_drew q3⟩
  · rw [if_neg hc]
    have hb : ((clsN ra : Int) != 2) = true := by rw [bne_iff_ne]; omega
    generalize (clsN ra : Int) = cl at *
    clear hc
    go_enter Tryz.func237, Tryz.ntmps237
    go_wp2_with fail
    go_region_held3 (fun w' => w'.cell? ⟨w.heap.size, 1, none⟩ = some (.int .i64 (a : Int)) ∧ w'.cell? ⟨B, 3 + a, none⟩ = some (.int .u64 (ra : Int))) (go_keep) (first | (go_at_call 269; refine (HC.out _).mono ?_; rintro e w4 ⟨rfl, rfl⟩))
    go_wp2_with fail
    obtain ⟨q1, q2, q3⟩ := fin2 H1.out (i_grown_set w B 2 _) (size_set w B 2 _) (.cells #[.int .i64 op, .int .i64 (a : Int), .int .i64 (b : Int), .int .i64 (c : Int), .int .i64 (n : Int), .int .u64 (k : Int)] 189) (.int .i64 0) (.string ⟨#[]⟩)
    exact bodyPost_ret (results_cell_row (p := 4) (ty := 207) rfl _ _ (w.heap.size + 1) 207 _ (0, 0) _ rfl q1 Tryz.underlying207 rfl (by kernel_rfl)) rfl ⟨fun _ => rfl, fun h0 => absurd rfl h0, q2.drew, i_grown_drew q3⟩
end Go.Proofs.YtkfnedhllfdghaaGreatDoor
end
