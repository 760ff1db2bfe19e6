import Derived.Test.YtpgehocadohkiaaGreatDoorMgAZ
import Derived.Deep.RegionHeld3
import Derived.Laws.EntriesVeiled

section
namespace Go.Proofs.YtpgehocadohkiaaGreatDoor
open Go.RowKit Go.Shelf

/-! A region whose last operation L writes what others read: a condition on the world is asked behind each operation till L has come up. -/
section
variable {P : Program} {ops : Array Oper} {Q : Exit → Act → World → Prop} {md : Region.Mode} {S T : World → Prop} {L : Nat}
def anyBut (P : Program) (md : Region.Mode) (ops : Array Oper) (Q : Exit → Act → World → Prop) (S : World → Prop) (L : Nat) : Nat → Array Bool → Act → World → Prop
  | 0, done, a, w => Region.ready md ops done = [] ∧ Q .normal a w
  | n + 1, done, a, w => (Region.ready md ops done = [] → Q .normal a w) ∧ ∀ i ∈ Region.ready md ops done, wpOp P ops Q i (fun a' w' => ((done.setIfInBounds i true).getD L true = false → S w') ∧ anyBut P md ops Q S L n (done.setIfInBounds i true) a' w') a w
theorem anyBut.any : ∀ (n : Nat) (done : Array Bool) (a : Act) (w : World), anyBut P md ops Q S L n done a w → wpAny P md ops Q n done a w
  | 0, _, _, _, h => h
  | n + 1, _, _, _, h => ⟨h.1, fun i hi => wpOp_mono (fun a' w' k => anyBut.any n _ a' w' k.2) (h.2 i hi)⟩
/-- L waits for i -/
def waitsFor (md : Region.Mode) (ops : Array Oper) (L i : Nat) : Bool := match ops[L]? with
  | some o => o.after.any fun e => Region.binds md e && e.on == i
  | none => false
theorem anyBut.first {i : Nat} {oi : Oper} {v : Value} (hi : ops[i]? = some oi) (hiL : L ≠ i) (hsel : ∀ (j : Nat) (o : Oper) cs b, ops[j]? = some o → o.op ≠ .select cs b)
    (hQ : ∀ c a w, Q (.panic c) (a.put oi.dst v) w → Q (.panic c) a w) (hw : (waitsFor md ops L i = true ∧ ∀ w, S w → T w) ∨ ∀ w, T w) :
    ∀ (n : Nat) (done : Array Bool) (a : Act) (w : World),
      (∀ j oj, ops[j]? = some oj → j ≠ i → done.getD j true = false → (∀ e ∈ oj.after, Region.binds md e = true → e.on ≠ i) → oi.apart ops oj = true) →
      i ∈ Region.ready md ops done → YieldsIf P ops T oi v a → (done.getD L true = false → S w) → ((∀ w, T w) ∨ done.getD L true = false) →
      anyBut P md ops Q S L n (done.setIfInBounds i true) (a.put oi.dst v) w → anyBut P md ops Q S L (n + 1) done a w := by
  intro n
  have unmet : ∀ {done : Array Bool}, i ∈ Region.ready md ops done → ¬ done.getD i false = true := fun {done} hr h1 => by
    have h0 := (mem_ready.1 hr).1
    rcases Nat.lt_or_ge i done.size with h' | h'
    · simp [h'] at h0 h1; rw [h0] at h1; cases h1
    · simp [Array.getElem?_eq_none h'] at h1
  have notL : waitsFor md ops L i = true → ∀ {done : Array Bool} {j : Nat}, i ∈ Region.ready md ops done → j ∈ Region.ready md ops done → j ≠ L := fun hw {_ _} hr hj e => by
    subst e
    obtain ⟨_, o, ho, hall⟩ := mem_ready.1 hj
    unfold waitsFor at hw
    rw [ho] at hw
    obtain ⟨k, hk, h1⟩ := Array.any_eq_true'.1 hw
    simp only [Bool.and_eq_true, beq_iff_eq] at h1
    have := hall k hk h1.1
    rw [h1.2] at this
    exact unmet hr this
  have same : ∀ (done : Array Bool) (d : Bool), (done.setIfInBounds i true).getD L d = done.getD L d := fun done d => getD_set_ne d (Ne.symm hiL)
  have hTw : ∀ {done : Array Bool} {w : World}, (done.getD L true = false → S w) → ((∀ w, T w) ∨ done.getD L true = false) → T w := fun hS hd => by
    rcases hw with ⟨_, h1⟩ | h1
    · rcases hd with h2 | h2
      · exact h2 _
      · exact h1 _ (hS h2)
    · exact h1 _
  induction n with
  | zero =>
    intro done a w _ hr hy hS hd H
    refine ⟨fun h => (by rw [h] at hr; cases hr), fun j hj => ?_⟩
    by_cases hji : j = i
    · subst hji; exact hy.wpOp hi (hTw hS hd) ⟨fun h => hS (by rw [← same]; exact h), H⟩
    · have := ready_mono hj hji
      rw [H.1] at this
      cases this
  | succ n ih =>
    intro done a w hfree hr hy hS hd H
    refine ⟨fun h => (by rw [h] at hr; cases hr), fun j hj => ?_⟩
    by_cases hji : j = i
    · subst hji; exact hy.wpOp hi (hTw hS hd) ⟨fun h => hS (by rw [← same]; exact h), H⟩
    · obtain ⟨hjun, oj, hoj, hall⟩ := mem_ready.1 hj
      have hnot : ∀ e ∈ oj.after, Region.binds md e = true → e.on ≠ i := fun e he hb heq => unmet hr (heq ▸ hall e he hb)
      have h2 := wpOp_putIf hoj (hfree j oj hoj hji hjun hnot) (fun cs b => hsel i oi cs b hi) (fun cs b => hsel j oj cs b hoj) hQ hy (H.2 j (ready_mono hj hji))
      have hS' : ∀ {w'}, (((done.setIfInBounds i true).setIfInBounds j true).getD L true = false → S w') → (done.setIfInBounds j true).getD L true = false → S w' := fun h1 h2 => h1 (by rw [Array.setIfInBounds_comm _ _ (Ne.symm hji), same]; exact h2)
      refine wpOp_mono (fun a' w' h3 => ⟨hS' h3.2.1, ih (done.setIfInBounds j true) a' w' (fun k ok hk hki hun hno => hfree k ok hk hki ?_ hno) (ready_mono hr (Ne.symm hji)) h3.1 (hS' h3.2.1) ?_ ?_⟩) h2
      · by_cases hjk : j = k
        · subst hjk; exact hjun
        · rw [getD_set_ne true hjk] at hun; exact hun
      · rcases hd with hd | hd
        · exact .inl hd
        · rcases hw with ⟨h1, _⟩ | h1
          · exact .inr (by rw [getD_set_ne true (notL h1 hr hj)]; exact hd)
          · exact .inl h1
      · rw [Array.setIfInBounds_comm _ _ hji]; exact h3.2.2
/-- a load that L waits for -/
theorem anyBut_load {i : Nat} {oi : Oper} {v : Value} {n : Nat} {done : Array Bool} {a : Act} {w : World} (hi : ops[i]? = some oi) (hiL : L ≠ i)
    (hs : Region.noSelect ops = true) (hf : Region.free md ops done i = true) (hr : (Region.ready md ops done).contains i = true) (hw : waitsFor md ops L i = true) (hd : done.getD L true = false)
    (hQ : ∀ c a w, Q (.panic c) (a.put oi.dst v) w → Q (.panic c) a w) (hy : YieldsIf P ops S oi v a) (hS : S w)
    (h : anyBut P md ops Q S L n (done.setIfInBounds i true) (a.put oi.dst v) w) : anyBut P md ops Q S L (n + 1) done a w :=
  anyBut.first hi hiL (Region.noSelect_spec hs) hQ (.inl ⟨hw, fun _ k => k⟩) n done a w (Region.free_spec hi hf) (by simpa using hr) hy (fun _ => hS) (.inr hd) h
/-- what does not hang on the world -/
theorem anyBut_plain {i : Nat} {oi : Oper} {v : Value} {n : Nat} {done : Array Bool} {a : Act} {w : World} (hi : ops[i]? = some oi) (hiL : L ≠ i)
    (hs : Region.noSelect ops = true) (hf : Region.free md ops done i = true) (hr : (Region.ready md ops done).contains i = true)
    (hQ : ∀ c a w, Q (.panic c) (a.put oi.dst v) w → Q (.panic c) a w) (hy : YieldsIf P ops (fun _ => True) oi v a) (hS : S w)
    (h : anyBut P md ops Q S L n (done.setIfInBounds i true) (a.put oi.dst v) w) : anyBut P md ops Q S L (n + 1) done a w :=
  anyBut.first (T := fun _ => True) hi hiL (Region.noSelect_spec hs) hQ (.inr fun _ => trivial) n done a w (Region.free_spec hi hf) (by simpa using hr) hy (fun _ => hS) (.inl fun _ => trivial) h
/-- one alone comes up -/
theorem anyBut_one {i : Nat} {o : Oper} {n : Nat} {done : Array Bool} {a : Act} {w : World} (ho : ops[i]? = some o) (hr : Region.ready md ops done = [i])
    (h : ∀ K' : Act → World → Prop, Shut (∀ a w, ((done.setIfInBounds i true).getD L true = false → S w) → anyBut P md ops Q S L n (done.setIfInBounds i true) a w → K' a w) → if Region.wanted o (yielded ops a.tmps) = true then Oper.wp P o a w K' Q else K' (a.put o.dst undef) w) :
    anyBut P md ops Q S L (n + 1) done a w :=
  ⟨fun h0 => (by rw [hr] at h0; cases h0), fun j hj => by
    rw [hr] at hj
    obtain rfl : j = i := by simpa using hj
    exact wpOp_step ho (fun K' hK => h K' (fun a w hS hW => hK a w ⟨hS, hW⟩))⟩
theorem anyBut_done {done : Array Bool} {a : Act} {w : World} (hr : Region.ready md ops done = []) (h : Q .normal a w) : ∀ n, anyBut P md ops Q S L n done a w
  | 0 => ⟨hr, h⟩
  | _ + 1 => ⟨fun _ => h, by rw [hr]; simp⟩
theorem wp_region_but (L : Nat) {id : Nat} {a : Act} {w : World} (hm : P.follows .mixedOrders = true) (hS : S w.drew)
    (h : S w.drew → anyBut P .any ops Q S L ops.size (Array.replicate ops.size false) a w.drew) : (Code.region id ops true).wp P Q a w :=
  wp_region_any hm (anyBut.any _ _ _ _ (h hS))
end
end Go.Proofs.YtpgehocadohkiaaGreatDoor
end

section
namespace Go.Proofs.YtpgehocadohkiaaGreatDoor
open Go.RowKit Go.Shelf

/-- what is told by nothing -/
abbrev noAct : Value := .agg #[.int .i64 0, .string ⟨#[]⟩]
/-- the table at an op -/
def MeanAt (op : Int) (t0 t1 t2 : Value) : Prop := ∀ W : World, (Instr.index 162 (.agg meansC) (.int .i64 op)).run Tryz.prog W = .ok (.agg #[t0, t1, t2]) W
theorem i_grown_trans {a b c : World} {r : Option Nat} (h : a.grownBy b r) (k : b.grownBy c r) : a.grownBy c r :=
  ⟨k.os.trans h.os, k.tape.trans h.tape, k.output.trans h.output, Nat.le_trans h.size k.size, fun i hi hn => (k.block i (Nat.lt_of_lt_of_le hi h.size) hn).trans (h.block i hi hn)⟩
theorem i_grown_set (w : World) (B k : Nat) (u : Value) : w.grownBy (w.setCell ⟨B, k, none⟩ u) (some B) :=
  ⟨rfl, rfl, rfl, by show _ ≤ (w.heap.modify B _).size; simp, fun i _ hi => Below.heap_setCell w ⟨B, k, none⟩ u i (fun e => hi (by rw [e]))⟩
theorem i_grown_below {w w' : World} (h : Below w.heap.size w w') (r : Option Nat) : w.grownBy w' r := ⟨h.os, h.tape, h.output, h.size, fun i hi _ => h.block i hi⟩
theorem i_grown_one (w : World) (o : Obj) (r : Option Nat) : w.grownBy (w.alloc o) r := i_grown_below (below_one w o) r
theorem three_new {W w1 : World} {T X : Nat} {k : Nat} (hb : Below k (W.alloc (.cells #[.nilFunc, .nilFunc, .nilFunc] T)) w1) (hX : W.heap.size = X) (hk : X < k) :
    (w1.cell? ⟨X, 0, none⟩ = some .nilFunc ∧ w1.cell? ⟨X, 1, none⟩ = some .nilFunc ∧ w1.cell? ⟨X, 2, none⟩ = some .nilFunc) ∧ ∀ i, w1.frozen? ⟨X, i, none⟩ = false := by
  subst hX
  have h := (hb.block _ hk).trans (heap_alloc_new W _)
  exact ⟨⟨by simp [World.cell?, h], by simp [World.cell?, h], by simp [World.cell?, h]⟩, fun i => by simp [World.frozen?, h]⟩
theorem below_undrew {k : Nat} {W w' : World} (h : Below k W.drew w') : Below k W w' := ⟨h.os, h.tape, h.output, h.size, h.block⟩
theorem neq_nil2 (W : World) : (binOp .neq 91 .nilFunc .nilFunc).run Tryz.prog W = .ok (.bool false) W := by kernel_rfl
theorem neq_nil3 (W : World) : (binOp .neq 158 .nilFunc .nilFunc).run Tryz.prog W = .ok (.bool false) W := by kernel_rfl
theorem neq_fun2 (C : FuncId) (W : World) : (binOp .neq 91 (.func (.func C) #[] #[]) .nilFunc).run Tryz.prog W = .ok (.bool true) W := by kernel_rfl
theorem neq_fun3 (C : FuncId) (W : World) : (binOp .neq 158 (.func (.func C) #[] #[]) .nilFunc).run Tryz.prog W = .ok (.bool true) W := by kernel_rfl
/-- the world with the instruction and the answer's cells -/
abbrev W2 (w : World) (op : Int) (a b c : Nat) (n : Int) (k : Nat) : World := (w.alloc (.cells #[.int .i64 op, .int .i64 (a : Int), .int .i64 (b : Int), .int .i64 (c : Int), .int .i64 n, .int .u64 (k : Int)] 71)).alloc (.cells #[.int .i64 0, .string ⟨#[]⟩] 56)
/-- behind the look into the table -/
structure DoW (w w3 : World) (X B : Nat) (m : Mc) (v : Value) (fuel : Nat) (op : Int) (a b c : Nat) (n : Int) (k : Nat) (t0 t1 t2 : Value) : Prop where
  x0 : w3.cell? ⟨X, 0, none⟩ = some t0
  x1 : w3.cell? ⟨X, 1, none⟩ = some t1
  x2 : w3.cell? ⟨X, 2, none⟩ = some t2
  i0 : w3.cell? ⟨w.heap.size, 0, none⟩ = some (.int .i64 op)
  i1 : w3.cell? ⟨w.heap.size, 1, none⟩ = some (.int .i64 (a : Int))
  i2 : w3.cell? ⟨w.heap.size, 2, none⟩ = some (.int .i64 (b : Int))
  i3 : w3.cell? ⟨w.heap.size, 3, none⟩ = some (.int .i64 (c : Int))
  i4 : w3.cell? ⟨w.heap.size, 4, none⟩ = some (.int .i64 n)
  i5 : w3.cell? ⟨w.heap.size, 5, none⟩ = some (.int .u64 (k : Int))
  rz : w3.heap[w.heap.size + 1]? = some (.cells #[.int .i64 0, .string ⟨#[]⟩] 56 (0, 0))
  mb : Mb w3 B m v fuel
  gr : Below w.heap.size w w3
  sz : w.heap.size + 2 ≤ w3.heap.size
  xl : w.heap.size + 2 ≤ X
theorem doW_of {w w3 : World} {X B fuel k a b c : Nat} {m : Mc} {v t0 t1 t2 : Value} {op n : Int} (h : Mb w B m v fuel) (hb : Below (w.heap.size + 2) (W2 w op a b c n k) w3) (hX : w.heap.size + 2 ≤ X)
    (x0 : w3.cell? ⟨X, 0, none⟩ = some t0) (x1 : w3.cell? ⟨X, 1, none⟩ = some t1) (x2 : w3.cell? ⟨X, 2, none⟩ = some t2) : DoW w w3 X B m v fuel op a b c n k t0 t1 t2 := by
  have b1 : w3.heap[w.heap.size]? = some (.cells #[.int .i64 op, .int .i64 (a : Int), .int .i64 (b : Int), .int .i64 (c : Int), .int .i64 n, .int .u64 (k : Int)] 71 (0, 0)) :=
    (hb.block _ (by omega)).trans ((heap_alloc_old _ _ (by simp)).trans (heap_alloc_new w _))
  have b2 : w3.heap[w.heap.size + 1]? = some (.cells #[.int .i64 0, .string ⟨#[]⟩] 56 (0, 0)) :=
    (hb.block _ (by omega)).trans (by have q := heap_alloc_new (w.alloc (.cells #[.int .i64 op, .int .i64 (a : Int), .int .i64 (b : Int), .int .i64 (c : Int), .int .i64 n, .int .u64 (k : Int)] 71)) (.cells #[.int .i64 0, .string ⟨#[]⟩] 56); rw [World.size_alloc] at q; exact q)
  have g2 : Below w.heap.size w w3 := ((below_one w _).trans ((below_one _ _).mono (by simp))).trans (hb.mono (by omega))
  have hs : w.heap.size + 2 ≤ w3.heap.size := Nat.le_trans (by simp [W2]) hb.size
  exact ⟨x0, x1, x2, by simp [World.cell?, b1], by simp [World.cell?, b1], by simp [World.cell?, b1], by simp [World.cell?, b1], by simp [World.cell?, b1], by simp [World.cell?, b1], b2, h.below g2 h.lt, g2, hs, hX⟩
/-- behind what an instruction did: the machine, the answer's cells, what else is as it was -/
structure DoE (w w5 : World) (B : Nat) (m : Mc) (v : Value) (fuel : Nat) : Prop where
  rz : w5.heap[w.heap.size + 1]? = some (.cells #[.int .i64 0, .string ⟨#[]⟩] 56 (0, 0))
  mb : Mb w5 B m v fuel
  gr : w.grownBy w5 (some B)
theorem DoE.act {w w5 : World} {B fuel : Nat} {m : Mc} {v : Value} (h : DoE w w5 B m v fuel) : w5.cell? ⟨w.heap.size + 1, 0, none⟩ = some (.int .i64 0) ∧ w5.cell? ⟨w.heap.size + 1, 1, none⟩ = some (.string ⟨#[]⟩) ∧ ∀ i, w5.frozen? ⟨w.heap.size + 1, i, none⟩ = false :=
  ⟨by simp [World.cell?, h.rz], by simp [World.cell?, h.rz], fun i => by simp [World.frozen?, h.rz]⟩
theorem DoW.set {w w3 : World} {X B fuel k a b c : Nat} {m m' : Mc} {v t0 t1 t2 : Value} {op n : Int} (h : DoW w w3 X B m v fuel op a b c n k t0 t1 t2) (q : Nat) (hB : B < w.heap.size) {i : Nat} {u : Value}
    (he : (m.vs v fuel).set i u = m'.vs v fuel) (l8 : m'.L8) : DoE w ((w3.drewN q).setCell ⟨B, i, none⟩ u) B m' v fuel :=
  have g1 : w.grownBy (w3.drewN q) (some B) := ⟨h.gr.os, h.gr.tape, h.gr.output, h.gr.size, fun i hi _ => h.gr.block i hi⟩
  ⟨(Below.heap_setCell (w3.drewN q) ⟨B, i, none⟩ u _ (by show w.heap.size + 1 ≠ B; omega)).trans h.rz, Mb.set (w := w3.drewN q) ⟨h.mb.blk, h.mb.l8⟩ he l8, i_grown_trans g1 (i_grown_set _ _ _ _)⟩
theorem Mc.L8.setR {m : Mc} (h : m.L8) (i x : Nat) : ({ m with R := m.R.set i x } : Mc).L8 := ⟨by simp [h.R], h.S, h.P⟩
theorem three_end {w w3 : World} {X B fuel k a b c : Nat} {m : Mc} {v t0 t1 t2 : Value} {op n : Int} {r : Nat} (h : DoW w w3 X B m v fuel op a b c n k t0 t1 t2) (q : Nat) (ha : a < 8) (hB : B < w.heap.size) : DoE w ((w3.drewN (1 + q)).setCell ⟨B, 3 + a, none⟩ (.int .u64 (r : Int))) B { m with R := m.R.set a r } v fuel :=
  h.set _ hB (h.mb.l8.gRs v fuel a r ha) (h.mb.l8.setR _ _)
theorem two_set {w5 : World} {Y T : Nat} {k0 t0 : Value} (h : w5.heap[Y]? = some (.cells #[k0, t0] T (0, 0))) (k t : Value) : ((w5.setCell ⟨Y, 0, none⟩ k).setCell ⟨Y, 1, none⟩ t).heap[Y]? = some (.cells #[k, t] T (0, 0)) := by
  have hlt := lt_of_block h
  have h' : w5.heap[Y] = .cells #[k0, t0] T (0, 0) := by simpa [Array.getElem?_eq_getElem hlt] using h
  have h1 : (w5.setCell ⟨Y, 0, none⟩ k).heap[Y]? = some (.cells #[k, t0] T (0, 0)) := by
    show (w5.heap.modify Y _)[Y]? = _
    rw [Array.getElem?_eq_getElem (by simpa using hlt), Array.getElem_modify_self, h']
    rfl
  have hlt1 := lt_of_block h1
  have h1' : (w5.setCell ⟨Y, 0, none⟩ k).heap[Y] = .cells #[k, t0] T (0, 0) := by simpa [Array.getElem?_eq_getElem hlt1] using h1
  show ((w5.setCell ⟨Y, 0, none⟩ k).heap.modify Y _)[Y]? = _
  rw [Array.getElem?_eq_getElem (by simpa using hlt1), Array.getElem_modify_self, h1']
  rfl
theorem DoE.fin {w w5 : World} {B fuel : Nat} {m : Mc} {v : Value} (h : DoE w w5 B m v fuel) (hB : B < w.heap.size) (k t : Value) :
    ((w5.setCell ⟨w.heap.size + 1, 0, none⟩ k).setCell ⟨w.heap.size + 1, 1, none⟩ t).heap[w.heap.size + 1]? = some (.cells #[k, t] 56 (0, 0)) ∧
    Mb ((w5.setCell ⟨w.heap.size + 1, 0, none⟩ k).setCell ⟨w.heap.size + 1, 1, none⟩ t) B m v fuel ∧ w.grownBy ((w5.setCell ⟨w.heap.size + 1, 0, none⟩ k).setCell ⟨w.heap.size + 1, 1, none⟩ t) (some B) :=
  have hb : ∀ i, i < w.heap.size → ((w5.setCell ⟨w.heap.size + 1, 0, none⟩ k).setCell ⟨w.heap.size + 1, 1, none⟩ t).heap[i]? = w5.heap[i]? := fun i hi =>
    (Below.heap_setCell _ ⟨w.heap.size + 1, 1, none⟩ t i (by show i ≠ w.heap.size + 1; omega)).trans (Below.heap_setCell w5 ⟨w.heap.size + 1, 0, none⟩ k i (by show i ≠ w.heap.size + 1; omega))
  have g2 := i_grown_trans (i_grown_set w5 (w.heap.size + 1) 0 k) (i_grown_set _ (w.heap.size + 1) 1 t)
  ⟨two_set h.rz k t, ⟨(hb B hB).trans h.mb.blk, h.mb.l8⟩, ⟨h.gr.os, h.gr.tape, h.gr.output, Nat.le_trans h.gr.size g2.size, fun i hi hn => (hb i hi).trans (h.gr.block i hi hn)⟩⟩
set_option maxRecDepth 20000 in
set_option maxHeartbeats 8000000 in
theorem do_three (op : Int) (C : FuncId) (hop : MeanAt op .nilFunc (.func (.func C) #[] #[]) .nilFunc) (a b c : Nat) (ha : a < 8) (hb : b < 8) (hc : c < 8) (n : Int) (k : Nat) (r rb rc : Nat) {w : World} {B fuel : Nat} {m : Mc} {v : Value} (h : Mb w B m v fuel) (hrb : m.R[b]! = rb) (hrc : m.R[c]! = rc)
    (hrun : ∀ (l : Array Value) (w1 : World), (callFunc C l).run Tryz.prog w1 = .ok (.enter C l) w1)
    (hC : ∀ w1, Calls Tryz.prog C #[.int .u64 (rb : Int), .int .u64 (rc : Int)] w1 fun e w' => e = .returned (.int .u64 (r : Int)) ∧ ∃ n, w' = w1.drewN n) :
    Calls Tryz.prog 62 #[.pointer (some ⟨B, 0, none⟩), .agg #[.int .i64 op, .int .i64 (a : Int), .int .i64 (b : Int), .int .i64 (c : Int), .int .i64 n, .int .u64 (k : Int)]] w
      fun e w' => e = .returned noAct ∧ Mb w' B { m with R := m.R.set a r } v fuel ∧ w.grownBy w' (some B) := by
  have HM := hide meanings_any
  have HI := hide hop
  have HC := hide hC
  have HB := hide h
  have hlt := h.lt
  clear hop hC
  have HRB := hide hrb
  have HRC := hide hrc
  clear hrb hrc
  go_enter Tryz.func62, Tryz.ntmps62
  go_wp2_with fail
  have hidx := HI.out
  unfold MeanAt at hidx
  refine wp_region_held_drew (S := fun w' => w'.cell? ⟨w.heap.size, 0, none⟩ = some (.int .i64 op)) (by kernel_rfl) (by simp) (fun hHeld => ?_)
  refine wpAnyH_take (i := 1) (v := .pointer (some ⟨w.heap.size, 0, none⟩)) rfl (by kernel_rfl) (by kernel_rfl) (by kernel_rfl) (fun _ _ _ h => h) (Or.inl ⟨by rfl, fun w1 hSw => by clear hHeld; go_simp⟩) hHeld ?_
  simp only [Act.put, List.setIfInBounds_toArray]
  refine wpAnyH_take (i := 2) (v := .int .i64 op) rfl (by kernel_rfl) (by kernel_rfl) (by kernel_rfl) (fun _ _ _ h => h) (Or.inl ⟨by rfl, fun w1 hSw => by clear hHeld; go_simp⟩) hHeld ?_
  simp only [Act.put]
  refine wpAnyH_ready (rs := [0, 4]) (by kernel_rfl) (by simp) ?_
  refine AllReadyH.cons rfl (fun K hK => ?_) (AllReadyH.cons rfl (fun K hK => ?_) AllReadyH.nil)
  · go_simp
    refine (HM.out _).mono ?_
    rintro e w1 ⟨rfl, hb1'⟩
    have hb1 := below_undrew hb1'
    clear hb1'
    have hc1 : w1.cell? ⟨w.heap.size, 0, none⟩ = some (.int .i64 op) := (hb1.cell (p := ⟨w.heap.size, 0, none⟩) (by simp; omega)).trans hHeld
    refine hK.out _ _ hc1 (fun hHeld => ?_)
    refine wpAnyH_take (i := 3) (v := .agg #[.nilFunc, .func (.func C) #[] #[], .nilFunc]) rfl (by kernel_rfl) (by kernel_rfl) (by kernel_rfl) (fun _ _ _ h => h) (Or.inl ⟨by rfl, fun w1 hSw => by clear hHeld; go_simp⟩) hHeld ?_
    simp only [Act.put]
    refine wpAnyH_ready (rs := [4]) (by kernel_rfl) (by simp) ?_
    refine AllReadyH.cons rfl (fun K hK => ?_) AllReadyH.nil
    go_simp
    have hc2 : (w1.alloc (.cells #[.nilFunc, .nilFunc, .nilFunc] 161)).cell? ⟨w.heap.size, 0, none⟩ = some (.int .i64 op) := Lib.cell?_alloc_some _ hc1
    refine hK.out _ _ hc2 (fun hHeld => ?_)
    refine wpAnyH_ready (rs := [5]) (by kernel_rfl) (by simp) ?_
    refine AllReadyH.cons rfl (fun K hK => ?_) AllReadyH.nil
    go_simp
    refine hK.out _ _ (Lib.cell?_alloc_some _ hc1) (fun _ => ?_)
    refine wpAnyH_done (by kernel_rfl) ?_ _
    have hbl : Below (w.heap.size + 2) (W2 w op a b c n k) (w1.alloc (.cells #[.nilFunc, .func (.func C) #[] #[], .nilFunc] 161)) := (hb1.mono (show w.heap.size + 2 ≤ _ by simp) : Below (w.heap.size + 2) (W2 w op a b c n k) w1).alloc (Nat.le_trans (show w.heap.size + 2 ≤ _ by simp) hb1.size) _
    have hD := doW_of (X := w1.heap.size) (t0 := .nilFunc) (t1 := .func (.func C) #[] #[]) (t2 := .nilFunc) h hbl (Nat.le_trans (show w.heap.size + 2 ≤ _ by simp) hb1.size) (by simp) (by simp) (by simp)
    have HD := hide hD
    generalize w1.alloc (.cells #[.nilFunc, .func (.func C) #[] #[], .nilFunc] 161) = w3 at *
    generalize w1.heap.size = X at *
    clear hb1 hc1 hc2 hbl hD hHeld hK
    have hai : (a : Int) < 8 := by omega
    have hbi : (b : Int) < 8 := by omega
    have hci : (c : Int) < 8 := by omega
    have hne : ¬ B = w.heap.size := by omega
    have hne1 : ¬ B = w.heap.size + 1 := by omega
    have hnX : ¬ B = X := by have := HD.out.xl; omega
    have e1 := neq_nil2
    have e2 := neq_fun3 C
    have x0 := HD.out.x0
    have x1 := HD.out.x1
    have i1 := HD.out.i1
    have i2 := HD.out.i2
    have i3 := HD.out.i3
    have cb : w3.cell? ⟨B, 3 + b, none⟩ = some (.int .u64 (rb : Int)) := by rw [← HRB.out]; exact HD.out.mb.cell (HD.out.mb.l8.gR v fuel b hb)
    have cc : w3.cell? ⟨B, 3 + c, none⟩ = some (.int .u64 (rc : Int)) := by rw [← HRC.out]; exact HD.out.mb.cell (HD.out.mb.l8.gR v fuel c hc)
    obtain ⟨ra, hra⟩ : ∃ ra, m.R[a]! = ra := ⟨_, rfl⟩
    have ca := HD.out.mb.cell (HD.out.mb.l8.gR v fuel a ha)
    rw [hra] at ca
    clear hra
    have za := HD.out.mb.z (3 + a)
    go_wp2_with fail
    refine wp_region_but (S := (fun w' => w'.cell? ⟨w.heap.size, 1, none⟩ = some (.int .i64 (a : Int)) ∧ w'.cell? ⟨w.heap.size, 2, none⟩ = some (.int .i64 (b : Int)) ∧ w'.cell? ⟨w.heap.size, 3, none⟩ = some (.int .i64 (c : Int)) ∧ w'.cell? ⟨X, 1, none⟩ = some (.func (.func C) #[] #[]) ∧ w'.cell? ⟨B, 3 + b, none⟩ = some (.int .u64 (rb : Int)) ∧ w'.cell? ⟨B, 3 + c, none⟩ = some (.int .u64 (rc : Int)))) 23 (by kernel_rfl) ⟨i1, i2, i3, x1, cb, cc⟩ (fun hH => ?_)
    refine anyBut_plain (i := 0) (v := .pointer (some ⟨B, 0, none⟩)) rfl (by decide) (by kernel_rfl) (by kernel_rfl) (by kernel_rfl) (fun _ _ _ h => h) (Or.inl ⟨by kernel_rfl, fun w9 _ => by kernel_rfl⟩) hH ?_
    simp only [Act.put, List.setIfInBounds_toArray]
    refine anyBut_plain (i := 1) (v := .pointer (some ⟨w.heap.size, 1, none⟩)) rfl (by decide) (by kernel_rfl) (by kernel_rfl) (by kernel_rfl) (fun _ _ _ h => h) (Or.inl ⟨by kernel_rfl, fun w9 _ => by kernel_rfl⟩) hH ?_
    simp only [Act.put]
    refine anyBut_load (i := 2) (v := .int .i64 (a : Int)) rfl (by decide) (by kernel_rfl) (by kernel_rfl) (by kernel_rfl) (by kernel_rfl) (by kernel_rfl) (fun _ _ _ h => h) (Or.inl ⟨by kernel_rfl, fun w9 hS => by obtain ⟨s0, s1, s2, s3, s4, s5⟩ := hS; go_simp⟩) hH ?_
    simp only [Act.put]
    refine anyBut_plain (i := 3) (v := .pointer (some ⟨X, 1, none⟩)) rfl (by decide) (by kernel_rfl) (by kernel_rfl) (by kernel_rfl) (fun _ _ _ h => h) (Or.inl ⟨by kernel_rfl, fun w9 _ => by kernel_rfl⟩) hH ?_
    simp only [Act.put]
    refine anyBut_load (i := 4) (v := .func (.func C) #[] #[]) rfl (by decide) (by kernel_rfl) (by kernel_rfl) (by kernel_rfl) (by kernel_rfl) (by kernel_rfl) (fun _ _ _ h => h) (Or.inl ⟨by kernel_rfl, fun w9 hS => by obtain ⟨s0, s1, s2, s3, s4, s5⟩ := hS; go_simp⟩) hH ?_
    simp only [Act.put]
    refine anyBut_plain (i := 5) (v := .pointer (some ⟨B, 0, none⟩)) rfl (by decide) (by kernel_rfl) (by kernel_rfl) (by kernel_rfl) (fun _ _ _ h => h) (Or.inl ⟨by kernel_rfl, fun w9 _ => by kernel_rfl⟩) hH ?_
    simp only [Act.put]
    refine anyBut_plain (i := 6) (v := .pointer (some ⟨w.heap.size, 2, none⟩)) rfl (by decide) (by kernel_rfl) (by kernel_rfl) (by kernel_rfl) (fun _ _ _ h => h) (Or.inl ⟨by kernel_rfl, fun w9 _ => by kernel_rfl⟩) hH ?_
    simp only [Act.put]
    refine anyBut_load (i := 7) (v := .int .i64 (b : Int)) rfl (by decide) (by kernel_rfl) (by kernel_rfl) (by kernel_rfl) (by kernel_rfl) (by kernel_rfl) (fun _ _ _ h => h) (Or.inl ⟨by kernel_rfl, fun w9 hS => by obtain ⟨s0, s1, s2, s3, s4, s5⟩ := hS; go_simp⟩) hH ?_
    simp only [Act.put]
    refine anyBut_plain (i := 8) (v := .pointer (some ⟨B, 0, none⟩)) rfl (by decide) (by kernel_rfl) (by kernel_rfl) (by kernel_rfl) (fun _ _ _ h => h) (Or.inl ⟨by kernel_rfl, fun w9 _ => by kernel_rfl⟩) hH ?_
    simp only [Act.put]
    refine anyBut_plain (i := 9) (v := .pointer (some ⟨B, 3, none⟩)) rfl (by decide) (by kernel_rfl) (by kernel_rfl) (by kernel_rfl) (fun _ _ _ h => h) (Or.inl ⟨by kernel_rfl, fun w9 _ => by kernel_rfl⟩) hH ?_
    simp only [Act.put]
    refine anyBut_plain (i := 10) (v := .pointer (some ⟨B, 3 + b, none⟩)) rfl (by decide) (by kernel_rfl) (by kernel_rfl) (by kernel_rfl) (fun _ _ _ h => h) (Or.inl ⟨by kernel_rfl, fun w9 _ => by go_simp⟩) hH ?_
    simp only [Act.put]
    refine anyBut_load (i := 11) (v := .int .u64 (rb : Int)) rfl (by decide) (by kernel_rfl) (by kernel_rfl) (by kernel_rfl) (by kernel_rfl) (by kernel_rfl) (fun _ _ _ h => h) (Or.inl ⟨by kernel_rfl, fun w9 hS => by obtain ⟨s0, s1, s2, s3, s4, s5⟩ := hS; go_simp⟩) hH ?_
    simp only [Act.put]
    refine anyBut_plain (i := 12) (v := .pointer (some ⟨B, 0, none⟩)) rfl (by decide) (by kernel_rfl) (by kernel_rfl) (by kernel_rfl) (fun _ _ _ h => h) (Or.inl ⟨by kernel_rfl, fun w9 _ => by kernel_rfl⟩) hH ?_
    simp only [Act.put]
    refine anyBut_plain (i := 13) (v := .pointer (some ⟨w.heap.size, 3, none⟩)) rfl (by decide) (by kernel_rfl) (by kernel_rfl) (by kernel_rfl) (fun _ _ _ h => h) (Or.inl ⟨by kernel_rfl, fun w9 _ => by kernel_rfl⟩) hH ?_
    simp only [Act.put]
    refine anyBut_load (i := 14) (v := .int .i64 (c : Int)) rfl (by decide) (by kernel_rfl) (by kernel_rfl) (by kernel_rfl) (by kernel_rfl) (by kernel_rfl) (fun _ _ _ h => h) (Or.inl ⟨by kernel_rfl, fun w9 hS => by obtain ⟨s0, s1, s2, s3, s4, s5⟩ := hS; go_simp⟩) hH ?_
    simp only [Act.put]
    refine anyBut_plain (i := 15) (v := .pointer (some ⟨B, 0, none⟩)) rfl (by decide) (by kernel_rfl) (by kernel_rfl) (by kernel_rfl) (fun _ _ _ h => h) (Or.inl ⟨by kernel_rfl, fun w9 _ => by kernel_rfl⟩) hH ?_
    simp only [Act.put]
    refine anyBut_plain (i := 16) (v := .pointer (some ⟨B, 3, none⟩)) rfl (by decide) (by kernel_rfl) (by kernel_rfl) (by kernel_rfl) (fun _ _ _ h => h) (Or.inl ⟨by kernel_rfl, fun w9 _ => by kernel_rfl⟩) hH ?_
    simp only [Act.put]
    refine anyBut_plain (i := 17) (v := .pointer (some ⟨B, 3 + c, none⟩)) rfl (by decide) (by kernel_rfl) (by kernel_rfl) (by kernel_rfl) (fun _ _ _ h => h) (Or.inl ⟨by kernel_rfl, fun w9 _ => by go_simp⟩) hH ?_
    simp only [Act.put]
    refine anyBut_load (i := 18) (v := .int .u64 (rc : Int)) rfl (by decide) (by kernel_rfl) (by kernel_rfl) (by kernel_rfl) (by kernel_rfl) (by kernel_rfl) (fun _ _ _ h => h) (Or.inl ⟨by kernel_rfl, fun w9 hS => by obtain ⟨s0, s1, s2, s3, s4, s5⟩ := hS; go_simp⟩) hH ?_
    simp only [Act.put]
    refine anyBut_plain (i := 20) (v := .pointer (some ⟨B, 0, none⟩)) rfl (by decide) (by kernel_rfl) (by kernel_rfl) (by kernel_rfl) (fun _ _ _ h => h) (Or.inl ⟨by kernel_rfl, fun w9 _ => by kernel_rfl⟩) hH ?_
    simp only [Act.put]
    refine anyBut_plain (i := 21) (v := .pointer (some ⟨B, 3, none⟩)) rfl (by decide) (by kernel_rfl) (by kernel_rfl) (by kernel_rfl) (fun _ _ _ h => h) (Or.inl ⟨by kernel_rfl, fun w9 _ => by kernel_rfl⟩) hH ?_
    simp only [Act.put]
    refine anyBut_one (i := 19) rfl (by kernel_rfl) (fun K hK => ?_)
    go_simp
    refine (HC.out _).mono ?_
    rintro e w4 ⟨rfl, n4, rfl⟩
    refine hK.out _ _ (fun _ => ⟨i1, i2, i3, x1, cb, cc⟩) ?_
    refine anyBut_plain (i := 22) (v := .pointer (some ⟨B, 3 + a, none⟩)) rfl (by decide) (by kernel_rfl) (by kernel_rfl) (by kernel_rfl) (fun _ _ _ h => h) (Or.inl ⟨by kernel_rfl, fun w9 _ => by go_simp⟩) ⟨i1, i2, i3, x1, cb, cc⟩ ?_
    simp only [Act.put, List.setIfInBounds_toArray]
    refine anyBut_one (i := 23) rfl (by kernel_rfl) (fun K hK => ?_)
    go_simp
    refine hK.out _ _ (fun h0 => absurd h0 (by decide)) (anyBut_done (by kernel_rfl) ?_ _)
    have HW := hide (three_end (r := r) HD.out n4 ha hlt)
    generalize (w3.drewN (1 + n4)).setCell ⟨B, 3 + a, none⟩ (.int .u64 (r : Int)) = w5 at *
    obtain ⟨r0, r1, rf⟩ := HW.out.act
    clear x0 x1 i1 i2 i3 cb cc ca za hH hK HD
    go_wp2_with fail
    obtain ⟨q1, q2, q3⟩ := HW.out.fin hlt (.int .i64 0) (.string ⟨#[]⟩)
    exact bodyPost_ret (results_cell_row (p := 4) (ty := 56) rfl _ _ (w.heap.size + 1) 56 _ (0, 0) _ rfl q1 Tryz.underlying56 rfl (by kernel_rfl)) rfl ⟨rfl, q2, q3⟩
  · go_simp
    have hc0 : ((((w.alloc (.cells #[.int .i64 op, .int .i64 (a : Int), .int .i64 (b : Int), .int .i64 (c : Int), .int .i64 n, .int .u64 (k : Int)] 71)).alloc (.cells #[.int .i64 0, .string ⟨#[]⟩] 56)).alloc (.cells #[.nilFunc, .nilFunc, .nilFunc] 161)).drew).cell? ⟨w.heap.size, 0, none⟩ = some (.int .i64 op) := Lib.cell?_alloc_some (W := W2 w op a b c n k) _ hHeld
    refine hK.out _ _ hc0 (fun hHeld => ?_)
    refine wpAnyH_ready (rs := [0]) (by kernel_rfl) (by simp) ?_
    refine AllReadyH.cons rfl (fun K hK => ?_) AllReadyH.nil
    go_simp
    refine (HM.out _).mono ?_
    rintro e w1 ⟨rfl, hb1'⟩
    have hb1 := below_undrew hb1'
    clear hb1'
    have hc1 : w1.cell? ⟨w.heap.size, 0, none⟩ = some (.int .i64 op) := (hb1.cell (p := ⟨w.heap.size, 0, none⟩) (by simp; omega)).trans hc0
    refine hK.out _ _ hc1 (fun hHeld => ?_)
    refine wpAnyH_take (i := 3) (v := .agg #[.nilFunc, .func (.func C) #[] #[], .nilFunc]) rfl (by kernel_rfl) (by kernel_rfl) (by kernel_rfl) (fun _ _ _ h => h) (Or.inl ⟨by rfl, fun w1 hSw => by clear hHeld; go_simp⟩) hHeld ?_
    simp only [Act.put]
    refine wpAnyH_ready (rs := [5]) (by kernel_rfl) (by simp) ?_
    refine AllReadyH.cons rfl (fun K hK => ?_) AllReadyH.nil
    have hbk : w1.heap[w.heap.size + 1 + 1]? = some (.cells #[.nilFunc, .nilFunc, .nilFunc] 161 (0, 0)) := (hb1.block (w.heap.size + 1 + 1) (by simp)).trans (by have q := heap_alloc_new ((w.alloc (.cells #[.int .i64 op, .int .i64 (a : Int), .int .i64 (b : Int), .int .i64 (c : Int), .int .i64 n, .int .u64 (k : Int)] 71)).alloc (.cells #[.int .i64 0, .string ⟨#[]⟩] 56)) (.cells #[.nilFunc, .nilFunc, .nilFunc] 161); rw [World.size_alloc, World.size_alloc] at q; exact q)
    refine wp_store_row 161 _ _ rfl (w.heap.size + 1 + 1) #[.nilFunc, .func (.func C) #[] #[], .nilFunc] rfl rfl 161 #[.nilFunc, .nilFunc, .nilFunc] hbk (by kernel_rfl) rfl (by simp [Value.oneCell']) ?_
    simp only [Act.put, List.setIfInBounds_toArray, List.getElem_toArray, List.getElem_cons_succ, List.getElem_cons_zero, List.set_cons_succ, List.set_cons_zero]
    refine hK.out _ _ ((cell_setRow_other _ _ _ _ (by show w.heap.size ≠ _; omega)).trans hc1) (fun _ => ?_)
    refine wpAnyH_done (by kernel_rfl) ?_ _
    have hbl : Below (w.heap.size + 2) (W2 w op a b c n k) (w1.setRow (w.heap.size + 1 + 1) #[.nilFunc, .func (.func C) #[] #[], .nilFunc]) := by
      have q1 : Below (w.heap.size + 2) (W2 w op a b c n k) w1 := ((below_one (W2 w op a b c n k) (.cells #[.nilFunc, .nilFunc, .nilFunc] 161)).mono (by simp [W2])).trans (hb1.mono (show w.heap.size + 2 ≤ _ by simp))
      exact q1.trans ⟨rfl, rfl, rfl, by simp [World.setRow], fun i hi => setRow_other _ _ _ _ (by omega)⟩
    have hD := doW_of (X := w.heap.size + 1 + 1) h hbl (Nat.le_refl _) (cell_setRow_same _ _ _ _ _ _ _ hbk) (cell_setRow_same _ _ _ _ _ _ _ hbk) (cell_setRow_same _ _ _ _ _ _ _ hbk)
    have HD := hide hD
    generalize w1.setRow (w.heap.size + 1 + 1) #[.nilFunc, .func (.func C) #[] #[], .nilFunc] = w3 at *
    clear hb1 hc1 hc0 hbl hD hbk hHeld
    generalize w.heap.size + 1 + 1 = X at *
    have hai : (a : Int) < 8 := by omega
    have hbi : (b : Int) < 8 := by omega
    have hci : (c : Int) < 8 := by omega
    have hne : ¬ B = w.heap.size := by omega
    have hne1 : ¬ B = w.heap.size + 1 := by omega
    have hnX : ¬ B = X := by have := HD.out.xl; omega
    have e1 := neq_nil2
    have e2 := neq_fun3 C
    have x0 := HD.out.x0
    have x1 := HD.out.x1
    have i1 := HD.out.i1
    have i2 := HD.out.i2
    have i3 := HD.out.i3
    have cb : w3.cell? ⟨B, 3 + b, none⟩ = some (.int .u64 (rb : Int)) := by rw [← HRB.out]; exact HD.out.mb.cell (HD.out.mb.l8.gR v fuel b hb)
    have cc : w3.cell? ⟨B, 3 + c, none⟩ = some (.int .u64 (rc : Int)) := by rw [← HRC.out]; exact HD.out.mb.cell (HD.out.mb.l8.gR v fuel c hc)
    obtain ⟨ra, hra⟩ : ∃ ra, m.R[a]! = ra := ⟨_, rfl⟩
    have ca := HD.out.mb.cell (HD.out.mb.l8.gR v fuel a ha)
    rw [hra] at ca
    clear hra
    have za := HD.out.mb.z (3 + a)
    go_wp2_with fail
    refine wp_region_but (S := (fun w' => w'.cell? ⟨w.heap.size, 1, none⟩ = some (.int .i64 (a : Int)) ∧ w'.cell? ⟨w.heap.size, 2, none⟩ = some (.int .i64 (b : Int)) ∧ w'.cell? ⟨w.heap.size, 3, none⟩ = some (.int .i64 (c : Int)) ∧ w'.cell? ⟨X, 1, none⟩ = some (.func (.func C) #[] #[]) ∧ w'.cell? ⟨B, 3 + b, none⟩ = some (.int .u64 (rb : Int)) ∧ w'.cell? ⟨B, 3 + c, none⟩ = some (.int .u64 (rc : Int)))) 23 (by kernel_rfl) ⟨i1, i2, i3, x1, cb, cc⟩ (fun hH => ?_)
    refine anyBut_plain (i := 0) (v := .pointer (some ⟨B, 0, none⟩)) rfl (by decide) (by kernel_rfl) (by kernel_rfl) (by kernel_rfl) (fun _ _ _ h => h) (Or.inl ⟨by kernel_rfl, fun w9 _ => by kernel_rfl⟩) hH ?_
    simp only [Act.put, List.setIfInBounds_toArray]
    refine anyBut_plain (i := 1) (v := .pointer (some ⟨w.heap.size, 1, none⟩)) rfl (by decide) (by kernel_rfl) (by kernel_rfl) (by kernel_rfl) (fun _ _ _ h => h) (Or.inl ⟨by kernel_rfl, fun w9 _ => by kernel_rfl⟩) hH ?_
    simp only [Act.put]
    refine anyBut_load (i := 2) (v := .int .i64 (a : Int)) rfl (by decide) (by kernel_rfl) (by kernel_rfl) (by kernel_rfl) (by kernel_rfl) (by kernel_rfl) (fun _ _ _ h => h) (Or.inl ⟨by kernel_rfl, fun w9 hS => by obtain ⟨s0, s1, s2, s3, s4, s5⟩ := hS; go_simp⟩) hH ?_
    simp only [Act.put]
    refine anyBut_plain (i := 3) (v := .pointer (some ⟨X, 1, none⟩)) rfl (by decide) (by kernel_rfl) (by kernel_rfl) (by kernel_rfl) (fun _ _ _ h => h) (Or.inl ⟨by kernel_rfl, fun w9 _ => by kernel_rfl⟩) hH ?_
    simp only [Act.put]
    refine anyBut_load (i := 4) (v := .func (.func C) #[] #[]) rfl (by decide) (by kernel_rfl) (by kernel_rfl) (by kernel_rfl) (by kernel_rfl) (by kernel_rfl) (fun _ _ _ h => h) (Or.inl ⟨by kernel_rfl, fun w9 hS => by obtain ⟨s0, s1, s2, s3, s4, s5⟩ := hS; go_simp⟩) hH ?_
    simp only [Act.put]
    refine anyBut_plain (i := 5) (v := .pointer (some ⟨B, 0, none⟩)) rfl (by decide) (by kernel_rfl) (by kernel_rfl) (by kernel_rfl) (fun _ _ _ h => h) (Or.inl ⟨by kernel_rfl, fun w9 _ => by kernel_rfl⟩) hH ?_
    simp only [Act.put]
    refine anyBut_plain (i := 6) (v := .pointer (some ⟨w.heap.size, 2, none⟩)) rfl (by decide) (by kernel_rfl) (by kernel_rfl) (by kernel_rfl) (fun _ _ _ h => h) (Or.inl ⟨by kernel_rfl, fun w9 _ => by kernel_rfl⟩) hH ?_
    simp only [Act.put]
    refine anyBut_load (i := 7) (v := .int .i64 (b : Int)) rfl (by decide) (by kernel_rfl) (by kernel_rfl) (by kernel_rfl) (by kernel_rfl) (by kernel_rfl) (fun _ _ _ h => h) (Or.inl ⟨by kernel_rfl, fun w9 hS => by obtain ⟨s0, s1, s2, s3, s4, s5⟩ := hS; go_simp⟩) hH ?_
    simp only [Act.put]
    refine anyBut_plain (i := 8) (v := .pointer (some ⟨B, 0, none⟩)) rfl (by decide) (by kernel_rfl) (by kernel_rfl) (by kernel_rfl) (fun _ _ _ h => h) (Or.inl ⟨by kernel_rfl, fun w9 _ => by kernel_rfl⟩) hH ?_
    simp only [Act.put]
    refine anyBut_plain (i := 9) (v := .pointer (some ⟨B, 3, none⟩)) rfl (by decide) (by kernel_rfl) (by kernel_rfl) (by kernel_rfl) (fun _ _ _ h => h) (Or.inl ⟨by kernel_rfl, fun w9 _ => by kernel_rfl⟩) hH ?_
    simp only [Act.put]
    refine anyBut_plain (i := 10) (v := .pointer (some ⟨B, 3 + b, none⟩)) rfl (by decide) (by kernel_rfl) (by kernel_rfl) (by kernel_rfl) (fun _ _ _ h => h) (Or.inl ⟨by kernel_rfl, fun w9 _ => by go_simp⟩) hH ?_
    simp only [Act.put]
    refine anyBut_load (i := 11) (v := .int .u64 (rb : Int)) rfl (by decide) (by kernel_rfl) (by kernel_rfl) (by kernel_rfl) (by kernel_rfl) (by kernel_rfl) (fun _ _ _ h => h) (Or.inl ⟨by kernel_rfl, fun w9 hS => by obtain ⟨s0, s1, s2, s3, s4, s5⟩ := hS; go_simp⟩) hH ?_
    simp only [Act.put]
    refine anyBut_plain (i := 12) (v := .pointer (some ⟨B, 0, none⟩)) rfl (by decide) (by kernel_rfl) (by kernel_rfl) (by kernel_rfl) (fun _ _ _ h => h) (Or.inl ⟨by kernel_rfl, fun w9 _ => by kernel_rfl⟩) hH ?_
    simp only [Act.put]
    refine anyBut_plain (i := 13) (v := .pointer (some ⟨w.heap.size, 3, none⟩)) rfl (by decide) (by kernel_rfl) (by kernel_rfl) (by kernel_rfl) (fun _ _ _ h => h) (Or.inl ⟨by kernel_rfl, fun w9 _ => by kernel_rfl⟩) hH ?_
    simp only [Act.put]
    refine anyBut_load (i := 14) (v := .int .i64 (c : Int)) rfl (by decide) (by kernel_rfl) (by kernel_rfl) (by kernel_rfl) (by kernel_rfl) (by kernel_rfl) (fun _ _ _ h => h) (Or.inl ⟨by kernel_rfl, fun w9 hS => by obtain ⟨s0, s1, s2, s3, s4, s5⟩ := hS; go_simp⟩) hH ?_
    simp only [Act.put]
    refine anyBut_plain (i := 15) (v := .pointer (some ⟨B, 0, none⟩)) rfl (by decide) (by kernel_rfl) (by kernel_rfl) (by kernel_rfl) (fun _ _ _ h => h) (Or.inl ⟨by kernel_rfl, fun w9 _ => by kernel_rfl⟩) hH ?_
    simp only [Act.put]
    refine anyBut_plain (i := 16) (v := .pointer (some ⟨B, 3, none⟩)) rfl (by decide) (by kernel_rfl) (by kernel_rfl) (by kernel_rfl) (fun _ _ _ h => h) (Or.inl ⟨by kernel_rfl, fun w9 _ => by kernel_rfl⟩) hH ?_
    simp only [Act.put]
    refine anyBut_plain (i := 17) (v := .pointer (some ⟨B, 3 + c, none⟩)) rfl (by decide) (by kernel_rfl) (by kernel_rfl) (by kernel_rfl) (fun _ _ _ h => h) (Or.inl ⟨by kernel_rfl, fun w9 _ => by go_simp⟩) hH ?_
    simp only [Act.put]
    refine anyBut_load (i := 18) (v := .int .u64 (rc : Int)) rfl (by decide) (by kernel_rfl) (by kernel_rfl) (by kernel_rfl) (by kernel_rfl) (by kernel_rfl) (fun _ _ _ h => h) (Or.inl ⟨by kernel_rfl, fun w9 hS => by obtain ⟨s0, s1, s2, s3, s4, s5⟩ := hS; go_simp⟩) hH ?_
    simp only [Act.put]
    refine anyBut_plain (i := 20) (v := .pointer (some ⟨B, 0, none⟩)) rfl (by decide) (by kernel_rfl) (by kernel_rfl) (by kernel_rfl) (fun _ _ _ h => h) (Or.inl ⟨by kernel_rfl, fun w9 _ => by kernel_rfl⟩) hH ?_
    simp only [Act.put]
    refine anyBut_plain (i := 21) (v := .pointer (some ⟨B, 3, none⟩)) rfl (by decide) (by kernel_rfl) (by kernel_rfl) (by kernel_rfl) (fun _ _ _ h => h) (Or.inl ⟨by kernel_rfl, fun w9 _ => by kernel_rfl⟩) hH ?_
    simp only [Act.put]
    refine anyBut_one (i := 19) rfl (by kernel_rfl) (fun K hK => ?_)
    go_simp
    refine (HC.out _).mono ?_
    rintro e w4 ⟨rfl, n4, rfl⟩
    refine hK.out _ _ (fun _ => ⟨i1, i2, i3, x1, cb, cc⟩) ?_
    refine anyBut_plain (i := 22) (v := .pointer (some ⟨B, 3 + a, none⟩)) rfl (by decide) (by kernel_rfl) (by kernel_rfl) (by kernel_rfl) (fun _ _ _ h => h) (Or.inl ⟨by kernel_rfl, fun w9 _ => by go_simp⟩) ⟨i1, i2, i3, x1, cb, cc⟩ ?_
    simp only [Act.put, List.setIfInBounds_toArray]
    refine anyBut_one (i := 23) rfl (by kernel_rfl) (fun K hK => ?_)
    go_simp
    refine hK.out _ _ (fun h0 => absurd h0 (by decide)) (anyBut_done (by kernel_rfl) ?_ _)
    have HW := hide (three_end (r := r) HD.out n4 ha hlt)
    generalize (w3.drewN (1 + n4)).setCell ⟨B, 3 + a, none⟩ (.int .u64 (r : Int)) = w5 at *
    obtain ⟨r0, r1, rf⟩ := HW.out.act
    clear x0 x1 i1 i2 i3 cb cc ca za hH hK HD
    go_wp2_with fail
    obtain ⟨q1, q2, q3⟩ := HW.out.fin hlt (.int .i64 0) (.string ⟨#[]⟩)
    exact bodyPost_ret (results_cell_row (p := 4) (ty := 56) rfl _ _ (w.heap.size + 1) 56 _ (0, 0) _ rfl q1 Tryz.underlying56 rfl (by kernel_rfl)) rfl ⟨rfl, q2, q3⟩
end Go.Proofs.YtpgehocadohkiaaGreatDoor
end
