import Derived.Test.YtmkfhcdmcncgkaaSyE
import Derived.Deep.WholeRow
namespace Go.Proofs.Ytmkfhcdmcncgkaa
open Go.RowKit Go.Shelf

theorem Try.infoPl : (Try.prog.info? 23).map (fun i => (i.zero, i.size, i.bytes)) = some (some (.pointer none), 1, 8) := by kernel_rfl
theorem Try.infoPa : (Try.prog.info? 27).map (fun i => (i.zero, i.size, i.bytes)) = some (some (.pointer none), 1, 8) := by kernel_rfl
def pbs (L : List Pp) : List Value := L.map fun p => .pointer (some ⟨p.b, 0, none⟩)
def pxs (L : List Pp) : List Value := L.map fun p => .pointer (some ⟨p.x, 0, none⟩)
theorem pbs_set {L : List Pp} {k : Nat} {p p' : Pp} (h : L[k]? = some p) (e : p'.b = p.b) : pbs (L.set k p') = pbs L := by
  obtain ⟨h1, h2⟩ := List.getElem?_eq_some_iff.1 h
  unfold pbs
  rw [List.map_set, e, ← h2]
  apply List.ext_getElem?
  intro i
  rw [List.getElem?_set]
  split
  · rename_i e2
    subst e2
    simp [h1]
  · rfl
theorem pxs_set {L : List Pp} {k : Nat} {p p' : Pp} (h : L[k]? = some p) (e : p'.x = p.x) : pxs (L.set k p') = pxs L := by
  obtain ⟨h1, h2⟩ := List.getElem?_eq_some_iff.1 h
  unfold pxs
  rw [List.map_set, e, ← h2]
  apply List.ext_getElem?
  intro i
  rw [List.getElem?_set]
  split
  · rename_i e2
    subst e2
    simp [h1]
  · rfl
/-- pairs that do not meet -/
structure Kp (w0 : World) (L : List Pp) (w : World) : Prop where
  pr : ∀ (i : Nat) (p : Pp), L[i]? = some p → Pr w p
  lo : ∀ (i : Nat) (p : Pp), L[i]? = some p → w0.heap.size ≤ p.b ∧ w0.heap.size ≤ p.m ∧ w0.heap.size ≤ p.x
  ne : ∀ (i j : Nat) (p q : Pp), L[i]? = some p → L[j]? = some q → i ≠ j → p.b ≠ q.b ∧ p.m ≠ q.m ∧ p.x ≠ q.x
/-- pairs in two rows -/
structure Mm (w0 : World) (vl va : Value) (L : List Pp) (w : World) : Prop where
  low : Below w0.heap.size w0 w
  rl : w.ownsRow w0.heap.size 23 1 vl L.length (pbs L)
  ra : w.ownsRow w0.heap.size 27 1 va L.length (pxs L)
  kp : Kp w0 L w
section
variable {w0 w w' : World} {vl va : Value} {L : List Pp} {p p' : Pp}
theorem Kp.below (h : Kp w0 L w) (hb : Below w.heap.size w w') : Kp w0 L w' := ⟨fun i p hp => (h.pr i p hp).below hb, h.lo, h.ne⟩
theorem Mm.below (h : Mm w0 vl va L w) (hb : Below w.heap.size w w') : Mm w0 vl va L w' := ⟨h.low.trans (hb.mono h.low.size), own_below h.rl hb, own_below h.ra hb, h.kp.below hb⟩
/-- another pair, when three blocks turn -/
theorem Pr.other {q : Pp} (h : Pr w q) (hp : Pr w p) (h3 : M3 p.b p.m p.x w w') (n1 : q.b ≠ p.b) (n2 : q.m ≠ p.m) (n3 : q.x ≠ p.x) : Pr w' q := by
  obtain ⟨es, c, pm⟩ := hp.sb.map.block
  obtain ⟨es', c', qm⟩ := h.sb.map.block
  obtain ⟨cp, px⟩ := hp.xs.blk
  obtain ⟨cq, qx⟩ := h.xs.blk
  have pb := hp.sb.blk
  have qb := h.sb.blk
  refine ⟨h.sb.keep (h3.block _ h.lt.1 n1 (fun e => ?_) (fun e => ?_)) (h3.block _ h.lt.2.1 (fun e => ?_) n2 (fun e => ?_)), h.ok, h.xs.keep (h3.block _ h.lt.2.2 (fun e => ?_) (fun e => ?_) n3)⟩
  · rw [e, pm] at qb; cases qb
  · rw [e, px] at qb; cases qb
  · rw [e, pb] at qm; cases qm
  · rw [e, px] at qm; cases qm
  · rw [e, pb] at qx; cases qx
  · rw [e, pm] at qx; cases qx
theorem get_set {k : Nat} (hs : L[k]? = some p) (j : Nat) (y : Pp) (hy : (L.set k p')[j]? = some y) : (j = k ∧ y = p') ∨ (j ≠ k ∧ L[j]? = some y) := by
  have hp : k < L.length := (List.getElem?_eq_some_iff.1 hs).1
  by_cases hj : j = k
  · subst hj
    rw [List.getElem?_set_self hp] at hy
    exact .inl ⟨rfl, by injection hy with hy; exact hy.symm⟩
  · rw [List.getElem?_set_ne (Ne.symm hj)] at hy
    exact .inr ⟨hj, hy⟩
/-- a row of pointers, when three blocks turn -/
theorem row_m3 {n : Nat} {v : Value} {e : TypeId} {xs : List Value} {B : Nat} (h : w.ownsRow B e 1 v n xs) (hp : Pr w p) (h3 : M3 p.b p.m p.x w w') (e1 : e ≠ 52) (e2 : e ≠ 39) : w'.ownsRow B e 1 v n xs := by
  obtain ⟨es, c, pm⟩ := hp.sb.map.block
  obtain ⟨cp, px⟩ := hp.xs.blk
  have pb := hp.sb.blk
  refine own_keep h fun k hk => h3.block k (h.lt k hk).2 (fun e3 => ?_) (fun e3 => ?_) (fun e3 => ?_)
  · obtain ⟨cs, h4⟩ := own_type h k hk
    rw [e3, pb] at h4
    injection h4 with h4
    injection h4 with _ h4
    exact e1 h4.symm
  · obtain ⟨cs, h4⟩ := own_type h k hk
    rw [e3, pm] at h4
    cases h4
  · obtain ⟨cs, h4⟩ := own_type h k hk
    rw [e3, px] at h4
    injection h4 with h4
    injection h4 with _ h4
    exact e2 h4.symm
theorem Mm.step {k : Nat} (h : Mm w0 vl va L w) (hk : L[k]? = some p) (hp : Pr w' { p with s := p'.s }) (h3 : M3 p.b p.m p.x w w') : Mm w0 vl va (L.set k { p with s := p'.s }) w' := by
  have hP := h.kp.pr k p hk
  have hlo := h.kp.lo k p hk
  refine ⟨h.low.trans (h3.below h.low.size hlo.1 hlo.2.1 hlo.2.2), ?_, ?_, ⟨fun j y hy => ?_, fun j y hy => ?_, fun i j y z hy hz hij => ?_⟩⟩
  · rw [List.length_set, pbs_set hk (p' := { p with s := p'.s }) rfl]
    exact row_m3 h.rl hP h3 (by decide) (by decide)
  · rw [List.length_set, pxs_set hk (p' := { p with s := p'.s }) rfl]
    exact row_m3 h.ra hP h3 (by decide) (by decide)
  · rcases get_set hk j y hy with ⟨_, rfl⟩ | ⟨hj, hy⟩
    · exact hp
    · obtain ⟨n1, n2, n3⟩ := h.kp.ne j k y p hy hk hj
      exact (h.kp.pr j y hy).other hP h3 n1 n2 n3
  · rcases get_set hk j y hy with ⟨_, rfl⟩ | ⟨hj, hy⟩
    · exact hlo
    · exact h.kp.lo j y hy
  · rcases get_set hk i y hy with ⟨hi, rfl⟩ | ⟨hi, hy⟩
    · rcases get_set hk j z hz with ⟨hj, rfl⟩ | ⟨hj, hz⟩
      · omega
      · exact h.kp.ne k j p z hk hz (fun e => hj e.symm)
    · rcases get_set hk j z hz with ⟨hj, rfl⟩ | ⟨hj, hz⟩
      · exact h.kp.ne i k y p hy hk hi
      · exact h.kp.ne i j y z hy hz hij
/-- one more pair -/
theorem Kp.push (h : Kp w0 L w) (hp : Pr w p) (hl : w0.heap.size ≤ p.b ∧ w0.heap.size ≤ p.m ∧ w0.heap.size ≤ p.x) (hn : ∀ (i : Nat) (q : Pp), L[i]? = some q → q.b ≠ p.b ∧ q.m ≠ p.m ∧ q.x ≠ p.x) : Kp w0 (L ++ [p]) w := by
  have get : ∀ (i : Nat) (y : Pp), (L ++ [p])[i]? = some y → (i < L.length ∧ L[i]? = some y) ∨ (i = L.length ∧ y = p) := fun i y hy => by
    by_cases hi : i < L.length
    · rw [List.getElem?_append_left hi] at hy; exact .inl ⟨hi, hy⟩
    · rw [List.getElem?_append_right (by omega)] at hy
      have h1 : i = L.length := by
        have := (List.getElem?_eq_some_iff.1 hy).1
        simp at this
        omega
      subst h1
      simp at hy
      exact .inr ⟨rfl, hy.symm⟩
  refine ⟨fun i y hy => ?_, fun i y hy => ?_, fun i j y z hy hz hij => ?_⟩
  · rcases get i y hy with ⟨_, h1⟩ | ⟨_, rfl⟩
    · exact h.pr i y h1
    · exact hp
  · rcases get i y hy with ⟨_, h1⟩ | ⟨_, rfl⟩
    · exact h.lo i y h1
    · exact hl
  · rcases get i y hy with ⟨_, h1⟩ | ⟨hi, rfl⟩
    · rcases get j z hz with ⟨_, h2⟩ | ⟨hj, rfl⟩
      · exact h.ne i j y z h1 h2 hij
      · exact hn i y h1
    · rcases get j z hz with ⟨_, h2⟩ | ⟨hj, rfl⟩
      · obtain ⟨n1, n2, n3⟩ := hn j z h2; exact ⟨Ne.symm n1, Ne.symm n2, Ne.symm n3⟩
      · omega
/-- pairs, when a row of pointers turns -/
theorem Pr.row {n : Nat} {v : Value} {e : TypeId} {xs : List Value} {B : Nat} (h : Pr w p) (hr : w.ownsRow B e 1 v n xs) (hg : w.grownBy w' v.ownBlock) (e1 : e ≠ 52) (e2 : e ≠ 39) : Pr w' p := by
  obtain ⟨es, c, pm⟩ := h.sb.map.block
  obtain ⟨cp, px⟩ := h.xs.blk
  have pb := h.sb.blk
  refine ⟨h.sb.keep (hg.block _ h.lt.1 (fun e3 => ?_)) (hg.block _ h.lt.2.1 (fun e3 => ?_)), h.ok, h.xs.keep (hg.block _ h.lt.2.2 (fun e3 => ?_))⟩
  · obtain ⟨cs, h4⟩ := own_type hr _ e3.symm
    rw [pb] at h4
    injection h4 with h4
    injection h4 with _ h4
    exact e1 h4.symm
  · obtain ⟨cs, h4⟩ := own_type hr _ e3.symm
    rw [pm] at h4
    cases h4
  · obtain ⟨cs, h4⟩ := own_type hr _ e3.symm
    rw [px] at h4
    injection h4 with h4
    injection h4 with _ h4
    exact e2 h4.symm
theorem Kp.row {n : Nat} {v : Value} {e : TypeId} {xs : List Value} {B : Nat} (h : Kp w0 L w) (hr : w.ownsRow B e 1 v n xs) (hg : w.grownBy w' v.ownBlock) (e1 : e ≠ 52) (e2 : e ≠ 39) : Kp w0 L w' := ⟨fun i p hp => (h.pr i p hp).row hr hg e1 e2, h.lo, h.ne⟩
/-- one row, when the other turns -/
theorem own_row {n n2 : Nat} {v v2 : Value} {e e2 : TypeId} {xs xs2 : List Value} {B B2 : Nat} (h : w.ownsRow B e 1 v n xs) (hr : w.ownsRow B2 e2 1 v2 n2 xs2) (hg : w.grownBy w' v2.ownBlock) (hne : e ≠ e2) : w'.ownsRow B e 1 v n xs := own_keep h fun k hk => hg.block k (h.lt k hk).2 (fun e3 => by
  obtain ⟨cs, h4⟩ := own_type h k hk
  obtain ⟨cs', h5⟩ := own_type hr k e3.symm
  rw [h5] at h4
  injection h4 with h4
  injection h4 with _ h4
  exact hne h4.symm)
theorem Mm.cl {gl cl ga ca k : Nat} (h : Mm w0 (.slice (some ⟨gl, 0, none⟩) L.length cl) (.slice (some ⟨ga, 0, none⟩) L.length ca) L w) (hk : L[k]? = some p) : w.cell? ⟨gl, k, none⟩ = some (.pointer (some ⟨p.b, 0, none⟩)) ∧ w.cell? ⟨ga, k, none⟩ = some (.pointer (some ⟨p.x, 0, none⟩)) :=
  ⟨own_cell h.rl (by simp [pbs, hk]), own_cell h.ra (by simp [pxs, hk])⟩
theorem Mm.form (h : Mm w0 vl va L w) (h0 : 0 < L.length) : ∃ gl cl ga ca, vl = .slice (some ⟨gl, 0, none⟩) L.length cl ∧ va = .slice (some ⟨ga, 0, none⟩) L.length ca := by
  obtain ⟨gl, cl, h1, _, _⟩ := own_at h.rl h0
  obtain ⟨ga, ca, h2, _, _⟩ := own_at h.ra h0
  exact ⟨gl, cl, ga, ca, h1, h2⟩
theorem cells_of {gl cl ga ca n k : Nat} (h : Mm w0 (.slice (some ⟨gl, 0, none⟩) n cl) (.slice (some ⟨ga, 0, none⟩) n ca) L w) (hk : L[k]? = some p) : w.cell? ⟨gl, k, none⟩ = some (.pointer (some ⟨p.b, 0, none⟩)) ∧ w.cell? ⟨ga, k, none⟩ = some (.pointer (some ⟨p.x, 0, none⟩)) := by
  have h0 : 0 < L.length := by have := (List.getElem?_eq_some_iff.1 hk).1; omega
  obtain ⟨_, _, _, _, h1, h2⟩ := h.form h0
  injection h1 with _ h1
  subst h1
  exact h.cl hk
theorem last_cell {B n g cap : Nat} {e : TypeId} {xs : List Value} {v : Value} (h : w.ownsRow B e 1 (.slice (some ⟨g, 0, none⟩) (n + 1) cap) (n + 1) (xs ++ [v])) : w.cell? ⟨g, n, none⟩ = some v := by
  have hl : xs.length = n := by have := h.1; simp at this; omega
  exact own_cell h (by rw [List.getElem?_append_right (by omega), hl]; simp)
end
/-- the whole of the document's stitcher, out of its block -/
theorem load_all {w : World} {x : Nat} {c : Array Value} {t : TypeId} (h : w.heap[x]? = some (.cells c t (0, 0))) (hs : c.size = 66) : (loadCellsFrom ⟨x, 0, none⟩ 0 66 #[]).run Try.prog w = .ok c w := by
  have := run_loadCells_list (P := Try.prog) w ⟨x, 0, none⟩ c.toList (fun j v hv => by
    rw [Addr.add_lit, Nat.zero_add, World.cell?, h]
    simpa using hv)
  rw [← hs]
  simpa [loadCells] using this
theorem load_var {w : World} {x : Nat} {c : Array Value} {t : TypeId} (h : w.heap[x]? = some (.cells c t (0, 0))) (hs : c.size = 66) : (loadVar 39 ⟨x, 0, none⟩).run Try.prog w = .ok (.agg c) w := by
  have h1 := load_all h hs
  simp [loadVar, loadCells, h1, Result.andThen]
theorem load_at {w : World} {x : Nat} {c : Array Value} {t : TypeId} (h : w.heap[x]? = some (.cells c t (0, 0))) (hs : c.size = 66) : (Instr.loadAt 39 (.pointer (some ⟨x, 0, none⟩))).run Try.prog w = .ok (.agg c) w := by
  simp only [Instr.loadAt, Instr.sureAddr, Sem.run_bind, Sem.run_pure, Result.andThen]
  exact load_var h hs
theorem load_op {w : World} {x : Nat} {c : Array Value} {t : TypeId} (h : w.heap[x]? = some (.cells c t (0, 0))) (hs : c.size = 66) {o : Oper} {f : Operand → Value} {y : Operand} (ho : o.op = .load 39 y) (hy : f y = .pointer (some ⟨x, 0, none⟩)) : (execOp f o).run Try.prog w = .ok (.value (.agg c)) w := by
  have := load_at h hs
  simp only [execOp, ho, hy, Sem.run_bind, this, Result.andThen, Sem.run_pure]
theorem store_op {w : World} {z c : Array Value} (hz : z.size = 66) (hc : c.size = 66) (h1 : c.all (·.oneCell') = true) {o : Oper} {f : Operand → Value} {y v : Operand} (ho : o.op = .store 39 y v) (hy : f y = .pointer (some ⟨w.heap.size, 0, none⟩)) (hv : f v = .agg c) : (execOp f o).run Try.prog (w.alloc (.cells z 39)) = .ok .skip (w.alloc (.cells c 39)) := by
  have := run_storeAt_new (P := Try.prog) w 39 z c (by rw [hc]; kernel_rfl) (by rw [hz, hc]) h1
  simp only [execOp, ho, hy, hv, Sem.run_bind, this, Result.andThen, Sem.run_pure]
theorem list_value {ops : Array Oper} {rest : List Oper} {o : Oper} {a : Act} {w : World} {Q : Exit → Act → World → Prop} (hg : o.guard = none) {v : Value} (hrun : (execOp a.eval o).run Try.prog w = .ok (.value v) w) (h : wpList Try.prog ops Q rest (a.put o.dst v) w) : wpList Try.prog ops Q (o :: rest) a w := by
  refine wpList_plain hg fun K hK => ?_
  unfold Oper.wp
  rw [hrun, Oper.upon_value]
  exact hK _ _ h
theorem list_skip {ops : Array Oper} {rest : List Oper} {o : Oper} {a : Act} {w w' : World} {Q : Exit → Act → World → Prop} (hg : o.guard = none) (hrun : (execOp a.eval o).run Try.prog w = .ok .skip w') (h : wpList Try.prog ops Q rest (a.put o.dst undef) w') : wpList Try.prog ops Q (o :: rest) a w := by
  refine wpList_plain hg fun K hK => ?_
  unfold Oper.wp
  rw [hrun, Oper.upon_skip]
  exact hK _ _ h
theorem xcs_one (win n : Int) (H : List Bool) (T : List ByteArray) : (xcs win n H T).toArray.all (·.oneCell') = true := by
  rw [Array.all_eq_true_iff_forall_mem]
  intro v hv
  simp only [xcs, List.mem_toArray, List.mem_cons, List.mem_append, List.mem_map] at hv
  rcases hv with rfl | rfl | ⟨b, _, rfl⟩ | ⟨t, _, rfl⟩ <;> rfl
end Go.Proofs.Ytmkfhcdmcncgkaa
