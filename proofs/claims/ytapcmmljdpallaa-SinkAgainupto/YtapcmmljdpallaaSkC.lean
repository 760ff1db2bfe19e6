import Derived.Test.YtapcmmljdpallaaSkB
namespace Go.Proofs.Ytapcmmljdpallaa.K
open Go.RowKit Go.MapKept
open Go.ChangeMaps (setBlock)

theorem left_perm (seen : Array Nat) {e : MapEntry} : ∀ {l : List MapEntry}, (l.map (·.born)).Nodup → e ∈ l → seen.contains e.born = false →
    (l.filter fun x => !seen.contains x.born).Perm (e :: l.filter fun x => !(seen.push e.born).contains x.born)
  | [], _, h, _ => by cases h
  | a :: l, hn, he, hs => by
    rw [List.map_cons, List.nodup_cons] at hn
    obtain ⟨h1, h2⟩ := hn
    rcases List.mem_cons.1 he with ea | he
    · subst ea
      have hq : (seen.push e.born).contains e.born = true := by rw [contains_push]; simp
      rw [List.filter_cons_of_pos (by rw [hs]; rfl), List.filter_cons_of_neg (by rw [hq]; decide)]
      refine List.Perm.of_eq (congrArg (List.cons e) (List.filter_congr fun x hx => ?_))
      have hne : (x.born == e.born) = false := by
        rw [beq_eq_false_iff_ne]
        intro e1
        exact h1 (List.mem_map.2 ⟨x, hx, e1⟩)
      rw [contains_push, hne, Bool.or_false]
    · have hne : (a.born == e.born) = false := by
        rw [beq_eq_false_iff_ne]
        intro e1
        exact h1 (List.mem_map.2 ⟨e, he, e1.symm⟩)
      have ih := left_perm seen h2 he hs
      cases ha : seen.contains a.born
      · rw [List.filter_cons_of_pos (by rw [ha]; rfl), List.filter_cons_of_pos (by rw [contains_push, hne, ha]; rfl)]
        exact (ih.cons a).trans (.swap e a _)
      · rw [List.filter_cons_of_neg (by rw [ha]; decide), List.filter_cons_of_neg (by rw [contains_push, hne, ha]; decide)]
        exact ih

/-- a range over the map m is under way: rest is still to come -/
def Mi (w : World) (m r : Nat) (L rest : List Az) : Prop :=
  Rise L ∧ ∃ es clock seen, w.heap[m]? = some (.map es clock) ∧ Stamped es clock ∧ (es.toList.map kv).Perm (L.map lkv) ∧ w.heap[r]? = some (.mapIter (some m) clock seen clock) ∧ ((leftOf es seen).toList.map kv).Perm (rest.map lkv)

section
variable {w w' : World} {m r : Nat} {L rest : List Az}
theorem Mi.lm (h : Mi w m r L rest) : Lm w m L := by
  obtain ⟨h0, es, c, seen, h1, h2, h3, _⟩ := h
  exact ⟨h0, es, c, h1, h2, h3⟩
theorem Mi.keep (h : Mi w m r L rest) (hm : w'.heap[m]? = w.heap[m]?) (hr : w'.heap[r]? = w.heap[r]?) : Mi w' m r L rest := by
  obtain ⟨h0, es, c, seen, h1, h2, h3, h4, h5⟩ := h
  exact ⟨h0, es, c, seen, hm.trans h1, h2, h3, hr.trans h4, h5⟩
theorem Mi.rlt (h : Mi w m r L rest) : r < w.heap.size := by
  obtain ⟨h0, es, c, seen, h1, h2, h3, h4, h5⟩ := h
  exact (Array.getElem?_eq_some_iff.1 h4).1
theorem Mi.walks (h : Mi w m r L rest) (k : KeepsWalks w w') : Mi w' m r L rest := by
  obtain ⟨h0, es, c, seen, h1, h2, h3, h4, h5⟩ := h
  exact ⟨h0, es, c, seen, k.same m _ h1 rfl, h2, h3, k.same r _ h4 rfl, h5⟩
theorem Mi.left (h : Mi w m r L rest) : w.rangeLeft m r = rest.length := by
  obtain ⟨h0, es, c, seen, h1, h2, h3, h4, h5⟩ := h
  simp only [World.rangeLeft, h1, h4]
  have := h5.length_eq
  simpa using this
theorem Mi.iter (h : Mi w m r L rest) : ∃ o : Obj, w.heap[r]? = some o ∧ o.isWalk = true := by
  obtain ⟨h0, es, c, seen, h1, h2, h3, h4, h5⟩ := h
  exact ⟨_, h4, rfl⟩
/-- range m -/
theorem Lm.range (h : Lm w m L) : ∃ W', (Instr.range 55 (.map (some m))).run Try.prog w = .ok (.pointer (some ⟨w.heap.size, 0, none⟩)) W' ∧ Mi W' m w.heap.size L L ∧ w.grownBy W' none ∧ W'.heap.size = w.heap.size + 1 := by
  have hlt := h.lt
  obtain ⟨h0, es, c, h1, h2, h3⟩ := h
  refine ⟨_, run_range_map w _ 3 49 m es c Try.underlying55 h1, ⟨h0, es, c, #[], ((MapKept.heap_alloc w _).2 m hlt).trans h1, h2, h3, (MapKept.heap_alloc w _).1, ?_⟩, World.grownBy_alloc w _ none, by simp⟩
  have : leftOf es #[] = es := by simp [leftOf]
  rw [this]
  exact h3
/-- its step -/
theorem Mi.next (h : Mi w m r L rest) (ty : TypeId) :
    (rest = [] ∧ (Instr.next (.pointer (some ⟨r, 0, none⟩)) false ty).run Try.prog w = .ok (.tuple #[.bool false]) w) ∨
    ∃ x rest' W', rest.Perm (x :: rest') ∧ (Instr.next (.pointer (some ⟨r, 0, none⟩)) false ty).run Try.prog w = .ok (.tuple #[.bool true, .int .i64 x.job, x.val]) W' ∧ Mi W' m r L rest' ∧
      (Instr.entry (.pointer (some ⟨r, 0, none⟩))).run Try.prog W' = .ok (.tuple #[.int .i64 x.job, x.val]) W' ∧ w.grownBy W' (some r) ∧ W'.heap.size = w.heap.size := by
  obtain ⟨h0, es, c, seen, hb, hst, hp, hr, hl⟩ := h
  have hst' := (stamped_iff es c).1 hst
  have hne : m ≠ r := fun e => by rw [e, hr] at hb; cases hb
  rcases run_next_at (P := Try.prog) w ty r m c c seen es c hr hb hst'.1 (Nat.le_refl _) with ⟨hz, hrun⟩ | ⟨e, he, w1, hal, hrun⟩
  · refine .inl ⟨?_, hrun⟩
    have := hl.length_eq
    simp only [List.length_map, Array.length_toList, hz] at this
    exact List.eq_nil_of_length_eq_zero this.symm
  · have hmem : e ∈ es.toList ∧ seen.contains e.born = false := by
      simp only [leftOf, Array.toList_filter, List.mem_filter, Bool.not_eq_true'] at he
      exact he
    have hx : ∃ x ∈ rest, lkv x = kv e := by
      have h1 : kv e ∈ rest.map lkv := hl.mem_iff.1 (List.mem_map.2 ⟨e, he, rfl⟩)
      exact List.mem_map.1 h1
    obtain ⟨x, hx, ex⟩ := hx
    have ek : e.key = .int .i64 x.job := (congrArg Prod.fst ex).symm
    have ev : e.val = x.val := (congrArg Prod.snd ex).symm
    have hr1 : w1.heap[r]? = some (.mapIter (some m) c seen c) := by rcases hal with rfl | rfl <;> exact hr
    have hb1 : w1.heap[m]? = some (.map es c) := by rcases hal with rfl | rfl <;> exact hb
    have hset := heap_set (o' := .mapIter (some m) c (seen.push e.born) c) hr1
    have hb' : (setBlock w1 r (.mapIter (some m) c (seen.push e.born) c)).heap[m]? = some (.map es c) := (hset.2 m hne).trans hb1
    refine .inr ⟨x, rest.erase x, _, List.perm_cons_erase hx, by rw [← ek, ← ev]; exact hrun, ⟨h0, es, c, seen.push e.born, hb', hst, hp, hset.1, ?_⟩, ?_, ?_, ?_⟩
    · have h1 : ((leftOf es seen).toList).Perm (e :: (leftOf es (seen.push e.born)).toList) := by
        have := left_perm seen hst'.2.1 hmem.1 hmem.2
        simpa only [leftOf, Array.toList_filter] using this
      have h2 := (h1.map kv).symm.trans (hl.trans ((List.perm_cons_erase hx).map lkv))
      rw [List.map_cons, List.map_cons, ← ex] at h2
      exact (List.perm_cons _).1 h2
    · rw [← ek, ← ev]
      exact run_entry_at _ r m c seen es c e hset.1 hb' hmem.1 hst'.2.1
    · rcases hal with rfl | rfl <;> exact ⟨rfl, rfl, rfl, by simp [setBlock], fun i _ hi => hset.2 i (fun e1 => hi (by rw [e1]))⟩
    · rcases hal with rfl | rfl <;> simp [setBlock]
end
end Go.Proofs.Ytapcmmljdpallaa.K
