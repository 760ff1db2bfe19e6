import Derived.Test.YtonoogiadgjodaaSoJ
namespace Go.Proofs.Ytonoogiadgjodaa
open Go.RowKit

section
variable {B : Nat} {w w' : World} {A : Ja} {j : Jt} {own : Int → Int} {N : Int}
/-- a new way -/
theorem Jm.newW (h : Jm B w A j) (hB : B ≤ w.heap.size) {v : Value} {W : List Sd} (hb : Below w.heap.size w w') (ho : w'.ownsRow w.heap.size 103 15 v W.length (scs W)) : Jm B (w'.setCell ⟨A.a, 5, none⟩ v) { A with vw := v } { j with way := W } ∧ Jv A { A with vw := v } w (w'.setCell ⟨A.a, 5, none⟩ v) := by
  have set : ∀ k, k ≠ A.a → (w'.setCell ⟨A.a, 5, none⟩ (v)).heap[k]? = w'.heap[k]? := fun k hk => Below.heap_setCell _ _ _ k hk
  have hja := (hb.block _ h.lt).trans h.hj
  have keep : ∀ {k cs t}, w.heap[k]? = some (Obj.cells cs t (0, 0)) → t ≠ 67 → (w'.setCell ⟨A.a, 5, none⟩ (v)).heap[k]? = w.heap[k]? := fun {k cs t} e1 ht => (set k (blk_ne e1 h.hj ht)).trans (hb.block k (lt_of_block e1))
  obtain ⟨cg, hcg⟩ := own_blk h.tm.row (k := A.tg) rfl
  refine ⟨⟨heap_set_self w' A.a 5 v _ _ _ hja, ?_, ?_, ?_, ?_, h.la, h.lb⟩, ⟨hb.os, hb.tape, hb.output, by rw [setCell_size]; exact hb.size, fun k hk hn => (set k fun e => hn (.inl e)).trans (hb.block k hk), fun k hk => ?_⟩⟩
  · exact (keep h.cb (by decide)).trans h.cb
  · exact h.tm.keep (keep h.tm.hb (by decide)) (keep hcg (by decide))
  · refine own_keep (own_base ho hB) fun k hk => set k fun e => ?_
    obtain ⟨cs, hcs⟩ := own_blk ho hk
    exact blk_ne hcs hja (by decide) e
  · refine own_keep h.rd fun k hk => ?_
    obtain ⟨cs, hcs⟩ := own_blk h.rd hk
    exact keep hcs (by decide)
  · rcases hk with hk | hk | hk | hk | hk
    · exact .inl (.inl hk)
    · exact .inl (.inr (.inl hk))
    · exact .inl (.inr (.inr (.inl hk)))
    · exact .inr (ho.lt k hk).1
    · exact .inl (.inr (.inr (.inr (.inr hk))))
/-- a new table -/
theorem Jm.newT (h : Jm B w A j) (hB : B ≤ w.heap.size) {b g cap : Nat} {D' : Dk} (hb : Below w.heap.size w w') (ht : Tm 92 w.heap.size w' b g cap [D']) : Jm B (w'.setCell ⟨A.a, 1, none⟩ (.pointer (some ⟨b, 0, none⟩))) { A with tb := b, tg := g, tc := cap } { j with D := D' } ∧ Jv A { A with tb := b, tg := g, tc := cap } w (w'.setCell ⟨A.a, 1, none⟩ (.pointer (some ⟨b, 0, none⟩))) := by
  have set : ∀ k, k ≠ A.a → (w'.setCell ⟨A.a, 1, none⟩ (.pointer (some ⟨b, 0, none⟩))).heap[k]? = w'.heap[k]? := fun k hk => Below.heap_setCell _ _ _ k hk
  have hja := (hb.block _ h.lt).trans h.hj
  have keep : ∀ {k cs t}, w.heap[k]? = some (Obj.cells cs t (0, 0)) → t ≠ 67 → (w'.setCell ⟨A.a, 1, none⟩ (.pointer (some ⟨b, 0, none⟩))).heap[k]? = w.heap[k]? := fun {k cs t} e1 ht => (set k (blk_ne e1 h.hj ht)).trans (hb.block k (lt_of_block e1))
  obtain ⟨cg, hcg⟩ := own_blk h.tm.row (k := A.tg) rfl
  obtain ⟨cg2, hcg2⟩ := own_blk ht.row (k := g) rfl
  refine ⟨⟨heap_set_self w' A.a 1 _ _ _ _ hja, ?_, ?_, ?_, ?_, h.la, h.lb⟩, ⟨hb.os, hb.tape, hb.output, by rw [setCell_size]; exact hb.size, fun k hk hn => (set k fun e => hn (.inl e)).trans (hb.block k hk), fun k hk => ?_⟩⟩
  · exact (keep h.cb (by decide)).trans h.cb
  · exact (ht.wide hB).keep (set _ (blk_ne ht.hb hja (by decide))) (set _ (blk_ne hcg2 hja (by decide)))
  · refine own_keep h.rw_ fun k hk => ?_
    obtain ⟨cs, hcs⟩ := own_blk h.rw_ hk
    exact keep hcs (by decide)
  · refine own_keep h.rd fun k hk => ?_
    obtain ⟨cs, hcs⟩ := own_blk h.rd hk
    exact keep hcs (by decide)
  · rcases hk with hk | hk | hk | hk | hk
    · exact .inl (.inl hk)
    · exact .inl (.inr (.inl hk))
    · exact .inr (by rw [show k = g from hk]; exact ht.gB)
    · exact .inl (.inr (.inr (.inr (.inl hk))))
    · exact .inl (.inr (.inr (.inr (.inr hk))))
/-- a new caller -/
theorem Jm.newC (h : Jm B w A j) (hB : B ≤ w.heap.size) {b : Nat} {c' : Cl} (hb : Below w.heap.size w w') (hc : Cb w' b c') (hbb : w.heap.size ≤ b) : Jm B (w'.setCell ⟨A.a, 0, none⟩ (.pointer (some ⟨b, 0, none⟩))) { A with bc := b } { j with c := c' } ∧ Jv A { A with bc := b } w (w'.setCell ⟨A.a, 0, none⟩ (.pointer (some ⟨b, 0, none⟩))) := by
  have set : ∀ k, k ≠ A.a → (w'.setCell ⟨A.a, 0, none⟩ (.pointer (some ⟨b, 0, none⟩))).heap[k]? = w'.heap[k]? := fun k hk => Below.heap_setCell _ _ _ k hk
  have hja := (hb.block _ h.lt).trans h.hj
  have keep : ∀ {k cs t}, w.heap[k]? = some (Obj.cells cs t (0, 0)) → t ≠ 67 → (w'.setCell ⟨A.a, 0, none⟩ (.pointer (some ⟨b, 0, none⟩))).heap[k]? = w.heap[k]? := fun {k cs t} e1 ht => (set k (blk_ne e1 h.hj ht)).trans (hb.block k (lt_of_block e1))
  obtain ⟨cg, hcg⟩ := own_blk h.tm.row (k := A.tg) rfl
  refine ⟨⟨heap_set_self w' A.a 0 _ _ _ _ hja, ?_, ?_, ?_, ?_, h.la, Nat.le_trans hB hbb⟩, ⟨hb.os, hb.tape, hb.output, by rw [setCell_size]; exact hb.size, fun k hk hn => (set k fun e => hn (.inl e)).trans (hb.block k hk), fun k hk => ?_⟩⟩
  · exact (set _ (blk_ne hc hja (by decide))).trans hc
  · exact h.tm.keep (keep h.tm.hb (by decide)) (keep hcg (by decide))
  · refine own_keep h.rw_ fun k hk => ?_
    obtain ⟨cs, hcs⟩ := own_blk h.rw_ hk
    exact keep hcs (by decide)
  · refine own_keep h.rd fun k hk => ?_
    obtain ⟨cs, hcs⟩ := own_blk h.rd hk
    exact keep hcs (by decide)
  · rcases hk with hk | hk | hk | hk | hk
    · exact .inl (.inl hk)
    · exact .inr (by rw [show k = b from hk]; exact hbb)
    · exact .inl (.inr (.inr (.inl hk)))
    · exact .inl (.inr (.inr (.inr (.inl hk))))
    · exact .inl (.inr (.inr (.inr (.inr hk))))
theorem Inv.ups (h : Inv own N j) {M : Int} (h1 : N ≤ M) (h2 : M ≤ 4194304) : Inv own M j := by
  have g1 := h.n0; have g2 := h.f1; have g3 := h.u1; have g4 := h.a1; have g5 := h.la; have g6 := h.wl; have g7 := h.dl; have g8 := h.d0
  exact ⟨by omega, h2, h.ok, h.f0, by omega, h.u0, by omega, h.a0, by omega, by omega, by omega, by omega, h.cg, h.cs, h.cq, h.ch, h.ow, ⟨g8.1, g8.2.1, g8.2.2.1, g8.2.2.2.1, g8.2.2.2.2.1, by omega⟩, h.dr, h.wy, h.dd⟩
theorem Good.cut {x : Sd} (q : Good own j x) (W : List Sd) : Good own { j with way := W } x := ⟨q.s0, q.s1, q.l0, q.l1, q.rq, q.rp⟩
/-- a message arrives at the table, whatever it is -/
theorem table_any (hI : Inv own N j) (hN : N + 2 ≤ 4194304) (h : Jm B w A j) (hB : B ≤ w.heap.size) {x : Sd} (q : Good own j x) (htb : x.tb = true) : Calls Try.prog 50 #[.pointer (some ⟨A.a, 0, none⟩), .agg #[.int .i64 x.m.k, .int .i64 x.m.se, .int .i64 x.m.nu, .int .i64 x.m.jo, .int .i64 x.m.ba, .int .i64 x.m.ix, .int .i64 x.m.co, .int .i64 x.m.rc, .int .u64 (x.m.rb : Int), .string x.m.tx, .string x.m.pr, .bool x.tb, .int .i64 x.li, .int .i64 x.ak, .int .i64 x.an]] w fun e w' => e = .returned (.tuple #[]) ∧ ∃ own' A' j', A'.a = A.a ∧ Inv own' (N + 2) j' ∧ Jm B w' A' j' ∧ Jv A A' w w' := by
  by_cases hk : x.m.k = 1
  · exact tableH_any hI hN h hB q hk
  · exact (tableA_any hI hN h hB q htb hk).mono fun e w' ⟨h1, A', j', h2⟩ => ⟨h1, own, A', j', h2⟩
end
end Go.Proofs.Ytonoogiadgjodaa
