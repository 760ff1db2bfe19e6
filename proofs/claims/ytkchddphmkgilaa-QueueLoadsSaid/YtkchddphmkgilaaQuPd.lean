import Derived.Test.YtkchddphmkgilaaQuPc
namespace Go.Proofs.Ytkchddphmkgilaa
open Go.RowKit

theorem Try.infoP : (Try.prog.info? 41).map (fun i => (i.zero, i.size, i.bytes)) = some (some (.agg #[.pointer none, .pointer none]), 2, 16) := by kernel_rfl
section
variable {B : Nat} {m : Int} {w w' : World} {vl : Value} {S : List Sc}
/-- whatever is of no pair's type stays -/
theorem Kp.grown (h : Kp B m w S) (hk : ∀ (k : Nat) (cs : Array Value) (t : TypeId), w.heap[k]? = some (Obj.cells cs t (0, 0)) → t ≠ 41 → w'.heap[k]? = w.heap[k]?) : Kp B m w' S := by
  refine ⟨fun i s hs => ?_, h.lo, h.ft, h.rb⟩
  have hp := h.pr i s hs
  refine ⟨hp.q.keep fun k hf => ?_, hp.x.keep (hk _ _ _ hp.x.blk (by decide)) (fun h0 => ?_), hp.ok, hp.ap⟩
  · rcases hf with rfl | e
    · exact hk _ _ _ hp.q.blk (by decide)
    · obtain ⟨cs, hc⟩ := own_blk hp.q.row e
      exact hk _ _ _ hc (by decide)
  · obtain ⟨cs, hc⟩ := hp.x.ty h0
    exact hk _ _ _ hc (by decide)
theorem Kp.one {b : Nat} {v : Value} {x : Nat} {ad : Option Addr} {ab cap : Nat} {L : List Rr} (h : Pr B m w b v x ad ab cap L) (hx : B ≤ x) : Kp B m w [⟨b, v, x, ad, ab, cap, L⟩] := by
  have get : ∀ (i : Nat) (s : Sc), [(⟨b, v, x, ad, ab, cap, L⟩ : Sc)][i]? = some s → i = 0 ∧ s = ⟨b, v, x, ad, ab, cap, L⟩ := fun i s hs => by
    cases i with
    | zero => simp at hs; exact ⟨rfl, hs.symm⟩
    | succ i => simp at hs
  refine ⟨fun i s hs => ?_, fun i s hs => ?_, fun i j s t hs ht hij => ?_, fun i j s t hs ht h0 => ?_⟩
  · obtain ⟨_, rfl⟩ := get i s hs; exact h
  · obtain ⟨_, rfl⟩ := get i s hs; exact hx
  · exact absurd ((get i s hs).1.trans (get j t ht).1.symm) hij
  · obtain ⟨_, rfl⟩ := get i s hs
    obtain ⟨_, rfl⟩ := get j t ht
    exact h.ap h0
theorem Mem.push (h : Mem B m w vl S) {p : Nat} {s : Sc} (hs : S[p]? = some s) {w1 w2 w3 : World} {b' : Nat} {u : Value} {vl' : Value} {o : Obj} (hq : Qm 47 w.heap.size w1 b' u m s.L) (hb1 : Below w.heap.size w w1) (hX : Xm w2 w1.heap.size s.ad s.ab s.cap m s.L) (hb2 : Below w1.heap.size w1 w2) (hown : w3.ownsRow B 41 2 vl' (S.length + 1) (pcs S ++ [.pointer (some ⟨b', 0, none⟩), .pointer (some ⟨w1.heap.size, 0, none⟩)])) (hgr : (w2.alloc o).grownBy w3 vl.ownBlock) (hB : B ≤ w.heap.size) :
    Mem B m w3 vl' (S ++ [⟨b', u, w1.heap.size, s.ad, s.ab, s.cap, s.L⟩]) ∧ Below B w w3 := by
  have s1 := hb1.size
  have s2 := hb2.size
  have s3 := hgr.size
  rw [World.size_alloc] at s3
  have KP := ((h.kp.below hb1).below hb2).push hs (hq.below hb2) hX hB (by omega : B ≤ w1.heap.size) (fun i t ht => ⟨fun k hk => ((h.kp.pr i t ht).q.ftlt k hk).2, by have := (h.kp.pr i t ht).x.lt; omega, fun h0 => (h.kp.pr i t ht).x.rs.lt h0⟩)
  refine ⟨⟨?_, (KP.below (below_alloc w2 o)).grown fun k cs t hk ht => hgr.block k (lt_of_block hk) (fun e => ?_)⟩, hgr.os.trans (hb2.os.trans hb1.os), hgr.tape.trans (hb2.tape.trans hb1.tape), hgr.output.trans (hb2.output.trans hb1.output), by omega, fun k hk => ?_⟩
  · rw [List.length_append, pcs_append]; exact hown
  · obtain ⟨ds, hd⟩ := own_blk h.rl e.symm
    have hkl := lt_of_block hd
    have h5 : (w2.alloc o).heap[k]? = w.heap[k]? := (Below.heap_alloc _ _ _ (by omega)).trans ((hb2.block k (by omega)).trans (hb1.block k hkl))
    exact blk_ne hk (h5.trans hd) ht rfl
  · have h6 : some k ≠ vl.ownBlock := fun e => by have := (h.rl.lt k e.symm).1; omega
    exact (hgr.block k (by rw [World.size_alloc]; omega) h6).trans ((Below.heap_alloc _ _ _ (by omega)).trans ((hb2.block k (by omega)).trans (hb1.block k (by omega))))
end
/-- a script's state, and the pair that is called -/
def MI (B : Nat) (m : Int) (w0 : World) (vl : Value) (n p b x P : Nat) (w : World) : Prop := ∃ (S : List Sc) (s : Sc), S.length = n ∧ S[p]? = some s ∧ s.b = b ∧ s.x = x ∧ Mem B m w vl S ∧ Below B w0 w ∧ w.heap[P]? = some (pobj b x)
section
variable {B : Nat} {m : Int} {w0 w w' : World} {vl : Value} {n p b x P : Nat}
theorem MI.below (h : MI B m w0 vl n p b x P w) (hB : B ≤ w.heap.size) (hb : Below w.heap.size w w') : MI B m w0 vl n p b x P w' := by
  obtain ⟨S, s, h1, h2, h3, h4, h5, h6, h7⟩ := h
  exact ⟨S, s, h1, h2, h3, h4, h5.below hb, h6.trans (hb.mono hB), (hb.block _ (lt_of_block h7)).trans h7⟩
theorem MI.bel (h : MI B m w0 vl n p b x P w) : Below B w0 w := by obtain ⟨S, s, h1, h2, h3, h4, h5, h6, h7⟩ := h; exact h6
theorem MI.cells (h : MI B m w0 vl n p b x P w) : w.cell? ⟨P, 0, none⟩ = some (.pointer (some ⟨b, 0, none⟩)) ∧ w.cell? ⟨P, 1, none⟩ = some (.pointer (some ⟨x, 0, none⟩)) := by
  obtain ⟨S, s, h1, h2, h3, h4, h5, h6, h7⟩ := h
  simp [World.cell?, h7]
theorem MI.call (h : MI B m w0 vl n p b x P w) (hB : B ≤ w0.heap.size) (o : Rr) : Calls Try.prog 14 #[.agg #[.pointer (some ⟨b, 0, none⟩), .pointer (some ⟨x, 0, none⟩)], o.val] w fun e w' => e = .returned (.bool true) ∧ MI B m w0 vl n p b x P w' := by
  obtain ⟨S, s, h1, h2, rfl, rfl, h5, h6, h7⟩ := h
  have hp := h5.kp.pr p s h2
  refine (answers_any hp o).mono ?_
  rintro e w' ⟨rfl, hc⟩
  obtain ⟨t, hM, ht1, ht2⟩ := h5.step h2 hc
  obtain ⟨v', ad', ab', cap', L', _, hf, _⟩ := hc
  refine ⟨rfl, S.set p t, t, by rw [List.length_set]; exact h1, List.getElem?_set_self (List.getElem?_eq_some_iff.1 h2).1, ht1, ht2, hM, h6.trans (hf.below (Nat.le_trans hB h6.size) (fun k hk => (hp.q.ftlt k hk).1) (h5.kp.lo p s h2)), (hf.block _ (lt_of_block h7) (hp.q.other h7 (by decide) (by decide)) (blk_ne h7 hp.x.blk (by decide))).trans h7⟩
end
end Go.Proofs.Ytkchddphmkgilaa
