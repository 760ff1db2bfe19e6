import Derived.Test.YtjpcghkdedldiaaLsPd
namespace Go.Proofs.Ytjpcghkdedldiaa
open Go.RowKit

theorem Try.infoP : (Try.prog.info? 32).map (fun i => (i.zero, i.size, i.bytes)) = some (some (.agg #[.pointer none, .pointer none]), 2, 16) := by kernel_rfl
abbrev pobj (b x : Nat) : Obj := .cells #[.pointer (some ⟨b, 0, none⟩), .pointer (some ⟨x, 0, none⟩)] 32 (0, 0)
section
variable {w0 w w' : World} {T : Int} {v : Value} {S : List Sc}
theorem Mem.cell {g cap : Nat} (h : Mem w0 T (.slice (some ⟨g, 0, none⟩) S.length cap) S w) {i : Nat} {s : Sc} (hs : S[i]? = some s) : w.cell? ⟨g, i * 2, none⟩ = some (.pointer (some ⟨s.b, 0, none⟩)) ∧ w.cell? ⟨g, i * 2 + 1, none⟩ = some (.pointer (some ⟨s.x, 0, none⟩)) := by
  obtain ⟨h1, h2⟩ := pcs_get S i s hs
  have e1 := h.row.cells (g := g) rfl _ _ h1
  have e2 := h.row.cells (g := g) rfl _ _ h2
  rw [Addr.add_lit, Nat.zero_add] at e1 e2
  exact ⟨e1, e2⟩
/-- a pair, when the row of pairs turns -/
theorem Pr.row {t : Sc} (h : Pr T w t) {g : Nat} {q : Option Addr} {cs : Array Value} (hg : w.grownBy w' (some g)) (hc : w.cell? ⟨g, 0, none⟩ = some (.pointer q)) (hgb : w.heap[g]? = some (.cells cs 32 (0, 0))) : Pr T w' t := by
  obtain ⟨es', c', hmt⟩ := h.ta.tb.map.block
  obtain ⟨ad, ab, cap, hX⟩ := h.xa
  have hbt := h.ta.tb.blk
  have hxt := hX.blk
  have n1 : some t.b ≠ some g := fun e => by
    injection e with e
    rw [e, hgb] at hbt
    injection hbt with hbt
    injection hbt with _ h2
    exact absurd h2 (by decide)
  have n2 : some t.m ≠ some g := fun e => by
    injection e with e
    rw [e, hgb] at hmt
    cases hmt
  have n3 : some t.x ≠ some g := fun e => by
    injection e with e
    rw [e, hgb] at hxt
    injection hxt with hxt
    injection hxt with _ h2
    exact absurd h2 (by decide)
  have hrs : Rs w' ad ab 0 t.L := hX.rs.keep fun h0 => hg.block _ (hX.rs.lt h0) (fun e => by
    injection e with e
    have h3 := hX.rs.c 0 h0 0 (by decide)
    have h4 : ((t.L[0]'h0).cs)[0]? = some (.int .i64 (t.L[0]'h0).job) := rfl
    rw [h4, e] at h3
    rw [show (⟨g, 0 + 0 * 5 + 0, none⟩ : Addr) = ⟨g, 0, none⟩ from rfl, hc] at h3
    cases h3)
  exact ⟨⟨h.ta.tb.keep (hg.block _ h.ta.tb.lt n1) (hg.block _ h.ta.tb.map.lt n2), h.ta.ok, h.ta.t1, h.ta.t2⟩, ⟨ad, ab, cap, ⟨(hg.block _ hX.lt n3).trans hX.blk, hrs, hX.hc, hX.ha⟩⟩⟩
theorem Mem.one {s : Sc} (hlow : Below w0.heap.size w0 w) (hp : Pr T w s) (hl : w0.heap.size ≤ s.m ∧ w0.heap.size ≤ s.x) (hrow : w.ownsRow w0.heap.size 32 2 v 1 [.pointer (some ⟨s.b, 0, none⟩), .pointer (some ⟨s.x, 0, none⟩)]) : Mem w0 T v [s] w := by
  have get : ∀ (i : Nat) (t : Sc), [s][i]? = some t → i = 0 ∧ t = s := fun i t ht => by
    cases i with
    | zero => simp at ht; exact ⟨rfl, ht.symm⟩
    | succ i => simp at ht
  refine ⟨hlow, hrow, fun i t ht => ?_, fun i t ht => ?_, fun i j t u ht hu hij => ?_⟩
  · obtain ⟨_, rfl⟩ := get i t ht; exact hp
  · obtain ⟨_, rfl⟩ := get i t ht; exact hl
  · exact absurd ((get i t ht).1.trans (get j u hu).1.symm) hij
/-- a clone and the document's copy, laid behind -/
theorem Mem.push2 {g cap : Nat} (h : Mem w0 T (.slice (some ⟨g, 0, none⟩) S.length cap) S w) (h1 : 1 ≤ S.length) {p : Nat} {s : Sc} (hs : S[p]? = some s) {w1 w2 w3 : World} {v' : Value} {o : Obj}
    (hq : Tb w1 (w.heap.size + 1) w.heap.size T s.L) (hb1 : Below w.heap.size w w1) (hX : Xa w2 w1.heap.size T s.L) (hb2 : Below w1.heap.size w1 w2)
    (hown : w3.ownsRow w0.heap.size 32 2 v' (S.length + 1) (pcs S ++ [.pointer (some ⟨w.heap.size + 1, 0, none⟩), .pointer (some ⟨w1.heap.size, 0, none⟩)])) (hgr : (w2.alloc o).grownBy w3 (some g)) :
    Mem w0 T v' (S ++ [⟨w.heap.size + 1, w.heap.size, w1.heap.size, s.L⟩]) w3 := by
  have s1 := hb1.size
  have s2 := hb2.size
  have s3 := hgr.size
  have hB := h.low.size
  have hb3 : Below w.heap.size w (w2.alloc o) := below_of hb1 (hb2.alloc hb2.size o)
  have hM := h.below hb3
  obtain ⟨s0, hs0⟩ : ∃ s0, S[0]? = some s0 := ⟨_, List.getElem?_eq_getElem (by omega)⟩
  have hc := (hM.cell hs0).1
  rw [show (⟨g, 0 * 2, none⟩ : Addr) = ⟨g, 0, none⟩ from rfl] at hc
  obtain ⟨cs, hgb⟩ : ∃ cs, (w2.alloc o).heap[g]? = some (.cells cs 32 (0, 0)) := by
    rcases hM.row.2 with ⟨e, _⟩ | ⟨g', cap', cur, e, _, hh, _⟩
    · cases e
    · injection e with e; injection e with e; injection e with e; subst e; exact ⟨_, hh⟩
  have hg0 : w0.heap.size ≤ g := (hM.row.lt g rfl).1
  have hsp := h.pr p s hs
  refine h.push (hM.low.grown hgr hM.low.size (fun k e => by injection e with e; omega)) (fun i t ht => (hM.pr i t ht).row hgr hc hgb) ?_ ⟨hB, by show _ ≤ w1.heap.size; omega⟩ (fun i t ht => ⟨fun e => ?_, fun e => ?_⟩) hown
  · have hp2 : Pr T w2 ⟨w.heap.size + 1, w.heap.size, w1.heap.size, s.L⟩ := ⟨⟨hq.below hb2, hsp.ta.ok, hsp.ta.t1, hsp.ta.t2⟩, hX⟩
    exact (hp2.below (below_alloc w2 o)).row hgr hc hgb
  · have := (h.pr i t ht).ta.tb.map.lt
    have e : t.m = w.heap.size := e
    omega
  · have := (h.pr i t ht).xa.lt
    have e : t.x = w1.heap.size := e
    omega
end
theorem xcopy_ok {w : World} {x : Nat} {T : Int} {L : List Lz} (h : Xa w x T L) : Calls Try.prog 15 #[.pointer (some ⟨x, 0, none⟩)] w fun e w' => e = .returned (.pointer (some ⟨w.heap.size, 0, none⟩)) ∧ Xa w' w.heap.size T L ∧ Below w.heap.size w w' := by
  obtain ⟨ad, ab, cap, h⟩ := h
  exact (xcopy_any h).mono fun _ _ ⟨he, hx, hb⟩ => ⟨he, ⟨_, _, _, hx⟩, hb⟩
end Go.Proofs.Ytjpcghkdedldiaa
