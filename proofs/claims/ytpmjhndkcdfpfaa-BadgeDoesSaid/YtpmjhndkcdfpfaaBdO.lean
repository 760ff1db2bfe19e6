import Derived.Test.YtpmjhndkcdfpfaaBdC
import Derived.ProofKit
import Derived.OpenShut
import Derived.ShutString
import Derived.SizedLaws
import Derived.Carry
import Derived.Deep.SlicePairs
import Derived.Deep.Strs
import Derived.Lib.SmallJoins
namespace Go.Proofs.Ytpmjhndkcdfpfaa
open Go.ChangeShapes Go.WideShapes Go.ChangeAt Go.RowKit Go.Deep

theorem own : ownKnob Try.prog.godebug = none := by kernel_rfl
theorem Try.laidOut : laidOutB Try.prog = true := by kernel_rfl
theorem Try.cellsI : Try.prog.cellsOf 3 = 1 := by kernel_rfl
theorem Try.bytesO : Try.prog.bytesOf 35 = 16 := by kernel_rfl
theorem Try.cellsO : Try.prog.cellsOf 35 = 2 := by kernel_rfl

/-- a call, as the walk reads it -/
structure OpV where
  on : Int
  k : Int
/-- a slice of calls that is read -/
structure Ro (w : World) (ad : Option Addr) (ab ao : Nat) (Q : List OpV) : Prop where
  at_ : 0 < Q.length → ad = some ⟨ab, ao, none⟩
  on : ∀ i (h : i < Q.length), w.cell? ⟨ab, ao + i * 2, none⟩ = some (.int .i64 Q[i].on)
  k : ∀ i (h : i < Q.length), w.cell? ⟨ab, ao + i * 2 + 1, none⟩ = some (.int .i64 Q[i].k)
  bo : ∀ i (h : i < Q.length), -9223372036854775808 ≤ Q[i].on ∧ Q[i].on ≤ 9223372036854775807
  bk : ∀ i (h : i < Q.length), -9223372036854775808 ≤ Q[i].k ∧ Q[i].k ≤ 9223372036854775807
theorem Ro.lt {w : World} {ad : Option Addr} {ab ao : Nat} {l : List OpV} (h : Ro w ad ab ao l) (h0 : 0 < l.length) : ab < w.heap.size := World.block_lt_of_cell? _ _ (h.on 0 h0)
theorem Ro.keep {w w' : World} {ad : Option Addr} {ab ao : Nat} {l : List OpV} (h : Ro w ad ab ao l) (hk : 0 < l.length → w'.heap[ab]? = w.heap[ab]?) : Ro w' ad ab ao l :=
  ⟨h.at_, fun i hi => (World.cell?_of_block (hk (by omega))).trans (h.on i hi), fun i hi => (World.cell?_of_block (hk (by omega))).trans (h.k i hi), h.bo, h.bk⟩
theorem Ro.below {w w' : World} {ad : Option Addr} {ab ao : Nat} {l : List OpV} (h : Ro w ad ab ao l) (hb : Below w.heap.size w w') : Ro w' ad ab ao l := h.keep fun h0 => hb.block _ (h.lt h0)

section
variable {H : Type} {enc : TypeId × Value → H}
theorem range_get {α : Type} (f : Nat → α) (n i : Nat) (h : i < ((List.range n).map f).length) : ((List.range n).map f)[i] = f i := by simp
theorem range_len {α : Type} (f : Nat → α) (n : Nat) : ((List.range n).map f).length = n := by simp
/-- a slice of calls, opened -/
theorem ops_at {W : World} {n : Nat} {v : Value} {x : DataW H × List MemPlace} (h : DataW.trod enc Try.prog W 0 (fun _ => true) true n 22 [v] = some x) (hb : ∀ el sp, x.1 = .slice el sp → el.length ≤ 8796093021952) :
    ∃ (ad : Option Addr) (cap ab ao : Nat) (l : List OpV), v = .slice ad l.length cap ∧ Ro W ad ab ao l ∧ l.length ≤ 8796093021952 := by
  rcases open_slice (cs := [v]) Try.underlying22 h with ⟨hc, _⟩ | ⟨a, len, cap, m, k, D, Pl, hc, _, hl, hm, hmm, hx, hall⟩
  · simp only [List.cons.injEq, and_true] at hc
    exact ⟨none, 0, 0, 0, [], hc, ⟨fun h => absurd h (by simp), fun i h => absurd h (by simp), fun i h => absurd h (by simp), fun i h => absurd h (by simp), fun i h => absurd h (by simp)⟩, by simp⟩
  · simp only [List.cons.injEq, and_true] at hc
    simp only [if_true] at hmm
    subst hmm
    have hle : len ≤ 8796093021952 := by
      have := hb _ _ (by rw [hx])
      rwa [range_len] at this
    have each : ∀ i, i < m → ∃ q : OpV, (W.cell? (a.add (i * 2)) = some (.int .i64 q.on) ∧ W.cell? (a.add (i * 2 + 1)) = some (.int .i64 q.k)) ∧
        (-9223372036854775808 ≤ q.on ∧ q.on ≤ 9223372036854775807) ∧ (-9223372036854775808 ≤ q.k ∧ q.k ≤ 9223372036854775807) := by
      intro i hi
      obtain ⟨cs', g1, g2⟩ := hall i hi
      rw [Try.cellsO] at g1
      obtain ⟨_, hlen, hcell⟩ := World.cells?_some g1
      obtain ⟨y0, y1, _, _, _, f0, f1⟩ := trod_struct2 Try.underlying35 g2
      match cs', hlen with
      | [c0, c1], hlen =>
        simp only [Try.cellsI, List.drop_succ_cons, List.drop_zero, List.take_succ_cons, List.take_zero] at f0 f1
        obtain ⟨z0, e0, _, wf0⟩ := DataW.trod_int Try.underlying3 f0
        obtain ⟨z1, e1, _, wf1⟩ := DataW.trod_int Try.underlying3 f1
        simp only [List.cons.injEq, and_true] at e0 e1
        subst e0; subst e1
        have k0 := hcell 0 (by decide)
        have k1 := hcell 1 (by decide)
        rw [add_add] at k0 k1
        exact ⟨⟨z0, z1⟩, ⟨by simpa using k0, by simpa using k1⟩, bounds_i64 wf0, bounds_i64 wf1⟩
    have hI : Inhabited OpV := ⟨⟨0, 0⟩⟩
    obtain ⟨q, hq⟩ := choose_lt each
    refine ⟨some a, m, a.block, a.off, (List.range len).map q, by rw [range_len]; exact hc, ⟨fun h => ?_, fun i hi => ?_, fun i hi => ?_, fun i hi => ?_, fun i hi => ?_⟩, by rw [range_len]; exact hle⟩
    · rw [range_len] at h
      obtain ⟨ab, ao, spot⟩ := a
      have hspot : spot = none := by simpa [Addr.add] using World.cell?_spot (hq 0 (by omega)).1.1
      rw [hspot]
    all_goals
      have hi' := hi
      rw [range_len] at hi'
      rw [range_get]
      obtain ⟨⟨h1, h2⟩, h6, h7⟩ := hq i (by omega)
      obtain ⟨ab, ao, spot⟩ := a
      have hspot : spot = none := by simpa [Addr.add] using World.cell?_spot (hq 0 (by omega)).1.1
      subst hspot
      rw [Addr.add_lit] at h1 h2
      first | exact h1 | exact h2 | exact h6 | exact h7
end
end Go.Proofs.Ytpmjhndkcdfpfaa
