import Derived.Test.YtkchddphmkgilaaQuT
import Derived.ProofKit
import Derived.OpenShut
import Derived.ShutString
import Derived.SizedLaws
import Derived.Carry
import Derived.Deep.SlicePairs
import Derived.Deep.Strs
import Derived.Lib.SmallJoins
namespace Go.Proofs.Ytkchddphmkgilaa
open Go.ChangeShapes Go.WideShapes Go.ChangeAt Go.RowKit Go.Deep

theorem own : ownKnob Try.prog.godebug = none := by kernel_rfl
theorem Try.laidOut : laidOutB Try.prog = true := by kernel_rfl
theorem Try.cellsI : Try.prog.cellsOf 3 = 1 := by kernel_rfl
theorem Try.cellsU : Try.prog.cellsOf 26 = 1 := by kernel_rfl
theorem Try.cellsA : Try.prog.cellsOf 25 = 2 := by kernel_rfl
theorem Try.cellsRe : Try.prog.cellsOf 28 = 2 := by kernel_rfl
theorem Try.bytesO : Try.prog.bytesOf 54 = 64 := by kernel_rfl
theorem Try.cellsO : Try.prog.cellsOf 54 = 8 := by kernel_rfl
theorem Try.bytesR : Try.prog.bytesOf 30 = 64 := by kernel_rfl
theorem Try.cellsR : Try.prog.cellsOf 30 = 8 := by kernel_rfl
section
variable {H : Type} {enc : TypeId × Value → H}
theorem range_get {α : Type} (f : Nat → α) (n i : Nat) (h : i < ((List.range n).map f).length) : ((List.range n).map f)[i] = f i := by simp
theorem range_len {α : Type} (f : Nat → α) (n : Nat) : ((List.range n).map f).length = n := by simp

/-- opened -/
theorem ops_at {W : World} {n : Nat} {v : Value} {x : DataW H × List MemPlace} (h : DataW.trod enc Try.prog W 0 (fun _ => true) true n 23 [v] = some x) (hb : ∀ el sp, x.1 = .slice el sp → el.length ≤ 2199023255488) :
    ∃ (ad : Option Addr) (cap ab ao : Nat) (l : List Rr), v = .slice ad l.length cap ∧ Rs W ad ab ao l ∧ l.length ≤ 2199023255488 ∧ ∀ i (h : i < l.length), -9223372036854775808 ≤ (l[i]).job ∧ (l[i]).job ≤ 9223372036854775807 := by
  rcases open_slice (cs := [v]) Try.underlying23 h with ⟨hc, _⟩ | ⟨a, len, cap, m, k, D, Pl, hc, _, hl, hm, hmm, hx, hall⟩
  · simp only [List.cons.injEq, and_true] at hc
    exact ⟨none, 0, 0, 0, [], hc, ⟨fun h => absurd h (by simp), fun i h => absurd h (by simp)⟩, by simp, fun i h => absurd h (by simp)⟩
  · simp only [List.cons.injEq, and_true] at hc
    simp only [if_true] at hmm
    subst hmm
    have hle : len ≤ 2199023255488 := by
      have := hb _ _ (by rw [hx])
      rwa [range_len] at this
    have each : ∀ i, i < m → ∃ q : Rr, (∀ k, k < 8 → W.cell? (a.add (i * 8 + k)) = q.cs[k]?) ∧ (-9223372036854775808 ≤ q.job ∧ q.job ≤ 9223372036854775807) := by
      intro i hi
      obtain ⟨cs', g1, g2⟩ := hall i hi
      rw [Try.cellsO] at g1
      obtain ⟨_, hlen, hcell⟩ := World.cells?_some g1
      obtain ⟨xs, m', _, _, _, hlx, hf⟩ := DataW.trod_struct Try.underlying54 g2
      have hxs : ∀ j, j < 6 → ∃ y, xs[j]? = some y := fun j hj => ⟨xs[j]'(by rw [hlx]; exact hj), List.getElem?_eq_getElem _⟩
      match cs', hlen with
      | [c0, c1, c2, c3, c4, c5, c6, c7], hlen =>
        obtain ⟨y0, hy0⟩ := hxs 0 (by decide)
        have g3 : DataW.trod enc Try.prog W 0 (fun _ => true) true m' 3 [c0] = some y0 := by
          have this : DataW.trod enc Try.prog W 0 (fun _ => true) true m' 3 ((List.drop 0 [c0, c1, c2, c3, c4, c5, c6, c7]).take (Try.prog.cellsOf 3)) = xs[0]? := hf 0 _ rfl
          rw [Try.cellsI] at this
          rw [← hy0]; exact this
        obtain ⟨y1, hy1⟩ := hxs 1 (by decide)
        have g4 : DataW.trod enc Try.prog W 0 (fun _ => true) true m' 3 [c1] = some y1 := by
          have this : DataW.trod enc Try.prog W 0 (fun _ => true) true m' 3 ((List.drop 1 [c0, c1, c2, c3, c4, c5, c6, c7]).take (Try.prog.cellsOf 3)) = xs[1]? := hf 1 _ rfl
          rw [Try.cellsI] at this
          rw [← hy1]; exact this
        obtain ⟨y2, hy2⟩ := hxs 2 (by decide)
        have g5 : DataW.trod enc Try.prog W 0 (fun _ => true) true m' 3 [c2] = some y2 := by
          have this : DataW.trod enc Try.prog W 0 (fun _ => true) true m' 3 ((List.drop 2 [c0, c1, c2, c3, c4, c5, c6, c7]).take (Try.prog.cellsOf 3)) = xs[2]? := hf 2 _ rfl
          rw [Try.cellsI] at this
          rw [← hy2]; exact this
        obtain ⟨y3, hy3⟩ := hxs 3 (by decide)
        have g6 : DataW.trod enc Try.prog W 0 (fun _ => true) true m' 3 [c3] = some y3 := by
          have this : DataW.trod enc Try.prog W 0 (fun _ => true) true m' 3 ((List.drop 3 [c0, c1, c2, c3, c4, c5, c6, c7]).take (Try.prog.cellsOf 3)) = xs[3]? := hf 3 _ rfl
          rw [Try.cellsI] at this
          rw [← hy3]; exact this
        obtain ⟨y4, hy4⟩ := hxs 4 (by decide)
        have g7 : DataW.trod enc Try.prog W 0 (fun _ => true) true m' 25 [c4, c5] = some y4 := by
          have this : DataW.trod enc Try.prog W 0 (fun _ => true) true m' 25 ((List.drop 4 [c0, c1, c2, c3, c4, c5, c6, c7]).take (Try.prog.cellsOf 25)) = xs[4]? := hf 4 _ rfl
          rw [Try.cellsA] at this
          rw [← hy4]; exact this
        obtain ⟨y5, hy5⟩ := hxs 5 (by decide)
        have g8 : DataW.trod enc Try.prog W 0 (fun _ => true) true m' 28 [c6, c7] = some y5 := by
          have this : DataW.trod enc Try.prog W 0 (fun _ => true) true m' 28 ((List.drop 6 [c0, c1, c2, c3, c4, c5, c6, c7]).take (Try.prog.cellsOf 28)) = xs[5]? := hf 5 _ rfl
          rw [Try.cellsRe] at this
          rw [← hy5]; exact this
        obtain ⟨z0, e0, _, wf0⟩ := DataW.trod_int Try.underlying3 g3
        obtain ⟨z1, e1, _, wf1⟩ := DataW.trod_int Try.underlying3 g4
        obtain ⟨z2, e2, _, wf2⟩ := DataW.trod_int Try.underlying3 g5
        obtain ⟨z3, e3, _, wf3⟩ := DataW.trod_int Try.underlying3 g6
        obtain ⟨a0, a1, _, _, _, f0, f1⟩ := trod_struct2 Try.underlying25 g7
        obtain ⟨b0, b1, _, _, _, f2, f3⟩ := trod_struct2 Try.underlying28 g8
        simp only [Try.cellsI, Try.cellsU, List.drop_succ_cons, List.drop_zero, List.take_succ_cons, List.take_zero] at f0 f1 f2 f3
        obtain ⟨z4, e4, _, _⟩ := DataW.trod_int Try.underlying3 f0
        obtain ⟨z5, e5, _, _⟩ := DataW.trod_int Try.underlying3 f1
        obtain ⟨z6, e6, _, _⟩ := DataW.trod_int Try.underlying3 f2
        obtain ⟨z7, e7, _, _⟩ := DataW.trod_int Try.underlying26 f3
        simp only [List.cons.injEq, and_true] at e0 e1 e2 e3 e4 e5 e6 e7
        subst e0; subst e1; subst e2; subst e3; subst e4; subst e5; subst e6; subst e7
        refine ⟨⟨z0, z1, z2, z3, z4, z5, z6, z7⟩, fun k hk => ?_, bounds_i64 wf0⟩
        have hck := hcell k (by simpa using hk)
        rw [add_add] at hck
        exact hck
    have hI : Inhabited Rr := ⟨rr0⟩
    obtain ⟨q, hq⟩ := choose_lt each
    have hspot : 0 < len → a = ⟨a.block, a.off, none⟩ := fun h0 => by
      have h1 := (hq 0 (by omega)).1 0 (by decide)
      obtain ⟨ab, ao, spot⟩ := a
      have : spot = none := by simpa [Addr.add] using World.cell?_spot h1
      rw [this]
    refine ⟨some a, m, a.block, a.off, (List.range len).map q, by rw [range_len]; exact hc, ⟨fun h => ?_, fun i hi k hk => ?_⟩, by rw [range_len]; exact hle, fun i hi => ?_⟩
    · rw [range_len] at h; rw [← hspot h]
    · have hi' := hi
      rw [range_len] at hi'
      rw [range_get]
      have h1 := (hq i (by omega)).1 k hk
      rw [hspot (by omega), Addr.add_lit] at h1
      rw [Nat.add_assoc]
      exact h1
    · have hi' := hi
      rw [range_len] at hi'
      rw [range_get]
      exact (hq i (by omega)).2
/-- opened -/
theorem rows_at {W : World} {n : Nat} {v : Value} {x : DataW H × List MemPlace} (h : DataW.trod enc Try.prog W 0 (fun _ => true) true n 22 [v] = some x) (hb : ∀ el sp, x.1 = .slice el sp → el.length ≤ 2199023255488) :
    ∃ (ad : Option Addr) (cap ab ao : Nat) (l : List Rr), v = .slice ad l.length cap ∧ Rs W ad ab ao l ∧ l.length ≤ 2199023255488 ∧ ∀ i (h : i < l.length), -9223372036854775808 ≤ (l[i]).job ∧ (l[i]).job ≤ 9223372036854775807 := by
  rcases open_slice (cs := [v]) Try.underlying22 h with ⟨hc, _⟩ | ⟨a, len, cap, m, k, D, Pl, hc, _, hl, hm, hmm, hx, hall⟩
  · simp only [List.cons.injEq, and_true] at hc
    exact ⟨none, 0, 0, 0, [], hc, ⟨fun h => absurd h (by simp), fun i h => absurd h (by simp)⟩, by simp, fun i h => absurd h (by simp)⟩
  · simp only [List.cons.injEq, and_true] at hc
    simp only [if_true] at hmm
    subst hmm
    have hle : len ≤ 2199023255488 := by
      have := hb _ _ (by rw [hx])
      rwa [range_len] at this
    have each : ∀ i, i < m → ∃ q : Rr, (∀ k, k < 8 → W.cell? (a.add (i * 8 + k)) = q.cs[k]?) ∧ (-9223372036854775808 ≤ q.job ∧ q.job ≤ 9223372036854775807) := by
      intro i hi
      obtain ⟨cs', g1, g2⟩ := hall i hi
      rw [Try.cellsR] at g1
      obtain ⟨_, hlen, hcell⟩ := World.cells?_some g1
      obtain ⟨xs, m', _, _, _, hlx, hf⟩ := DataW.trod_struct Try.underlying30 g2
      have hxs : ∀ j, j < 6 → ∃ y, xs[j]? = some y := fun j hj => ⟨xs[j]'(by rw [hlx]; exact hj), List.getElem?_eq_getElem _⟩
      match cs', hlen with
      | [c0, c1, c2, c3, c4, c5, c6, c7], hlen =>
        obtain ⟨y0, hy0⟩ := hxs 0 (by decide)
        have g3 : DataW.trod enc Try.prog W 0 (fun _ => true) true m' 3 [c0] = some y0 := by
          have this : DataW.trod enc Try.prog W 0 (fun _ => true) true m' 3 ((List.drop 0 [c0, c1, c2, c3, c4, c5, c6, c7]).take (Try.prog.cellsOf 3)) = xs[0]? := hf 0 _ rfl
          rw [Try.cellsI] at this
          rw [← hy0]; exact this
        obtain ⟨y1, hy1⟩ := hxs 1 (by decide)
        have g4 : DataW.trod enc Try.prog W 0 (fun _ => true) true m' 3 [c1] = some y1 := by
          have this : DataW.trod enc Try.prog W 0 (fun _ => true) true m' 3 ((List.drop 1 [c0, c1, c2, c3, c4, c5, c6, c7]).take (Try.prog.cellsOf 3)) = xs[1]? := hf 1 _ rfl
          rw [Try.cellsI] at this
          rw [← hy1]; exact this
        obtain ⟨y2, hy2⟩ := hxs 2 (by decide)
        have g5 : DataW.trod enc Try.prog W 0 (fun _ => true) true m' 3 [c2] = some y2 := by
          have this : DataW.trod enc Try.prog W 0 (fun _ => true) true m' 3 ((List.drop 2 [c0, c1, c2, c3, c4, c5, c6, c7]).take (Try.prog.cellsOf 3)) = xs[2]? := hf 2 _ rfl
          rw [Try.cellsI] at this
          rw [← hy2]; exact this
        obtain ⟨y3, hy3⟩ := hxs 3 (by decide)
        have g6 : DataW.trod enc Try.prog W 0 (fun _ => true) true m' 3 [c3] = some y3 := by
          have this : DataW.trod enc Try.prog W 0 (fun _ => true) true m' 3 ((List.drop 3 [c0, c1, c2, c3, c4, c5, c6, c7]).take (Try.prog.cellsOf 3)) = xs[3]? := hf 3 _ rfl
          rw [Try.cellsI] at this
          rw [← hy3]; exact this
        obtain ⟨y4, hy4⟩ := hxs 4 (by decide)
        have g7 : DataW.trod enc Try.prog W 0 (fun _ => true) true m' 25 [c4, c5] = some y4 := by
          have this : DataW.trod enc Try.prog W 0 (fun _ => true) true m' 25 ((List.drop 4 [c0, c1, c2, c3, c4, c5, c6, c7]).take (Try.prog.cellsOf 25)) = xs[4]? := hf 4 _ rfl
          rw [Try.cellsA] at this
          rw [← hy4]; exact this
        obtain ⟨y5, hy5⟩ := hxs 5 (by decide)
        have g8 : DataW.trod enc Try.prog W 0 (fun _ => true) true m' 28 [c6, c7] = some y5 := by
          have this : DataW.trod enc Try.prog W 0 (fun _ => true) true m' 28 ((List.drop 6 [c0, c1, c2, c3, c4, c5, c6, c7]).take (Try.prog.cellsOf 28)) = xs[5]? := hf 5 _ rfl
          rw [Try.cellsRe] at this
          rw [← hy5]; exact this
        obtain ⟨z0, e0, _, wf0⟩ := DataW.trod_int Try.underlying3 g3
        obtain ⟨z1, e1, _, wf1⟩ := DataW.trod_int Try.underlying3 g4
        obtain ⟨z2, e2, _, wf2⟩ := DataW.trod_int Try.underlying3 g5
        obtain ⟨z3, e3, _, wf3⟩ := DataW.trod_int Try.underlying3 g6
        obtain ⟨a0, a1, _, _, _, f0, f1⟩ := trod_struct2 Try.underlying25 g7
        obtain ⟨b0, b1, _, _, _, f2, f3⟩ := trod_struct2 Try.underlying28 g8
        simp only [Try.cellsI, Try.cellsU, List.drop_succ_cons, List.drop_zero, List.take_succ_cons, List.take_zero] at f0 f1 f2 f3
        obtain ⟨z4, e4, _, _⟩ := DataW.trod_int Try.underlying3 f0
        obtain ⟨z5, e5, _, _⟩ := DataW.trod_int Try.underlying3 f1
        obtain ⟨z6, e6, _, _⟩ := DataW.trod_int Try.underlying3 f2
        obtain ⟨z7, e7, _, _⟩ := DataW.trod_int Try.underlying26 f3
        simp only [List.cons.injEq, and_true] at e0 e1 e2 e3 e4 e5 e6 e7
        subst e0; subst e1; subst e2; subst e3; subst e4; subst e5; subst e6; subst e7
        refine ⟨⟨z0, z1, z2, z3, z4, z5, z6, z7⟩, fun k hk => ?_, bounds_i64 wf0⟩
        have hck := hcell k (by simpa using hk)
        rw [add_add] at hck
        exact hck
    have hI : Inhabited Rr := ⟨rr0⟩
    obtain ⟨q, hq⟩ := choose_lt each
    have hspot : 0 < len → a = ⟨a.block, a.off, none⟩ := fun h0 => by
      have h1 := (hq 0 (by omega)).1 0 (by decide)
      obtain ⟨ab, ao, spot⟩ := a
      have : spot = none := by simpa [Addr.add] using World.cell?_spot h1
      rw [this]
    refine ⟨some a, m, a.block, a.off, (List.range len).map q, by rw [range_len]; exact hc, ⟨fun h => ?_, fun i hi k hk => ?_⟩, by rw [range_len]; exact hle, fun i hi => ?_⟩
    · rw [range_len] at h; rw [← hspot h]
    · have hi' := hi
      rw [range_len] at hi'
      rw [range_get]
      have h1 := (hq i (by omega)).1 k hk
      rw [hspot (by omega), Addr.add_lit] at h1
      rw [Nat.add_assoc]
      exact h1
    · have hi' := hi
      rw [range_len] at hi'
      rw [range_get]
      exact (hq i (by omega)).2
end
end Go.Proofs.Ytkchddphmkgilaa
