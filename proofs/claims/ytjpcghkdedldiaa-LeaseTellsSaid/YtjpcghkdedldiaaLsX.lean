import Derived.Test.YtjpcghkdedldiaaLsR
import Derived.ProofKit
import Derived.OpenShut
import Derived.ShutString
import Derived.SizedLaws
import Derived.Carry
import Derived.Deep.SlicePairs
import Derived.Deep.Strs
import Derived.Lib.SmallJoins
namespace Go.Proofs.Ytjpcghkdedldiaa
open Go.ChangeShapes Go.WideShapes Go.ChangeAt Go.RowKit Go.Deep

theorem own : ownKnob Try.prog.godebug = none := by kernel_rfl
theorem Try.laidOut : laidOutB Try.prog = true := by kernel_rfl
theorem Try.cellsI : Try.prog.cellsOf 3 = 1 := by kernel_rfl
theorem Try.cellsA : Try.prog.cellsOf 36 = 2 := by kernel_rfl
theorem Try.bytesO : Try.prog.bytesOf 38 = 48 := by kernel_rfl
theorem Try.cellsO : Try.prog.cellsOf 38 = 6 := by kernel_rfl
theorem Try.bytesN : Try.prog.bytesOf 3 = 8 := by kernel_rfl
/-- a number of 64 bits -/
def I6 (n : Int) : Prop := -9223372036854775808 ≤ n ∧ n ≤ 9223372036854775807
/-- a script that is read -/
structure Sr (w : World) (ad : Option Addr) (ab ao : Nat) (L : List Lo) : Prop where
  at_ : 0 < L.length → ad = some ⟨ab, ao, none⟩
  c : ∀ i (h : i < L.length) k, k < 6 → w.cell? ⟨ab, ao + i * 6 + k, none⟩ = (L[i]).cs[k]?
theorem Sr.lt {w : World} {ad : Option Addr} {ab ao : Nat} {L : List Lo} (h : Sr w ad ab ao L) (h0 : 0 < L.length) : ab < w.heap.size := World.block_lt_of_cell? _ _ (h.c 0 h0 0 (by decide))
theorem Sr.keep {w w' : World} {ad : Option Addr} {ab ao : Nat} {L : List Lo} (h : Sr w ad ab ao L) (hk : 0 < L.length → w'.heap[ab]? = w.heap[ab]?) : Sr w' ad ab ao L :=
  ⟨h.at_, fun i hi k h8 => (World.cell?_of_block (hk (by omega))).trans (h.c i hi k h8)⟩
theorem Sr.below {w w' : World} {ad : Option Addr} {ab ao : Nat} {L : List Lo} (h : Sr w ad ab ao L) (hb : Below w.heap.size w w') : Sr w' ad ab ao L := h.keep fun h0 => hb.block _ (h.lt h0)
theorem Sr.six {w : World} {ad : Option Addr} {ab ao : Nat} {L : List Lo} (h : Sr w ad ab ao L) {i : Nat} (hi : i < L.length) :
    w.cell? ⟨ab, ao + i * 6, none⟩ = some (.int .i64 (L[i]).on) ∧ w.cell? ⟨ab, ao + i * 6 + 1, none⟩ = some (.int .i64 (L[i]).kind) ∧ w.cell? ⟨ab, ao + i * 6 + 2, none⟩ = some (.int .i64 (L[i]).job) ∧ w.cell? ⟨ab, ao + i * 6 + 3, none⟩ = some (.int .i64 (L[i]).bdg) ∧
    w.cell? ⟨ab, ao + i * 6 + 4, none⟩ = some (.int .i64 (L[i]).node) ∧ w.cell? ⟨ab, ao + i * 6 + 5, none⟩ = some (.int .i64 (L[i]).life) :=
  ⟨h.c i hi 0 (by decide), h.c i hi 1 (by decide), h.c i hi 2 (by decide), h.c i hi 3 (by decide), h.c i hi 4 (by decide), h.c i hi 5 (by decide)⟩
/-- numbers that are read -/
structure Ir (w : World) (ad : Option Addr) (ab ao : Nat) (L : List Int) : Prop where
  at_ : 0 < L.length → ad = some ⟨ab, ao, none⟩
  c : ∀ i (h : i < L.length), w.cell? ⟨ab, ao + i, none⟩ = some (.int .i64 L[i])
theorem Ir.lt {w : World} {ad : Option Addr} {ab ao : Nat} {L : List Int} (h : Ir w ad ab ao L) (h0 : 0 < L.length) : ab < w.heap.size := World.block_lt_of_cell? _ _ (h.c 0 h0)
theorem Ir.keep {w w' : World} {ad : Option Addr} {ab ao : Nat} {L : List Int} (h : Ir w ad ab ao L) (hk : 0 < L.length → w'.heap[ab]? = w.heap[ab]?) : Ir w' ad ab ao L :=
  ⟨h.at_, fun i hi => (World.cell?_of_block (hk (by omega))).trans (h.c i hi)⟩
theorem Ir.below {w w' : World} {ad : Option Addr} {ab ao : Nat} {L : List Int} (h : Ir w ad ab ao L) (hb : Below w.heap.size w w') : Ir w' ad ab ao L := h.keep fun h0 => hb.block _ (h.lt h0)
section
variable {H : Type} {enc : TypeId × Value → H}
theorem range_get {α : Type} (f : Nat → α) (n i : Nat) (h : i < ((List.range n).map f).length) : ((List.range n).map f)[i] = f i := by simp
theorem range_len {α : Type} (f : Nat → α) (n : Nat) : ((List.range n).map f).length = n := by simp

set_option maxRecDepth 20000 in
/-- opened -/
theorem ops_at {W : World} {n : Nat} {v : Value} {x : DataW H × List MemPlace} (h : DataW.trod enc Try.prog W 0 (fun _ => true) true n 22 [v] = some x) (hb : ∀ el sp, x.1 = .slice el sp → el.length ≤ 2932031007402) :
    ∃ (ad : Option Addr) (cap ab ao : Nat) (l : List Lo), v = .slice ad l.length cap ∧ Sr W ad ab ao l ∧ l.length ≤ 2932031007402 ∧ ∀ i (h : i < l.length), I6 (l[i]).on ∧ I6 (l[i]).job := by
  rcases open_slice (cs := [v]) Try.underlying22 h with ⟨hc, _⟩ | ⟨a, len, cap, m, k, D, Pl, hc, _, hl, hm, hmm, hx, hall⟩
  · simp only [List.cons.injEq, and_true] at hc
    exact ⟨none, 0, 0, 0, [], hc, ⟨fun h => absurd h (by simp), fun i h => absurd h (by simp)⟩, by simp, fun i h => absurd h (by simp)⟩
  · simp only [List.cons.injEq, and_true] at hc
    simp only [if_true] at hmm
    subst hmm
    have hle : len ≤ 2932031007402 := by
      have := hb _ _ (by rw [hx])
      rwa [range_len] at this
    have each : ∀ i, i < m → ∃ q : Lo, (∀ k, k < 6 → W.cell? (a.add (i * 6 + k)) = q.cs[k]?) ∧ I6 q.on ∧ I6 q.job := by
      intro i hi
      obtain ⟨cs', g1, g2⟩ := hall i hi
      rw [Try.cellsO] at g1
      obtain ⟨_, hlen, hcell⟩ := World.cells?_some g1
      obtain ⟨xs, m', _, _, _, hlx, hf⟩ := DataW.trod_struct Try.underlying38 g2
      have hxs : ∀ j, j < 5 → ∃ y, xs[j]? = some y := fun j hj => ⟨xs[j]'(by rw [hlx]; exact hj), List.getElem?_eq_getElem _⟩
      match cs', hlen with
      | [c0, c1, c2, c3, c4, c5], hlen =>
        obtain ⟨y0, hy0⟩ := hxs 0 (by decide)
        have g3 : DataW.trod enc Try.prog W 0 (fun _ => true) true m' 3 [c0] = some y0 := by
          have this : DataW.trod enc Try.prog W 0 (fun _ => true) true m' 3 ((List.drop 0 [c0, c1, c2, c3, c4, c5]).take (Try.prog.cellsOf 3)) = xs[0]? := hf 0 _ rfl
          rw [Try.cellsI] at this
          rw [← hy0]; exact this
        obtain ⟨y1, hy1⟩ := hxs 1 (by decide)
        have g4 : DataW.trod enc Try.prog W 0 (fun _ => true) true m' 3 [c1] = some y1 := by
          have this : DataW.trod enc Try.prog W 0 (fun _ => true) true m' 3 ((List.drop 1 [c0, c1, c2, c3, c4, c5]).take (Try.prog.cellsOf 3)) = xs[1]? := hf 1 _ rfl
          rw [Try.cellsI] at this
          rw [← hy1]; exact this
        obtain ⟨y2, hy2⟩ := hxs 2 (by decide)
        have g5 : DataW.trod enc Try.prog W 0 (fun _ => true) true m' 3 [c2] = some y2 := by
          have this : DataW.trod enc Try.prog W 0 (fun _ => true) true m' 3 ((List.drop 2 [c0, c1, c2, c3, c4, c5]).take (Try.prog.cellsOf 3)) = xs[2]? := hf 2 _ rfl
          rw [Try.cellsI] at this
          rw [← hy2]; exact this
        obtain ⟨y3, hy3⟩ := hxs 3 (by decide)
        have g6 : DataW.trod enc Try.prog W 0 (fun _ => true) true m' 3 [c3] = some y3 := by
          have this : DataW.trod enc Try.prog W 0 (fun _ => true) true m' 3 ((List.drop 3 [c0, c1, c2, c3, c4, c5]).take (Try.prog.cellsOf 3)) = xs[3]? := hf 3 _ rfl
          rw [Try.cellsI] at this
          rw [← hy3]; exact this
        obtain ⟨y4, hy4⟩ := hxs 4 (by decide)
        have g7 : DataW.trod enc Try.prog W 0 (fun _ => true) true m' 36 [c4, c5] = some y4 := by
          have this : DataW.trod enc Try.prog W 0 (fun _ => true) true m' 36 ((List.drop 4 [c0, c1, c2, c3, c4, c5]).take (Try.prog.cellsOf 36)) = xs[4]? := hf 4 _ rfl
          rw [Try.cellsA] at this
          rw [← hy4]; exact this
        obtain ⟨z0, e0, _, wf0⟩ := DataW.trod_int Try.underlying3 g3
        obtain ⟨z1, e1, _, _⟩ := DataW.trod_int Try.underlying3 g4
        obtain ⟨z2, e2, _, wf2⟩ := DataW.trod_int Try.underlying3 g5
        obtain ⟨z3, e3, _, _⟩ := DataW.trod_int Try.underlying3 g6
        obtain ⟨a0, a1, _, _, _, f0, f1⟩ := trod_struct2 Try.underlying36 g7
        simp only [Try.cellsI, List.drop_succ_cons, List.drop_zero, List.take_succ_cons, List.take_zero] at f0 f1
        obtain ⟨z4, e4, _, _⟩ := DataW.trod_int Try.underlying3 f0
        obtain ⟨z5, e5, _, _⟩ := DataW.trod_int Try.underlying3 f1
        simp only [List.cons.injEq, and_true] at e0 e1 e2 e3 e4 e5
        subst e0; subst e1; subst e2; subst e3; subst e4; subst e5
        refine ⟨⟨z0, z1, z2, z3, z4, z5⟩, fun k hk => ?_, bounds_i64 wf0, bounds_i64 wf2⟩
        have hck := hcell k (by simpa using hk)
        rw [add_add] at hck
        exact hck
    have hI : Inhabited Lo := ⟨lo0⟩
    obtain ⟨q, hq⟩ := choose_lt each
    have hspot : 0 < len → a = ⟨a.block, a.off, none⟩ := fun h0 => by
      have h1 := (hq 0 (by omega)).1 0 (by decide)
      obtain ⟨ab, ao, spot⟩ := a
      have : spot = none := by simpa [Addr.add] using World.cell?_spot h1
      rw [this]
    refine ⟨some a, m, a.block, a.off, (List.range len).map q, by rw [range_len]; exact hc, ⟨fun h => ?_, fun i hi k hk => ?_⟩, by rw [range_len]; exact hle, fun i hi => ?_⟩
    · rw [range_len] at h; rw [← hspot h]
    · have hi' := hi
      rw [range_len] at hi'
      rw [range_get]
      have h1 := (hq i (by omega)).1 k hk
      rw [hspot (by omega), Addr.add_lit] at h1
      rw [Nat.add_assoc]
      exact h1
    · have hi' := hi
      rw [range_len] at hi'
      rw [range_get]
      exact (hq i (by omega)).2
set_option maxRecDepth 20000 in
/-- opened -/
theorem ints_at {W : World} {n : Nat} {v : Value} {x : DataW H × List MemPlace} (h : DataW.trod enc Try.prog W 0 (fun _ => true) true n 49 [v] = some x) (hb : ∀ el sp, x.1 = .slice el sp → el.length ≤ 17592186044416) :
    ∃ (ad : Option Addr) (cap ab ao : Nat) (l : List Int), v = .slice ad l.length cap ∧ Ir W ad ab ao l ∧ l.length ≤ 17592186044416 ∧ ∀ i (h : i < l.length), I6 l[i] := by
  rcases open_slice (cs := [v]) Try.underlying49 h with ⟨hc, _⟩ | ⟨a, len, cap, m, k, D, Pl, hc, _, hl, hm, hmm, hx, hall⟩
  · simp only [List.cons.injEq, and_true] at hc
    exact ⟨none, 0, 0, 0, [], hc, ⟨fun h => absurd h (by simp), fun i h => absurd h (by simp)⟩, by simp, fun i h => absurd h (by simp)⟩
  · simp only [List.cons.injEq, and_true] at hc
    simp only [if_true] at hmm
    subst hmm
    have hle : len ≤ 17592186044416 := by
      have := hb _ _ (by rw [hx])
      rwa [range_len] at this
    have each : ∀ i, i < m → ∃ q : Int, W.cell? (a.add i) = some (.int .i64 q) ∧ I6 q := by
      intro i hi
      obtain ⟨cs', g1, g2⟩ := hall i hi
      rw [Try.cellsI, Nat.mul_one] at g1
      obtain ⟨_, hlen, hcell⟩ := World.cells?_some g1
      match cs', hlen with
      | [c0], hlen =>
        obtain ⟨z0, e0, _, wf0⟩ := DataW.trod_int Try.underlying3 g2
        simp only [List.cons.injEq, and_true] at e0
        subst e0
        refine ⟨z0, ?_, bounds_i64 wf0⟩
        have hck := hcell 0 (by decide)
        rw [add_add] at hck
        exact hck
    have hI : Inhabited Int := ⟨0⟩
    obtain ⟨q, hq⟩ := choose_lt each
    have hspot : 0 < len → a = ⟨a.block, a.off, none⟩ := fun h0 => by
      have h1 := (hq 0 (by omega)).1
      obtain ⟨ab, ao, spot⟩ := a
      have : spot = none := by simpa [Addr.add] using World.cell?_spot h1
      rw [this]
    refine ⟨some a, m, a.block, a.off, (List.range len).map q, by rw [range_len]; exact hc, ⟨fun h => ?_, fun i hi => ?_⟩, by rw [range_len]; exact hle, fun i hi => ?_⟩
    · rw [range_len] at h; rw [← hspot h]
    · have hi' := hi
      rw [range_len] at hi'
      rw [range_get]
      have h1 := (hq i (by omega)).1
      rw [hspot (by omega), Addr.add_lit] at h1
      exact h1
    · have hi' := hi
      rw [range_len] at hi'
      rw [range_get]
      exact (hq i (by omega)).2
end
end Go.Proofs.Ytjpcghkdedldiaa
