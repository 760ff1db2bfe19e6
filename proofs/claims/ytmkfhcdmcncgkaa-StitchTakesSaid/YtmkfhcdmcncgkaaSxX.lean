import Derived.Test.YtmkfhcdmcncgkaaSxI
import Derived.ProofKit
import Derived.OpenShut
import Derived.ShutString
import Derived.SizedLaws
import Derived.Carry
import Derived.Deep.SlicePairs
import Derived.Deep.Strs
import Derived.Lib.SmallJoins
namespace Go.Proofs.Ytmkfhcdmcncgkaa
open Go.ChangeShapes Go.WideShapes Go.ChangeAt Go.RowKit Go.Deep

theorem own : ownKnob Try.prog.godebug = none := by kernel_rfl
theorem Try.laidOut : laidOutB Try.prog = true := by kernel_rfl
theorem Try.cellsI : Try.prog.cellsOf 3 = 1 := by kernel_rfl
theorem Try.cellsS : Try.prog.cellsOf 9 = 1 := by kernel_rfl
/-- a number of 64 bits -/
def I6 (n : Int) : Prop := -9223372036854775808 ≤ n ∧ n ≤ 9223372036854775807
/-- elements that are read -/
structure Sr {α : Type} (cs : α → List Value) (N : Nat) (w : World) (ad : Option Addr) (ab ao : Nat) (L : List α) : Prop where
  at_ : 0 < L.length → ad = some ⟨ab, ao, none⟩
  c : ∀ i (h : i < L.length) k, k < N → w.cell? ⟨ab, ao + i * N + k, none⟩ = (cs (L[i]))[k]?
theorem Sr.lt {α : Type} {cs : α → List Value} {N : Nat} {w : World} {ad : Option Addr} {ab ao : Nat} {L : List α} (h : Sr cs N w ad ab ao L) (h0 : 0 < L.length) (hN : 0 < N) (hc : ∀ x, ∃ v, (cs x)[0]? = some v) : ab < w.heap.size := by
  obtain ⟨v, hv⟩ := hc (L[0])
  exact World.block_lt_of_cell? _ _ ((h.c 0 h0 0 hN).trans hv)
theorem Sr.keep {α : Type} {cs : α → List Value} {N : Nat} {w w' : World} {ad : Option Addr} {ab ao : Nat} {L : List α} (h : Sr cs N w ad ab ao L) (hk : 0 < L.length → w'.heap[ab]? = w.heap[ab]?) : Sr cs N w' ad ab ao L :=
  ⟨h.at_, fun i hi k h8 => (World.cell?_of_block (hk (by omega))).trans (h.c i hi k h8)⟩
theorem Sr.below {α : Type} {cs : α → List Value} {N : Nat} {w w' : World} {ad : Option Addr} {ab ao : Nat} {L : List α} (h : Sr cs N w ad ab ao L) (hN : 0 < N) (hc : ∀ x, ∃ v, (cs x)[0]? = some v) (hb : Below w.heap.size w w') : Sr cs N w' ad ab ao L := h.keep fun h0 => hb.block _ (h.lt h0 hN hc)
structure Ir (w : World) (ad : Option Addr) (ab ao : Nat) (L : List Int) : Prop where
  at_ : 0 < L.length → ad = some ⟨ab, ao, none⟩
  c : ∀ i (h : i < L.length), w.cell? ⟨ab, ao + i, none⟩ = some (.int .i64 L[i])
theorem Ir.lt {w : World} {ad : Option Addr} {ab ao : Nat} {L : List Int} (h : Ir w ad ab ao L) (h0 : 0 < L.length) : ab < w.heap.size := World.block_lt_of_cell? _ _ (h.c 0 h0)
theorem Ir.keep {w w' : World} {ad : Option Addr} {ab ao : Nat} {L : List Int} (h : Ir w ad ab ao L) (hk : 0 < L.length → w'.heap[ab]? = w.heap[ab]?) : Ir w' ad ab ao L :=
  ⟨h.at_, fun i hi => (World.cell?_of_block (hk (by omega))).trans (h.c i hi)⟩
theorem Ir.below {w w' : World} {ad : Option Addr} {ab ao : Nat} {L : List Int} (h : Ir w ad ab ao L) (hb : Below w.heap.size w w') : Ir w' ad ab ao L := h.keep fun h0 => hb.block _ (h.lt h0)
structure Tr (w : World) (ad : Option Addr) (ab ao : Nat) (L : List ByteArray) : Prop where
  at_ : 0 < L.length → ad = some ⟨ab, ao, none⟩
  c : ∀ i (h : i < L.length), w.cell? ⟨ab, ao + i, none⟩ = some (.string L[i])
theorem Tr.lt {w : World} {ad : Option Addr} {ab ao : Nat} {L : List ByteArray} (h : Tr w ad ab ao L) (h0 : 0 < L.length) : ab < w.heap.size := World.block_lt_of_cell? _ _ (h.c 0 h0)
theorem Tr.keep {w w' : World} {ad : Option Addr} {ab ao : Nat} {L : List ByteArray} (h : Tr w ad ab ao L) (hk : 0 < L.length → w'.heap[ab]? = w.heap[ab]?) : Tr w' ad ab ao L :=
  ⟨h.at_, fun i hi => (World.cell?_of_block (hk (by omega))).trans (h.c i hi)⟩
theorem Tr.below {w w' : World} {ad : Option Addr} {ab ao : Nat} {L : List ByteArray} (h : Tr w ad ab ao L) (hb : Below w.heap.size w w') : Tr w' ad ab ao L := h.keep fun h0 => hb.block _ (h.lt h0)
theorem Try.bytesI : Try.prog.bytesOf 3 = 8 := by kernel_rfl
theorem Try.bytesS : Try.prog.bytesOf 9 = 16 := by kernel_rfl
section
variable {H : Type} {enc : TypeId × Value → H}
theorem range_get {α : Type} (f : Nat → α) (n i : Nat) (h : i < ((List.range n).map f).length) : ((List.range n).map f)[i] = f i := by simp
theorem range_len {α : Type} (f : Nat → α) (n : Nat) : ((List.range n).map f).length = n := by simp
/-- an element -/
structure Oc where
  k : Int
  on : Int
  n : Int
  tx : ByteArray
def Oc.cs (d : Oc) : List Value := [.int .i64 d.k, .int .i64 d.on, .int .i64 d.n, .string d.tx]
theorem Oc.cs0 (d : Oc) : ∃ v, (Oc.cs d)[0]? = some v := ⟨_, rfl⟩
theorem Try.bytesOc : Try.prog.bytesOf 34 = 40 := by kernel_rfl
theorem Try.cellsOc : Try.prog.cellsOf 34 = 4 := by kernel_rfl
set_option maxRecDepth 20000 in
/-- opened -/
theorem ops_at {W : World} {n : Nat} {v : Value} {x : DataW H × List MemPlace} (h : DataW.trod enc Try.prog W 0 (fun _ => true) true n 22 [v] = some x) (hb : ∀ el sp, x.1 = .slice el sp → el.length ≤ 3518437208780) :
    ∃ (ad : Option Addr) (cap ab ao : Nat) (l : List Oc), v = .slice ad l.length cap ∧ Sr Oc.cs 4 W ad ab ao l ∧ l.length ≤ 3518437208780 ∧ ∀ i (h : i < l.length), I6 (l[i]).on ∧ I6 (l[i]).n := by
  rcases open_slice (cs := [v]) Try.underlying22 h with ⟨hc, _⟩ | ⟨a, len, cap, m, k, D, Pl, hc, _, hl, hm, hmm, hx, hall⟩
  · simp only [List.cons.injEq, and_true] at hc
    exact ⟨none, 0, 0, 0, [], hc, ⟨fun h => absurd h (by simp), fun i h => absurd h (by simp)⟩, by simp, fun i h => absurd h (by simp)⟩
  · simp only [List.cons.injEq, and_true] at hc
    simp only [if_true] at hmm
    subst hmm
    have hle : len ≤ 3518437208780 := by
      have := hb _ _ (by rw [hx])
      rwa [range_len] at this
    have each : ∀ i, i < m → ∃ q : Oc, (∀ k, k < 4 → W.cell? (a.add (i * 4 + k)) = q.cs[k]?) ∧ I6 q.on ∧ I6 q.n := by
      intro i hi
      obtain ⟨cs', g1, g2⟩ := hall i hi
      rw [Try.cellsOc] at g1
      obtain ⟨_, hlen, hcell⟩ := World.cells?_some g1
      obtain ⟨xs, m', _, _, _, hlx, hf⟩ := DataW.trod_struct Try.underlying34 g2
      have hxs : ∀ j, j < 4 → ∃ y, xs[j]? = some y := fun j hj => ⟨xs[j]'(by rw [hlx]; exact hj), List.getElem?_eq_getElem _⟩
      match cs', hlen with
      | [c0, c1, c2, c3], hlen =>
        obtain ⟨y0, hy0⟩ := hxs 0 (by decide)
        have g3 : DataW.trod enc Try.prog W 0 (fun _ => true) true m' 3 [c0] = some y0 := by
          have this : DataW.trod enc Try.prog W 0 (fun _ => true) true m' 3 ((List.drop 0 [c0, c1, c2, c3]).take (Try.prog.cellsOf 3)) = xs[0]? := hf 0 _ rfl
          rw [Try.cellsI] at this
          rw [← hy0]; exact this
        obtain ⟨y1, hy1⟩ := hxs 1 (by decide)
        have g4 : DataW.trod enc Try.prog W 0 (fun _ => true) true m' 3 [c1] = some y1 := by
          have this : DataW.trod enc Try.prog W 0 (fun _ => true) true m' 3 ((List.drop 1 [c0, c1, c2, c3]).take (Try.prog.cellsOf 3)) = xs[1]? := hf 1 _ rfl
          rw [Try.cellsI] at this
          rw [← hy1]; exact this
        obtain ⟨y2, hy2⟩ := hxs 2 (by decide)
        have g5 : DataW.trod enc Try.prog W 0 (fun _ => true) true m' 3 [c2] = some y2 := by
          have this : DataW.trod enc Try.prog W 0 (fun _ => true) true m' 3 ((List.drop 2 [c0, c1, c2, c3]).take (Try.prog.cellsOf 3)) = xs[2]? := hf 2 _ rfl
          rw [Try.cellsI] at this
          rw [← hy2]; exact this
        obtain ⟨y3, hy3⟩ := hxs 3 (by decide)
        have g6 : DataW.trod enc Try.prog W 0 (fun _ => true) true m' 9 [c3] = some y3 := by
          have this : DataW.trod enc Try.prog W 0 (fun _ => true) true m' 9 ((List.drop 3 [c0, c1, c2, c3]).take (Try.prog.cellsOf 9)) = xs[3]? := hf 3 _ rfl
          rw [Try.cellsS] at this
          rw [← hy3]; exact this
        obtain ⟨z0, e0, _, wf0⟩ := DataW.trod_int Try.underlying3 g3
        obtain ⟨z1, e1, _, wf1⟩ := DataW.trod_int Try.underlying3 g4
        obtain ⟨z2, e2, _, wf2⟩ := DataW.trod_int Try.underlying3 g5
        obtain ⟨z3, e3, _, _⟩ := DataW.trod_string Try.underlying9 g6
        simp only [List.cons.injEq, and_true] at e0 e1 e2 e3
        subst e0; subst e1; subst e2; subst e3
        refine ⟨⟨z0, z1, z2, z3⟩, fun k hk => ?_, bounds_i64 wf1, bounds_i64 wf2⟩
        have hck := hcell k (by simpa using hk)
        rw [add_add] at hck
        exact hck
    have hI : Inhabited Oc := ⟨⟨0, 0, 0, ByteArray.empty⟩⟩
    obtain ⟨q, hq⟩ := choose_lt each
    have hspot : 0 < len → a = ⟨a.block, a.off, none⟩ := fun h0 => by
      have h1 := (hq 0 (by omega)).1 0 (by decide)
      obtain ⟨ab, ao, spot⟩ := a
      have : spot = none := by simpa [Addr.add] using World.cell?_spot h1
      rw [this]
    refine ⟨some a, m, a.block, a.off, (List.range len).map q, by rw [range_len]; exact hc, ⟨fun h => ?_, fun i hi k hk => ?_⟩, by rw [range_len]; exact hle, fun i hi => ?_⟩
    · rw [range_len] at h; rw [← hspot h]
    · have hi' := hi
      rw [range_len] at hi'
      rw [range_get]
      have h1 := (hq i (by omega)).1 k hk
      rw [hspot (by omega), Addr.add_lit] at h1
      rw [Nat.add_assoc]
      exact h1
    · have hi' := hi
      rw [range_len] at hi'
      rw [range_get]
      exact (hq i (by omega)).2
theorem Sr.four {w : World} {ad : Option Addr} {ab ao : Nat} {L : List Oc} (h : Sr Oc.cs 4 w ad ab ao L) {i : Nat} (hi : i < L.length) :
    w.cell? ⟨ab, ao + i * 4, none⟩ = some (.int .i64 (L[i]).k) ∧ w.cell? ⟨ab, ao + i * 4 + 1, none⟩ = some (.int .i64 (L[i]).on) ∧ w.cell? ⟨ab, ao + i * 4 + 2, none⟩ = some (.int .i64 (L[i]).n) ∧ w.cell? ⟨ab, ao + i * 4 + 3, none⟩ = some (.string (L[i]).tx) :=
  ⟨h.c i hi 0 (by decide), h.c i hi 1 (by decide), h.c i hi 2 (by decide), h.c i hi 3 (by decide)⟩
set_option maxRecDepth 20000 in
theorem ints_at {W : World} {n : Nat} {v : Value} {x : DataW H × List MemPlace} (h : DataW.trod enc Try.prog W 0 (fun _ => true) true n 44 [v] = some x) (hb : ∀ el sp, x.1 = .slice el sp → el.length ≤ 17592186044416) :
    ∃ (ad : Option Addr) (cap ab ao : Nat) (l : List Int), v = .slice ad l.length cap ∧ Ir W ad ab ao l ∧ l.length ≤ 17592186044416 ∧ ∀ i (h : i < l.length), I6 l[i] := by
  rcases open_slice (cs := [v]) Try.underlying44 h with ⟨hc, _⟩ | ⟨a, len, cap, m, k, D, Pl, hc, _, hl, hm, hmm, hx, hall⟩
  · simp only [List.cons.injEq, and_true] at hc
    exact ⟨none, 0, 0, 0, [], hc, ⟨fun h => absurd h (by simp), fun i h => absurd h (by simp)⟩, by simp, fun i h => absurd h (by simp)⟩
  · simp only [List.cons.injEq, and_true] at hc
    simp only [if_true] at hmm
    subst hmm
    have hle : len ≤ 17592186044416 := by
      have := hb _ _ (by rw [hx])
      rwa [range_len] at this
    have each : ∀ i, i < m → ∃ q : Int, W.cell? (a.add i) = some (.int .i64 q) ∧ I6 q := by
      intro i hi
      obtain ⟨cs', g1, g2⟩ := hall i hi
      rw [Try.cellsI, Nat.mul_one] at g1
      obtain ⟨_, hlen, hcell⟩ := World.cells?_some g1
      match cs', hlen with
      | [c0], hlen =>
        obtain ⟨z0, e0, _, wf0⟩ := DataW.trod_int Try.underlying3 g2
        simp only [List.cons.injEq, and_true] at e0
        subst e0
        refine ⟨z0, ?_, bounds_i64 wf0⟩
        have hck := hcell 0 (by decide)
        rw [add_add] at hck
        exact hck
    have hI : Inhabited Int := ⟨0⟩
    obtain ⟨q, hq⟩ := choose_lt each
    have hspot : 0 < len → a = ⟨a.block, a.off, none⟩ := fun h0 => by
      have h1 := (hq 0 (by omega)).1
      obtain ⟨ab, ao, spot⟩ := a
      have : spot = none := by simpa [Addr.add] using World.cell?_spot h1
      rw [this]
    refine ⟨some a, m, a.block, a.off, (List.range len).map q, by rw [range_len]; exact hc, ⟨fun h => ?_, fun i hi => ?_⟩, by rw [range_len]; exact hle, fun i hi => ?_⟩
    · rw [range_len] at h; rw [← hspot h]
    · have hi' := hi
      rw [range_len] at hi'
      rw [range_get]
      have h1 := (hq i (by omega)).1
      rw [hspot (by omega), Addr.add_lit] at h1
      exact h1
    · have hi' := hi
      rw [range_len] at hi'
      rw [range_get]
      exact (hq i (by omega)).2
set_option maxRecDepth 20000 in
theorem strs_at {W : World} {n : Nat} {v : Value} {x : DataW H × List MemPlace} (h : DataW.trod enc Try.prog W 0 (fun _ => true) true n 43 [v] = some x) (hb : ∀ el sp, x.1 = .slice el sp → el.length ≤ 8796093021952) :
    ∃ (ad : Option Addr) (cap ab ao : Nat) (l : List ByteArray), v = .slice ad l.length cap ∧ Tr W ad ab ao l ∧ l.length ≤ 8796093021952 ∧ True := by
  rcases open_slice (cs := [v]) Try.underlying43 h with ⟨hc, _⟩ | ⟨a, len, cap, m, k, D, Pl, hc, _, hl, hm, hmm, hx, hall⟩
  · simp only [List.cons.injEq, and_true] at hc
    exact ⟨none, 0, 0, 0, [], hc, ⟨fun h => absurd h (by simp), fun i h => absurd h (by simp)⟩, by simp, trivial⟩
  · simp only [List.cons.injEq, and_true] at hc
    simp only [if_true] at hmm
    subst hmm
    have hle : len ≤ 8796093021952 := by
      have := hb _ _ (by rw [hx])
      rwa [range_len] at this
    have each : ∀ i, i < m → ∃ q : ByteArray, W.cell? (a.add i) = some (.string q) ∧ True := by
      intro i hi
      obtain ⟨cs', g1, g2⟩ := hall i hi
      rw [Try.cellsS, Nat.mul_one] at g1
      obtain ⟨_, hlen, hcell⟩ := World.cells?_some g1
      match cs', hlen with
      | [c0], hlen =>
        obtain ⟨z0, e0, _, _⟩ := DataW.trod_string Try.underlying9 g2
        simp only [List.cons.injEq, and_true] at e0
        subst e0
        refine ⟨z0, ?_, trivial⟩
        have hck := hcell 0 (by decide)
        rw [add_add] at hck
        exact hck
    have hI : Inhabited ByteArray := ⟨ByteArray.empty⟩
    obtain ⟨q, hq⟩ := choose_lt each
    have hspot : 0 < len → a = ⟨a.block, a.off, none⟩ := fun h0 => by
      have h1 := (hq 0 (by omega)).1
      obtain ⟨ab, ao, spot⟩ := a
      have : spot = none := by simpa [Addr.add] using World.cell?_spot h1
      rw [this]
    refine ⟨some a, m, a.block, a.off, (List.range len).map q, by rw [range_len]; exact hc, ⟨fun h => ?_, fun i hi => ?_⟩, by rw [range_len]; exact hle, ?_⟩
    · rw [range_len] at h; rw [← hspot h]
    · have hi' := hi
      rw [range_len] at hi'
      rw [range_get]
      have h1 := (hq i (by omega)).1
      rw [hspot (by omega), Addr.add_lit] at h1
      exact h1
    · trivial
end
end Go.Proofs.Ytmkfhcdmcncgkaa
