import Derived.Test.YtonoogiadgjodaaSeJ
import Derived.ProofKit
import Derived.OpenShut
import Derived.ShutString
import Derived.SizedLaws
import Derived.Carry
import Derived.Deep.SlicePairs
import Derived.Deep.Strs
import Derived.Lib.SmallJoins
namespace Go.Proofs.Ytonoogiadgjodaa
open Go.ChangeShapes Go.WideShapes Go.ChangeAt Go.RowKit Go.Deep

theorem own : ownKnob Try.prog.godebug = none := by kernel_rfl
theorem Try.laidOut : laidOutB Try.prog = true := by kernel_rfl
theorem Try.cellsI : Try.prog.cellsOf 3 = 1 := by kernel_rfl
theorem Try.cellsS : Try.prog.cellsOf 9 = 1 := by kernel_rfl
theorem Try.cellsU : Try.prog.cellsOf 32 = 1 := by kernel_rfl
theorem Try.cellsR : Try.prog.cellsOf 34 = 2 := by kernel_rfl
theorem Try.cellsM : Try.prog.cellsOf 36 = 11 := by kernel_rfl
/-- a number of 64 bits -/
def I6 (n : Int) : Prop := -9223372036854775808 ≤ n ∧ n ≤ 9223372036854775807
/-- elements that are read -/
structure Sr {α : Type} (cs : α → List Value) (N : Nat) (w : World) (ad : Option Addr) (ab ao : Nat) (L : List α) : Prop where
  at_ : 0 < L.length → ad = some ⟨ab, ao, none⟩
  c : ∀ i (h : i < L.length) k, k < N → w.cell? ⟨ab, ao + i * N + k, none⟩ = (cs (L[i]))[k]?
theorem Sr.lt {α : Type} {cs : α → List Value} {N : Nat} {w : World} {ad : Option Addr} {ab ao : Nat} {L : List α} (h : Sr cs N w ad ab ao L) (h0 : 0 < L.length) (hN : 0 < N) (hc : ∀ x, ∃ v, (cs x)[0]? = some v) : ab < w.heap.size := by
  obtain ⟨v, hv⟩ := hc (L[0])
  exact World.block_lt_of_cell? _ _ ((h.c 0 h0 0 hN).trans hv)
theorem Sr.keep {α : Type} {cs : α → List Value} {N : Nat} {w w' : World} {ad : Option Addr} {ab ao : Nat} {L : List α} (h : Sr cs N w ad ab ao L) (hk : 0 < L.length → w'.heap[ab]? = w.heap[ab]?) : Sr cs N w' ad ab ao L :=
  ⟨h.at_, fun i hi k h8 => (World.cell?_of_block (hk (by omega))).trans (h.c i hi k h8)⟩
theorem Sr.below {α : Type} {cs : α → List Value} {N : Nat} {w w' : World} {ad : Option Addr} {ab ao : Nat} {L : List α} (h : Sr cs N w ad ab ao L) (hN : 0 < N) (hc : ∀ x, ∃ v, (cs x)[0]? = some v) (hb : Below w.heap.size w w') : Sr cs N w' ad ab ao L := h.keep fun h0 => hb.block _ (h.lt h0 hN hc)
section
variable {H : Type} {enc : TypeId × Value → H}
theorem range_get {α : Type} (f : Nat → α) (n i : Nat) (h : i < ((List.range n).map f).length) : ((List.range n).map f)[i] = f i := by simp
theorem range_len {α : Type} (f : Nat → α) (n : Nat) : ((List.range n).map f).length = n := by simp
/-- an element -/
structure Rw where
  k : Int
  on : Int
  sl : Int
  li : Int
  se : Int
  nu : Int
  rp : ByteArray
def Rw.cs (d : Rw) : List Value := [.int .i64 d.k, .int .i64 d.on, .int .i64 d.sl, .int .i64 d.li, .int .i64 d.se, .int .i64 d.nu, .string d.rp]
theorem Rw.cs0 (d : Rw) : ∃ v, (Rw.cs d)[0]? = some v := ⟨_, rfl⟩
theorem Try.bytesRw : Try.prog.bytesOf 56 = 64 := by kernel_rfl
theorem Try.cellsRw : Try.prog.cellsOf 56 = 7 := by kernel_rfl
set_option maxRecDepth 20000 in
/-- opened -/
theorem rows_at {W : World} {n : Nat} {v : Value} {x : DataW H × List MemPlace} (h : DataW.trod enc Try.prog W 0 (fun _ => true) true n 46 [v] = some x) (hb : ∀ el sp, x.1 = .slice el sp → el.length ≤ 2199023255488) :
    ∃ (ad : Option Addr) (cap ab ao : Nat) (l : List Rw), v = .slice ad l.length cap ∧ Sr Rw.cs 7 W ad ab ao l ∧ l.length ≤ 2199023255488 ∧ ∀ i (h : i < l.length), I6 (l[i]).on ∧ I6 (l[i]).sl ∧ I6 (l[i]).li ∧ I6 (l[i]).se ∧ I6 (l[i]).nu := by
  rcases open_slice (cs := [v]) Try.underlying46 h with ⟨hc, _⟩ | ⟨a, len, cap, m, k, D, Pl, hc, _, hl, hm, hmm, hx, hall⟩
  · simp only [List.cons.injEq, and_true] at hc
    exact ⟨none, 0, 0, 0, [], hc, ⟨fun h => absurd h (by simp), fun i h => absurd h (by simp)⟩, by simp, fun i h => absurd h (by simp)⟩
  · simp only [List.cons.injEq, and_true] at hc
    simp only [if_true] at hmm
    subst hmm
    have hle : len ≤ 2199023255488 := by
      have := hb _ _ (by rw [hx])
      rwa [range_len] at this
    have each : ∀ i, i < m → ∃ q : Rw, (∀ k, k < 7 → W.cell? (a.add (i * 7 + k)) = q.cs[k]?) ∧ I6 q.on ∧ I6 q.sl ∧ I6 q.li ∧ I6 q.se ∧ I6 q.nu := by
      intro i hi
      obtain ⟨cs', g1, g2⟩ := hall i hi
      rw [Try.cellsRw] at g1
      obtain ⟨_, hlen, hcell⟩ := World.cells?_some g1
      obtain ⟨xs, m', _, _, _, hlx, hf⟩ := DataW.trod_struct Try.underlying56 g2
      have hxs : ∀ j, j < 7 → ∃ y, xs[j]? = some y := fun j hj => ⟨xs[j]'(by rw [hlx]; exact hj), List.getElem?_eq_getElem _⟩
      match cs', hlen with
      | [c0, c1, c2, c3, c4, c5, c6], hlen =>
        obtain ⟨y0, hy0⟩ := hxs 0 (by decide)
        have g3 : DataW.trod enc Try.prog W 0 (fun _ => true) true m' 3 [c0] = some y0 := by
          have this : DataW.trod enc Try.prog W 0 (fun _ => true) true m' 3 ((List.drop 0 [c0, c1, c2, c3, c4, c5, c6]).take (Try.prog.cellsOf 3)) = xs[0]? := hf 0 _ rfl
          rw [Try.cellsI] at this
          rw [← hy0]; exact this
        obtain ⟨y1, hy1⟩ := hxs 1 (by decide)
        have g4 : DataW.trod enc Try.prog W 0 (fun _ => true) true m' 3 [c1] = some y1 := by
          have this : DataW.trod enc Try.prog W 0 (fun _ => true) true m' 3 ((List.drop 1 [c0, c1, c2, c3, c4, c5, c6]).take (Try.prog.cellsOf 3)) = xs[1]? := hf 1 _ rfl
          rw [Try.cellsI] at this
          rw [← hy1]; exact this
        obtain ⟨y2, hy2⟩ := hxs 2 (by decide)
        have g5 : DataW.trod enc Try.prog W 0 (fun _ => true) true m' 3 [c2] = some y2 := by
          have this : DataW.trod enc Try.prog W 0 (fun _ => true) true m' 3 ((List.drop 2 [c0, c1, c2, c3, c4, c5, c6]).take (Try.prog.cellsOf 3)) = xs[2]? := hf 2 _ rfl
          rw [Try.cellsI] at this
          rw [← hy2]; exact this
        obtain ⟨y3, hy3⟩ := hxs 3 (by decide)
        have g6 : DataW.trod enc Try.prog W 0 (fun _ => true) true m' 3 [c3] = some y3 := by
          have this : DataW.trod enc Try.prog W 0 (fun _ => true) true m' 3 ((List.drop 3 [c0, c1, c2, c3, c4, c5, c6]).take (Try.prog.cellsOf 3)) = xs[3]? := hf 3 _ rfl
          rw [Try.cellsI] at this
          rw [← hy3]; exact this
        obtain ⟨y4, hy4⟩ := hxs 4 (by decide)
        have g7 : DataW.trod enc Try.prog W 0 (fun _ => true) true m' 3 [c4] = some y4 := by
          have this : DataW.trod enc Try.prog W 0 (fun _ => true) true m' 3 ((List.drop 4 [c0, c1, c2, c3, c4, c5, c6]).take (Try.prog.cellsOf 3)) = xs[4]? := hf 4 _ rfl
          rw [Try.cellsI] at this
          rw [← hy4]; exact this
        obtain ⟨y5, hy5⟩ := hxs 5 (by decide)
        have g8 : DataW.trod enc Try.prog W 0 (fun _ => true) true m' 3 [c5] = some y5 := by
          have this : DataW.trod enc Try.prog W 0 (fun _ => true) true m' 3 ((List.drop 5 [c0, c1, c2, c3, c4, c5, c6]).take (Try.prog.cellsOf 3)) = xs[5]? := hf 5 _ rfl
          rw [Try.cellsI] at this
          rw [← hy5]; exact this
        obtain ⟨y6, hy6⟩ := hxs 6 (by decide)
        have g9 : DataW.trod enc Try.prog W 0 (fun _ => true) true m' 9 [c6] = some y6 := by
          have this : DataW.trod enc Try.prog W 0 (fun _ => true) true m' 9 ((List.drop 6 [c0, c1, c2, c3, c4, c5, c6]).take (Try.prog.cellsOf 9)) = xs[6]? := hf 6 _ rfl
          rw [Try.cellsS] at this
          rw [← hy6]; exact this
        obtain ⟨z0, e0, _, wf0⟩ := DataW.trod_int Try.underlying3 g3
        obtain ⟨z1, e1, _, wf1⟩ := DataW.trod_int Try.underlying3 g4
        obtain ⟨z2, e2, _, wf2⟩ := DataW.trod_int Try.underlying3 g5
        obtain ⟨z3, e3, _, wf3⟩ := DataW.trod_int Try.underlying3 g6
        obtain ⟨z4, e4, _, wf4⟩ := DataW.trod_int Try.underlying3 g7
        obtain ⟨z5, e5, _, wf5⟩ := DataW.trod_int Try.underlying3 g8
        obtain ⟨z6, e6, _, _⟩ := DataW.trod_string Try.underlying9 g9
        simp only [List.cons.injEq, and_true] at e0 e1 e2 e3 e4 e5 e6
        subst e0; subst e1; subst e2; subst e3; subst e4; subst e5; subst e6
        refine ⟨⟨z0, z1, z2, z3, z4, z5, z6⟩, fun k hk => ?_, bounds_i64 wf1, bounds_i64 wf2, bounds_i64 wf3, bounds_i64 wf4, bounds_i64 wf5⟩
        have hck := hcell k (by simpa using hk)
        rw [add_add] at hck
        exact hck
    have hI : Inhabited Rw := ⟨⟨0, 0, 0, 0, 0, 0, e0⟩⟩
    obtain ⟨q, hq⟩ := choose_lt each
    have hspot : 0 < len → a = ⟨a.block, a.off, none⟩ := fun h0 => by
      have h1 := (hq 0 (by omega)).1 0 (by decide)
      obtain ⟨ab, ao, spot⟩ := a
      have : spot = none := by simpa [Addr.add] using World.cell?_spot h1
      rw [this]
    refine ⟨some a, m, a.block, a.off, (List.range len).map q, by rw [range_len]; exact hc, ⟨fun h => ?_, fun i hi k hk => ?_⟩, by rw [range_len]; exact hle, fun i hi => ?_⟩
    · rw [range_len] at h; rw [← hspot h]
    · have hi' := hi
      rw [range_len] at hi'
      rw [range_get]
      have h1 := (hq i (by omega)).1 k hk
      rw [hspot (by omega), Addr.add_lit] at h1
      rw [Nat.add_assoc]
      exact h1
    · have hi' := hi
      rw [range_len] at hi'
      rw [range_get]
      exact (hq i (by omega)).2
/-- an element -/
structure Ac where
  k : Int
  n : Int
def Ac.cs (d : Ac) : List Value := [.int .i64 d.k, .int .i64 d.n]
theorem Ac.cs0 (d : Ac) : ∃ v, (Ac.cs d)[0]? = some v := ⟨_, rfl⟩
theorem Try.bytesAc : Try.prog.bytesOf 70 = 16 := by kernel_rfl
theorem Try.cellsAc : Try.prog.cellsOf 70 = 2 := by kernel_rfl
set_option maxRecDepth 20000 in
/-- opened -/
theorem acts_at {W : World} {n : Nat} {v : Value} {x : DataW H × List MemPlace} (h : DataW.trod enc Try.prog W 0 (fun _ => true) true n 62 [v] = some x) (hb : ∀ el sp, x.1 = .slice el sp → el.length ≤ 8796093021952) :
    ∃ (ad : Option Addr) (cap ab ao : Nat) (l : List Ac), v = .slice ad l.length cap ∧ Sr Ac.cs 2 W ad ab ao l ∧ l.length ≤ 8796093021952 ∧ ∀ i (h : i < l.length), I6 (l[i]).n := by
  rcases open_slice (cs := [v]) Try.underlying62 h with ⟨hc, _⟩ | ⟨a, len, cap, m, k, D, Pl, hc, _, hl, hm, hmm, hx, hall⟩
  · simp only [List.cons.injEq, and_true] at hc
    exact ⟨none, 0, 0, 0, [], hc, ⟨fun h => absurd h (by simp), fun i h => absurd h (by simp)⟩, by simp, fun i h => absurd h (by simp)⟩
  · simp only [List.cons.injEq, and_true] at hc
    simp only [if_true] at hmm
    subst hmm
    have hle : len ≤ 8796093021952 := by
      have := hb _ _ (by rw [hx])
      rwa [range_len] at this
    have each : ∀ i, i < m → ∃ q : Ac, (∀ k, k < 2 → W.cell? (a.add (i * 2 + k)) = q.cs[k]?) ∧ I6 q.n := by
      intro i hi
      obtain ⟨cs', g1, g2⟩ := hall i hi
      rw [Try.cellsAc] at g1
      obtain ⟨_, hlen, hcell⟩ := World.cells?_some g1
      obtain ⟨xs, m', _, _, _, hlx, hf⟩ := DataW.trod_struct Try.underlying70 g2
      have hxs : ∀ j, j < 2 → ∃ y, xs[j]? = some y := fun j hj => ⟨xs[j]'(by rw [hlx]; exact hj), List.getElem?_eq_getElem _⟩
      match cs', hlen with
      | [c0, c1], hlen =>
        obtain ⟨y0, hy0⟩ := hxs 0 (by decide)
        have g3 : DataW.trod enc Try.prog W 0 (fun _ => true) true m' 3 [c0] = some y0 := by
          have this : DataW.trod enc Try.prog W 0 (fun _ => true) true m' 3 ((List.drop 0 [c0, c1]).take (Try.prog.cellsOf 3)) = xs[0]? := hf 0 _ rfl
          rw [Try.cellsI] at this
          rw [← hy0]; exact this
        obtain ⟨y1, hy1⟩ := hxs 1 (by decide)
        have g4 : DataW.trod enc Try.prog W 0 (fun _ => true) true m' 3 [c1] = some y1 := by
          have this : DataW.trod enc Try.prog W 0 (fun _ => true) true m' 3 ((List.drop 1 [c0, c1]).take (Try.prog.cellsOf 3)) = xs[1]? := hf 1 _ rfl
          rw [Try.cellsI] at this
          rw [← hy1]; exact this
        obtain ⟨z0, e0, _, wf0⟩ := DataW.trod_int Try.underlying3 g3
        obtain ⟨z1, e1, _, wf1⟩ := DataW.trod_int Try.underlying3 g4
        simp only [List.cons.injEq, and_true] at e0 e1
        subst e0; subst e1
        refine ⟨⟨z0, z1⟩, fun k hk => ?_, bounds_i64 wf1⟩
        have hck := hcell k (by simpa using hk)
        rw [add_add] at hck
        exact hck
    have hI : Inhabited Ac := ⟨⟨0, 0⟩⟩
    obtain ⟨q, hq⟩ := choose_lt each
    have hspot : 0 < len → a = ⟨a.block, a.off, none⟩ := fun h0 => by
      have h1 := (hq 0 (by omega)).1 0 (by decide)
      obtain ⟨ab, ao, spot⟩ := a
      have : spot = none := by simpa [Addr.add] using World.cell?_spot h1
      rw [this]
    refine ⟨some a, m, a.block, a.off, (List.range len).map q, by rw [range_len]; exact hc, ⟨fun h => ?_, fun i hi k hk => ?_⟩, by rw [range_len]; exact hle, fun i hi => ?_⟩
    · rw [range_len] at h; rw [← hspot h]
    · have hi' := hi
      rw [range_len] at hi'
      rw [range_get]
      have h1 := (hq i (by omega)).1 k hk
      rw [hspot (by omega), Addr.add_lit] at h1
      rw [Nat.add_assoc]
      exact h1
    · have hi' := hi
      rw [range_len] at hi'
      rw [range_get]
      exact (hq i (by omega)).2
/-- an element -/
structure Oc where
  k : Int
  on : Int
  m : Sm
def Oc.cs (d : Oc) : List Value := [.int .i64 d.k, .int .i64 d.on, .int .i64 d.m.k, .int .i64 d.m.se, .int .i64 d.m.nu, .int .i64 d.m.jo, .int .i64 d.m.ba, .int .i64 d.m.ix, .int .i64 d.m.co, .int .i64 d.m.rc, .int .u64 (d.m.rb : Int), .string d.m.tx, .string d.m.pr]
theorem Oc.cs0 (d : Oc) : ∃ v, (Oc.cs d)[0]? = some v := ⟨_, rfl⟩
theorem Try.bytesOc : Try.prog.bytesOf 41 = 120 := by kernel_rfl
theorem Try.cellsOc : Try.prog.cellsOf 41 = 13 := by kernel_rfl
set_option maxRecDepth 20000 in
/-- opened -/
theorem ops_at {W : World} {n : Nat} {v : Value} {x : DataW H × List MemPlace} (h : DataW.trod enc Try.prog W 0 (fun _ => true) true n 22 [v] = some x) (hb : ∀ el sp, x.1 = .slice el sp → el.length ≤ 1172812402926) :
    ∃ (ad : Option Addr) (cap ab ao : Nat) (l : List Oc), v = .slice ad l.length cap ∧ Sr Oc.cs 13 W ad ab ao l ∧ l.length ≤ 1172812402926 ∧ ∀ i (h : i < l.length), I6 (l[i]).on ∧ I6 (l[i]).m.se ∧ I6 (l[i]).m.nu := by
  rcases open_slice (cs := [v]) Try.underlying22 h with ⟨hc, _⟩ | ⟨a, len, cap, m, k, D, Pl, hc, _, hl, hm, hmm, hx, hall⟩
  · simp only [List.cons.injEq, and_true] at hc
    exact ⟨none, 0, 0, 0, [], hc, ⟨fun h => absurd h (by simp), fun i h => absurd h (by simp)⟩, by simp, fun i h => absurd h (by simp)⟩
  · simp only [List.cons.injEq, and_true] at hc
    simp only [if_true] at hmm
    subst hmm
    have hle : len ≤ 1172812402926 := by
      have := hb _ _ (by rw [hx])
      rwa [range_len] at this
    have each : ∀ i, i < m → ∃ q : Oc, (∀ k, k < 13 → W.cell? (a.add (i * 13 + k)) = q.cs[k]?) ∧ I6 q.on ∧ I6 q.m.se ∧ I6 q.m.nu := by
      intro i hi
      obtain ⟨cs', g1, g2⟩ := hall i hi
      rw [Try.cellsOc] at g1
      obtain ⟨_, hlen, hcell⟩ := World.cells?_some g1
      obtain ⟨xs, m', _, _, _, hlx, hf⟩ := DataW.trod_struct Try.underlying41 g2
      have hxs : ∀ j, j < 3 → ∃ y, xs[j]? = some y := fun j hj => ⟨xs[j]'(by rw [hlx]; exact hj), List.getElem?_eq_getElem _⟩
      match cs', hlen with
      | [c0, c1, c2, c3, c4, c5, c6, c7, c8, c9, c10, c11, c12], hlen =>
        obtain ⟨y0, hy0⟩ := hxs 0 (by decide)
        have g3 : DataW.trod enc Try.prog W 0 (fun _ => true) true m' 3 [c0] = some y0 := by
          have this : DataW.trod enc Try.prog W 0 (fun _ => true) true m' 3 ((List.drop 0 [c0, c1, c2, c3, c4, c5, c6, c7, c8, c9, c10, c11, c12]).take (Try.prog.cellsOf 3)) = xs[0]? := hf 0 _ rfl
          rw [Try.cellsI] at this
          rw [← hy0]; exact this
        obtain ⟨y1, hy1⟩ := hxs 1 (by decide)
        have g4 : DataW.trod enc Try.prog W 0 (fun _ => true) true m' 3 [c1] = some y1 := by
          have this : DataW.trod enc Try.prog W 0 (fun _ => true) true m' 3 ((List.drop 1 [c0, c1, c2, c3, c4, c5, c6, c7, c8, c9, c10, c11, c12]).take (Try.prog.cellsOf 3)) = xs[1]? := hf 1 _ rfl
          rw [Try.cellsI] at this
          rw [← hy1]; exact this
        obtain ⟨y2, hy2⟩ := hxs 2 (by decide)
        have g5 : DataW.trod enc Try.prog W 0 (fun _ => true) true m' 36 [c2, c3, c4, c5, c6, c7, c8, c9, c10, c11, c12] = some y2 := by
          have this : DataW.trod enc Try.prog W 0 (fun _ => true) true m' 36 ((List.drop 2 [c0, c1, c2, c3, c4, c5, c6, c7, c8, c9, c10, c11, c12]).take (Try.prog.cellsOf 36)) = xs[2]? := hf 2 _ rfl
          rw [Try.cellsM] at this
          rw [← hy2]; exact this
        obtain ⟨z0, e0, _, wf0⟩ := DataW.trod_int Try.underlying3 g3
        obtain ⟨z1, e1, _, wf1⟩ := DataW.trod_int Try.underlying3 g4
        obtain ⟨us, m2, _, _, _, hlu, hfu⟩ := DataW.trod_struct Try.underlying36 g5
        have hus : ∀ j, j < 10 → ∃ y, us[j]? = some y := fun j hj => ⟨us[j]'(by rw [hlu]; exact hj), List.getElem?_eq_getElem _⟩
        obtain ⟨uy0, uhy0⟩ := hus 0 (by decide)
        have ug3 : DataW.trod enc Try.prog W 0 (fun _ => true) true m2 3 [c2] = some uy0 := by
          have this : DataW.trod enc Try.prog W 0 (fun _ => true) true m2 3 ((List.drop 0 [c2, c3, c4, c5, c6, c7, c8, c9, c10, c11, c12]).take (Try.prog.cellsOf 3)) = us[0]? := hfu 0 _ rfl
          rw [Try.cellsI] at this
          rw [← uhy0]; exact this
        obtain ⟨uy1, uhy1⟩ := hus 1 (by decide)
        have ug4 : DataW.trod enc Try.prog W 0 (fun _ => true) true m2 3 [c3] = some uy1 := by
          have this : DataW.trod enc Try.prog W 0 (fun _ => true) true m2 3 ((List.drop 1 [c2, c3, c4, c5, c6, c7, c8, c9, c10, c11, c12]).take (Try.prog.cellsOf 3)) = us[1]? := hfu 1 _ rfl
          rw [Try.cellsI] at this
          rw [← uhy1]; exact this
        obtain ⟨uy2, uhy2⟩ := hus 2 (by decide)
        have ug5 : DataW.trod enc Try.prog W 0 (fun _ => true) true m2 3 [c4] = some uy2 := by
          have this : DataW.trod enc Try.prog W 0 (fun _ => true) true m2 3 ((List.drop 2 [c2, c3, c4, c5, c6, c7, c8, c9, c10, c11, c12]).take (Try.prog.cellsOf 3)) = us[2]? := hfu 2 _ rfl
          rw [Try.cellsI] at this
          rw [← uhy2]; exact this
        obtain ⟨uy3, uhy3⟩ := hus 3 (by decide)
        have ug6 : DataW.trod enc Try.prog W 0 (fun _ => true) true m2 3 [c5] = some uy3 := by
          have this : DataW.trod enc Try.prog W 0 (fun _ => true) true m2 3 ((List.drop 3 [c2, c3, c4, c5, c6, c7, c8, c9, c10, c11, c12]).take (Try.prog.cellsOf 3)) = us[3]? := hfu 3 _ rfl
          rw [Try.cellsI] at this
          rw [← uhy3]; exact this
        obtain ⟨uy4, uhy4⟩ := hus 4 (by decide)
        have ug7 : DataW.trod enc Try.prog W 0 (fun _ => true) true m2 3 [c6] = some uy4 := by
          have this : DataW.trod enc Try.prog W 0 (fun _ => true) true m2 3 ((List.drop 4 [c2, c3, c4, c5, c6, c7, c8, c9, c10, c11, c12]).take (Try.prog.cellsOf 3)) = us[4]? := hfu 4 _ rfl
          rw [Try.cellsI] at this
          rw [← uhy4]; exact this
        obtain ⟨uy5, uhy5⟩ := hus 5 (by decide)
        have ug8 : DataW.trod enc Try.prog W 0 (fun _ => true) true m2 3 [c7] = some uy5 := by
          have this : DataW.trod enc Try.prog W 0 (fun _ => true) true m2 3 ((List.drop 5 [c2, c3, c4, c5, c6, c7, c8, c9, c10, c11, c12]).take (Try.prog.cellsOf 3)) = us[5]? := hfu 5 _ rfl
          rw [Try.cellsI] at this
          rw [← uhy5]; exact this
        obtain ⟨uy6, uhy6⟩ := hus 6 (by decide)
        have ug9 : DataW.trod enc Try.prog W 0 (fun _ => true) true m2 3 [c8] = some uy6 := by
          have this : DataW.trod enc Try.prog W 0 (fun _ => true) true m2 3 ((List.drop 6 [c2, c3, c4, c5, c6, c7, c8, c9, c10, c11, c12]).take (Try.prog.cellsOf 3)) = us[6]? := hfu 6 _ rfl
          rw [Try.cellsI] at this
          rw [← uhy6]; exact this
        obtain ⟨uy7, uhy7⟩ := hus 7 (by decide)
        have ug10 : DataW.trod enc Try.prog W 0 (fun _ => true) true m2 34 [c9, c10] = some uy7 := by
          have this : DataW.trod enc Try.prog W 0 (fun _ => true) true m2 34 ((List.drop 7 [c2, c3, c4, c5, c6, c7, c8, c9, c10, c11, c12]).take (Try.prog.cellsOf 34)) = us[7]? := hfu 7 _ rfl
          rw [Try.cellsR] at this
          rw [← uhy7]; exact this
        obtain ⟨uy8, uhy8⟩ := hus 8 (by decide)
        have ug11 : DataW.trod enc Try.prog W 0 (fun _ => true) true m2 9 [c11] = some uy8 := by
          have this : DataW.trod enc Try.prog W 0 (fun _ => true) true m2 9 ((List.drop 9 [c2, c3, c4, c5, c6, c7, c8, c9, c10, c11, c12]).take (Try.prog.cellsOf 9)) = us[8]? := hfu 8 _ rfl
          rw [Try.cellsS] at this
          rw [← uhy8]; exact this
        obtain ⟨uy9, uhy9⟩ := hus 9 (by decide)
        have ug12 : DataW.trod enc Try.prog W 0 (fun _ => true) true m2 9 [c12] = some uy9 := by
          have this : DataW.trod enc Try.prog W 0 (fun _ => true) true m2 9 ((List.drop 10 [c2, c3, c4, c5, c6, c7, c8, c9, c10, c11, c12]).take (Try.prog.cellsOf 9)) = us[9]? := hfu 9 _ rfl
          rw [Try.cellsS] at this
          rw [← uhy9]; exact this
        obtain ⟨x0, f0, _, uf0⟩ := DataW.trod_int Try.underlying3 ug3
        obtain ⟨x1, f1, _, uf1⟩ := DataW.trod_int Try.underlying3 ug4
        obtain ⟨x2, f2, _, uf2⟩ := DataW.trod_int Try.underlying3 ug5
        obtain ⟨x3, f3, _, uf3⟩ := DataW.trod_int Try.underlying3 ug6
        obtain ⟨x4, f4, _, uf4⟩ := DataW.trod_int Try.underlying3 ug7
        obtain ⟨x5, f5, _, uf5⟩ := DataW.trod_int Try.underlying3 ug8
        obtain ⟨x6, f6, _, uf6⟩ := DataW.trod_int Try.underlying3 ug9
        obtain ⟨vs, m3, _, _, _, hlv, hfv⟩ := DataW.trod_struct Try.underlying34 ug10
        have hvs : ∀ j, j < 2 → ∃ y, vs[j]? = some y := fun j hj => ⟨vs[j]'(by rw [hlv]; exact hj), List.getElem?_eq_getElem _⟩
        obtain ⟨vy0, vhy0⟩ := hvs 0 (by decide)
        have vg3 : DataW.trod enc Try.prog W 0 (fun _ => true) true m3 3 [c9] = some vy0 := by
          have this : DataW.trod enc Try.prog W 0 (fun _ => true) true m3 3 ((List.drop 0 [c9, c10]).take (Try.prog.cellsOf 3)) = vs[0]? := hfv 0 _ rfl
          rw [Try.cellsI] at this
          rw [← vhy0]; exact this
        obtain ⟨vy1, vhy1⟩ := hvs 1 (by decide)
        have vg4 : DataW.trod enc Try.prog W 0 (fun _ => true) true m3 32 [c10] = some vy1 := by
          have this : DataW.trod enc Try.prog W 0 (fun _ => true) true m3 32 ((List.drop 1 [c9, c10]).take (Try.prog.cellsOf 32)) = vs[1]? := hfv 1 _ rfl
          rw [Try.cellsU] at this
          rw [← vhy1]; exact this
        obtain ⟨x7, f7, _, _⟩ := DataW.trod_int Try.underlying3 vg3
        obtain ⟨x8, f8, _, uf8⟩ := DataW.trod_int Try.underlying32 vg4
        obtain ⟨x9, f9, _, _⟩ := DataW.trod_string Try.underlying9 ug11
        obtain ⟨x10, f10, _, _⟩ := DataW.trod_string Try.underlying9 ug12
        simp only [List.cons.injEq, and_true] at e0 e1 f0 f1 f2 f3 f4 f5 f6 f7 f8 f9 f10
        subst e0; subst e1; subst f0; subst f1; subst f2; subst f3; subst f4; subst f5; subst f6; subst f7; subst f8; subst f9; subst f10
        have hb8 := bounds_u64 uf8
        obtain ⟨x8n, rfl⟩ : ∃ x8n : Nat, x8 = (x8n : Int) := ⟨x8.toNat, by omega⟩
        refine ⟨⟨z0, z1, ⟨x0, x1, x2, x3, x4, x5, x6, x7, x8n, x9, x10⟩⟩, fun k hk => ?_, bounds_i64 wf1, bounds_i64 uf1, bounds_i64 uf2⟩
        have hck := hcell k (by simpa using hk)
        rw [add_add] at hck
        exact hck
    have hI : Inhabited Oc := ⟨⟨0, 0, zS 0⟩⟩
    obtain ⟨q, hq⟩ := choose_lt each
    have hspot : 0 < len → a = ⟨a.block, a.off, none⟩ := fun h0 => by
      have h1 := (hq 0 (by omega)).1 0 (by decide)
      obtain ⟨ab, ao, spot⟩ := a
      have : spot = none := by simpa [Addr.add] using World.cell?_spot h1
      rw [this]
    refine ⟨some a, m, a.block, a.off, (List.range len).map q, by rw [range_len]; exact hc, ⟨fun h => ?_, fun i hi k hk => ?_⟩, by rw [range_len]; exact hle, fun i hi => ?_⟩
    · rw [range_len] at h; rw [← hspot h]
    · have hi' := hi
      rw [range_len] at hi'
      rw [range_get]
      have h1 := (hq i (by omega)).1 k hk
      rw [hspot (by omega), Addr.add_lit] at h1
      rw [Nat.add_assoc]
      exact h1
    · have hi' := hi
      rw [range_len] at hi'
      rw [range_get]
      exact (hq i (by omega)).2
end
end Go.Proofs.Ytonoogiadgjodaa
