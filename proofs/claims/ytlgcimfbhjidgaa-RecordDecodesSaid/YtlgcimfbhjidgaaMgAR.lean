import Derived.Test.YtlgcimfbhjidgaaMgAQ
import Derived.ProofKit
import Derived.OpenShut
import Derived.ShutString
import Derived.SizedLaws
import Derived.Carry
import Derived.Deep.SlicePairs
import Derived.Deep.Strs
import Derived.Lib.SmallJoins
import Derived.Test.YtlgcimfbhjidgaaMgAI

section
namespace Go.Proofs.Ytlgcimfbhjidgaa
open Go.ChangeShapes Go.WideShapes Go.ChangeAt Go.RowKit Go.Deep
open Rc (Ch)
theorem own : ownKnob Try.prog.godebug = none := by kernel_rfl
theorem Try.laidOut : laidOutB Try.prog = true := by kernel_rfl
theorem Try.cellsI1 : Try.prog.cellsOf 3 = 1 := by kernel_rfl
theorem Try.cellsS1 : Try.prog.cellsOf 9 = 1 := by kernel_rfl
theorem Try.cellsU1 : Try.prog.cellsOf 27 = 1 := by kernel_rfl
theorem Try.cellsT1 : Try.prog.cellsOf 30 = 1 := by kernel_rfl
theorem Try.cellsR2 : Try.prog.cellsOf 29 = 2 := by kernel_rfl
theorem Try.cellsC10 : Try.prog.cellsOf 32 = 10 := by kernel_rfl
theorem Try.bytesS : Try.prog.bytesOf 9 = 16 := by kernel_rfl
theorem Try.bytesC : Try.prog.bytesOf 32 = 104 := by kernel_rfl
theorem range_get {α : Type} [Inhabited α] (f : Nat → α) (n i : Nat) (h : i < n) : ((List.range n).map f)[i]! = f i := by
  rw [getElem!_pos _ _ (by simpa using h)]; simp
theorem range_len {α : Type} (f : Nat → α) (n : Nat) : ((List.range n).map f).length = n := by simp
section
variable {H : Type} {enc : TypeId × Value → H}
theorem weights_all_mem {P : Program} {e : TypeId} {d : DataW H} : ∀ {ds : List (DataW H)}, d ∈ ds → ∀ n ∈ d.weights P e, n ∈ DataW.weightsAll P e ds
  | d0 :: ds, h, n, hn => by
    simp only [DataW.weightsAll, List.mem_append]
    rcases List.mem_cons.mp h with rfl | h
    · exact Or.inl hn
    · exact Or.inr (weights_all_mem h n hn)
set_option maxRecDepth 20000 in
/-- texts, opened -/
theorem texts_at {W : World} {n : Nat} {v : Value} {x : DataW H × List MemPlace} (h : DataW.trod enc Try.prog W 0 (fun _ => true) true n 30 [v] = some x) (hw : ∀ k ∈ x.1.weights Try.prog 30, k ≤ reachBytes) :
    ∃ l : List ByteArray, Tx W v l ∧ l.length ≤ 140737488351232 := by
  rcases open_slice Try.underlying30 h with ⟨hc, _⟩ | ⟨a, len, cap, m, k, D, Pl, hc, _, hl, hm, hmm, hx, hall⟩
  · simp only [List.cons.injEq, and_true] at hc
    rw [hc]
    exact ⟨[], Tx.nil W, by simp⟩
  · simp only [List.cons.injEq, and_true] at hc
    simp only [if_true] at hmm
    subst hmm
    have hle : len ≤ 140737488351232 := by
      have := hw (len * 16 + (m - len) * 16) (by
        rw [hx]; simp only [DataW.weights, Try.underlying30, Try.bytesS]
        simp only [List.length_map, List.length_range, List.mem_cons]
        left; rw [Nat.add_mul])
      simp only [reachBytes] at this; omega
    have each : ∀ i, i < m → ∃ s : ByteArray, W.cell? (a.add i) = some (.string s) := by
      intro i hi
      obtain ⟨cs', g1, g2⟩ := hall i hi
      rw [Try.cellsS1] at g1
      obtain ⟨_, hlen, hcell⟩ := World.cells?_some g1
      obtain ⟨s, e, _⟩ := DataW.trod_string Try.underlying9 g2
      subst e
      have k0 := hcell 0 (by decide)
      rw [add_add] at k0
      exact ⟨s, by simpa using k0⟩
    obtain ⟨q, hq⟩ := choose_lt each
    refine ⟨(List.range len).map q, ⟨some a, m, by rw [range_len]; exact hc, fun h => ?_⟩, by rw [range_len]; exact hle⟩
    rw [range_len] at h
    obtain ⟨ab, ao, spot⟩ := a
    have hspot : spot = none := by simpa [Addr.add] using World.cell?_spot (hq 0 (by omega))
    subst hspot
    refine ⟨ab, ao, rfl, World.block_lt_of_cell? _ _ (hq 0 (by omega)), fun j hj => ?_⟩
    rw [range_len] at hj
    rw [range_get q len j hj]
    have h1 := hq j (by omega)
    rw [Addr.add_lit] at h1
    exact h1
set_option maxRecDepth 20000 in
set_option maxHeartbeats 1000000 in
/-- a change, opened -/
theorem change_at {W : World} {n : Nat} {cs : List Value} {x : DataW H × List MemPlace} (h : DataW.trod enc Try.prog W 0 (fun _ => true) true n 32 cs = some x) (hw : ∀ k ∈ x.1.weights Try.prog 32, k ≤ reachBytes) :
    ∃ (c : Ch) (t : Value), cs = (chC c t).toList ∧ Tx W t c.tx ∧ c.tx.length ≤ 140737488351232 ∧ c.rb < 18446744073709551616 := by
  obtain ⟨xs, n, _, hxx, hl, hlen, hfi⟩ := DataW.trod_struct Try.underlying32 h
  rw [Try.cellsC10] at hl
  obtain ⟨c0, c1, c2, c3, c4, c5, c6, c7, c8, c9, rfl⟩ : ∃ c0 c1 c2 c3 c4 c5 c6 c7 c8 c9, cs = [c0, c1, c2, c3, c4, c5, c6, c7, c8, c9] := by
    match cs, hl with
    | [c0, c1, c2, c3, c4, c5, c6, c7, c8, c9], _ => exact ⟨c0, c1, c2, c3, c4, c5, c6, c7, c8, c9, rfl⟩
  have hx : ∀ i, i < 9 → ∃ y, xs[i]? = some y := fun i hi => ⟨xs[i]'(by rw [hlen]; exact hi), List.getElem?_eq_getElem _⟩
  obtain ⟨y0, hy0⟩ := hx 0 (by decide)
  have g0 : DataW.trod enc Try.prog W 0 (fun _ => true) true n 3 [c0] = some y0 := by
    have this : DataW.trod enc Try.prog W 0 (fun _ => true) true n 3 ((List.drop 0 [c0, c1, c2, c3, c4, c5, c6, c7, c8, c9]).take (Try.prog.cellsOf 3)) = xs[0]? := hfi 0 _ rfl
    rw [Try.cellsI1] at this
    rw [← hy0]; exact this
  obtain ⟨z0, e0, _, _⟩ := DataW.trod_int Try.underlying3 g0
  obtain ⟨y1, hy1⟩ := hx 1 (by decide)
  have g1 : DataW.trod enc Try.prog W 0 (fun _ => true) true n 3 [c1] = some y1 := by
    have this : DataW.trod enc Try.prog W 0 (fun _ => true) true n 3 ((List.drop 1 [c0, c1, c2, c3, c4, c5, c6, c7, c8, c9]).take (Try.prog.cellsOf 3)) = xs[1]? := hfi 1 _ rfl
    rw [Try.cellsI1] at this
    rw [← hy1]; exact this
  obtain ⟨z1, e1, _, _⟩ := DataW.trod_int Try.underlying3 g1
  obtain ⟨y2, hy2⟩ := hx 2 (by decide)
  have g2 : DataW.trod enc Try.prog W 0 (fun _ => true) true n 3 [c2] = some y2 := by
    have this : DataW.trod enc Try.prog W 0 (fun _ => true) true n 3 ((List.drop 2 [c0, c1, c2, c3, c4, c5, c6, c7, c8, c9]).take (Try.prog.cellsOf 3)) = xs[2]? := hfi 2 _ rfl
    rw [Try.cellsI1] at this
    rw [← hy2]; exact this
  obtain ⟨z2, e2, _, _⟩ := DataW.trod_int Try.underlying3 g2
  obtain ⟨y3, hy3⟩ := hx 3 (by decide)
  have g3 : DataW.trod enc Try.prog W 0 (fun _ => true) true n 3 [c3] = some y3 := by
    have this : DataW.trod enc Try.prog W 0 (fun _ => true) true n 3 ((List.drop 3 [c0, c1, c2, c3, c4, c5, c6, c7, c8, c9]).take (Try.prog.cellsOf 3)) = xs[3]? := hfi 3 _ rfl
    rw [Try.cellsI1] at this
    rw [← hy3]; exact this
  obtain ⟨z3, e3, _, _⟩ := DataW.trod_int Try.underlying3 g3
  obtain ⟨y4, hy4⟩ := hx 4 (by decide)
  have g4 : DataW.trod enc Try.prog W 0 (fun _ => true) true n 3 [c4] = some y4 := by
    have this : DataW.trod enc Try.prog W 0 (fun _ => true) true n 3 ((List.drop 4 [c0, c1, c2, c3, c4, c5, c6, c7, c8, c9]).take (Try.prog.cellsOf 3)) = xs[4]? := hfi 4 _ rfl
    rw [Try.cellsI1] at this
    rw [← hy4]; exact this
  obtain ⟨z4, e4, _, _⟩ := DataW.trod_int Try.underlying3 g4
  obtain ⟨y5, hy5⟩ := hx 5 (by decide)
  have g5 : DataW.trod enc Try.prog W 0 (fun _ => true) true n 3 [c5] = some y5 := by
    have this : DataW.trod enc Try.prog W 0 (fun _ => true) true n 3 ((List.drop 5 [c0, c1, c2, c3, c4, c5, c6, c7, c8, c9]).take (Try.prog.cellsOf 3)) = xs[5]? := hfi 5 _ rfl
    rw [Try.cellsI1] at this
    rw [← hy5]; exact this
  obtain ⟨z5, e5, _, _⟩ := DataW.trod_int Try.underlying3 g5
  obtain ⟨y6, hy6⟩ := hx 6 (by decide)
  have g6 : DataW.trod enc Try.prog W 0 (fun _ => true) true n 29 [c6, c7] = some y6 := by
    have this : DataW.trod enc Try.prog W 0 (fun _ => true) true n 29 ((List.drop 6 [c0, c1, c2, c3, c4, c5, c6, c7, c8, c9]).take (Try.prog.cellsOf 29)) = xs[6]? := hfi 6 _ rfl
    rw [Try.cellsR2] at this
    rw [← hy6]; exact this
  obtain ⟨y7, hy7⟩ := hx 7 (by decide)
  have g7 : DataW.trod enc Try.prog W 0 (fun _ => true) true n 9 [c8] = some y7 := by
    have this : DataW.trod enc Try.prog W 0 (fun _ => true) true n 9 ((List.drop 8 [c0, c1, c2, c3, c4, c5, c6, c7, c8, c9]).take (Try.prog.cellsOf 9)) = xs[7]? := hfi 7 _ rfl
    rw [Try.cellsS1] at this
    rw [← hy7]; exact this
  obtain ⟨z7, e7, _, _⟩ := DataW.trod_string Try.underlying9 g7
  obtain ⟨y8, hy8⟩ := hx 8 (by decide)
  have g8 : DataW.trod enc Try.prog W 0 (fun _ => true) true n 30 [c9] = some y8 := by
    have this : DataW.trod enc Try.prog W 0 (fun _ => true) true n 30 ((List.drop 9 [c0, c1, c2, c3, c4, c5, c6, c7, c8, c9]).take (Try.prog.cellsOf 30)) = xs[8]? := hfi 8 _ rfl
    rw [Try.cellsT1] at this
    rw [← hy8]; exact this
  obtain ⟨tx, hT, hTl⟩ := texts_at g8 (fun k hk => hw k (by
    rw [hxx]
    simp only [DataW.weights, Try.underlying32]
    exact DataW.weights_mem_each (j := 8) rfl (by rw [List.getElem?_map, hy8]; rfl) k hk))
  obtain ⟨us, n2, _, _, hl2, hlen2, hfi2⟩ := DataW.trod_struct Try.underlying29 g6
  have hu : ∀ i, i < 2 → ∃ y, us[i]? = some y := fun i hi => ⟨us[i]'(by rw [hlen2]; exact hi), List.getElem?_eq_getElem _⟩
  obtain ⟨u0, hu0⟩ := hu 0 (by decide)
  obtain ⟨u1, hu1⟩ := hu 1 (by decide)
  have k0 : DataW.trod enc Try.prog W 0 (fun _ => true) true n2 3 [c6] = some u0 := by
    have this : DataW.trod enc Try.prog W 0 (fun _ => true) true n2 3 ((List.drop 0 [c6, c7]).take (Try.prog.cellsOf 3)) = us[0]? := hfi2 0 _ rfl
    rw [Try.cellsI1] at this
    rw [← hu0]; exact this
  have k1 : DataW.trod enc Try.prog W 0 (fun _ => true) true n2 27 [c7] = some u1 := by
    have this : DataW.trod enc Try.prog W 0 (fun _ => true) true n2 27 ((List.drop 1 [c6, c7]).take (Try.prog.cellsOf 27)) = us[1]? := hfi2 1 _ rfl
    rw [Try.cellsU1] at this
    rw [← hu1]; exact this
  obtain ⟨r0, er0, _, _⟩ := DataW.trod_int Try.underlying3 k0
  obtain ⟨r1, er1, _, wr1⟩ := DataW.trod_int Try.underlying27 k1
  have hb := bounds_u64 wr1
  obtain ⟨m, hm⟩ : ∃ m : Nat, r1 = (m : Int) := ⟨r1.toNat, by omega⟩
  simp only [List.cons.injEq, and_true] at e0 e1 e2 e3 e4 e5 e7 er0 er1
  refine ⟨⟨z0, z1, z2, z3, z4, z5, r0, m, z7, tx⟩, c9, ?_, hT, hTl, by show m < _; omega⟩
  rw [e0, e1, e2, e3, e4, e5, e7, er0, er1, hm]; rfl
set_option maxRecDepth 20000 in
/-- a row of changes, opened -/
theorem rows_of {W : World} {base : Nat} {v : Value} {d : DataW H} {ps : List MemPlace} (hv : Value.okWide Try.prog W .any base 22 v) (h : DataW.Trod enc Try.prog W 0 (fun _ => true) true 22 v d ps) (hw : ∀ k ∈ d.weights Try.prog 22, k ≤ reachBytes) :
    ∃ l : List Ch, Rw W v l ∧ l.length ≤ 1353245080301 := by
  obtain ⟨a0, len0, cap0, rfl⟩ := okWide_slice Try.underlying22 hv
  obtain ⟨n, hn⟩ := h
  rcases open_slice (cs := [.slice a0 len0 cap0]) Try.underlying22 hn with ⟨hc, _⟩ | ⟨a, len, cap, m, k, D, Pl, hc, _, hl, hm, hmm, hx, hall⟩
  · simp only [List.cons.injEq, and_true] at hc
    rw [hc]
    exact ⟨[], ⟨none, 0, rfl, fun h => absurd h (Nat.lt_irrefl _)⟩, by simp⟩
  · simp only [List.cons.injEq, and_true] at hc
    simp only [if_true] at hmm
    subst hmm
    have hd : d = .slice ((List.range len).map D) ((List.range (m - len)).map fun j => D (len + j)) := congrArg Prod.fst hx
    have hle : len ≤ 1353245080301 := by
      have := hw (len * 104 + (m - len) * 104) (by
        rw [hd]; simp only [DataW.weights, Try.underlying22, Try.bytesC]
        simp only [List.length_map, List.length_range, List.mem_cons]
        left; rw [Nat.add_mul])
      simp only [reachBytes] at this; omega
    have each : ∀ i, i < len → ∃ q : Ch × Value, Tx W q.2 q.1.tx ∧ q.1.tx.length ≤ 140737488351232 ∧ q.1.rb < 18446744073709551616 ∧ ∀ j u, (chC q.1 q.2)[j]? = some u → W.cell? (a.add (i * 10 + j)) = some u := by
      intro i hi
      obtain ⟨cs', g1, g2⟩ := hall i (by omega)
      rw [Try.cellsC10] at g1
      obtain ⟨_, hlen, hcell⟩ := World.cells?_some g1
      obtain ⟨c, t, rfl, hT, hl1, hrb⟩ := change_at g2 (fun k hk => hw k (by
        rw [hd]; simp only [DataW.weights, Try.underlying22]
        refine List.mem_cons_of_mem _ (List.mem_append_left _ (weights_all_mem (d := D i) ?_ k hk))
        exact List.mem_map.mpr ⟨i, List.mem_range.mpr hi, rfl⟩))
      refine ⟨(c, t), hT, hl1, hrb, fun j u hj => ?_⟩
      have hjs := (Array.getElem?_eq_some_iff.mp hj)
      obtain ⟨hj1, hj2⟩ := hjs
      have k0 := hcell j (by simpa [chC] using hj1)
      rw [add_add] at k0
      rw [k0, ← hj2]; simp [hj1]
    obtain ⟨q, hq⟩ := choose_lt each
    refine ⟨(List.range len).map fun i => (q i).1, ⟨some a, m, by rw [range_len]; exact hc, fun h => ?_⟩, by rw [range_len]; exact hle⟩
    rw [range_len] at h
    obtain ⟨ab, ao, spot⟩ := a
    have hspot : spot = none := by simpa [Addr.add] using World.cell?_spot ((hq 0 (by omega)).2.2.2 0 _ rfl)
    subst hspot
    refine ⟨ab, ao, rfl, World.block_lt_of_cell? _ _ ((hq 0 (by omega)).2.2.2 0 _ rfl), fun j hj => ?_⟩
    rw [range_len] at hj
    rw [range_get (fun i => (q i).1) len j hj]
    obtain ⟨h1, h2, h3, h4⟩ := hq j hj
    refine ⟨(q j).2, h1, h2, h3, fun i u hi => ?_⟩
    have := h4 i u hi
    rw [Addr.add_lit] at this
    rw [Nat.add_assoc]
    exact this
theorem sized_mem {P : Program} {ts : List TypeId} {ds : List (DataW H)} (h : (DataW.weightsEach P ts ds).all (· ≤ reachBytes) = true) {j : Nat} {t : TypeId} {d : DataW H} (ht : ts[j]? = some t) (hd : ds[j]? = some d) : ∀ k ∈ d.weights P t, k ≤ reachBytes := fun k hk => by
  simpa using List.all_eq_true.1 h _ (DataW.weights_mem_each ht hd k hk)
end
end Go.Proofs.Ytlgcimfbhjidgaa
end

section
namespace Go.Proofs.Ytlgcimfbhjidgaa
open Go.RowKit

/-- the document's reader, four cells of a block -/
structure RR (w : World) (G o : Nat) (b : ByteArray) (p f a : Int) : Prop where
  blk : ∃ cur, w.heap[G]? = some (.cells cur 38 (0, 0))
  c0 : w.cell? ⟨G, o, none⟩ = some (.string b)
  c1 : w.cell? ⟨G, o + 1, none⟩ = some (.int .i64 p)
  c2 : w.cell? ⟨G, o + 2, none⟩ = some (.int .i64 f)
  c3 : w.cell? ⟨G, o + 3, none⟩ = some (.int .i64 a)
/-- of block G the four cells at o alone are turned -/
structure RW (G o : Nat) (w w' : World) : Prop where
  os : w'.os = w.os
  tape : w'.tape = w.tape
  output : w'.output = w.output
  size : w'.heap.size = w.heap.size
  other : ∀ k, k ≠ G → w'.heap[k]? = w.heap[k]?
  same : ∀ cur, w.heap[G]? = some (.cells cur 38 (0, 0)) → ∃ cur', w'.heap[G]? = some (.cells cur' 38 (0, 0)) ∧ cur'.size = cur.size ∧ ∀ i, i < o ∨ o + 4 ≤ i → cur'[i]? = cur[i]?
theorem RW.refl (G o : Nat) (w : World) : RW G o w w := ⟨rfl, rfl, rfl, rfl, fun _ _ => rfl, fun cur h => ⟨cur, h, rfl, fun _ _ => rfl⟩⟩
theorem RW.trans {G o : Nat} {a b c : World} (h : RW G o a b) (k : RW G o b c) : RW G o a c :=
  ⟨k.os.trans h.os, k.tape.trans h.tape, k.output.trans h.output, k.size.trans h.size, fun i hi => (k.other i hi).trans (h.other i hi), fun cur hc => by
    obtain ⟨c1, h1, h2, h3⟩ := h.same cur hc
    obtain ⟨c2, g1, g2, g3⟩ := k.same c1 h1
    exact ⟨c2, g1, g2.trans h2, fun i hi => (g3 i hi).trans (h3 i hi)⟩⟩
theorem RW.drewN (G o : Nat) (w : World) (n : Nat) : RW G o w (w.drewN n) := ⟨rfl, rfl, rfl, rfl, fun _ _ => rfl, fun cur h => ⟨cur, h, rfl, fun _ _ => rfl⟩⟩
theorem heap_set_self (w : World) (g o : Nat) (v : Value) (cur : Array Value) (t : TypeId) (fr : Nat × Nat) (h : w.heap[g]? = some (.cells cur t fr)) : (w.setCell ⟨g, o, none⟩ v).heap[g]? = some (.cells (cur.setIfInBounds o v) t fr) := by
  have hlt := lt_of_block h
  have h' : w.heap[g] = .cells cur t fr := by simpa [Array.getElem?_eq_getElem hlt] using h
  show (w.heap.modify g _)[g]? = _
  rw [Array.getElem?_eq_getElem (by simpa using hlt), Array.getElem_modify_self, h']
  rfl
theorem RW.set (G o : Nat) (w : World) (j : Nat) (hj : j < 4) (v : Value) : RW G o w (w.setCell ⟨G, o + j, none⟩ v) :=
  ⟨rfl, rfl, rfl, by show (w.heap.modify G _).size = _; simp, fun k hk => Below.heap_setCell w ⟨G, o + j, none⟩ v k hk, fun cur hc => ⟨_, heap_set_self w G (o + j) v cur _ _ hc, by simp, fun i hi => by rw [Array.getElem?_setIfInBounds]; split; omega; rfl⟩⟩
section
variable {w w' : World} {G o : Nat} {b : ByteArray} {p f a : Int}
theorem RR.z (h : RR w G o b p f a) (k : Nat) : w.frozen? ⟨G, k, none⟩ = false := by obtain ⟨cur, hc⟩ := h.blk; simp [World.frozen?, hc]
theorem RR.lt (h : RR w G o b p f a) : G < w.heap.size := by obtain ⟨cur, hc⟩ := h.blk; exact lt_of_block hc
theorem RR.drewN (h : RR w G o b p f a) (n : Nat) : RR (w.drewN n) G o b p f a := ⟨h.blk, h.c0, h.c1, h.c2, h.c3⟩
theorem RR.set1 (h : RR w G o b p f a) (q : Int) : RR (w.setCell ⟨G, o + 1, none⟩ (.int .i64 q)) G o b q f a := by
  obtain ⟨cur, hc⟩ := h.blk
  have c0 := h.c0; have c1 := h.c1; have c2 := h.c2; have c3 := h.c3
  refine ⟨⟨_, heap_set_self w G (o + 1) _ cur _ _ hc⟩, ?_, ?_, ?_, ?_⟩
  · rw [World.cell?_setCell_other _ _ _ _ (by simp)]; exact c0
  · exact World.cell?_setCell_same' _ _ _ (by rw [c1]; rfl)
  · rw [World.cell?_setCell_other _ _ _ _ (by simp)]; exact c2
  · rw [World.cell?_setCell_other _ _ _ _ (by simp)]; exact c3
theorem RR.set2 (h : RR w G o b p f a) (q : Int) : RR (w.setCell ⟨G, o + 2, none⟩ (.int .i64 q)) G o b p q a := by
  obtain ⟨cur, hc⟩ := h.blk
  have c0 := h.c0; have c1 := h.c1; have c2 := h.c2; have c3 := h.c3
  refine ⟨⟨_, heap_set_self w G (o + 2) _ cur _ _ hc⟩, ?_, ?_, ?_, ?_⟩
  · rw [World.cell?_setCell_other _ _ _ _ (by simp)]; exact c0
  · rw [World.cell?_setCell_other _ _ _ _ (by simp)]; exact c1
  · exact World.cell?_setCell_same' _ _ _ (by rw [c2]; rfl)
  · rw [World.cell?_setCell_other _ _ _ _ (by simp)]; exact c3
theorem RR.set3 (h : RR w G o b p f a) (q : Int) : RR (w.setCell ⟨G, o + 3, none⟩ (.int .i64 q)) G o b p f q := by
  obtain ⟨cur, hc⟩ := h.blk
  have c0 := h.c0; have c1 := h.c1; have c2 := h.c2; have c3 := h.c3
  refine ⟨⟨_, heap_set_self w G (o + 3) _ cur _ _ hc⟩, ?_, ?_, ?_, ?_⟩
  · rw [World.cell?_setCell_other _ _ _ _ (by simp)]; exact c0
  · rw [World.cell?_setCell_other _ _ _ _ (by simp)]; exact c1
  · rw [World.cell?_setCell_other _ _ _ _ (by simp)]; exact c2
  · exact World.cell?_setCell_same' _ _ _ (by rw [c3]; rfl)
theorem RR.keep (h : RR w G o b p f a) (hs : w'.heap[G]? = w.heap[G]?) : RR w' G o b p f a := by
  have hc : ∀ k, w'.cell? ⟨G, k, none⟩ = w.cell? ⟨G, k, none⟩ := fun k => by simp only [World.cell?, hs]
  refine ⟨by rw [hs]; exact h.blk, ?_, ?_, ?_, ?_⟩
  · rw [hc]; exact h.c0
  · rw [hc]; exact h.c1
  · rw [hc]; exact h.c2
  · rw [hc]; exact h.c3
end

set_option maxHeartbeats 400000 in
theorem wrong_live {w : World} {G o : Nat} {b : ByteArray} {p a : Int} (h : RR w G o b p 0 a) (e : Int) :
    Calls Try.prog 34 #[.pointer (some ⟨G, o, none⟩), .int .i64 e] w fun e' w' => (∃ v, e' = .returned v) ∧ RR w' G o b p e p ∧ RW G o w w' := by
  have c1 := h.c1
  have c2 := h.c2
  have c3 := h.c3
  have z2 := h.z (o + 2)
  have z3 := h.z (o + 3)
  have HE := hide (And.intro ((h.set2 e).set3 p) ((RW.set G o w 2 (by decide) (.int .i64 e)).trans (RW.set G o _ 3 (by decide) (.int .i64 p))))
  clear h
  go_enter Try.func34, Try.ntmps34
  go_wp2
  go_end0
  exact ⟨⟨_, rfl⟩, HE.out.1, HE.out.2⟩

set_option maxHeartbeats 1600000 in
set_option maxRecDepth 40000 in
theorem form_any {w : World} {p : Nat} {b : ByteArray} (hp : p ≤ b.size) (hb : b.size ≤ 140737488351232) :
    Calls Try.prog 33 #[.string b, .int .i64 (p : Int)] w fun e w' => w' = w ∧ ((∃ n m, Pk.dec 0 0 (rest b p) = (0, n, m) ∧ e = .returned (.tuple #[.int .u64 (n : Int), .int .i64 ((p + m : Nat) : Int), .int .i64 0])) ∨ (∃ k : Nat, k ≠ 0 ∧ Pk.dec 0 0 (rest b p) = (k, 0, 0) ∧ e = .returned (.tuple #[.int .u64 0, .int .i64 0, .int .i64 (k : Int)]))) := by
  go_enter Try.func33, Try.ntmps33
  go_wp2_with fail
  go_loopw [7, 8] (fun v i wr => ∃ k acc : Nat, i = .int .i64 (k : Int) ∧ v = .int .u64 (acc : Int) ∧ k ≤ 10 ∧ p + k ≤ b.size ∧ GRel (Pk.dec 0 0 (rest b p)) (rest b p) k acc ∧ wr = w) (fun _ i _ => 10 - (intOf i).toNat)
  case atStart => exact ⟨0, 0, rfl, rfl, by omega, by omega, ⟨by omega, fun _ => ⟨by decide, rfl⟩, fun h => by cases h⟩, rfl⟩
  case round =>
    obtain ⟨k, acc, rfl, rfl, hk10, hpk, hG, rfl⟩ := hrel
    by_cases hk : k < 10
    · have hkI : (k : Int) < 10 := by omega
      by_cases hl2 : p + k < b.size
      · have hi : 0 ≤ (p : Int) + (k : Int) ∧ (p : Int) + (k : Int) < (b.size : Int) := by omega
        have hge : decide ((b.size : Int) ≤ (p : Int) + (k : Int)) = false := by simp; omega
        obtain ⟨c, hc⟩ : ∃ c : UInt8, b[((p : Int) + (k : Int)).toNat]'(by omega) = c := ⟨_, rfl⟩
        have hcb : c.toNat < 256 := UInt8.toNat_lt c
        rcases (show 128 ≤ c.toNat ∨ (c.toNat < 128 ∧ 0 < k ∧ c.toNat = 0) ∨ (c.toNat < 128 ∧ k = 9 ∧ 1 < c.toNat) ∨ (c.toNat < 128 ∧ k = 0) ∨ (c.toNat < 128 ∧ 0 < k ∧ 0 < c.toNat ∧ k ≠ 9) ∨ (k = 9 ∧ c.toNat = 1) by omega) with hA | ⟨hA, hB, hC⟩ | ⟨hA, hB, hC⟩ | ⟨hA, hB⟩ | ⟨hA, hB, hC, hE⟩ | ⟨hB, hA⟩
        · obtain ⟨acc', he, hG'⟩ := hG.next hk hl2 hc hA
          have HE : Hid (bits .or .u64 (acc : Int) (IntKind.u64.wrap ((c.toNat : Int) % 128 * 2 ^ (7 * k))) = (acc' : Int)) := he
          have b4 : decide ((128 : Int) ≤ (c.toNat : Int)) = true := by simp; omega
          clear he hG
          go_wp2_with fail
          exact ⟨⟨k + 1, acc', by go_num, by rw [HE.out], by omega, by omega, hG', by first | rfl | trivial⟩, by simp [intOf]; omega⟩
        · have HD := hide (hG.bad hk hl2 hc hA (.inl ⟨hB, hC⟩))
          have b1 : ((c.toNat : Int) == 0) = true := by rw [beq_iff_eq]; omega
          have b0 : decide ((0 : Int) < (k : Int)) = true := by simp; omega
          clear hC
          have b4 : decide ((128 : Int) ≤ (c.toNat : Int)) = false := by simp; omega
          clear hG
          go_wp2_with fail
          go_ret3
          exact ⟨rfl, .inr ⟨22, by decide, HD.out, rfl⟩⟩
        · have HD := hide (hG.bad hk hl2 hc hA (.inr ⟨hB, hC⟩))
          have b1 : ((c.toNat : Int) == 0) = false := by rw [beq_eq_false_iff_ne]; omega
          have b2 : decide ((1 : Int) < (c.toNat : Int)) = true := by simp; omega
          have b3 : ((k : Int) == 9) = true := by rw [beq_iff_eq]; omega
          clear hB
          have b4 : decide ((128 : Int) ≤ (c.toNat : Int)) = false := by simp; omega
          clear hG
          go_wp2_with fail
          go_ret3
          exact ⟨rfl, .inr ⟨22, by decide, HD.out, rfl⟩⟩
        · obtain ⟨acc', he, hD⟩ := hG.good hk hl2 hc hA (by omega)
          have b3 : ((k : Int) == 9) = false := by rw [beq_eq_false_iff_ne]; omega
          have b0 : decide ((0 : Int) < (k : Int)) = false := by simp; omega
          have b00 : ¬ 0 < k := by omega
          clear hB
          by_cases hz : ((c.toNat : Int) == 0) = true
          all_goals (try (have hz : ((c.toNat : Int) == 0) = false := by simpa using hz))
          all_goals
            have HE : Hid (bits .or .u64 (acc : Int) (IntKind.u64.wrap ((c.toNat : Int) % 128 * 2 ^ (7 * k))) = (acc' : Int)) := he
            have HD : Hid (Pk.dec 0 0 (rest b p) = (0, acc', k + 1)) := hD
            have b4 : decide ((128 : Int) ≤ (c.toNat : Int)) = false := by simp; omega
            clear he hD hG
            go_wp2_with fail
            go_ret3
            exact ⟨rfl, .inl ⟨acc', k + 1, HD.out, by rw [HE.out]; rfl⟩⟩
        · obtain ⟨acc', he, hD⟩ := hG.good hk hl2 hc hA (by omega)
          have b1 : ((c.toNat : Int) == 0) = false := by rw [beq_eq_false_iff_ne]; omega
          have b2 : ((k : Int) == 9) = false := by rw [beq_eq_false_iff_ne]; omega
          have b0 : decide ((0 : Int) < (k : Int)) = true := by simp; omega
          have HE : Hid (bits .or .u64 (acc : Int) (IntKind.u64.wrap ((c.toNat : Int) % 128 * 2 ^ (7 * k))) = (acc' : Int)) := he
          have HD : Hid (Pk.dec 0 0 (rest b p) = (0, acc', k + 1)) := hD
          have b4 : decide ((128 : Int) ≤ (c.toNat : Int)) = false := by simp; omega
          clear he hD hG
          go_wp2_with fail
          go_ret3
          exact ⟨rfl, .inl ⟨acc', k + 1, HD.out, by rw [HE.out]; rfl⟩⟩
        · obtain ⟨acc', he, hD⟩ := hG.good hk hl2 hc (by omega) (by omega)
          have b1 : ((c.toNat : Int) == 0) = false := by rw [beq_eq_false_iff_ne]; omega
          have b2 : decide ((1 : Int) < (c.toNat : Int)) = false := by simp; omega
          have b3 : ((k : Int) == 9) = true := by rw [beq_iff_eq]; omega
          have hAA : c.toNat < 128 := by omega
          clear hA hB
          have HE : Hid (bits .or .u64 (acc : Int) (IntKind.u64.wrap ((c.toNat : Int) % 128 * 2 ^ (7 * k))) = (acc' : Int)) := he
          have HD : Hid (Pk.dec 0 0 (rest b p) = (0, acc', k + 1)) := hD
          have b4 : decide ((128 : Int) ≤ (c.toNat : Int)) = false := by simp; omega
          clear he hD hG
          go_wp2_with fail
          go_ret3
          exact ⟨rfl, .inl ⟨acc', k + 1, HD.out, by rw [HE.out]; rfl⟩⟩
      · have HD := hide (hG.done hk (by omega))
        have hge : decide ((b.size : Int) ≤ (p : Int) + (k : Int)) = true := by simp; omega
        clear hG
        go_wp2_with fail
        go_ret3
        exact ⟨rfl, .inr ⟨20, by decide, HD.out, rfl⟩⟩
    · have HD := hide (hG.ten (by omega))
      have hkI : decide ((k : Int) < 10) = false := by simp; omega
      clear hG
      go_wp2_with fail
      go_ret3
      exact ⟨rfl, .inr ⟨22, by decide, HD.out, rfl⟩⟩

theorem dec_shape : ∀ (l : List UInt8) (i acc : Nat), (∃ n m, Pk.dec i acc l = (0, n, m)) ∨ (∃ k : Nat, k ≠ 0 ∧ Pk.dec i acc l = (k, 0, 0))
  | [], i, acc => by
    unfold Pk.dec
    split
    · exact .inr ⟨20, by decide, rfl⟩
    · exact .inr ⟨22, by decide, rfl⟩
  | c :: l, i, acc => by
    unfold Pk.dec
    split
    · split
      · exact dec_shape l _ _
      · split
        · exact .inr ⟨22, by decide, rfl⟩
        · exact .inl ⟨_, _, rfl⟩
    · exact .inr ⟨22, by decide, rfl⟩
/-- what the document's number comes to -/
def i_QPost (w : World) (G o p : Nat) (b : ByteArray) (most above : Nat) (e : Ending) (w' : World) : Prop :=
  (numK b p most above = 0 ∧ e = .returned (.tuple #[.int .u64 (numV b p : Int), .int .i64 (numQ b p : Int)]) ∧ RR w' G o b p 0 0 ∧ RW G o w w') ∨
  (numK b p most above ≠ 0 ∧ e = .returned (.tuple #[.int .u64 0, .int .i64 (p : Int)]) ∧ RR w' G o b p (numK b p most above : Int) p ∧ RW G o w w')

set_option maxHeartbeats 1000000 in
theorem number_live {w : World} {G o p most above : Nat} {b : ByteArray} (h : RR w G o b p 0 0) (hp : p ≤ b.size) (hb : b.size ≤ 140737488351232) (ha : above ≠ 0) :
    Calls Try.prog 21 #[.pointer (some ⟨G, o, none⟩), .int .u64 (most : Int), .int .i64 (above : Int)] w (i_QPost w G o p b most above) := by
  have c0 := h.c0
  have c1 := h.c1
  have c2 := h.c2
  have H := hide h
  clear h
  have HFo := hide (fun W => form_any (w := W) hp hb)
  rcases dec_shape (rest b p) 0 0 with ⟨n, m, hD⟩ | ⟨k, hk, hD⟩
  · have HV : Hid (numV b p = n ∧ numQ b p = p + m) := ⟨by unfold numV; rw [hD], by unfold numQ; rw [hD]⟩
    have HFo2 : Hid (∀ W, Calls Try.prog 33 #[.string b, .int .i64 (p : Int)] W fun e w' => e = .returned (.tuple #[.int .u64 (n : Int), .int .i64 ((p + m : Nat) : Int), .int .i64 0]) ∧ w' = W) := fun W => (HFo.out W).mono (by
      rintro e w' ⟨rfl, ⟨n', m', hD', rfl⟩ | ⟨k', hk', hD', rfl⟩⟩
      · rw [hD] at hD'; simp only [Prod.mk.injEq, true_and] at hD'; obtain ⟨rfl, rfl⟩ := hD'; exact ⟨rfl, rfl⟩
      · rw [hD] at hD'; simp only [Prod.mk.injEq] at hD'; exact absurd hD'.1.symm hk')
    clear HFo
    by_cases hn : n ≤ most
    · have HK := hide (numK_ok (above := above) hD hn)
      have b0 : decide (most < n) = false := by simp; omega
      clear hD
      go_enter Try.func21, Try.ntmps21
      go_wp2_with fail
      go_quiet ((go_at_call 33; exact Calls.quiet_of_same (HFo2.out _)))
      go_wp2_with fail
      go_ret2
      exact .inl ⟨HK.out, by rw [HV.out.1, HV.out.2]; rfl, H.out.drewN _, RW.drewN _ _ _ _⟩
    · have HK := hide (numK_above (most := most) (above := above) hD (by omega))
      have b0 : decide (most < n) = true := by simp; omega
      clear hD HV
      go_enter Try.func21, Try.ntmps21
      go_wp2_with fail
      go_quiet ((go_at_call 33; exact Calls.quiet_of_same (HFo2.out _)))
      go_wp2_with fail
      refine (wrong_live (H.out.drewN _) (above : Int)).mono ?_
      rintro e w2 ⟨⟨u, rfl⟩, hR, hW⟩
      have k1 := hR.c1
      have HR := hide hR
      have HW := hide hW
      clear hR hW
      go_wp2_with fail
      go_quiet (fail)
      go_wp2_with fail
      go_ret2
      exact .inr ⟨by rw [HK.out]; exact ha, rfl, by rw [HK.out]; exact HR.out.drewN _, (RW.drewN _ _ _ _).trans (HW.out.trans (RW.drewN _ _ _ _))⟩
  · have HFo2 : Hid (∀ W, Calls Try.prog 33 #[.string b, .int .i64 (p : Int)] W fun e w' => e = .returned (.tuple #[.int .u64 0, .int .i64 0, .int .i64 (k : Int)]) ∧ w' = W) := fun W => (HFo.out W).mono (by
      rintro e w' ⟨rfl, ⟨n', m', hD', rfl⟩ | ⟨k', hk', hD', rfl⟩⟩
      · rw [hD] at hD'; simp only [Prod.mk.injEq] at hD'; exact absurd hD'.1 hk
      · rw [hD] at hD'; simp only [Prod.mk.injEq] at hD'; obtain ⟨rfl, _⟩ := hD'; exact ⟨rfl, rfl⟩)
    clear HFo
    have HK := hide (numK_bad (most := most) (above := above) hD hk)
    have HKK := hide hk
    have b1 : ((k : Int) != 0) = true := by simp; exact hk
    clear hD hk
    go_enter Try.func21, Try.ntmps21
    go_wp2_with fail
    go_quiet ((go_at_call 33; exact Calls.quiet_of_same (HFo2.out _)))
    go_wp2_with fail
    refine (wrong_live (H.out.drewN _) (k : Int)).mono ?_
    rintro e w2 ⟨⟨u, rfl⟩, hR, hW⟩
    have k1 := hR.c1
    have HR := hide hR
    have HW := hide hW
    clear hR hW
    go_wp2_with fail
    go_quiet (fail)
    go_wp2_with fail
    go_ret2
    exact .inr ⟨by rw [HK.out]; exact HKK.out, rfl, by rw [HK.out]; exact HR.out.drewN _, (RW.drewN _ _ _ _).trans (HW.out.trans (RW.drewN _ _ _ _))⟩
set_option maxHeartbeats 400000 in
theorem number_dead {w : World} {G o : Nat} {b : ByteArray} {p f a : Int} {most above : Int} (h : RR w G o b p f a) (hf : f ≠ 0) :
    Calls Try.prog 21 #[.pointer (some ⟨G, o, none⟩), .int .u64 most, .int .i64 above] w fun e w' => e = .returned (.tuple #[.int .u64 0, .int .i64 p]) ∧ ∃ n, w' = w.drewN n := by
  have c1 := h.c1
  have c2 := h.c2
  have b1 : (f != 0) = true := by simpa using hf
  clear h hf
  go_enter Try.func21, Try.ntmps21
  go_wp2_with fail
  go_quiet (fail)
  go_wp2_with fail
  go_ret2
  exact ⟨rfl, _, rfl⟩
end Go.Proofs.Ytlgcimfbhjidgaa
end

section
namespace Go.Proofs.Ytlgcimfbhjidgaa
open Go.RowKit

/-- what a call of the document's reader comes to -/
def HPost (w : World) (G o p : Nat) (b : ByteArray) (A Z : Value) (q k : Nat) (e : Ending) (w' : World) : Prop :=
  (k = 0 ∧ e = .returned A ∧ RR w' G o b q 0 0 ∧ RW G o w w') ∨ (k ≠ 0 ∧ e = .returned Z ∧ RR w' G o b p (k : Int) p ∧ RW G o w w')

set_option maxHeartbeats 400000 in
theorem qnum_live {w : World} {G o p most : Nat} {b : ByteArray} (h : RR w G o b p 0 0) (hp : p ≤ b.size) (hb : b.size ≤ 140737488351232) :
    Calls Try.prog 10 #[.pointer (some ⟨G, o, none⟩), .int .u64 (most : Int)] w (HPost w G o p b (.int .u64 (numV b p : Int)) (.int .u64 0) (numQ b p) (numK b p most 21)) := by
  have HN := hide (number_live (most := most) (above := 21) h hp hb (by decide))
  clear h
  go_enter Try.func10, Try.ntmps10
  go_wp2_with fail
  refine HN.out.mono ?_
  rintro e w1 (⟨hk, rfl, hR, hW⟩ | ⟨hk, rfl, hR, hW⟩)
  · have c1 := hR.c1
    have z1 := hR.z (o + 1)
    have HK := hide hk
    have HE := hide (And.intro (hR.set1 (numQ b p)) (hW.trans (RW.set G o w1 1 (by decide) (.int .i64 (numQ b p : Int)))))
    clear hk hR hW
    go_wp2_with fail
    go_ret
    exact .inl ⟨HK.out, rfl, HE.out.1, HE.out.2⟩
  · have c1 := hR.c1
    have z1 := hR.z (o + 1)
    have HK := hide hk
    have HE := hide (And.intro (hR.set1 (p : Int)) (hW.trans (RW.set G o w1 1 (by decide) (.int .i64 (p : Int)))))
    clear hk hR hW
    go_wp2_with fail
    go_ret
    exact .inr ⟨HK.out, rfl, HE.out.1, HE.out.2⟩
set_option maxHeartbeats 400000 in
theorem qnum_dead {w : World} {G o : Nat} {b : ByteArray} {p f a most : Int} (h : RR w G o b p f a) (hf : f ≠ 0) :
    Calls Try.prog 10 #[.pointer (some ⟨G, o, none⟩), .int .u64 most] w fun e w' => e = .returned (.int .u64 0) ∧ RR w' G o b p f a ∧ RW G o w w' := by
  have H := hide h
  have c1 := h.c1
  have z1 := h.z (o + 1)
  go_enter Try.func10, Try.ntmps10
  go_wp2_with fail
  refine (number_dead H.out hf).mono ?_
  rintro e w1 ⟨rfl, n, rfl⟩
  have HE := hide (And.intro ((H.out.drewN n).set1 p) ((RW.drewN G o w n).trans (RW.set G o _ 1 (by decide) (.int .i64 p))))
  clear h
  go_wp2_with fail
  go_ret
  exact ⟨rfl, HE.out.1, HE.out.2⟩

theorem numV_le {b : ByteArray} {p most above : Nat} (ha : above ≠ 0) (h : numK b p most above = 0) : numV b p ≤ most := by
  unfold numK at h
  unfold numV
  split at h
  · next h1 => exact absurd h h1
  · split at h
    · exact absurd h ha
    · omega

set_option maxHeartbeats 400000 in
theorem qlist_live {w : World} {G o p : Nat} {most : Int} {b : ByteArray} (hm : most ≤ 9223372036854775807) (h : RR w G o b p 0 0) (hp : p ≤ b.size) (hb : b.size ≤ 140737488351232) :
    Calls Try.prog 23 #[.pointer (some ⟨G, o, none⟩), .int .i64 most] w (HPost w G o p b (.int .i64 (numV b p : Int)) (.int .i64 0) (numQ b p) (numK b p most.toNat 23)) := by
  have HN := hide (number_live (most := most.toNat) (above := 23) h hp hb (by decide))
  clear h
  by_cases h0 : most < 0
  all_goals
    (first | (have e0 : ((most.toNat : Nat) : Int) = 0 := by omega) | (have e0 : ((most.toNat : Nat) : Int) = most := by omega))
    rw [e0] at HN
    clear e0
    go_enter Try.func23, Try.ntmps23
    go_wp2_with fail
    refine HN.out.mono ?_
    rintro e w1 (⟨hk, rfl, hR, hW⟩ | ⟨hk, rfl, hR, hW⟩)
    · have c1 := hR.c1
      have z1 := hR.z (o + 1)
      have hv := numV_le (by decide) hk
      have hv2 : (numV b p : Int) ≤ 9223372036854775807 := by omega
      have HK := hide hk
      have HE := hide (And.intro (hR.set1 (numQ b p)) (hW.trans (RW.set G o w1 1 (by decide) (.int .i64 (numQ b p : Int)))))
      clear hk hR hW hv
      go_wp2_with fail
      go_ret
      exact .inl ⟨HK.out, rfl, HE.out.1, HE.out.2⟩
    · have c1 := hR.c1
      have z1 := hR.z (o + 1)
      have HK := hide hk
      have HE := hide (And.intro (hR.set1 (p : Int)) (hW.trans (RW.set G o w1 1 (by decide) (.int .i64 (p : Int)))))
      clear hk hR hW
      go_wp2_with fail
      go_ret
      exact .inr ⟨HK.out, rfl, HE.out.1, HE.out.2⟩
set_option maxHeartbeats 400000 in
theorem qlist_dead {w : World} {G o : Nat} {b : ByteArray} {p f a most : Int} (hm : most ≤ 9223372036854775807) (h : RR w G o b p f a) (hf : f ≠ 0) :
    Calls Try.prog 23 #[.pointer (some ⟨G, o, none⟩), .int .i64 most] w fun e w' => e = .returned (.int .i64 0) ∧ RR w' G o b p f a ∧ RW G o w w' := by
  have H := hide h
  have c1 := h.c1
  have z1 := h.z (o + 1)
  clear h
  by_cases h0 : most < 0
  all_goals
    go_enter Try.func23, Try.ntmps23
    go_wp2_with fail
    refine (number_dead H.out hf).mono ?_
    rintro e w1 ⟨rfl, n, rfl⟩
    have HE := hide (And.intro ((H.out.drewN n).set1 p) ((RW.drewN G o w n).trans (RW.set G o _ 1 (by decide) (.int .i64 p))))
    go_wp2_with fail
    go_ret
    exact ⟨rfl, HE.out.1, HE.out.2⟩

end Go.Proofs.Ytlgcimfbhjidgaa
end

section
namespace Go.Proofs.Ytlgcimfbhjidgaa
open Go.RowKit

set_option maxHeartbeats 1000000 in
theorem qtext_live {w : World} {G o p : Nat} {most : Int} {b : ByteArray} (hm : most ≤ 9223372036854775807) (h : RR w G o b p 0 0) (hp : p ≤ b.size) (hb : b.size ≤ 140737488351232) :
    Calls Try.prog 22 #[.pointer (some ⟨G, o, none⟩), .int .i64 most] w (HPost w G o p b (.string (textV b p)) (.string ⟨#[]⟩) (numQ b p + numV b p) (textK b p most.toNat)) := by
  have HN := hide (number_live (most := most.toNat) (above := 23) h hp hb (by decide))
  clear h
  by_cases h0 : most < 0
  all_goals
    (first | (have e0 : ((most.toNat : Nat) : Int) = 0 := by omega) | (have e0 : ((most.toNat : Nat) : Int) = most := by omega))
    rw [e0] at HN
    clear e0
    go_enter Try.func22, Try.ntmps22
    go_wp2_with fail
    refine HN.out.mono ?_
    rintro e w1 (⟨hk, rfl, hR, hW⟩ | ⟨hk, rfl, hR, hW⟩)
    · have c0 := hR.c0
      have c1 := hR.c1
      have c2 := hR.c2
      have z1 := hR.z (o + 1)
      obtain ⟨_, n1, n2, n3⟩ := num_parts b p most.toNat hp hk
      have hTK : textK b p most.toNat = if b.size < numQ b p + numV b p then 20 else 0 := by unfold textK; rw [if_neg (by simpa using hk)]
      have HTV : Hid (textV b p = b.extract (numQ b p) (numQ b p + numV b p)) := rfl
      have HTK := hide hTK
      have HR := hide hR
      have HW := hide hW
      clear hk hR hW hTK
      generalize numQ b p = mq at *
      generalize numV b p = mv at *
      by_cases hs : b.size < mq + mv
      · first
        | (exfalso; omega)
        | (have b1 : decide ((b.size : Int) - (mq : Int) < (mv : Int)) = true := by simp; omega
           have HS := hide hs
           clear hs
           go_wp2_with fail
           refine (wrong_live HR.out 20).mono ?_
           rintro e w2 ⟨⟨u, rfl⟩, hR2, hW2⟩
           have k2 := hR2.c2
           have HR2 := hide hR2
           have HW2 := hide hW2
           clear hR2 hW2
           go_wp2_with fail
           go_ret
           exact .inr ⟨by rw [HTK.out, if_pos HS.out]; decide, rfl, by rw [HTK.out, if_pos HS.out]; exact HR2.out, HW.out.trans HW2.out⟩)
      · have b1 : decide ((b.size : Int) - (mq : Int) < (mv : Int)) = false := by simp; omega
        have hnv : (mv : Int) ≤ 9223372036854775807 := by omega
        have HE := hide (And.intro (HR.out.set1 ((mq + mv : Nat) : Int)) (HW.out.trans (RW.set G o w1 1 (by decide) (.int .i64 ((mq + mv : Nat) : Int)))))
        have hle : mq + mv ≤ b.size := by omega
        go_wp2_with fail
        go_quiet (fail)
        go_wp2_with fail
        go_ret
        exact .inl ⟨by rw [HTK.out, if_neg (by omega)], by rw [HTV.out]; rfl, HE.out.1.drewN _, HE.out.2.trans (RW.drewN _ _ _ _)⟩
    · have c2 := hR.c2
      have hTK : textK b p most.toNat = numK b p most.toNat 23 := by unfold textK; rw [if_pos hk]
      have b1 : ((numK b p most.toNat 23 : Int) == 0) = false := by rw [beq_eq_false_iff_ne]; omega
      have b2 : ((numK b p most.toNat 23 : Int) != 0) = true := by rw [bne_iff_ne]; omega
      have HTK := hide hTK
      have HK := hide hk
      have HR := hide hR
      have HW := hide hW
      clear hk hR hW hTK
      generalize numK b p most.toNat 23 = kk at *
      go_wp2_with fail
      go_ret
      exact .inr ⟨by rw [HTK.out]; exact HK.out, rfl, by rw [HTK.out]; exact HR.out, HW.out⟩
set_option maxHeartbeats 400000 in
theorem qtext_dead {w : World} {G o : Nat} {b : ByteArray} {p f a most : Int} (hm : most ≤ 9223372036854775807) (h : RR w G o b p f a) (hf : f ≠ 0) :
    Calls Try.prog 22 #[.pointer (some ⟨G, o, none⟩), .int .i64 most] w fun e w' => e = .returned (.string ⟨#[]⟩) ∧ RR w' G o b p f a ∧ RW G o w w' := by
  have H := hide h
  have c2 := h.c2
  have b1 : (f == 0) = false := by rw [beq_eq_false_iff_ne]; exact hf
  have b2 : (f != 0) = true := by rw [bne_iff_ne]; exact hf
  clear h
  by_cases h0 : most < 0
  all_goals
    go_enter Try.func22, Try.ntmps22
    go_wp2_with fail
    refine (number_dead H.out hf).mono ?_
    rintro e w1 ⟨rfl, n, rfl⟩
    go_wp2_with fail
    go_ret
    exact ⟨rfl, H.out.drewN n, RW.drewN G o w n⟩

set_option maxHeartbeats 1000000 in
theorem qbits_live {w : World} {G o p : Nat} {b : ByteArray} (h : RR w G o b p 0 0) (hp : p ≤ b.size) (hb : b.size ≤ 140737488351232) :
    Calls Try.prog 24 #[.pointer (some ⟨G, o, none⟩)] w (HPost w G o p b (.int .u64 (bitsV b p : Int)) (.int .u64 0) (p + 8) (bitsK b p)) := by
  have c0 := h.c0
  have c1 := h.c1
  have c2 := h.c2
  have z1 := h.z (o + 1)
  have H := hide h
  clear h
  by_cases hs : b.size < p + 8
  · have HK : Hid (bitsK b p = 20) := if_pos hs
    have b1 : decide ((b.size : Int) - (p : Int) < 8) = true := by simp; omega
    go_enter Try.func24, Try.ntmps24
    go_wp2_with fail
    go_quiet (fail)
    go_wp2_with fail
    refine (wrong_live (H.out.drewN _) 20).mono ?_
    rintro e w2 ⟨⟨u, rfl⟩, hR2, hW2⟩
    have k2 := hR2.c2
    have HR2 := hide hR2
    have HW2 := hide hW2
    clear hR2 hW2
    go_wp2_with fail
    go_ret
    exact .inr ⟨by rw [HK.out]; decide, rfl, by rw [HK.out]; exact HR2.out, (RW.drewN _ _ _ _).trans HW2.out⟩
  · have HK : Hid (bitsK b p = 0) := if_neg hs
    have b1 : decide ((b.size : Int) - (p : Int) < 8) = false := by simp; omega
    go_enter Try.func24, Try.ntmps24
    go_wp2_with fail
    go_quiet (fail)
    go_wp2_with fail
    go_loopw [3, 4] (fun v i wr => ∃ k : Nat, k ≤ 8 ∧ i = .int .i64 (k : Int) ∧ v = .int .u64 (Pk.fold8 ((rest b p).take k) : Int) ∧ ∃ n, wr = w.drewN n) (fun _ i _ => 8 - (intOf i).toNat)
    case atStart => exact ⟨0, by omega, rfl, rfl, _, rfl⟩
    case round =>
      obtain ⟨k, hk8, rfl, rfl, n, rfl⟩ := hrel
      by_cases hk : k < 8
      · have hi : 0 ≤ (p : Int) + (k : Int) ∧ (p : Int) + (k : Int) < (b.size : Int) := by omega
        have hl2 : p + k < b.size := by omega
        have hlen : (rest b p).length = b.size - p := rest_len b p
        obtain ⟨c, hc⟩ : ∃ c : UInt8, b[((p : Int) + (k : Int)).toNat]'(by omega) = c := ⟨_, rfl⟩
        have hcb : c.toNat < 256 := UInt8.toNat_lt c
        have hcc : (rest b p).getD k 0 = c := by
          have h1 := rest_at b p k hl2
          have h2 : (rest b p)[k]? = some b[p + k] := by
            have := congrArg (fun l => l[0]?) h1
            simpa using this
          rw [List.getD_eq_getElem?_getD, h2, ← hc]
          simp only [Option.getD_some]
          congr 1
        have HE : Hid (bits .or .u64 (IntKind.u64.wrap ((Pk.fold8 ((rest b p).take k) : Int) * 256)) (c.toNat : Int) = (Pk.fold8 ((rest b p).take (k + 1)) : Int)) := by
          rw [Pk.fold8_take _ k (by omega), hcc]
          exact or8 _ _ (Pk.fold8_small _ k (by omega) hk) hcb
        have hkI : (k : Int) < 8 := by omega
        clear hcc
        go_wp2_with fail
        go_quiet (fail)
        go_wp2_with fail
        exact ⟨⟨k + 1, by omega, by go_num, by rw [HE.out], _, rfl⟩, by simp [intOf]; omega⟩
      · have hk' : k = 8 := by omega
        subst hk'
        have HV : Hid (bitsV b p = Pk.fold8 ((rest b p).take 8)) := rfl
        have HE := hide (And.intro ((H.out.drewN n).set1 ((p + 8 : Nat) : Int)) ((RW.drewN G o w n).trans (RW.set G o _ 1 (by decide) (.int .i64 ((p + 8 : Nat) : Int)))))
        go_wp2_with fail
        go_ret
        exact .inl ⟨HK.out, by rw [HV.out]; rfl, HE.out.1, HE.out.2⟩
set_option maxHeartbeats 400000 in
theorem qbits_dead {w : World} {G o : Nat} {b : ByteArray} {p f a : Int} (h : RR w G o b p f a) (hf : f ≠ 0) :
    Calls Try.prog 24 #[.pointer (some ⟨G, o, none⟩)] w fun e w' => e = .returned (.int .u64 0) ∧ RR w' G o b p f a ∧ RW G o w w' := by
  have H := hide h
  have c2 := h.c2
  have b1 : (f == 0) = false := by rw [beq_eq_false_iff_ne]; exact hf
  have b2 : (f != 0) = true := by rw [bne_iff_ne]; exact hf
  clear h
  go_enter Try.func24, Try.ntmps24
  go_wp2_with fail
  go_quiet (fail)
  go_wp2_with fail
  go_ret
  exact ⟨rfl, H.out.drewN _, RW.drewN G o w _⟩
end Go.Proofs.Ytlgcimfbhjidgaa
end
