import Derived.Test.YtepondcflkledaaGreatMgAS
import Derived.ProofKit
import Derived.OpenShut
import Derived.ShutString
import Derived.SizedLaws
import Derived.Carry
import Derived.Deep.SlicePairs
import Derived.Deep.Strs
import Derived.Lib.SmallJoins

section
namespace Go.Proofs.YtepondcflkledaaGreat
set_option maxRecDepth 20000
open Go.ChangeShapes Go.WideShapes Go.ChangeAt Go.RowKit Go.Deep
open Rc (Ch)
theorem own : ownKnob Tryz.prog.godebug = none := by kernel_rfl
theorem Tryz.laidOut : laidOutB Tryz.prog = true := by kernel_rfl
theorem Tryz.cellsI1 : Tryz.prog.cellsOf 3 = 1 := by kernel_rfl
theorem Tryz.cellsS1 : Tryz.prog.cellsOf 9 = 1 := by kernel_rfl
theorem Tryz.cellsU1 : Tryz.prog.cellsOf 74 = 1 := by kernel_rfl
theorem Tryz.cellsT1 : Tryz.prog.cellsOf 52 = 1 := by kernel_rfl
theorem Tryz.cellsR2 : Tryz.prog.cellsOf 76 = 2 := by kernel_rfl
theorem Tryz.cellsC10 : Tryz.prog.cellsOf 78 = 10 := by kernel_rfl
theorem Tryz.bytesS : Tryz.prog.bytesOf 9 = 16 := by kernel_rfl
theorem Tryz.bytesC : Tryz.prog.bytesOf 78 = 104 := by kernel_rfl
theorem range_get {α : Type} [Inhabited α] (f : Nat → α) (n i : Nat) (h : i < n) : ((List.range n).map f)[i]! = f i := by
  rw [getElem!_pos _ _ (by simpa using h)]; simp
theorem range_len {α : Type} (f : Nat → α) (n : Nat) : ((List.range n).map f).length = n := by simp
section
variable {H : Type} {enc : TypeId × Value → H}
theorem weights_all_mem {P : Program} {e : TypeId} {d : DataW H} : ∀ {ds : List (DataW H)}, d ∈ ds → ∀ n ∈ d.weights P e, n ∈ DataW.weightsAll P e ds
  | d0 :: ds, h, n, hn => by
    simp only [DataW.weightsAll, List.mem_append]
    rcases List.mem_cons.mp h with rfl | h
    · exact Or.inl hn
    · exact Or.inr (weights_all_mem h n hn)
set_option maxRecDepth 20000 in
/-- texts, opened -/
theorem texts_at {W : World} {n : Nat} {v : Value} {x : DataW H × List MemPlace} (h : DataW.trod enc Tryz.prog W 0 (fun _ => true) true n 52 [v] = some x) (hw : ∀ k ∈ x.1.weights Tryz.prog 52, k ≤ reachBytes) :
    ∃ l : List ByteArray, Tx W v l ∧ l.length ≤ 140737488351232 := by
  rcases open_slice Tryz.underlying52 h with ⟨hc, _⟩ | ⟨a, len, cap, m, k, D, Pl, hc, _, hl, hm, hmm, hx, hall⟩
  · simp only [List.cons.injEq, and_true] at hc
    rw [hc]
    exact ⟨[], Tx.nil W, by simp⟩
  · simp only [List.cons.injEq, and_true] at hc
    simp only [if_true] at hmm
    subst hmm
    have hle : len ≤ 140737488351232 := by
      have := hw (len * 16 + (m - len) * 16) (by
        rw [hx]; simp only [DataW.weights, Tryz.underlying52, Tryz.bytesS]
        simp only [List.length_map, List.length_range, List.mem_cons]
        left; rw [Nat.add_mul])
      simp only [reachBytes] at this; omega
    have each : ∀ i, i < m → ∃ s : ByteArray, W.cell? (a.add i) = some (.string s) := by
      intro i hi
      obtain ⟨cs', g1, g2⟩ := hall i hi
      rw [Tryz.cellsS1] at g1
      obtain ⟨_, hlen, hcell⟩ := World.cells?_some g1
      obtain ⟨s, e, _⟩ := DataW.trod_string Tryz.underlying9 g2
      subst e
      have k0 := hcell 0 (by decide)
      rw [add_add] at k0
      exact ⟨s, by simpa using k0⟩
    obtain ⟨q, hq⟩ := choose_lt each
    refine ⟨(List.range len).map q, ⟨some a, m, by rw [range_len]; exact hc, fun h => ?_⟩, by rw [range_len]; exact hle⟩
    rw [range_len] at h
    obtain ⟨ab, ao, spot⟩ := a
    have hspot : spot = none := by simpa [Addr.add] using World.cell?_spot (hq 0 (by omega))
    subst hspot
    refine ⟨ab, ao, rfl, World.block_lt_of_cell? _ _ (hq 0 (by omega)), fun j hj => ?_⟩
    rw [range_len] at hj
    rw [range_get q len j hj]
    have h1 := hq j (by omega)
    rw [Addr.add_lit] at h1
    exact h1
set_option maxRecDepth 20000 in
set_option maxHeartbeats 1000000 in
/-- a change, opened -/
theorem change_at {W : World} {n : Nat} {cs : List Value} {x : DataW H × List MemPlace} (h : DataW.trod enc Tryz.prog W 0 (fun _ => true) true n 78 cs = some x) (hw : ∀ k ∈ x.1.weights Tryz.prog 78, k ≤ reachBytes) :
    ∃ (c : Ch) (t : Value), cs = (chC c t).toList ∧ Tx W t c.tx ∧ c.tx.length ≤ 140737488351232 ∧ c.rb < 18446744073709551616 := by
  obtain ⟨xs, n, _, hxx, hl, hlen, hfi⟩ := DataW.trod_struct Tryz.underlying78 h
  rw [Tryz.cellsC10] at hl
  obtain ⟨c0, c1, c2, c3, c4, c5, c6, c7, c8, c9, rfl⟩ : ∃ c0 c1 c2 c3 c4 c5 c6 c7 c8 c9, cs = [c0, c1, c2, c3, c4, c5, c6, c7, c8, c9] := by
    match cs, hl with
    | [c0, c1, c2, c3, c4, c5, c6, c7, c8, c9], _ => exact ⟨c0, c1, c2, c3, c4, c5, c6, c7, c8, c9, rfl⟩
  have hx : ∀ i, i < 9 → ∃ y, xs[i]? = some y := fun i hi => ⟨xs[i]'(by rw [hlen]; exact hi), List.getElem?_eq_getElem _⟩
  obtain ⟨y0, hy0⟩ := hx 0 (by decide)
  have g0 : DataW.trod enc Tryz.prog W 0 (fun _ => true) true n 3 [c0] = some y0 := by
    have this : DataW.trod enc Tryz.prog W 0 (fun _ => true) true n 3 ((List.drop 0 [c0, c1, c2, c3, c4, c5, c6, c7, c8, c9]).take (Tryz.prog.cellsOf 3)) = xs[0]? := hfi 0 _ rfl
    rw [Tryz.cellsI1] at this
    rw [← hy0]; exact this
  obtain ⟨z0, e0, _, _⟩ := DataW.trod_int Tryz.underlying3 g0
  obtain ⟨y1, hy1⟩ := hx 1 (by decide)
  have g1 : DataW.trod enc Tryz.prog W 0 (fun _ => true) true n 3 [c1] = some y1 := by
    have this : DataW.trod enc Tryz.prog W 0 (fun _ => true) true n 3 ((List.drop 1 [c0, c1, c2, c3, c4, c5, c6, c7, c8, c9]).take (Tryz.prog.cellsOf 3)) = xs[1]? := hfi 1 _ rfl
    rw [Tryz.cellsI1] at this
    rw [← hy1]; exact this
  obtain ⟨z1, e1, _, _⟩ := DataW.trod_int Tryz.underlying3 g1
  obtain ⟨y2, hy2⟩ := hx 2 (by decide)
  have g2 : DataW.trod enc Tryz.prog W 0 (fun _ => true) true n 3 [c2] = some y2 := by
    have this : DataW.trod enc Tryz.prog W 0 (fun _ => true) true n 3 ((List.drop 2 [c0, c1, c2, c3, c4, c5, c6, c7, c8, c9]).take (Tryz.prog.cellsOf 3)) = xs[2]? := hfi 2 _ rfl
    rw [Tryz.cellsI1] at this
    rw [← hy2]; exact this
  obtain ⟨z2, e2, _, _⟩ := DataW.trod_int Tryz.underlying3 g2
  obtain ⟨y3, hy3⟩ := hx 3 (by decide)
  have g3 : DataW.trod enc Tryz.prog W 0 (fun _ => true) true n 3 [c3] = some y3 := by
    have this : DataW.trod enc Tryz.prog W 0 (fun _ => true) true n 3 ((List.drop 3 [c0, c1, c2, c3, c4, c5, c6, c7, c8, c9]).take (Tryz.prog.cellsOf 3)) = xs[3]? := hfi 3 _ rfl
    rw [Tryz.cellsI1] at this
    rw [← hy3]; exact this
  obtain ⟨z3, e3, _, _⟩ := DataW.trod_int Tryz.underlying3 g3
  obtain ⟨y4, hy4⟩ := hx 4 (by decide)
  have g4 : DataW.trod enc Tryz.prog W 0 (fun _ => true) true n 3 [c4] = some y4 := by
    have this : DataW.trod enc Tryz.prog W 0 (fun _ => true) true n 3 ((List.drop 4 [c0, c1, c2, c3, c4, c5, c6, c7, c8, c9]).take (Tryz.prog.cellsOf 3)) = xs[4]? := hfi 4 _ rfl
    rw [Tryz.cellsI1] at this
    rw [← hy4]; exact this
  obtain ⟨z4, e4, _, _⟩ := DataW.trod_int Tryz.underlying3 g4
  obtain ⟨y5, hy5⟩ := hx 5 (by decide)
  have g5 : DataW.trod enc Tryz.prog W 0 (fun _ => true) true n 3 [c5] = some y5 := by
    have this : DataW.trod enc Tryz.prog W 0 (fun _ => true) true n 3 ((List.drop 5 [c0, c1, c2, c3, c4, c5, c6, c7, c8, c9]).take (Tryz.prog.cellsOf 3)) = xs[5]? := hfi 5 _ rfl
    rw [Tryz.cellsI1] at this
    rw [← hy5]; exact this
  obtain ⟨z5, e5, _, _⟩ := DataW.trod_int Tryz.underlying3 g5
  obtain ⟨y6, hy6⟩ := hx 6 (by decide)
  have g6 : DataW.trod enc Tryz.prog W 0 (fun _ => true) true n 76 [c6, c7] = some y6 := by
    have this : DataW.trod enc Tryz.prog W 0 (fun _ => true) true n 76 ((List.drop 6 [c0, c1, c2, c3, c4, c5, c6, c7, c8, c9]).take (Tryz.prog.cellsOf 76)) = xs[6]? := hfi 6 _ rfl
    rw [Tryz.cellsR2] at this
    rw [← hy6]; exact this
  obtain ⟨y7, hy7⟩ := hx 7 (by decide)
  have g7 : DataW.trod enc Tryz.prog W 0 (fun _ => true) true n 9 [c8] = some y7 := by
    have this : DataW.trod enc Tryz.prog W 0 (fun _ => true) true n 9 ((List.drop 8 [c0, c1, c2, c3, c4, c5, c6, c7, c8, c9]).take (Tryz.prog.cellsOf 9)) = xs[7]? := hfi 7 _ rfl
    rw [Tryz.cellsS1] at this
    rw [← hy7]; exact this
  obtain ⟨z7, e7, _, _⟩ := DataW.trod_string Tryz.underlying9 g7
  obtain ⟨y8, hy8⟩ := hx 8 (by decide)
  have g8 : DataW.trod enc Tryz.prog W 0 (fun _ => true) true n 52 [c9] = some y8 := by
    have this : DataW.trod enc Tryz.prog W 0 (fun _ => true) true n 52 ((List.drop 9 [c0, c1, c2, c3, c4, c5, c6, c7, c8, c9]).take (Tryz.prog.cellsOf 52)) = xs[8]? := hfi 8 _ rfl
    rw [Tryz.cellsT1] at this
    rw [← hy8]; exact this
  obtain ⟨tx, hT, hTl⟩ := texts_at g8 (fun k hk => hw k (by
    rw [hxx]
    simp only [DataW.weights, Tryz.underlying78]
    exact DataW.weights_mem_each (j := 8) rfl (by rw [List.getElem?_map, hy8]; rfl) k hk))
  obtain ⟨us, n2, _, _, hl2, hlen2, hfi2⟩ := DataW.trod_struct Tryz.underlying76 g6
  have hu : ∀ i, i < 2 → ∃ y, us[i]? = some y := fun i hi => ⟨us[i]'(by rw [hlen2]; exact hi), List.getElem?_eq_getElem _⟩
  obtain ⟨u0, hu0⟩ := hu 0 (by decide)
  obtain ⟨u1, hu1⟩ := hu 1 (by decide)
  have k0 : DataW.trod enc Tryz.prog W 0 (fun _ => true) true n2 3 [c6] = some u0 := by
    have this : DataW.trod enc Tryz.prog W 0 (fun _ => true) true n2 3 ((List.drop 0 [c6, c7]).take (Tryz.prog.cellsOf 3)) = us[0]? := hfi2 0 _ rfl
    rw [Tryz.cellsI1] at this
    rw [← hu0]; exact this
  have k1 : DataW.trod enc Tryz.prog W 0 (fun _ => true) true n2 74 [c7] = some u1 := by
    have this : DataW.trod enc Tryz.prog W 0 (fun _ => true) true n2 74 ((List.drop 1 [c6, c7]).take (Tryz.prog.cellsOf 74)) = us[1]? := hfi2 1 _ rfl
    rw [Tryz.cellsU1] at this
    rw [← hu1]; exact this
  obtain ⟨r0, er0, _, _⟩ := DataW.trod_int Tryz.underlying3 k0
  obtain ⟨r1, er1, _, wr1⟩ := DataW.trod_int Tryz.underlying74 k1
  have hb := bounds_u64 wr1
  obtain ⟨m, hm⟩ : ∃ m : Nat, r1 = (m : Int) := ⟨r1.toNat, by omega⟩
  simp only [List.cons.injEq, and_true] at e0 e1 e2 e3 e4 e5 e7 er0 er1
  refine ⟨⟨z0, z1, z2, z3, z4, z5, r0, m, z7, tx⟩, c9, ?_, hT, hTl, by show m < _; omega⟩
  rw [e0, e1, e2, e3, e4, e5, e7, er0, er1, hm]; rfl
set_option maxRecDepth 20000 in
/-- a row of changes, opened -/
theorem rows_of {W : World} {base : Nat} {v : Value} {d : DataW H} {ps : List MemPlace} (hv : Value.okWide Tryz.prog W .any base 39 v) (h : DataW.Trod enc Tryz.prog W 0 (fun _ => true) true 39 v d ps) (hw : ∀ k ∈ d.weights Tryz.prog 39, k ≤ reachBytes) :
    ∃ l : List Ch, Rw W v l ∧ l.length ≤ 1353245080301 := by
  obtain ⟨a0, len0, cap0, rfl⟩ := okWide_slice Tryz.underlying39 hv
  obtain ⟨n, hn⟩ := h
  rcases open_slice (cs := [.slice a0 len0 cap0]) Tryz.underlying39 hn with ⟨hc, _⟩ | ⟨a, len, cap, m, k, D, Pl, hc, _, hl, hm, hmm, hx, hall⟩
  · simp only [List.cons.injEq, and_true] at hc
    rw [hc]
    exact ⟨[], ⟨none, 0, rfl, fun h => absurd h (Nat.lt_irrefl _)⟩, by simp⟩
  · simp only [List.cons.injEq, and_true] at hc
    simp only [if_true] at hmm
    subst hmm
    have hd : d = .slice ((List.range len).map D) ((List.range (m - len)).map fun j => D (len + j)) := congrArg Prod.fst hx
    have hle : len ≤ 1353245080301 := by
      have := hw (len * 104 + (m - len) * 104) (by
        rw [hd]; simp only [DataW.weights, Tryz.underlying39, Tryz.bytesC]
        simp only [List.length_map, List.length_range, List.mem_cons]
        left; rw [Nat.add_mul])
      simp only [reachBytes] at this; omega
    have each : ∀ i, i < len → ∃ q : Ch × Value, Tx W q.2 q.1.tx ∧ q.1.tx.length ≤ 140737488351232 ∧ q.1.rb < 18446744073709551616 ∧ ∀ j u, (chC q.1 q.2)[j]? = some u → W.cell? (a.add (i * 10 + j)) = some u := by
      intro i hi
      obtain ⟨cs', g1, g2⟩ := hall i (by omega)
      rw [Tryz.cellsC10] at g1
      obtain ⟨_, hlen, hcell⟩ := World.cells?_some g1
      obtain ⟨c, t, rfl, hT, hl1, hrb⟩ := change_at g2 (fun k hk => hw k (by
        rw [hd]; simp only [DataW.weights, Tryz.underlying39]
        refine List.mem_cons_of_mem _ (List.mem_append_left _ (weights_all_mem (d := D i) ?_ k hk))
        exact List.mem_map.mpr ⟨i, List.mem_range.mpr hi, rfl⟩))
      refine ⟨(c, t), hT, hl1, hrb, fun j u hj => ?_⟩
      have hjs := (Array.getElem?_eq_some_iff.mp hj)
      obtain ⟨hj1, hj2⟩ := hjs
      have k0 := hcell j (by simpa [chC] using hj1)
      rw [add_add] at k0
      rw [k0, ← hj2]; simp [hj1]
    obtain ⟨q, hq⟩ := choose_lt each
    refine ⟨(List.range len).map fun i => (q i).1, ⟨some a, m, by rw [range_len]; exact hc, fun h => ?_⟩, by rw [range_len]; exact hle⟩
    rw [range_len] at h
    obtain ⟨ab, ao, spot⟩ := a
    have hspot : spot = none := by simpa [Addr.add] using World.cell?_spot ((hq 0 (by omega)).2.2.2 0 _ rfl)
    subst hspot
    refine ⟨ab, ao, rfl, World.block_lt_of_cell? _ _ ((hq 0 (by omega)).2.2.2 0 _ rfl), fun j hj => ?_⟩
    rw [range_len] at hj
    rw [range_get (fun i => (q i).1) len j hj]
    obtain ⟨h1, h2, h3, h4⟩ := hq j hj
    refine ⟨(q j).2, h1, h2, h3, fun i u hi => ?_⟩
    have := h4 i u hi
    rw [Addr.add_lit] at this
    rw [Nat.add_assoc]
    exact this
theorem sized_mem {P : Program} {ts : List TypeId} {ds : List (DataW H)} (h : (DataW.weightsEach P ts ds).all (· ≤ reachBytes) = true) {j : Nat} {t : TypeId} {d : DataW H} (ht : ts[j]? = some t) (hd : ds[j]? = some d) : ∀ k ∈ d.weights P t, k ≤ reachBytes := fun k hk => by
  simpa using List.all_eq_true.1 h _ (DataW.weights_mem_each ht hd k hk)
end
end Go.Proofs.YtepondcflkledaaGreat
end

section
namespace Go.Proofs.YtepondcflkledaaGreat.S
set_option maxRecDepth 20000
open Go.ChangeShapes Go.WideShapes Go.ChangeAt Go.RowKit Go.Deep
open Rc (Ch)

section
variable {H : Type} {enc : TypeId × Value → H}
set_option maxRecDepth 20000 in
/-- a row has the room that it says -/
theorem slice_cap {W : World} {base : Nat} {v : Value} {d : DataW H} {ps : List MemPlace} (hv : Value.okWide Tryz.prog W .any base 39 v) (h : DataW.Trod enc Tryz.prog W 0 (fun _ => true) true 39 v d ps) : ∀ p n c, v = .slice p n c → n ≤ c ∧ c ≤ maxLen := by
  obtain ⟨a0, len0, cap0, rfl⟩ := okWide_slice Tryz.underlying39 hv
  obtain ⟨n, hn⟩ := h
  intro p n' c e
  rcases open_slice (cs := [.slice a0 len0 cap0]) Tryz.underlying39 hn with ⟨hc, _⟩ | ⟨a, len, cap, m, k, D, Pl, hc, _, hl, hm, hmm, hx, hall⟩
  · simp only [List.cons.injEq, and_true] at hc
    rw [hc] at e
    simp only [Value.slice.injEq] at e
    obtain ⟨_, rfl, rfl⟩ := e
    exact ⟨Nat.le_refl _, by unfold maxLen; omega⟩
  · simp only [List.cons.injEq, and_true] at hc
    rw [hc] at e
    simp only [Value.slice.injEq] at e
    obtain ⟨_, rfl, rfl⟩ := e
    exact ⟨hl, hm⟩
end
end Go.Proofs.YtepondcflkledaaGreat.S
end
