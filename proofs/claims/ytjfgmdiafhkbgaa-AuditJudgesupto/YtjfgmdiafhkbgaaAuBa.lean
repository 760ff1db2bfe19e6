import Derived.Test.YtjfgmdiafhkbgaaAuAb
import Derived.ProofKit
import Derived.OpenShut
import Derived.ShutString
import Derived.SizedLaws
import Derived.Carry
import Derived.Deep.SlicePairs
import Derived.Deep.Strs
import Derived.Lib.SmallJoins
namespace Go.Proofs.Ytjfgmdiafhkbgaa
open Go.ChangeShapes Go.WideShapes Go.ChangeAt Go.RowKit Go.Deep
theorem own : ownKnob Try.prog.godebug = none := by kernel_rfl
theorem Try.cellsS1 : Try.prog.cellsOf 9 = 1 := by kernel_rfl
theorem Try.cellsE1 : Try.prog.cellsOf 26 = 1 := by kernel_rfl
theorem Try.cellsT1 : Try.prog.cellsOf 41 = 1 := by kernel_rfl
theorem Try.cellsA2 : Try.prog.cellsOf 37 = 2 := by kernel_rfl
theorem Try.cellsE13 : Try.prog.cellsOf 43 = 13 := by kernel_rfl
theorem range_get {α : Type} [Inhabited α] (f : Nat → α) (n i : Nat) (h : i < n) : ((List.range n).map f)[i]! = f i := by
  rw [getElem!_pos _ _ (by simpa using h)]; simp
theorem range_len {α : Type} (f : Nat → α) (n : Nat) : ((List.range n).map f).length = n := by simp
section
variable {H : Type} {enc : TypeId × Value → H}
theorem bulk_pos (d : DataW H) : 1 ≤ Rows.uptoBulk d := by
  cases d with
  | lit l => cases l <;> simp [Rows.uptoBulk]
  | _ => simp [Rows.uptoBulk]
theorem bulk_len (l : List (DataW H)) : l.length ≤ Rows.uptoBulkAll l := by
  induction l with
  | nil => simp [Rows.uptoBulkAll]
  | cons d l ih => simp only [Rows.uptoBulkAll, List.length_cons]; have := bulk_pos d; omega
theorem bulk_mem {d : DataW H} : ∀ {l : List (DataW H)}, d ∈ l → Rows.uptoBulk d ≤ Rows.uptoBulkAll l
  | d0 :: l, h => by
    simp only [Rows.uptoBulkAll]
    rcases List.mem_cons.mp h with rfl | h
    · omega
    · have := bulk_mem h; omega
set_option maxRecDepth 20000 in
/-- texts, opened -/
theorem texts_at {W : World} {n : Nat} {v : Value} {x : DataW H × List MemPlace} (h : DataW.trod enc Try.prog W 0 (fun _ => true) true n 41 [v] = some x) (hb : Rows.uptoBulk x.1 ≤ 1048576) :
    ∃ l : List ByteArray, Tx W v l ∧ l.length ≤ 1048576 := by
  rcases open_slice Try.underlying41 h with ⟨hc, _⟩ | ⟨a, len, cap, m, k, D, Pl, hc, _, hl, hm, hmm, hx, hall⟩
  · simp only [List.cons.injEq, and_true] at hc
    rw [hc]
    exact ⟨[], Tx.nil W, by simp⟩
  · simp only [List.cons.injEq, and_true] at hc
    simp only [if_true] at hmm
    subst hmm
    have hle : len ≤ 1048576 := by
      rw [hx] at hb
      simp only [Rows.uptoBulk] at hb
      have h1 := bulk_len ((List.range len).map D)
      rw [range_len] at h1
      omega
    have each : ∀ i, i < m → ∃ s : ByteArray, W.cell? (a.add i) = some (.string s) := by
      intro i hi
      obtain ⟨cs', g1, g2⟩ := hall i hi
      rw [Try.cellsS1] at g1
      obtain ⟨_, hlen, hcell⟩ := World.cells?_some g1
      obtain ⟨s, e, _⟩ := DataW.trod_string Try.underlying9 g2
      subst e
      have k0 := hcell 0 (by decide)
      rw [add_add] at k0
      exact ⟨s, by simpa using k0⟩
    obtain ⟨q, hq⟩ := choose_lt each
    refine ⟨(List.range len).map q, ⟨some a, m, by rw [range_len]; exact hc, by rw [range_len]; omega, fun e => (by cases e), fun a' ha h0 => ?_⟩, by rw [range_len]; exact hle⟩
    injection ha with ha
    subst ha
    rw [range_len] at h0 ⊢
    obtain ⟨ab, ao, spot⟩ := a
    have hspot : spot = none := by simpa [Addr.add] using World.cell?_spot (hq 0 (by omega))
    subst hspot
    refine ⟨ab, ao, rfl, World.block_lt_of_cell? _ _ (hq 0 (by omega)), fun j hj => ?_⟩
    rw [range_get q len j hj]
    have h1 := hq j (by omega)
    rw [Addr.add_lit] at h1
    exact h1
set_option maxRecDepth 20000 in
set_option maxHeartbeats 1000000 in
/-- an event, opened -/
theorem event_at {W : World} {n : Nat} {cs : List Value} {x : DataW H × List MemPlace} (h : DataW.trod enc Try.prog W 0 (fun _ => true) true n 43 cs = some x) (hb : Rows.uptoBulk x.1 ≤ 1048576) :
    ∃ (e : Ev) (t : Value), cs = e.cs t ∧ Tx W t e.ts ∧ e.fit := by
  obtain ⟨xs, n, _, hxx, hl, hlen, hfi⟩ := DataW.trod_struct Try.underlying43 h
  rw [Try.cellsE13] at hl
  obtain ⟨c0, c1, c2, c3, c4, c5, c6, c7, c8, c9, c10, c11, c12, rfl⟩ : ∃ c0 c1 c2 c3 c4 c5 c6 c7 c8 c9 c10 c11 c12, cs = [c0, c1, c2, c3, c4, c5, c6, c7, c8, c9, c10, c11, c12] := by
    match cs, hl with
    | [c0, c1, c2, c3, c4, c5, c6, c7, c8, c9, c10, c11, c12], _ => exact ⟨c0, c1, c2, c3, c4, c5, c6, c7, c8, c9, c10, c11, c12, rfl⟩
  have hx : ∀ i, i < 11 → ∃ y, xs[i]? = some y := fun i hi => ⟨xs[i]'(by rw [hlen]; exact hi), List.getElem?_eq_getElem _⟩
  obtain ⟨y0, hy0⟩ := hx 0 (by decide)
  have g0 : DataW.trod enc Try.prog W 0 (fun _ => true) true n 3 [c0] = some y0 := by
    have this : DataW.trod enc Try.prog W 0 (fun _ => true) true n 3 ((List.drop 0 [c0, c1, c2, c3, c4, c5, c6, c7, c8, c9, c10, c11, c12]).take (Try.prog.cellsOf 3)) = xs[0]? := hfi 0 _ rfl
    rw [Try.cellsI1] at this
    rw [← hy0]; exact this
  obtain ⟨z0, e0, _, w0⟩ := DataW.trod_int Try.underlying3 g0
  obtain ⟨y1, hy1⟩ := hx 1 (by decide)
  have g1 : DataW.trod enc Try.prog W 0 (fun _ => true) true n 26 [c1] = some y1 := by
    have this : DataW.trod enc Try.prog W 0 (fun _ => true) true n 26 ((List.drop 1 [c0, c1, c2, c3, c4, c5, c6, c7, c8, c9, c10, c11, c12]).take (Try.prog.cellsOf 26)) = xs[1]? := hfi 1 _ rfl
    rw [Try.cellsE1] at this
    rw [← hy1]; exact this
  obtain ⟨z1, e1, _, w1⟩ := DataW.trod_int Try.underlying26 g1
  obtain ⟨y2, hy2⟩ := hx 2 (by decide)
  have g2 : DataW.trod enc Try.prog W 0 (fun _ => true) true n 37 [c2, c3] = some y2 := by
    have this : DataW.trod enc Try.prog W 0 (fun _ => true) true n 37 ((List.drop 2 [c0, c1, c2, c3, c4, c5, c6, c7, c8, c9, c10, c11, c12]).take (Try.prog.cellsOf 37)) = xs[2]? := hfi 2 _ rfl
    rw [Try.cellsA2] at this
    rw [← hy2]; exact this
  obtain ⟨y3, hy3⟩ := hx 3 (by decide)
  have g3 : DataW.trod enc Try.prog W 0 (fun _ => true) true n 3 [c4] = some y3 := by
    have this : DataW.trod enc Try.prog W 0 (fun _ => true) true n 3 ((List.drop 4 [c0, c1, c2, c3, c4, c5, c6, c7, c8, c9, c10, c11, c12]).take (Try.prog.cellsOf 3)) = xs[3]? := hfi 3 _ rfl
    rw [Try.cellsI1] at this
    rw [← hy3]; exact this
  obtain ⟨z3, e3, _, w3⟩ := DataW.trod_int Try.underlying3 g3
  obtain ⟨y4, hy4⟩ := hx 4 (by decide)
  have g4 : DataW.trod enc Try.prog W 0 (fun _ => true) true n 3 [c5] = some y4 := by
    have this : DataW.trod enc Try.prog W 0 (fun _ => true) true n 3 ((List.drop 5 [c0, c1, c2, c3, c4, c5, c6, c7, c8, c9, c10, c11, c12]).take (Try.prog.cellsOf 3)) = xs[4]? := hfi 4 _ rfl
    rw [Try.cellsI1] at this
    rw [← hy4]; exact this
  obtain ⟨z4, e4, _, w4⟩ := DataW.trod_int Try.underlying3 g4
  obtain ⟨y5, hy5⟩ := hx 5 (by decide)
  have g5 : DataW.trod enc Try.prog W 0 (fun _ => true) true n 3 [c6] = some y5 := by
    have this : DataW.trod enc Try.prog W 0 (fun _ => true) true n 3 ((List.drop 6 [c0, c1, c2, c3, c4, c5, c6, c7, c8, c9, c10, c11, c12]).take (Try.prog.cellsOf 3)) = xs[5]? := hfi 5 _ rfl
    rw [Try.cellsI1] at this
    rw [← hy5]; exact this
  obtain ⟨z5, e5, _, w5⟩ := DataW.trod_int Try.underlying3 g5
  obtain ⟨y6, hy6⟩ := hx 6 (by decide)
  have g6 : DataW.trod enc Try.prog W 0 (fun _ => true) true n 3 [c7] = some y6 := by
    have this : DataW.trod enc Try.prog W 0 (fun _ => true) true n 3 ((List.drop 7 [c0, c1, c2, c3, c4, c5, c6, c7, c8, c9, c10, c11, c12]).take (Try.prog.cellsOf 3)) = xs[6]? := hfi 6 _ rfl
    rw [Try.cellsI1] at this
    rw [← hy6]; exact this
  obtain ⟨z6, e6, _, w6⟩ := DataW.trod_int Try.underlying3 g6
  obtain ⟨y7, hy7⟩ := hx 7 (by decide)
  have g7 : DataW.trod enc Try.prog W 0 (fun _ => true) true n 3 [c8] = some y7 := by
    have this : DataW.trod enc Try.prog W 0 (fun _ => true) true n 3 ((List.drop 8 [c0, c1, c2, c3, c4, c5, c6, c7, c8, c9, c10, c11, c12]).take (Try.prog.cellsOf 3)) = xs[7]? := hfi 7 _ rfl
    rw [Try.cellsI1] at this
    rw [← hy7]; exact this
  obtain ⟨z7, e7, _, w7⟩ := DataW.trod_int Try.underlying3 g7
  obtain ⟨y8, hy8⟩ := hx 8 (by decide)
  have g8 : DataW.trod enc Try.prog W 0 (fun _ => true) true n 40 [c9, c10] = some y8 := by
    have this : DataW.trod enc Try.prog W 0 (fun _ => true) true n 40 ((List.drop 9 [c0, c1, c2, c3, c4, c5, c6, c7, c8, c9, c10, c11, c12]).take (Try.prog.cellsOf 40)) = xs[8]? := hfi 8 _ rfl
    rw [Try.cellsR2] at this
    rw [← hy8]; exact this
  obtain ⟨y9, hy9⟩ := hx 9 (by decide)
  have g9 : DataW.trod enc Try.prog W 0 (fun _ => true) true n 9 [c11] = some y9 := by
    have this : DataW.trod enc Try.prog W 0 (fun _ => true) true n 9 ((List.drop 11 [c0, c1, c2, c3, c4, c5, c6, c7, c8, c9, c10, c11, c12]).take (Try.prog.cellsOf 9)) = xs[9]? := hfi 9 _ rfl
    rw [Try.cellsS1] at this
    rw [← hy9]; exact this
  obtain ⟨z9, e9, _⟩ := DataW.trod_string Try.underlying9 g9
  obtain ⟨y10, hy10⟩ := hx 10 (by decide)
  have g10 : DataW.trod enc Try.prog W 0 (fun _ => true) true n 41 [c12] = some y10 := by
    have this : DataW.trod enc Try.prog W 0 (fun _ => true) true n 41 ((List.drop 12 [c0, c1, c2, c3, c4, c5, c6, c7, c8, c9, c10, c11, c12]).take (Try.prog.cellsOf 41)) = xs[10]? := hfi 10 _ rfl
    rw [Try.cellsT1] at this
    rw [← hy10]; exact this
  obtain ⟨us2, n2, _, _, hl2, hlen2, hfi2⟩ := DataW.trod_struct Try.underlying37 g2
  have hu2 : ∀ i, i < 2 → ∃ y, us2[i]? = some y := fun i hi => ⟨us2[i]'(by rw [hlen2]; exact hi), List.getElem?_eq_getElem _⟩
  obtain ⟨uwn, huwn⟩ := hu2 0 (by decide)
  have kwn : DataW.trod enc Try.prog W 0 (fun _ => true) true n2 3 [c2] = some uwn := by
    have this : DataW.trod enc Try.prog W 0 (fun _ => true) true n2 3 ((List.drop 0 [c2, c3]).take (Try.prog.cellsOf 3)) = us2[0]? := hfi2 0 _ rfl
    rw [Try.cellsI1] at this
    rw [← huwn]; exact this
  obtain ⟨zwn, ewn, _, wwn⟩ := DataW.trod_int Try.underlying3 kwn
  obtain ⟨uwl, huwl⟩ := hu2 1 (by decide)
  have kwl : DataW.trod enc Try.prog W 0 (fun _ => true) true n2 3 [c3] = some uwl := by
    have this : DataW.trod enc Try.prog W 0 (fun _ => true) true n2 3 ((List.drop 1 [c2, c3]).take (Try.prog.cellsOf 3)) = us2[1]? := hfi2 1 _ rfl
    rw [Try.cellsI1] at this
    rw [← huwl]; exact this
  obtain ⟨zwl, ewl, _, wwl⟩ := DataW.trod_int Try.underlying3 kwl
  obtain ⟨us8, n8, _, _, hl8, hlen8, hfi8⟩ := DataW.trod_struct Try.underlying40 g8
  have hu8 : ∀ i, i < 2 → ∃ y, us8[i]? = some y := fun i hi => ⟨us8[i]'(by rw [hlen8]; exact hi), List.getElem?_eq_getElem _⟩
  obtain ⟨urt, hurt⟩ := hu8 0 (by decide)
  have krt : DataW.trod enc Try.prog W 0 (fun _ => true) true n8 3 [c9] = some urt := by
    have this : DataW.trod enc Try.prog W 0 (fun _ => true) true n8 3 ((List.drop 0 [c9, c10]).take (Try.prog.cellsOf 3)) = us8[0]? := hfi8 0 _ rfl
    rw [Try.cellsI1] at this
    rw [← hurt]; exact this
  obtain ⟨zrt, ert, _, wrt⟩ := DataW.trod_int Try.underlying3 krt
  obtain ⟨urb, hurb⟩ := hu8 1 (by decide)
  have krb : DataW.trod enc Try.prog W 0 (fun _ => true) true n8 38 [c10] = some urb := by
    have this : DataW.trod enc Try.prog W 0 (fun _ => true) true n8 38 ((List.drop 1 [c9, c10]).take (Try.prog.cellsOf 38)) = us8[1]? := hfi8 1 _ rfl
    rw [Try.cellsU1] at this
    rw [← hurb]; exact this
  obtain ⟨zrb, erb, _, wrb⟩ := DataW.trod_int Try.underlying38 krb
  have hb10 : Rows.uptoBulk y10.1 ≤ 1048576 := by
    rw [hxx] at hb
    simp only [Rows.uptoBulk] at hb
    have hm : y10.1 ∈ xs.map (·.1) := List.mem_map.2 ⟨y10, List.mem_of_getElem? hy10, rfl⟩
    have := bulk_mem hm
    omega
  obtain ⟨tx, hT, hTl⟩ := texts_at g10 hb10
  simp only [List.cons.injEq, and_true] at e0 e1 ewn ewl e3 e4 e5 e6 e7 ert erb e9
  refine ⟨⟨z0, z1, zwn, zwl, z3, z4, z5, z6, z7, zrt, zrb, z9, tx⟩, c12, ?_, hT, ⟨w3, w4, w5, w6, wrt, wrb, hTl⟩⟩
  rw [e0, e1, ewn, ewl, e3, e4, e5, e6, e7, ert, erb, e9]; rfl
set_option maxRecDepth 20000 in
/-- a row of events, opened -/
theorem events_of {W : World} {base : Nat} {v : Value} {d : DataW H} {ps : List MemPlace} (hv : Value.okWide Try.prog W .any base 22 v) (h : DataW.Trod enc Try.prog W 0 (fun _ => true) true 22 v d ps) (hb : Rows.uptoBulk d ≤ 1048576) :
    ∃ l : List Ev, Rv W v l ∧ l.length ≤ 1048576 ∧ ∀ e ∈ l, e.fit := by
  obtain ⟨a0, len0, cap0, rfl⟩ := okWide_slice Try.underlying22 hv
  obtain ⟨n, hn⟩ := h
  rcases open_slice (cs := [.slice a0 len0 cap0]) Try.underlying22 hn with ⟨hc, _⟩ | ⟨a, len, cap, m, k, D, Pl, hc, _, hl, hm, hmm, hx, hall⟩
  · simp only [List.cons.injEq, and_true] at hc
    rw [hc]
    exact ⟨[], ⟨none, 0, rfl, Nat.le_refl _, fun h => absurd h (Nat.lt_irrefl _)⟩, by simp, fun e h => by cases h⟩
  · simp only [List.cons.injEq, and_true] at hc
    simp only [if_true] at hmm
    subst hmm
    have hd : d = .slice ((List.range len).map D) ((List.range (m - len)).map fun j => D (len + j)) := congrArg Prod.fst hx
    rw [hd] at hb
    simp only [Rows.uptoBulk] at hb
    have hle : len ≤ 1048576 := by
      have h1 := bulk_len ((List.range len).map D)
      rw [range_len] at h1
      omega
    have each : ∀ i, i < len → ∃ q : Ev × Value, Tx W q.2 q.1.ts ∧ q.1.fit ∧ ∀ j u, (q.1.cs q.2)[j]? = some u → W.cell? (a.add (i * 13 + j)) = some u := by
      intro i hi
      obtain ⟨cs', g1, g2⟩ := hall i (by omega)
      rw [Try.cellsE13] at g1
      obtain ⟨_, hlen, hcell⟩ := World.cells?_some g1
      obtain ⟨c, t, rfl, hT, hF⟩ := event_at g2 (by
        have := bulk_mem (d := D i) (l := (List.range len).map D) (List.mem_map.mpr ⟨i, List.mem_range.mpr hi, rfl⟩)
        show Rows.uptoBulk (D i) ≤ 1048576
        omega)
      refine ⟨(c, t), hT, hF, fun j u hj => ?_⟩
      have hjs := (List.getElem?_eq_some_iff.mp hj)
      obtain ⟨hj1, hj2⟩ := hjs
      have k0 := hcell j (by simpa [Ev.cs] using hj1)
      rw [add_add] at k0
      rw [k0, ← hj2]; simp [hj1]
    obtain ⟨q, hq⟩ := choose_lt each
    refine ⟨(List.range len).map fun i => (q i).1, ⟨some a, m, by rw [range_len]; exact hc, by rw [range_len]; omega, fun h => ?_⟩, by rw [range_len]; exact hle, fun e he => ?_⟩
    · rw [range_len] at h
      obtain ⟨ab, ao, spot⟩ := a
      have hspot : spot = none := by simpa [Addr.add] using World.cell?_spot ((hq 0 (by omega)).2.2 0 _ rfl)
      subst hspot
      refine ⟨ab, ao, rfl, World.block_lt_of_cell? _ _ ((hq 0 (by omega)).2.2 0 _ rfl), fun j hj => ?_⟩
      rw [range_len] at hj
      rw [range_get (fun i => (q i).1) len j hj]
      obtain ⟨h1, h2, h3⟩ := hq j hj
      obtain ⟨pq, cq, hs, _⟩ := h1.shape
      refine ⟨pq, cq, by rw [← hs]; exact h1, fun i u hi => ?_⟩
      rw [← hs] at hi
      have := h3 i u hi
      rw [Addr.add_lit] at this
      rw [Nat.add_assoc]
      exact this
    · obtain ⟨i, hi, rfl⟩ := List.mem_map.1 he
      exact (hq i (List.mem_range.1 hi)).2.1
end
end Go.Proofs.Ytjfgmdiafhkbgaa
