import Derived.Test.YtkfnedhllfdghaaGreatDoorMgBQ
import Derived.ProofKit
import Derived.OpenShut
import Derived.ShutString
import Derived.SizedLaws
import Derived.Carry
import Derived.Deep.SlicePairs
import Derived.Deep.Strs
import Derived.Lib.SmallJoins

section
namespace Go.Proofs.YtkfnedhllfdghaaGreatDoor.RN
open Go.ChangeShapes Go.WideShapes Go.ChangeAt Go.RowKit Go.Deep
set_option maxRecDepth 20000

theorem own : ownKnob Tryz.prog.godebug = none := by kernel_rfl
theorem Tryz.laidOut : laidOutB Tryz.prog = true := by kernel_rfl
theorem Tryz.cellsI : Tryz.prog.cellsOf 3 = 1 := by kernel_rfl
theorem Tryz.cellsS : Tryz.prog.cellsOf 9 = 1 := by kernel_rfl
theorem Tryz.cellsA : Tryz.prog.cellsOf 38 = 2 := by kernel_rfl
theorem Tryz.cellsF : Tryz.prog.cellsOf 23 = 9 := by kernel_rfl
theorem Tryz.cellsO5 : Tryz.prog.cellsOf 40 = 5 := by kernel_rfl
theorem Tryz.cellsC11 : Tryz.prog.cellsOf 25 = 11 := by kernel_rfl
/-- a call of a law -/
structure O5 where
  k : Int
  on : Int
  n : Int
  l : Int
  d : ByteArray
def O5.cs (q : O5) : List Value := [.int .i64 q.k, .int .i64 q.on, .int .i64 q.n, .int .i64 q.l, .string q.d]
/-- calls that are read -/
structure Or (w : World) (ad : Option Addr) (ab ao : Nat) (L : List O5) : Prop where
  at_ : 0 < L.length → ad = some ⟨ab, ao, none⟩
  c : ∀ i (h : i < L.length) k, k < 5 → w.cell? ⟨ab, ao + i * 5 + k, none⟩ = (L[i]).cs[k]?
  da : ∀ i (h : i < L.length), (L[i]).d.size ≤ 1048576
section
variable {H : Type} {enc : TypeId × Value → H}
theorem range_get {α : Type} (f : Nat → α) (n i : Nat) (h : i < ((List.range n).map f).length) : ((List.range n).map f)[i] = f i := by simp
theorem range_len {α : Type} (f : Nat → α) (n : Nat) : ((List.range n).map f).length = n := by simp
theorem bulk_pos (d : DataW H) : 1 ≤ Rows.uptoBulk d := by
  cases d with
  | lit l => cases l <;> simp [Rows.uptoBulk]
  | _ => simp [Rows.uptoBulk]
theorem bulk_len (l : List (DataW H)) : l.length ≤ Rows.uptoBulkAll l := by
  induction l with
  | nil => simp [Rows.uptoBulkAll]
  | cons d l ih => simp only [Rows.uptoBulkAll, List.length_cons]; have := bulk_pos d; omega
theorem bulk_mem {d : DataW H} : ∀ {l : List (DataW H)}, d ∈ l → Rows.uptoBulk d ≤ Rows.uptoBulkAll l
  | e :: l, h => by
    simp only [Rows.uptoBulkAll]
    rcases List.mem_cons.1 h with rfl | h
    · omega
    · have := bulk_mem h; omega
/-- a call, opened -/
theorem op_small {W : World} {n : Nat} {cs : List Value} {x : DataW H × List MemPlace} (h : DataW.trod enc Tryz.prog W 0 (fun _ => true) true n 40 cs = some x) (hk : Rows.uptoBulk x.1 ≤ 1048576) :
    ∃ q : O5, cs = q.cs ∧ q.d.size ≤ 1048576 := by
  obtain ⟨xs, n, _, hxx, hl, hlen, hfi⟩ := DataW.trod_struct Tryz.underlying40 h
  rw [Tryz.cellsO5] at hl
  obtain ⟨c0, c1, c2, c3, c4, rfl⟩ : ∃ c0 c1 c2 c3 c4, cs = [c0, c1, c2, c3, c4] := by
    match cs, hl with
    | [c0, c1, c2, c3, c4], _ => exact ⟨c0, c1, c2, c3, c4, rfl⟩
  have hx : ∀ i, i < 4 → ∃ y, xs[i]? = some y := fun i hi => ⟨xs[i]'(by rw [hlen]; exact hi), List.getElem?_eq_getElem _⟩
  obtain ⟨y0, hy0⟩ := hx 0 (by decide)
  have g0 : DataW.trod enc Tryz.prog W 0 (fun _ => true) true n 3 [c0] = some y0 := by
    have this : DataW.trod enc Tryz.prog W 0 (fun _ => true) true n 3 ((List.drop 0 [c0, c1, c2, c3, c4]).take (Tryz.prog.cellsOf 3)) = xs[0]? := hfi 0 _ rfl
    rw [Tryz.cellsI] at this
    rw [← hy0]; exact this
  obtain ⟨y1, hy1⟩ := hx 1 (by decide)
  have g1 : DataW.trod enc Tryz.prog W 0 (fun _ => true) true n 3 [c1] = some y1 := by
    have this : DataW.trod enc Tryz.prog W 0 (fun _ => true) true n 3 ((List.drop 1 [c0, c1, c2, c3, c4]).take (Tryz.prog.cellsOf 3)) = xs[1]? := hfi 1 _ rfl
    rw [Tryz.cellsI] at this
    rw [← hy1]; exact this
  obtain ⟨y2, hy2⟩ := hx 2 (by decide)
  have g2 : DataW.trod enc Tryz.prog W 0 (fun _ => true) true n 38 [c2, c3] = some y2 := by
    have this : DataW.trod enc Tryz.prog W 0 (fun _ => true) true n 38 ((List.drop 2 [c0, c1, c2, c3, c4]).take (Tryz.prog.cellsOf 38)) = xs[2]? := hfi 2 _ rfl
    rw [Tryz.cellsA] at this
    rw [← hy2]; exact this
  obtain ⟨y3, hy3⟩ := hx 3 (by decide)
  have g3 : DataW.trod enc Tryz.prog W 0 (fun _ => true) true n 9 [c4] = some y3 := by
    have this : DataW.trod enc Tryz.prog W 0 (fun _ => true) true n 9 ((List.drop 4 [c0, c1, c2, c3, c4]).take (Tryz.prog.cellsOf 9)) = xs[3]? := hfi 3 _ rfl
    rw [Tryz.cellsS] at this
    rw [← hy3]; exact this
  obtain ⟨z0, e0, _, _⟩ := DataW.trod_int Tryz.underlying3 g0
  obtain ⟨z1, e1, _, _⟩ := DataW.trod_int Tryz.underlying3 g1
  obtain ⟨z3, e3, f3, _⟩ := DataW.trod_string Tryz.underlying9 g3
  obtain ⟨xsu, n2, _, _, hl2, hlen2, hfi2⟩ := DataW.trod_struct Tryz.underlying38 g2
  have hxu : ∀ i, i < 2 → ∃ y, xsu[i]? = some y := fun i hi => ⟨xsu[i]'(by rw [hlen2]; exact hi), List.getElem?_eq_getElem _⟩
  obtain ⟨yu0, hyu0⟩ := hxu 0 (by decide)
  have gu0 : DataW.trod enc Tryz.prog W 0 (fun _ => true) true n2 3 [c2] = some yu0 := by
    have this : DataW.trod enc Tryz.prog W 0 (fun _ => true) true n2 3 ((List.drop 0 [c2, c3]).take (Tryz.prog.cellsOf 3)) = xsu[0]? := hfi2 0 _ rfl
    rw [Tryz.cellsI] at this
    rw [← hyu0]; exact this
  obtain ⟨yu1, hyu1⟩ := hxu 1 (by decide)
  have gu1 : DataW.trod enc Tryz.prog W 0 (fun _ => true) true n2 3 [c3] = some yu1 := by
    have this : DataW.trod enc Tryz.prog W 0 (fun _ => true) true n2 3 ((List.drop 1 [c2, c3]).take (Tryz.prog.cellsOf 3)) = xsu[1]? := hfi2 1 _ rfl
    rw [Tryz.cellsI] at this
    rw [← hyu1]; exact this
  obtain ⟨r0, er0, _, _⟩ := DataW.trod_int Tryz.underlying3 gu0
  obtain ⟨r1, er1, _, _⟩ := DataW.trod_int Tryz.underlying3 gu1
  simp only [List.cons.injEq, and_true] at e0 e1 e3 er0 er1
  refine ⟨⟨z0, z1, r0, r1, z3⟩, by rw [e0, e1, e3, er0, er1]; rfl, ?_⟩
  rw [hxx] at hk
  simp only [Rows.uptoBulk] at hk
  have hb : Rows.uptoBulk y3.1 ≤ 1048576 := by
    refine Nat.le_trans (Nat.le_succ_of_le (bulk_mem ?_)) hk
    exact List.mem_of_getElem? (i := 3) (by rw [List.getElem?_map, hy3]; rfl)
  rw [f3] at hb
  simp only [Rows.uptoBulk] at hb
  show z3.size ≤ _
  have h2 : z3.size = z3.data.toList.length := by simp
  omega
/-- a slice of calls, opened -/
theorem ops_small {W : World} {n : Nat} {v : Value} {x : DataW H × List MemPlace} (h : DataW.trod enc Tryz.prog W 0 (fun _ => true) true n 26 [v] = some x) (hk : Rows.uptoBulk x.1 ≤ 1048576) :
    ∃ (ad : Option Addr) (cap ab ao : Nat) (l : List O5), v = .slice ad l.length cap ∧ Or W ad ab ao l ∧ l.length ≤ 1048576 := by
  rcases open_slice (cs := [v]) Tryz.underlying26 h with ⟨hc, _⟩ | ⟨a, len, cap, m, k, D, Pl, hc, _, hl, hm, hmm, hx, hall⟩
  · simp only [List.cons.injEq, and_true] at hc
    exact ⟨none, 0, 0, 0, [], hc, ⟨fun h => absurd h (by simp), fun i h => absurd h (by simp), fun i h => absurd h (by simp)⟩, by simp⟩
  · simp only [List.cons.injEq, and_true] at hc
    simp only [if_true] at hmm
    subst hmm
    have hle : len ≤ 1048576 := by
      rw [hx] at hk
      simp only [Rows.uptoBulk] at hk
      have := bulk_len ((List.range len).map D)
      rw [range_len] at this
      omega
    have each : ∀ i, i < len → ∃ q : O5, (∀ k, k < 5 → W.cell? (a.add (i * 5 + k)) = q.cs[k]?) ∧ q.d.size ≤ 1048576 := by
      intro i hi
      obtain ⟨cs', g1, g2⟩ := hall i (by omega)
      rw [Tryz.cellsO5] at g1
      obtain ⟨_, hlen, hcell⟩ := World.cells?_some g1
      obtain ⟨q, rfl, hq⟩ := op_small g2 (by
        have h1 : Rows.uptoBulk (D i) ≤ Rows.uptoBulkAll ((List.range len).map D) := bulk_mem (List.mem_map.mpr ⟨i, List.mem_range.mpr hi, rfl⟩)
        rw [hx] at hk
        simp only [Rows.uptoBulk] at hk
        show Rows.uptoBulk (D i) ≤ _
        omega)
      refine ⟨q, fun k hk => ?_, hq⟩
      have hck := hcell k (by simpa using hk)
      rw [add_add] at hck
      exact hck
    have hI : Inhabited O5 := ⟨⟨0, 0, 0, 0, ByteArray.empty⟩⟩
    obtain ⟨q, hq⟩ := choose_lt each
    have hspot : 0 < len → a = ⟨a.block, a.off, none⟩ := fun h0 => by
      have h1 := (hq 0 h0).1 0 (by decide)
      obtain ⟨ab, ao, spot⟩ := a
      have : spot = none := by simpa [Addr.add] using World.cell?_spot h1
      rw [this]
    refine ⟨some a, m, a.block, a.off, (List.range len).map q, by rw [range_len]; exact hc, ⟨fun h => ?_, fun i hi k hk => ?_, fun i hi => ?_⟩, by rw [range_len]; exact hle⟩
    · rw [range_len] at h; rw [← hspot h]
    · have hi' := hi
      rw [range_len] at hi'
      rw [range_get]
      have h1 := (hq i hi').1 k hk
      rw [hspot (by omega), Addr.add_lit] at h1
      rw [Nat.add_assoc]
      exact h1
    · have hi' := hi
      rw [range_len] at hi'
      rw [range_get]
      exact (hq i hi').2
/-- of what a runner is made -/
def cases11 (g : Nat → Int) : List Value := [.int .i64 (g 0), .int .i64 (g 1), .int .i64 (g 2), .int .i64 (g 3), .int .i64 (g 4), .int .i64 (g 5), .int .i64 (g 6), .int .i64 (g 7), .int .i64 (g 8), .int .i64 (g 9), .int .i64 (g 10)]
theorem case_of {W : World} {n : Nat} {cs : List Value} {x : DataW H × List MemPlace} (h : DataW.trod enc Tryz.prog W 0 (fun _ => true) true n 25 cs = some x) : ∃ g : Nat → Int, cs = cases11 g ∧ ∀ i, -9223372036854775808 ≤ g i ∧ g i ≤ 9223372036854775807 := by
  obtain ⟨xs, n, _, hxx, hl, hlen, hfi⟩ := DataW.trod_struct Tryz.underlying25 h
  rw [Tryz.cellsC11] at hl
  obtain ⟨c0, c1, c2, c3, c4, c5, c6, c7, c8, c9, c10, rfl⟩ : ∃ c0 c1 c2 c3 c4 c5 c6 c7 c8 c9 c10, cs = [c0, c1, c2, c3, c4, c5, c6, c7, c8, c9, c10] := by
    match cs, hl with
    | [c0, c1, c2, c3, c4, c5, c6, c7, c8, c9, c10], _ => exact ⟨c0, c1, c2, c3, c4, c5, c6, c7, c8, c9, c10, rfl⟩
  have hx : ∀ i, i < 3 → ∃ y, xs[i]? = some y := fun i hi => ⟨xs[i]'(by rw [hlen]; exact hi), List.getElem?_eq_getElem _⟩
  obtain ⟨y0, hy0⟩ := hx 0 (by decide)
  have g0 : DataW.trod enc Tryz.prog W 0 (fun _ => true) true n 23 [c0, c1, c2, c3, c4, c5, c6, c7, c8] = some y0 := by
    have this : DataW.trod enc Tryz.prog W 0 (fun _ => true) true n 23 ((List.drop 0 [c0, c1, c2, c3, c4, c5, c6, c7, c8, c9, c10]).take (Tryz.prog.cellsOf 23)) = xs[0]? := hfi 0 _ rfl
    rw [Tryz.cellsF] at this
    rw [← hy0]; exact this
  obtain ⟨y1, hy1⟩ := hx 1 (by decide)
  have g1 : DataW.trod enc Tryz.prog W 0 (fun _ => true) true n 3 [c9] = some y1 := by
    have this : DataW.trod enc Tryz.prog W 0 (fun _ => true) true n 3 ((List.drop 9 [c0, c1, c2, c3, c4, c5, c6, c7, c8, c9, c10]).take (Tryz.prog.cellsOf 3)) = xs[1]? := hfi 1 _ rfl
    rw [Tryz.cellsI] at this
    rw [← hy1]; exact this
  obtain ⟨y2, hy2⟩ := hx 2 (by decide)
  have g2 : DataW.trod enc Tryz.prog W 0 (fun _ => true) true n 3 [c10] = some y2 := by
    have this : DataW.trod enc Tryz.prog W 0 (fun _ => true) true n 3 ((List.drop 10 [c0, c1, c2, c3, c4, c5, c6, c7, c8, c9, c10]).take (Tryz.prog.cellsOf 3)) = xs[2]? := hfi 2 _ rfl
    rw [Tryz.cellsI] at this
    rw [← hy2]; exact this
  obtain ⟨z1, e1, _, w1⟩ := DataW.trod_int Tryz.underlying3 g1
  obtain ⟨z2, e2, _, w2⟩ := DataW.trod_int Tryz.underlying3 g2
  obtain ⟨xsu, n2, _, _, hl2, hlen2, hfi2⟩ := DataW.trod_struct Tryz.underlying23 g0
  have hxu : ∀ i, i < 9 → ∃ y, xsu[i]? = some y := fun i hi => ⟨xsu[i]'(by rw [hlen2]; exact hi), List.getElem?_eq_getElem _⟩
  obtain ⟨yu0, hyu0⟩ := hxu 0 (by decide)
  have gu0 : DataW.trod enc Tryz.prog W 0 (fun _ => true) true n2 3 [c0] = some yu0 := by
    have this : DataW.trod enc Tryz.prog W 0 (fun _ => true) true n2 3 ((List.drop 0 [c0, c1, c2, c3, c4, c5, c6, c7, c8]).take (Tryz.prog.cellsOf 3)) = xsu[0]? := hfi2 0 _ rfl
    rw [Tryz.cellsI] at this
    rw [← hyu0]; exact this
  obtain ⟨yu1, hyu1⟩ := hxu 1 (by decide)
  have gu1 : DataW.trod enc Tryz.prog W 0 (fun _ => true) true n2 3 [c1] = some yu1 := by
    have this : DataW.trod enc Tryz.prog W 0 (fun _ => true) true n2 3 ((List.drop 1 [c0, c1, c2, c3, c4, c5, c6, c7, c8]).take (Tryz.prog.cellsOf 3)) = xsu[1]? := hfi2 1 _ rfl
    rw [Tryz.cellsI] at this
    rw [← hyu1]; exact this
  obtain ⟨yu2, hyu2⟩ := hxu 2 (by decide)
  have gu2 : DataW.trod enc Tryz.prog W 0 (fun _ => true) true n2 3 [c2] = some yu2 := by
    have this : DataW.trod enc Tryz.prog W 0 (fun _ => true) true n2 3 ((List.drop 2 [c0, c1, c2, c3, c4, c5, c6, c7, c8]).take (Tryz.prog.cellsOf 3)) = xsu[2]? := hfi2 2 _ rfl
    rw [Tryz.cellsI] at this
    rw [← hyu2]; exact this
  obtain ⟨yu3, hyu3⟩ := hxu 3 (by decide)
  have gu3 : DataW.trod enc Tryz.prog W 0 (fun _ => true) true n2 3 [c3] = some yu3 := by
    have this : DataW.trod enc Tryz.prog W 0 (fun _ => true) true n2 3 ((List.drop 3 [c0, c1, c2, c3, c4, c5, c6, c7, c8]).take (Tryz.prog.cellsOf 3)) = xsu[3]? := hfi2 3 _ rfl
    rw [Tryz.cellsI] at this
    rw [← hyu3]; exact this
  obtain ⟨yu4, hyu4⟩ := hxu 4 (by decide)
  have gu4 : DataW.trod enc Tryz.prog W 0 (fun _ => true) true n2 3 [c4] = some yu4 := by
    have this : DataW.trod enc Tryz.prog W 0 (fun _ => true) true n2 3 ((List.drop 4 [c0, c1, c2, c3, c4, c5, c6, c7, c8]).take (Tryz.prog.cellsOf 3)) = xsu[4]? := hfi2 4 _ rfl
    rw [Tryz.cellsI] at this
    rw [← hyu4]; exact this
  obtain ⟨yu5, hyu5⟩ := hxu 5 (by decide)
  have gu5 : DataW.trod enc Tryz.prog W 0 (fun _ => true) true n2 3 [c5] = some yu5 := by
    have this : DataW.trod enc Tryz.prog W 0 (fun _ => true) true n2 3 ((List.drop 5 [c0, c1, c2, c3, c4, c5, c6, c7, c8]).take (Tryz.prog.cellsOf 3)) = xsu[5]? := hfi2 5 _ rfl
    rw [Tryz.cellsI] at this
    rw [← hyu5]; exact this
  obtain ⟨yu6, hyu6⟩ := hxu 6 (by decide)
  have gu6 : DataW.trod enc Tryz.prog W 0 (fun _ => true) true n2 3 [c6] = some yu6 := by
    have this : DataW.trod enc Tryz.prog W 0 (fun _ => true) true n2 3 ((List.drop 6 [c0, c1, c2, c3, c4, c5, c6, c7, c8]).take (Tryz.prog.cellsOf 3)) = xsu[6]? := hfi2 6 _ rfl
    rw [Tryz.cellsI] at this
    rw [← hyu6]; exact this
  obtain ⟨yu7, hyu7⟩ := hxu 7 (by decide)
  have gu7 : DataW.trod enc Tryz.prog W 0 (fun _ => true) true n2 3 [c7] = some yu7 := by
    have this : DataW.trod enc Tryz.prog W 0 (fun _ => true) true n2 3 ((List.drop 7 [c0, c1, c2, c3, c4, c5, c6, c7, c8]).take (Tryz.prog.cellsOf 3)) = xsu[7]? := hfi2 7 _ rfl
    rw [Tryz.cellsI] at this
    rw [← hyu7]; exact this
  obtain ⟨yu8, hyu8⟩ := hxu 8 (by decide)
  have gu8 : DataW.trod enc Tryz.prog W 0 (fun _ => true) true n2 3 [c8] = some yu8 := by
    have this : DataW.trod enc Tryz.prog W 0 (fun _ => true) true n2 3 ((List.drop 8 [c0, c1, c2, c3, c4, c5, c6, c7, c8]).take (Tryz.prog.cellsOf 3)) = xsu[8]? := hfi2 8 _ rfl
    rw [Tryz.cellsI] at this
    rw [← hyu8]; exact this
  obtain ⟨r0, er0, _, wr0⟩ := DataW.trod_int Tryz.underlying3 gu0
  obtain ⟨r1, er1, _, wr1⟩ := DataW.trod_int Tryz.underlying3 gu1
  obtain ⟨r2, er2, _, wr2⟩ := DataW.trod_int Tryz.underlying3 gu2
  obtain ⟨r3, er3, _, wr3⟩ := DataW.trod_int Tryz.underlying3 gu3
  obtain ⟨r4, er4, _, wr4⟩ := DataW.trod_int Tryz.underlying3 gu4
  obtain ⟨r5, er5, _, wr5⟩ := DataW.trod_int Tryz.underlying3 gu5
  obtain ⟨r6, er6, _, wr6⟩ := DataW.trod_int Tryz.underlying3 gu6
  obtain ⟨r7, er7, _, wr7⟩ := DataW.trod_int Tryz.underlying3 gu7
  obtain ⟨r8, er8, _, wr8⟩ := DataW.trod_int Tryz.underlying3 gu8
  simp only [List.cons.injEq, and_true] at e1 e2 er0 er1 er2 er3 er4 er5 er6 er7 er8
  refine ⟨fun i => match i with | 0 => r0 | 1 => r1 | 2 => r2 | 3 => r3 | 4 => r4 | 5 => r5 | 6 => r6 | 7 => r7 | 8 => r8 | 9 => z1 | _ => z2, by rw [e1, e2, er0, er1, er2, er3, er4, er5, er6, er7, er8]; rfl, fun i => ?_⟩
  match i with
  | 0 => exact bounds_i64 wr0
  | 1 => exact bounds_i64 wr1
  | 2 => exact bounds_i64 wr2
  | 3 => exact bounds_i64 wr3
  | 4 => exact bounds_i64 wr4
  | 5 => exact bounds_i64 wr5
  | 6 => exact bounds_i64 wr6
  | 7 => exact bounds_i64 wr7
  | 8 => exact bounds_i64 wr8
  | 9 => exact bounds_i64 w1
  | n + 10 => exact bounds_i64 w2
end
end Go.Proofs.YtkfnedhllfdghaaGreatDoor.RN
end

section
namespace Go.Proofs.YtkfnedhllfdghaaGreatDoor.RN
open Go.RowKit Go.Shelf
set_option maxRecDepth 20000

set_option maxHeartbeats 8000000 in
theorem said_any {w : World} {ad ad' : Option Addr} {g1 g2 k1 k2 N : Nat} {T : List Dg} (hN : T.length = N) (h : Er w ad g1 6 (T.map Dg.cs)) (h' : Er w ad' g2 6 (T.map Dg.cs)) (hl : N ≤ 9223372036854775807) :
    Calls Tryz.prog 18 #[.slice ad N k1, .slice ad' N k2] w fun e w' => e = .returned (.bool true) ∧ Below w.heap.size w w' := by
  have HE := hide h
  have HE' := hide h'
  have HN := hide hN
  clear h h' hN
  go_enter Tryz.func18, Tryz.ntmps18
  go_wp2_with fail
  go_loopw [5] (fun u wr => ∃ i n : Nat, u = .int .i64 (i : Int) ∧ i ≤ N ∧ wr = w.drewN n) (fun u _ => (N - (intOf u).toNat))
  case atStart => exact ⟨0, 0, rfl, Nat.zero_le _, rfl⟩
  case round =>
    obtain ⟨i, n, rfl, hi, rfl⟩ := hrel
    by_cases hil : i < N
    · have hiT : i < (T.map Dg.cs).length := by have := HN.out; simp; omega
      have hiT2 : i < T.length := by have := HN.out; omega
      have ea := HE.out.at_ (by omega)
      have ea' := HE'.out.at_ (by omega)
      have q1 := HE.out.c i hiT
      have q2 := HE'.out.c i hiT
      rw [List.getElem_map] at q1 q2
      generalize T[i] = d at *
      obtain ⟨dn, dl, dtn, ddt⟩ := d
      have a0 : w.cell? ⟨g1, i * 6, none⟩ = some (.int .i64 0) := q1 0 _ rfl
      have a1 : w.cell? ⟨g1, i * 6 + 1, none⟩ = some (.int .i64 dn) := q1 1 _ rfl
      have a2 : w.cell? ⟨g1, i * 6 + 2, none⟩ = some (.int .i64 dl) := q1 2 _ rfl
      have a3 : w.cell? ⟨g1, i * 6 + 3, none⟩ = some (.int .i64 dtn) := q1 3 _ rfl
      have a4 : w.cell? ⟨g1, i * 6 + 4, none⟩ = some (.int .i64 0) := q1 4 _ rfl
      have a5 : w.cell? ⟨g1, i * 6 + 5, none⟩ = some (.string ddt) := q1 5 _ rfl
      have b0 : w.cell? ⟨g2, i * 6, none⟩ = some (.int .i64 0) := q2 0 _ rfl
      have b1 : w.cell? ⟨g2, i * 6 + 1, none⟩ = some (.int .i64 dn) := q2 1 _ rfl
      have b2 : w.cell? ⟨g2, i * 6 + 2, none⟩ = some (.int .i64 dl) := q2 2 _ rfl
      have b3 : w.cell? ⟨g2, i * 6 + 3, none⟩ = some (.int .i64 dtn) := q2 3 _ rfl
      have b4 : w.cell? ⟨g2, i * 6 + 4, none⟩ = some (.int .i64 0) := q2 4 _ rfl
      have b5 : w.cell? ⟨g2, i * 6 + 5, none⟩ = some (.string ddt) := q2 5 _ rfl
      have hii : (i : Int) < (N : Int) := by omega
      subst ea; subst ea'
      clear HE HE' q1 q2
      go_wp2_with fail
      go_quiet (fail)
      go_wp2_with fail
      go_roundw
      case rel => exact ⟨i + 1, _, by go_num, by omega, rfl⟩
      case measure => simp only [intOf]; omega
    · obtain rfl : i = N := by omega
      have hii : ¬ ((i : Int) < (i : Int)) := by omega
      clear HE HE'
      go_wp2_with fail
      go_ret
      exact ⟨rfl, CH.below_drewN (Below.refl _ w) n⟩
/-- what a law was handed, and its two boxes -/
structure Hb (w : World) (ab ao : Nat) (L : List O5) (g0 g1 g2 g3 g4 g5 g6 g7 g8 sl li : Int) (qk qo qn ql : Int) (qd : ByteArray) (V : World) : Prop where
  cs : V.heap[w.heap.size]? = some (.cells #[.int .i64 g0, .int .i64 g1, .int .i64 g2, .int .i64 g3, .int .i64 g4, .int .i64 g5, .int .i64 g6, .int .i64 g7, .int .i64 g8, .int .i64 sl, .int .i64 li] 25 (0, 0))
  op : V.heap[w.heap.size + 1]? = some (.cells #[.int .i64 qk, .int .i64 qo, .int .i64 qn, .int .i64 ql, .string qd] 40 (0, 0))
  or_ : ∀ i (h : i < L.length) k v, (L[i]).cs[k]? = some v → V.cell? ⟨ab, ao + i * 5 + k, none⟩ = some v
set_option maxHeartbeats 32000000 in
theorem runnerFresh_walk {w : World} (ht : Tbs w) {ad : Option Addr} {cap ab ao : Nat} {L : List O5} (hO : Or w ad ab ao L) (hL : L.length ≤ 1048576) {g0 g1 g2 g3 g4 g5 g6 g7 g8 sl li : Int} (hb0 : -9223372036854775808 ≤ g0 ∧ g0 ≤ 9223372036854775807) (hb2 : -9223372036854775808 ≤ g2 ∧ g2 ≤ 9223372036854775807) {qk qo qn ql : Int} {qd : ByteArray} (hqd : qd.size ≤ 1048576) :
    Calls Tryz.prog 5 #[.agg #[.int .i64 g0, .int .i64 g1, .int .i64 g2, .int .i64 g3, .int .i64 g4, .int .i64 g5, .int .i64 g6, .int .i64 g7, .int .i64 g8, .int .i64 sl, .int .i64 li], .slice ad L.length cap, .agg #[.int .i64 qk, .int .i64 qo, .int .i64 qn, .int .i64 ql, .string qd]] w fun e w' => e = .returned (.bool true) ∧ Below w.heap.size w w' := by
  obtain ⟨W1, hW1⟩ : ∃ W1, W1 = (w.alloc (.cells #[.int .i64 g0, .int .i64 g1, .int .i64 g2, .int .i64 g3, .int .i64 g4, .int .i64 g5, .int .i64 g6, .int .i64 g7, .int .i64 g8, .int .i64 sl, .int .i64 li] 25)).alloc (.cells #[.int .i64 qk, .int .i64 qo, .int .i64 qn, .int .i64 ql, .string qd] 40) := ⟨_, rfl⟩
  have hbl1 : Below w.heap.size w W1 := by rw [hW1]; exact (CH.below_alloc w _).trans ((CH.below_alloc (w.alloc (.cells #[.int .i64 g0, .int .i64 g1, .int .i64 g2, .int .i64 g3, .int .i64 g4, .int .i64 g5, .int .i64 g6, .int .i64 g7, .int .i64 g8, .int .i64 sl, .int .i64 li] 25)) _).mono (by simp))
  have hHb1 : Hb w ab ao L g0 g1 g2 g3 g4 g5 g6 g7 g8 sl li qk qo qn ql qd W1 := by
    have h2 := heap_alloc_new (w.alloc (.cells #[.int .i64 g0, .int .i64 g1, .int .i64 g2, .int .i64 g3, .int .i64 g4, .int .i64 g5, .int .i64 g6, .int .i64 g7, .int .i64 g8, .int .i64 sl, .int .i64 li] 25)) (.cells #[.int .i64 qk, .int .i64 qo, .int .i64 qn, .int .i64 ql, .string qd] 40)
    rw [World.size_alloc] at h2
    rw [hW1]
    refine ⟨((CH.below_alloc (w.alloc (.cells #[.int .i64 g0, .int .i64 g1, .int .i64 g2, .int .i64 g3, .int .i64 g4, .int .i64 g5, .int .i64 g6, .int .i64 g7, .int .i64 g8, .int .i64 sl, .int .i64 li] 25)) (.cells #[.int .i64 qk, .int .i64 qo, .int .i64 qn, .int .i64 ql, .string qd] 40)).block _ (by simp)).trans (heap_alloc_new w _), h2, fun i hi k v hv => ?_⟩
    rw [← hW1]
    have hk5 : k < 5 := (List.getElem?_eq_some_iff.mp hv).1
    have h1 := (hO.c i hi k hk5).trans hv
    exact (hbl1.cell (p := ⟨ab, ao + i * 5 + k, none⟩) (cell_lt h1)).trans h1
  have HHb : Hid (∀ V, Below W1.heap.size W1 V → Hb w ab ao L g0 g1 g2 g3 g4 g5 g6 g7 g8 sl li qk qo qn ql qd V) := hide fun V hV => ⟨(hV.block _ (lt_of_block hHb1.cs)).trans hHb1.cs, (hV.block _ (lt_of_block hHb1.op)).trans hHb1.op, fun i hi k v hv => (hV.cell (p := ⟨ab, ao + i * 5 + k, none⟩) (cell_lt (hHb1.or_ i hi k v hv))).trans (hHb1.or_ i hi k v hv)⟩
  have HT1 : Hid (Tbs W1) := hide (Tbs_kp (G := fun _ _ => False) ht (Kp.of_below hbl1) (fun _ h => h) (fun _ h => h))
  have HBl1 := hide hbl1
  have HAt := hide hO.at_
  have HDa := hide hO.da
  have HNew : Hid (∀ V, Tbs V → Calls Tryz.prog 7 #[.agg #[.int .i64 g0, .int .i64 g1, .int .i64 g2, .int .i64 g3, .int .i64 g4, .int .i64 g5, .int .i64 g6, .int .i64 g7, .int .i64 g8], .int .i64 sl, .int .i64 li] V fun e w' => (newOk g0 g2 g4 g5 sl li ∧ ∃ a, e = .returned (.tuple #[.pointer (some ⟨a.R, 0, none⟩), .int .i64 0]) ∧ NR V a (newR sl li g4 g2 g5) w') ∨ (¬ newOk g0 g2 g4 g5 sl li ∧ e = .returned (.tuple #[.pointer none, .int .i64 190]) ∧ Below V.heap.size V w')) := hide fun V hV => rnew_any V hV hb0 hb2
  have HAw := hide awake_r
  obtain ⟨x0, x1, x2, x3, x4, x5, x6, x7, x8, x9, x10⟩ : W1.cell? ⟨w.heap.size, 0, none⟩ = some (.int .i64 g0) ∧ W1.cell? ⟨w.heap.size, 1, none⟩ = some (.int .i64 g1) ∧ W1.cell? ⟨w.heap.size, 2, none⟩ = some (.int .i64 g2) ∧ W1.cell? ⟨w.heap.size, 3, none⟩ = some (.int .i64 g3) ∧ W1.cell? ⟨w.heap.size, 4, none⟩ = some (.int .i64 g4) ∧ W1.cell? ⟨w.heap.size, 5, none⟩ = some (.int .i64 g5) ∧ W1.cell? ⟨w.heap.size, 6, none⟩ = some (.int .i64 g6) ∧ W1.cell? ⟨w.heap.size, 7, none⟩ = some (.int .i64 g7) ∧ W1.cell? ⟨w.heap.size, 8, none⟩ = some (.int .i64 g8) ∧ W1.cell? ⟨w.heap.size, 9, none⟩ = some (.int .i64 sl) ∧ W1.cell? ⟨w.heap.size, 10, none⟩ = some (.int .i64 li) := ⟨cell_of hHb1.cs rfl, cell_of hHb1.cs rfl, cell_of hHb1.cs rfl, cell_of hHb1.cs rfl, cell_of hHb1.cs rfl, cell_of hHb1.cs rfl, cell_of hHb1.cs rfl, cell_of hHb1.cs rfl, cell_of hHb1.cs rfl, cell_of hHb1.cs rfl, cell_of hHb1.cs rfl⟩
  have hW1s : W1.heap.size = w.heap.size + 2 := by rw [hW1]; simp
  clear ht hO hb0 hb2 hHb1 hbl1
  obtain ⟨n, hn⟩ : ∃ n, L.length = n := ⟨_, rfl⟩
  rw [hn] at hL HAt ⊢
  have HN := hide hn
  clear hn
  go_enter Tryz.func5, Tryz.ntmps5
  go_upto_region 1 with fail
  rw [← hW1]
  clear hW1
  go_wp2_with fail
  refine (HNew.out _ HT1.out).mono ?_
  rintro e w2 hnew
  have HNw := hide hnew
  clear hnew HNew x0 x1 x2 x3 x4 x5 x6 x7 x8 x9 x10
  rcases HNw.out with ⟨hok, a, rfl, hnr⟩ | ⟨_, rfl, hb2⟩
  case inr =>
    have HA2 := hide (HAw.out w2 (Tbs_kp (G := fun _ _ => False) HT1.out (Kp.of_below hb2) (fun _ h => h) (fun _ h => h)))
    have HB2 := hide (HBl1.out.trans (hb2.mono (HBl1.out.size)))
    clear hb2 HNw HAw
    go_wp2_with fail
    refine HA2.out.mono ?_
    rintro e w3 ⟨rfl, hb3⟩
    have HB3 := hide (HB2.out.trans (hb3.mono HB2.out.size))
    clear hb3 HA2 HB2
    go_wp2_with fail
    go_ret
    exact ⟨rfl, HB3.out⟩
  have HA2 := hide (HAw.out w2 hnr.rm.tb)
  have HF2 := hide (hnr.fr (newR_ok hok))
  have hT0 : (newR sl li g4 g2 g5).T.length = 0 := rfl
  obtain ⟨R0, hR0⟩ : ∃ R0, a.R = R0 := ⟨_, rfl⟩
  rw [hR0]
  generalize newR sl li g4 g2 g5 = r0 at *
  clear hnr hok HNw HAw HT1
  go_wp2_with fail
  refine HA2.out.mono ?_
  rintro e w3 ⟨rfl, hb3⟩
  have HF3 := hide (HF2.out.low hb3)
  clear hb3 HA2 HF2
  go_wp2_with fail
  go_loopw [9] (fun u wr => ∃ (i : Nat) (a : RA) (r : Rn), i ≤ n ∧ u = .int .i64 (i : Int) ∧ a.R = R0 ∧ r.T.length ≤ 128 * i ∧ Hid (Fr W1 a r wr)) (fun u _ => n - (intOf u).toNat)
  case atStart => exact ⟨0, a, r0, Nat.zero_le _, rfl, hR0, by omega, HF3⟩
  case round =>
    clear HF3
    obtain ⟨i, a, r, hi, rfl, hR, hT, HF⟩ := hrel
    by_cases hii : i < n
    · have hki : (i : Int) < (n : Int) := by omega
      have hiL : i < L.length := by have := HN.out; omega
      obtain rfl := HAt.out (by omega)
      have q := (HHb.out _ HF.out.bl).or_ i hiL
      have HOc : Hid (∀ V, Below W1.heap.size W1 V → ∀ k v, (L[i]).cs[k]? = some v → V.cell? ⟨ab, ao + i * 5 + k, none⟩ = some v) := hide fun V hV => (HHb.out V hV).or_ i hiL
      have hds := HDa.out i hiL
      generalize L[i] = o at *
      obtain ⟨ok, oo, on, ol, od⟩ := o
      have hds : od.size ≤ 1048576 := hds
      have y0 : wr.cell? ⟨ab, ao + i * 5, none⟩ = some (.int .i64 ok) := q 0 _ rfl
      clear q
      by_cases q1 : ok = 1
      · subst q1
        have HS := hide (rtick_any HF.out.rm HF.out.ok)
        rw [hR] at HS
        go_wp2_with fail
        refine HS.out.mono ?_
        rintro e w5 ⟨rfl, hs⟩
        have HF5 := hide (HF.out.st hs (Rn.tick_ok HF.out.ok))
        clear hs HS HF
        go_wp2_with fail
        go_roundw
        case rel => exact ⟨i + 1, a, r.tick, by omega, by go_num, hR, (show r.T.length ≤ _ by omega), HF5⟩
        case measure => simp only [intOf]; omega
      have b1 : (ok == 1) = false := by simpa using q1
      by_cases q2 : ok = 2
      · subst q2
        have HS := hide (step_any HF.out.rm HF.out.ok (by omega))
        rw [hR] at HS
        have hT2 := stp_T HF.out.ok
        go_wp2_with fail
        refine HS.out.mono ?_
        rintro e w5 ⟨v, a', rfl, _, hs⟩
        have HF5 := hide (HF.out.st hs (Rn.stp_ok HF.out.ok))
        have hR5 := hs.R.trans hR
        clear hs HS HF
        go_wp2_with fail
        go_roundw
        case rel => exact ⟨i + 1, a', r.stp, by omega, by go_num, hR5, by omega, HF5⟩
        case measure => simp only [intOf]; omega
      have b2 : (ok == 2) = false := by simpa using q2
      by_cases q3 : ok = 3
      · subst q3
        go_upto_region 15 with fail
        have HFd := hide (HF.out.low (CH.below_drew (Below.refl _ wr)))
        have HS := hide (rhear_any HFd.out.rm HFd.out.ok on ol od (by omega))
        rw [hR] at HS
        obtain ⟨hk1, hk2⟩ := Rn.hr_ok HFd.out.ok on ol od
        have hTh : (r.hr on ol od).T.length ≤ 128 * i := by rw [hk2]; exact hT
        have HKh := hide hk1
        clear hk1 hk2 HF y0
        refine wp_region_held_drew (S := fun V => V.cell? ⟨ab, ao + i * 5 + 2, none⟩ = some (.int .i64 on) ∧ V.cell? ⟨ab, ao + i * 5 + 3, none⟩ = some (.int .i64 ol) ∧ V.cell? ⟨ab, ao + i * 5 + 4, none⟩ = some (.string od)) (by kernel_rfl) (⟨HOc.out _ HFd.out.bl 2 _ rfl, HOc.out _ HFd.out.bl 3 _ rfl, HOc.out _ HFd.out.bl 4 _ rfl⟩) (fun hHeld => ?_)
        refine wpAnyH_take (i := 0) (v := .pointer (some ⟨R0, 0, none⟩)) rfl (by kernel_rfl) (by kernel_rfl) (by kernel_rfl) (fun _ _ _ h => h) (Or.inl ⟨by kernel_rfl, fun w1 hSw => by clear hHeld; obtain ⟨f2, f3, f4⟩ := hSw; go_simp⟩) hHeld ?_
        try simp only [Act.put]
        try simp only [List.getElem_toArray]
        try simp only [List.getElem_cons_succ]
        try simp only [List.getElem_cons_zero]
        try simp only [List.setIfInBounds_toArray]
        try simp only [List.set_cons_succ, List.set_cons_zero]
        refine wpAnyH_take (i := 1) (v := .slice (some ⟨ab, ao, none⟩) n cap) rfl (by kernel_rfl) (by kernel_rfl) (by kernel_rfl) (fun _ _ _ h => h) (Or.inl ⟨by kernel_rfl, fun w1 hSw => by clear hHeld; obtain ⟨f2, f3, f4⟩ := hSw; go_simp⟩) hHeld ?_
        try simp only [Act.put]
        try simp only [List.getElem_toArray]
        try simp only [List.getElem_cons_succ]
        try simp only [List.getElem_cons_zero]
        try simp only [List.setIfInBounds_toArray]
        try simp only [List.set_cons_succ, List.set_cons_zero]
        refine wpAnyH_take (i := 2) (v := .int .i64 (i : Int)) rfl (by kernel_rfl) (by kernel_rfl) (by kernel_rfl) (fun _ _ _ h => h) (Or.inl ⟨by kernel_rfl, fun w1 hSw => by clear hHeld; obtain ⟨f2, f3, f4⟩ := hSw; go_simp⟩) hHeld ?_
        try simp only [Act.put]
        try simp only [List.getElem_toArray]
        try simp only [List.getElem_cons_succ]
        try simp only [List.getElem_cons_zero]
        try simp only [List.setIfInBounds_toArray]
        try simp only [List.set_cons_succ, List.set_cons_zero]
        refine wpAnyH_take (i := 3) (v := .pointer (some ⟨ab, ao + i * 5, none⟩)) rfl (by kernel_rfl) (by kernel_rfl) (by kernel_rfl) (fun _ _ _ h => h) (Or.inl ⟨by kernel_rfl, fun w1 hSw => by clear hHeld; obtain ⟨f2, f3, f4⟩ := hSw; go_simp⟩) hHeld ?_
        try simp only [Act.put]
        try simp only [List.getElem_toArray]
        try simp only [List.getElem_cons_succ]
        try simp only [List.getElem_cons_zero]
        try simp only [List.setIfInBounds_toArray]
        try simp only [List.set_cons_succ, List.set_cons_zero]
        refine wpAnyH_take (i := 4) (v := .pointer (some ⟨ab, ao + i * 5 + 2, none⟩)) rfl (by kernel_rfl) (by kernel_rfl) (by kernel_rfl) (fun _ _ _ h => h) (Or.inl ⟨by kernel_rfl, fun w1 hSw => by clear hHeld; obtain ⟨f2, f3, f4⟩ := hSw; go_simp⟩) hHeld ?_
        try simp only [Act.put]
        try simp only [List.getElem_toArray]
        try simp only [List.getElem_cons_succ]
        try simp only [List.getElem_cons_zero]
        try simp only [List.setIfInBounds_toArray]
        try simp only [List.set_cons_succ, List.set_cons_zero]
        refine wpAnyH_take (i := 5) (v := .agg #[.int .i64 on, .int .i64 ol]) rfl (by kernel_rfl) (by kernel_rfl) (by kernel_rfl) (fun _ _ _ h => h) (Or.inl ⟨by kernel_rfl, fun w1 hSw => by clear hHeld; obtain ⟨f2, f3, f4⟩ := hSw; go_simp⟩) hHeld ?_
        try simp only [Act.put]
        try simp only [List.getElem_toArray]
        try simp only [List.getElem_cons_succ]
        try simp only [List.getElem_cons_zero]
        try simp only [List.setIfInBounds_toArray]
        try simp only [List.set_cons_succ, List.set_cons_zero]
        refine wpAnyH_take (i := 6) (v := .slice (some ⟨ab, ao, none⟩) n cap) rfl (by kernel_rfl) (by kernel_rfl) (by kernel_rfl) (fun _ _ _ h => h) (Or.inl ⟨by kernel_rfl, fun w1 hSw => by clear hHeld; obtain ⟨f2, f3, f4⟩ := hSw; go_simp⟩) hHeld ?_
        try simp only [Act.put]
        try simp only [List.getElem_toArray]
        try simp only [List.getElem_cons_succ]
        try simp only [List.getElem_cons_zero]
        try simp only [List.setIfInBounds_toArray]
        try simp only [List.set_cons_succ, List.set_cons_zero]
        refine wpAnyH_take (i := 7) (v := .int .i64 (i : Int)) rfl (by kernel_rfl) (by kernel_rfl) (by kernel_rfl) (fun _ _ _ h => h) (Or.inl ⟨by kernel_rfl, fun w1 hSw => by clear hHeld; obtain ⟨f2, f3, f4⟩ := hSw; go_simp⟩) hHeld ?_
        try simp only [Act.put]
        try simp only [List.getElem_toArray]
        try simp only [List.getElem_cons_succ]
        try simp only [List.getElem_cons_zero]
        try simp only [List.setIfInBounds_toArray]
        try simp only [List.set_cons_succ, List.set_cons_zero]
        refine wpAnyH_take (i := 8) (v := .pointer (some ⟨ab, ao + i * 5, none⟩)) rfl (by kernel_rfl) (by kernel_rfl) (by kernel_rfl) (fun _ _ _ h => h) (Or.inl ⟨by kernel_rfl, fun w1 hSw => by clear hHeld; obtain ⟨f2, f3, f4⟩ := hSw; go_simp⟩) hHeld ?_
        try simp only [Act.put]
        try simp only [List.getElem_toArray]
        try simp only [List.getElem_cons_succ]
        try simp only [List.getElem_cons_zero]
        try simp only [List.setIfInBounds_toArray]
        try simp only [List.set_cons_succ, List.set_cons_zero]
        refine wpAnyH_take (i := 9) (v := .pointer (some ⟨ab, ao + i * 5 + 4, none⟩)) rfl (by kernel_rfl) (by kernel_rfl) (by kernel_rfl) (fun _ _ _ h => h) (Or.inl ⟨by kernel_rfl, fun w1 hSw => by clear hHeld; obtain ⟨f2, f3, f4⟩ := hSw; go_simp⟩) hHeld ?_
        try simp only [Act.put]
        try simp only [List.getElem_toArray]
        try simp only [List.getElem_cons_succ]
        try simp only [List.getElem_cons_zero]
        try simp only [List.setIfInBounds_toArray]
        try simp only [List.set_cons_succ, List.set_cons_zero]
        refine wpAnyH_take (i := 10) (v := .string od) rfl (by kernel_rfl) (by kernel_rfl) (by kernel_rfl) (fun _ _ _ h => h) (Or.inl ⟨by kernel_rfl, fun w1 hSw => by clear hHeld; obtain ⟨f2, f3, f4⟩ := hSw; go_simp⟩) hHeld ?_
        try simp only [Act.put]
        try simp only [List.getElem_toArray]
        try simp only [List.getElem_cons_succ]
        try simp only [List.getElem_cons_zero]
        try simp only [List.setIfInBounds_toArray]
        try simp only [List.set_cons_succ, List.set_cons_zero]
        refine wpAnyH_ready (rs := [11]) (by kernel_rfl) (by simp) ?_
        refine AllReadyH.cons rfl (fun K hK => ?_) AllReadyH.nil
        go_simp
        refine HS.out.mono ?_
        rintro e V1 ⟨rfl, a', hs⟩
        have HF5 := hide (HFd.out.st hs HKh.out)
        have hR5 := hs.R.trans hR
        clear hs
        refine hK.out _ _ (⟨HOc.out _ HF5.out.bl 2 _ rfl, HOc.out _ HF5.out.bl 3 _ rfl, HOc.out _ HF5.out.bl 4 _ rfl⟩) (fun hHeld => ?_)
        clear hK K
        try simp only [Act.put]
        try simp only [List.getElem_toArray]
        try simp only [List.getElem_cons_succ]
        try simp only [List.getElem_cons_zero]
        try simp only [List.setIfInBounds_toArray]
        try simp only [List.set_cons_succ, List.set_cons_zero]
        refine wpAnyH_done (by kernel_rfl) ?_ _
        clear HS hHeld
        go_wp2_with fail
        go_roundw
        case rel => exact ⟨i + 1, a', r.hr on ol od, by omega, by go_num, hR5, by omega, HF5⟩
        case measure => simp only [intOf]; omega
      · have b3 : (ok == 3) = false := by simpa using q3
        go_wp2_with fail
        go_roundw
        case rel => exact ⟨i + 1, a, r, by omega, by go_num, hR, by omega, HF⟩
        case measure => simp only [intOf]; omega
    · have hki : ¬ (i : Int) < (n : Int) := by omega
      obtain rfl : i = n := by omega
      have HD := hide (fun V => rdec_p qd V (by omega))
      have HDf := hide (fun h => Rn.hr_deaf (r := r) (n := qn) (l := ql) (b := qd) h)
      have hms : (W.Wr.decode W.limP qd).2 = 0 → True := fun _ => trivial
      generalize (W.Wr.decode W.limP qd).1 = m at *
      generalize (W.Wr.decode W.limP qd).2 = c at *
      clear hms
      have hb := HHb.out _ HF.out.bl
      have y0 : wr.cell? ⟨w.heap.size + 1, 0, none⟩ = some (.int .i64 qk) := cell_of hb.op rfl
      have y1 : wr.cell? ⟨w.heap.size + 1, 1, none⟩ = some (.int .i64 qo) := cell_of hb.op rfl
      have y2 : wr.cell? ⟨w.heap.size + 1, 2, none⟩ = some (.int .i64 qn) := cell_of hb.op rfl
      have y3 : wr.cell? ⟨w.heap.size + 1, 3, none⟩ = some (.int .i64 ql) := cell_of hb.op rfl
      have y4 : wr.cell? ⟨w.heap.size + 1, 4, none⟩ = some (.string qd) := cell_of hb.op rfl
      unfold W.msgC at HD
      go_wp2_with fail
      refine (HD.out _).mono ?_
      rintro e w5 ⟨rfl, hb5⟩
      have HX : Hid ((w5.alloc (.cells #[.int .i64 m.k, .int .i64 m.se, .int .i64 m.nu, .int .i64 m.jo, .int .i64 m.ba, .int .i64 m.ix, .int .i64 m.co, .int .i64 m.rc, .int .u64 (m.rb : Int), .string m.tx, .string m.pr] 67)).heap[w5.heap.size]? = some (.cells #[.int .i64 m.k, .int .i64 m.se, .int .i64 m.nu, .int .i64 m.jo, .int .i64 m.ba, .int .i64 m.ix, .int .i64 m.co, .int .i64 m.rc, .int .u64 (m.rb : Int), .string m.tx, .string m.pr] 67 (0, 0))) := hide (heap_alloc_new w5 _)
      have HF6 := hide ((HF.out.low hb5).low (CH.below_alloc w5 (.cells #[.int .i64 m.k, .int .i64 m.se, .int .i64 m.nu, .int .i64 m.jo, .int .i64 m.ba, .int .i64 m.ix, .int .i64 m.co, .int .i64 m.rc, .int .u64 (m.rb : Int), .string m.tx, .string m.pr] 67)))
      clear hb hb5 HF HD y0 y1 y2 y3 y4
      go_upto_region 17 with fail
      generalize w5.alloc (.cells #[.int .i64 m.k, .int .i64 m.se, .int .i64 m.nu, .int .i64 m.jo, .int .i64 m.ba, .int .i64 m.ix, .int .i64 m.co, .int .i64 m.rc, .int .u64 (m.rb : Int), .string m.tx, .string m.pr] 67) = W6 at *
      generalize w5.heap.size = X at *
      have hb := HHb.out _ HF6.out.bl
      have z0 : W6.cell? ⟨w.heap.size + 1, 0, none⟩ = some (.int .i64 qk) := cell_of hb.op rfl
      have z1 : W6.cell? ⟨w.heap.size + 1, 1, none⟩ = some (.int .i64 qo) := cell_of hb.op rfl
      have z2 : W6.cell? ⟨w.heap.size + 1, 2, none⟩ = some (.int .i64 qn) := cell_of hb.op rfl
      have z3 : W6.cell? ⟨w.heap.size + 1, 3, none⟩ = some (.int .i64 ql) := cell_of hb.op rfl
      have z4 : W6.cell? ⟨w.heap.size + 1, 4, none⟩ = some (.string qd) := cell_of hb.op rfl
      have k0 := cell_of (i := 0) HX.out rfl
      clear hb
      obtain ⟨K, hK⟩ : ∃ K : Bool, K = decide ((qn = 0 ∧ ql = 0) ∨ (qn = 1 ∧ ql = 0)) := ⟨_, rfl⟩
      have HKe := hide hK
      clear hK
      go_cut [12] (fun u V => u = .bool K ∧ V = W6)
      case first =>
        by_cases l0 : ql = 0
        · subst l0
          by_cases n0 : qn = 0
          · subst n0
            go_wp2_with fail
            go_meet
            exact ⟨congrArg Value.bool (by rw [HKe.out]; decide), rfl⟩
          · have c0 : (qn == 0) = false := by simpa using n0
            by_cases n1 : qn = 1
            · subst n1
              go_wp2_with fail
              go_meet
              exact ⟨congrArg Value.bool (by rw [HKe.out]; decide), rfl⟩
            · have c1 : (qn == 1) = false := by simpa using n1
              go_wp2_with fail
              go_meet
              exact ⟨congrArg Value.bool (by rw [HKe.out]; simp [n0, n1]), rfl⟩
        · have c0 : (ql == 0) = false := by simpa using l0
          go_wp2_with fail
          go_meet
          exact ⟨congrArg Value.bool (by rw [HKe.out]; simp [l0]), rfl⟩
      case rest =>
        obtain ⟨rfl, rfl⟩ := hcut
        by_cases hc : c = 0
        · by_cases hKv : K = true
          · by_cases hk7 : m.k < 7
            · have HDeaf := hide (HDf.out (.inr (.inr hk7)))
              have bk : decide (7 ≤ m.k) = false := by simp; omega
              subst hc
              subst hKv
              clear HDf z0 z1 z2 z3 z4
              have HCl := hide (rnclone_any HF6.out.rm HF6.out.ok (by omega))
              rw [hR] at HCl
              go_wp2_with fail
              refine HCl.out.mono ?_
              rintro e V1 ⟨b, rfl, hcl⟩
              have HTw1 := hide (HF6.out.clone hcl)
              have hb := HHb.out _ HTw1.out.x.bl
              have v0 : V1.cell? ⟨w.heap.size + 1, 0, none⟩ = some (.int .i64 qk) := cell_of hb.op rfl
              have v1 : V1.cell? ⟨w.heap.size + 1, 1, none⟩ = some (.int .i64 qo) := cell_of hb.op rfl
              have v2 : V1.cell? ⟨w.heap.size + 1, 2, none⟩ = some (.int .i64 qn) := cell_of hb.op rfl
              have v3 : V1.cell? ⟨w.heap.size + 1, 3, none⟩ = some (.int .i64 ql) := cell_of hb.op rfl
              have v4 : V1.cell? ⟨w.heap.size + 1, 4, none⟩ = some (.string qd) := cell_of hb.op rfl
              have HS := hide (rhear_any HTw1.out.x.rm HTw1.out.x.ok qn ql qd (by omega))
              rw [HDeaf.out, hR] at HS
              clear hcl HCl hb HF6 HX k0 HDeaf
              go_wp2_with fail
              refine HS.out.mono ?_
              rintro e V2 ⟨rfl, a2, hs⟩
              have hR2 := hs.R.trans hR
              have HTw2 := hide (HTw1.out.one hs HTw1.out.x.ok)
              clear hs HS HTw1 v0 v1 v2 v3 v4
              have HL1 := hide (look_any HTw2.out.x.rm HTw2.out.x.ok)
              have HL2 := hide (fun (V : World) (hV : Below V2.heap.size V2 V) => look_any (HTw2.out.y.rm.below hV) HTw2.out.y.ok)
              have heq := look_eq r
              rw [hR2] at HL1
              generalize r.look = LK at HL1 HL2 heq
              go_wp2_with fail
              refine HL1.out.mono ?_
              rintro e V3 ⟨rfl, hb3⟩
              have HL3 := hide (HL2.out V3 hb3)
              have HTw3 := hide (HTw2.out.low hb3)
              clear hb3 HL1 HL2 HTw2
              go_wp2_with fail
              refine HL3.out.mono ?_
              rintro e V4 ⟨rfl, hb4⟩
              have HTw4 := hide (HTw3.out.low hb4)
              clear hb4 HL3 HTw3
              obtain ⟨ad2, cap2, htv⟩ := CH.own_slice HTw4.out.x.rm.tl
              have HS := hide (rtold_any HTw4.out.x.rm)
              rw [htv, hR2] at HS
              have hrk : ({ r with T := [] } : Rn).ok := ⟨HTw4.out.x.ok.s8, HTw4.out.x.ok.l1, HTw4.out.x.ok.w1, HTw4.out.x.ok.w8, HTw4.out.x.ok.r1, HTw4.out.x.ok.r2, HTw4.out.x.ok.q1, HTw4.out.x.ok.q2, HTw4.out.x.ok.c, HTw4.out.x.ok.cb, HTw4.out.x.ok.j⟩
              have HRk := hide hrk
              have HTl : Hid (r.T.length ≤ 1000000000) := hide (by omega)
              obtain ⟨N, hN⟩ : ∃ N, r.T.length = N := ⟨_, rfl⟩
              have HNe := hide hN
              rw [hN] at HS
              clear hrk hN hT
              go_wp2_with fail
              refine HS.out.mono ?_
              rintro e V5 ⟨rfl, hs, hown⟩
              have HTw5 := hide (HTw4.out.one hs HRk.out)
              obtain ⟨ad3, cap3, htv3⟩ := CH.own_slice HTw5.out.y.rm.tl
              have HS2 := hide (rtold_any HTw5.out.y.rm)
              rw [htv3, HNe.out] at HS2
              have HAp : Hid (∀ g, (Value.slice ad2 N cap2).ownBlock = some g → ∀ i, ¬ b.g r g i) := hide (fun g hg i => HTw4.out.ba g i (.inr (.inr (.inl (by rw [htv, HNe.out]; exact hg)))))
              have HOw := hide hown
              clear hs HS hown HTw4 htv htv3
              go_wp2_with fail
              refine HS2.out.mono ?_
              rintro e V6 ⟨rfl, hs, hown⟩
              have HTw6 := hide (HTw5.out.two hs HRk.out)
              have ho1 : V6.ownsRow 0 98 13 (.slice ad2 N cap2) N (ecs r.T) := CH.own_keep HOw.out (fun g hg => hs.kp.block g (HOw.out.lt g hg).2 (fun i => HAp.out g hg i))
              obtain ⟨e1, he1⟩ := own_er (T := r.T.map Ev.cs) ho1 (by rw [List.length_map]; exact HNe.out.symm) (ev_at r.T)
              obtain ⟨e2, he2⟩ := own_er (T := r.T.map Ev.cs) hown (by rw [List.length_map]; exact HNe.out.symm) (ev_at r.T)
              have HEv := hide (events_true (k1 := cap2) (k2 := cap3) HNe.out he1 he2 (by have := HTl.out; have := HNe.out; omega))
              clear hs HS2 hown ho1 he1 he2 HOw HAp HTw5
              go_wp2_with fail
              refine HEv.out.mono ?_
              rintro e V7 ⟨rfl, hb7⟩
              have HTw7 := hide (HTw6.out.low hb7)
              clear hb7 HEv HTw6
              have HS := hide (step_any HTw7.out.x.rm HRk.out (Nat.zero_le _))
              change Hid (Calls _ _ #[.pointer (some ⟨R0, 0, none⟩)] _ _) at HS
              go_wp2_with fail
              refine HS.out.mono ?_
              rintro e V8 ⟨u1, a8, rfl, hown, hs⟩
              obtain ⟨ad4, cap4, rfl⟩ := CH.own_slice hown
              have HTw8 := hide (HTw7.out.one hs (Rn.stp_ok HRk.out))
              have HOw := hide hown
              have HLow : Hid (∀ x i, RA.g { b with tv := .slice none 0 0 } { r with T := [] } x i → x < V7.heap.size) := hide (fun x i hg => HTw7.out.y.rm.lt (RA.g_d hg))
              clear hs HS hown HTw7
              have HS := hide (step_any HTw8.out.y.rm HRk.out (Nat.zero_le _))
              change Hid (Calls _ _ #[.pointer (some ⟨b.R, 0, none⟩)] _ _) at HS
              go_wp2_with fail
              refine HS.out.mono ?_
              rintro e V9 ⟨u2, b9, rfl, hown, hs⟩
              obtain ⟨ad5, cap5, rfl⟩ := CH.own_slice hown
              have HTw9 := hide (HTw8.out.two hs (Rn.stp_ok HRk.out))
              have ho1 := CH.own_keep HOw.out (fun g hg => hs.kp.block g (HOw.out.lt g hg).2 (fun i hgi => absurd (HLow.out g i hgi) (Nat.not_lt.2 (HOw.out.lt g hg).1)))
              obtain ⟨M, hM⟩ : ∃ M, (Rn.out { r with T := [] }).length = M := ⟨_, rfl⟩
              have hle := own_le hown
              obtain ⟨e1, he1⟩ := own_er (T := (Rn.out { r with T := [] }).map Dg.cs) ho1 (by rw [List.length_map]) (dg_at _)
              obtain ⟨e2, he2⟩ := own_er (T := (Rn.out { r with T := [] }).map Dg.cs) hown (by rw [List.length_map]) (dg_at _)
              have HSd := hide (said_any (k1 := cap4) (k2 := cap5) rfl he1 he2 hle)
              clear hs HS hown ho1 he1 he2 HOw HLow HTw8 hle
              rw [hM] at HSd ⊢
              go_wp2_with fail
              refine HSd.out.mono ?_
              rintro e V10 ⟨rfl, hb10⟩
              have HBf := hide (HBl1.out.trans ((HTw9.out.x.bl.trans (hb10.mono HTw9.out.x.bl.size)).mono HBl1.out.size))
              clear hb10 HSd HTw9
              go_wp2_with fail
              go_ret
              exact ⟨rfl, HBf.out⟩
            · have bk : decide (7 ≤ m.k) = true := by simp; omega
              subst hc
              subst hKv
              have HBf := hide (HBl1.out.trans (HF6.out.bl.mono HBl1.out.size))
              clear HDf z0 z1 z2 z3 z4
              go_wp2_with fail
              go_ret
              exact ⟨rfl, HBf.out⟩
          · have hKf : K = false := by simpa using hKv
            have HDeaf := hide (HDf.out (.inr (.inl (by
              have h1 := HKe.out
              rw [hKf] at h1
              have h2 := of_decide_eq_false h1.symm
              exact ⟨fun h => h2 (.inl h), fun h => h2 (.inr h)⟩))))
            subst hc
            subst hKf
            clear HDf z0 z1 z2 z3 z4 hKv
            have HCl := hide (rnclone_any HF6.out.rm HF6.out.ok (by omega))
            rw [hR] at HCl
            go_wp2_with fail
            refine HCl.out.mono ?_
            rintro e V1 ⟨b, rfl, hcl⟩
            have HTw1 := hide (HF6.out.clone hcl)
            have hb := HHb.out _ HTw1.out.x.bl
            have v0 : V1.cell? ⟨w.heap.size + 1, 0, none⟩ = some (.int .i64 qk) := cell_of hb.op rfl
            have v1 : V1.cell? ⟨w.heap.size + 1, 1, none⟩ = some (.int .i64 qo) := cell_of hb.op rfl
            have v2 : V1.cell? ⟨w.heap.size + 1, 2, none⟩ = some (.int .i64 qn) := cell_of hb.op rfl
            have v3 : V1.cell? ⟨w.heap.size + 1, 3, none⟩ = some (.int .i64 ql) := cell_of hb.op rfl
            have v4 : V1.cell? ⟨w.heap.size + 1, 4, none⟩ = some (.string qd) := cell_of hb.op rfl
            have HS := hide (rhear_any HTw1.out.x.rm HTw1.out.x.ok qn ql qd (by omega))
            rw [HDeaf.out, hR] at HS
            clear hcl HCl hb HF6 HX k0 HDeaf
            go_wp2_with fail
            refine HS.out.mono ?_
            rintro e V2 ⟨rfl, a2, hs⟩
            have hR2 := hs.R.trans hR
            have HTw2 := hide (HTw1.out.one hs HTw1.out.x.ok)
            clear hs HS HTw1 v0 v1 v2 v3 v4
            have HL1 := hide (look_any HTw2.out.x.rm HTw2.out.x.ok)
            have HL2 := hide (fun (V : World) (hV : Below V2.heap.size V2 V) => look_any (HTw2.out.y.rm.below hV) HTw2.out.y.ok)
            have heq := look_eq r
            rw [hR2] at HL1
            generalize r.look = LK at HL1 HL2 heq
            go_wp2_with fail
            refine HL1.out.mono ?_
            rintro e V3 ⟨rfl, hb3⟩
            have HL3 := hide (HL2.out V3 hb3)
            have HTw3 := hide (HTw2.out.low hb3)
            clear hb3 HL1 HL2 HTw2
            go_wp2_with fail
            refine HL3.out.mono ?_
            rintro e V4 ⟨rfl, hb4⟩
            have HTw4 := hide (HTw3.out.low hb4)
            clear hb4 HL3 HTw3
            obtain ⟨ad2, cap2, htv⟩ := CH.own_slice HTw4.out.x.rm.tl
            have HS := hide (rtold_any HTw4.out.x.rm)
            rw [htv, hR2] at HS
            have hrk : ({ r with T := [] } : Rn).ok := ⟨HTw4.out.x.ok.s8, HTw4.out.x.ok.l1, HTw4.out.x.ok.w1, HTw4.out.x.ok.w8, HTw4.out.x.ok.r1, HTw4.out.x.ok.r2, HTw4.out.x.ok.q1, HTw4.out.x.ok.q2, HTw4.out.x.ok.c, HTw4.out.x.ok.cb, HTw4.out.x.ok.j⟩
            have HRk := hide hrk
            have HTl : Hid (r.T.length ≤ 1000000000) := hide (by omega)
            obtain ⟨N, hN⟩ : ∃ N, r.T.length = N := ⟨_, rfl⟩
            have HNe := hide hN
            rw [hN] at HS
            clear hrk hN hT
            go_wp2_with fail
            refine HS.out.mono ?_
            rintro e V5 ⟨rfl, hs, hown⟩
            have HTw5 := hide (HTw4.out.one hs HRk.out)
            obtain ⟨ad3, cap3, htv3⟩ := CH.own_slice HTw5.out.y.rm.tl
            have HS2 := hide (rtold_any HTw5.out.y.rm)
            rw [htv3, HNe.out] at HS2
            have HAp : Hid (∀ g, (Value.slice ad2 N cap2).ownBlock = some g → ∀ i, ¬ b.g r g i) := hide (fun g hg i => HTw4.out.ba g i (.inr (.inr (.inl (by rw [htv, HNe.out]; exact hg)))))
            have HOw := hide hown
            clear hs HS hown HTw4 htv htv3
            go_wp2_with fail
            refine HS2.out.mono ?_
            rintro e V6 ⟨rfl, hs, hown⟩
            have HTw6 := hide (HTw5.out.two hs HRk.out)
            have ho1 : V6.ownsRow 0 98 13 (.slice ad2 N cap2) N (ecs r.T) := CH.own_keep HOw.out (fun g hg => hs.kp.block g (HOw.out.lt g hg).2 (fun i => HAp.out g hg i))
            obtain ⟨e1, he1⟩ := own_er (T := r.T.map Ev.cs) ho1 (by rw [List.length_map]; exact HNe.out.symm) (ev_at r.T)
            obtain ⟨e2, he2⟩ := own_er (T := r.T.map Ev.cs) hown (by rw [List.length_map]; exact HNe.out.symm) (ev_at r.T)
            have HEv := hide (events_true (k1 := cap2) (k2 := cap3) HNe.out he1 he2 (by have := HTl.out; have := HNe.out; omega))
            clear hs HS2 hown ho1 he1 he2 HOw HAp HTw5
            go_wp2_with fail
            refine HEv.out.mono ?_
            rintro e V7 ⟨rfl, hb7⟩
            have HTw7 := hide (HTw6.out.low hb7)
            clear hb7 HEv HTw6
            have HS := hide (step_any HTw7.out.x.rm HRk.out (Nat.zero_le _))
            change Hid (Calls _ _ #[.pointer (some ⟨R0, 0, none⟩)] _ _) at HS
            go_wp2_with fail
            refine HS.out.mono ?_
            rintro e V8 ⟨u1, a8, rfl, hown, hs⟩
            obtain ⟨ad4, cap4, rfl⟩ := CH.own_slice hown
            have HTw8 := hide (HTw7.out.one hs (Rn.stp_ok HRk.out))
            have HOw := hide hown
            have HLow : Hid (∀ x i, RA.g { b with tv := .slice none 0 0 } { r with T := [] } x i → x < V7.heap.size) := hide (fun x i hg => HTw7.out.y.rm.lt (RA.g_d hg))
            clear hs HS hown HTw7
            have HS := hide (step_any HTw8.out.y.rm HRk.out (Nat.zero_le _))
            change Hid (Calls _ _ #[.pointer (some ⟨b.R, 0, none⟩)] _ _) at HS
            go_wp2_with fail
            refine HS.out.mono ?_
            rintro e V9 ⟨u2, b9, rfl, hown, hs⟩
            obtain ⟨ad5, cap5, rfl⟩ := CH.own_slice hown
            have HTw9 := hide (HTw8.out.two hs (Rn.stp_ok HRk.out))
            have ho1 := CH.own_keep HOw.out (fun g hg => hs.kp.block g (HOw.out.lt g hg).2 (fun i hgi => absurd (HLow.out g i hgi) (Nat.not_lt.2 (HOw.out.lt g hg).1)))
            obtain ⟨M, hM⟩ : ∃ M, (Rn.out { r with T := [] }).length = M := ⟨_, rfl⟩
            have hle := own_le hown
            obtain ⟨e1, he1⟩ := own_er (T := (Rn.out { r with T := [] }).map Dg.cs) ho1 (by rw [List.length_map]) (dg_at _)
            obtain ⟨e2, he2⟩ := own_er (T := (Rn.out { r with T := [] }).map Dg.cs) hown (by rw [List.length_map]) (dg_at _)
            have HSd := hide (said_any (k1 := cap4) (k2 := cap5) rfl he1 he2 hle)
            clear hs HS hown ho1 he1 he2 HOw HLow HTw8 hle
            rw [hM] at HSd ⊢
            go_wp2_with fail
            refine HSd.out.mono ?_
            rintro e V10 ⟨rfl, hb10⟩
            have HBf := hide (HBl1.out.trans ((HTw9.out.x.bl.trans (hb10.mono HTw9.out.x.bl.size)).mono HBl1.out.size))
            clear hb10 HSd HTw9
            go_wp2_with fail
            go_ret
            exact ⟨rfl, HBf.out⟩
        · have HDeaf := hide (HDf.out (.inl hc))
          have bc : ((c : Int) == 0) = false := by simp; omega
          clear HDf z0 z1 z2 z3 z4
          have HCl := hide (rnclone_any HF6.out.rm HF6.out.ok (by omega))
          rw [hR] at HCl
          go_wp2_with fail
          refine HCl.out.mono ?_
          rintro e V1 ⟨b, rfl, hcl⟩
          have HTw1 := hide (HF6.out.clone hcl)
          have hb := HHb.out _ HTw1.out.x.bl
          have v0 : V1.cell? ⟨w.heap.size + 1, 0, none⟩ = some (.int .i64 qk) := cell_of hb.op rfl
          have v1 : V1.cell? ⟨w.heap.size + 1, 1, none⟩ = some (.int .i64 qo) := cell_of hb.op rfl
          have v2 : V1.cell? ⟨w.heap.size + 1, 2, none⟩ = some (.int .i64 qn) := cell_of hb.op rfl
          have v3 : V1.cell? ⟨w.heap.size + 1, 3, none⟩ = some (.int .i64 ql) := cell_of hb.op rfl
          have v4 : V1.cell? ⟨w.heap.size + 1, 4, none⟩ = some (.string qd) := cell_of hb.op rfl
          have HS := hide (rhear_any HTw1.out.x.rm HTw1.out.x.ok qn ql qd (by omega))
          rw [HDeaf.out, hR] at HS
          clear hcl HCl hb HF6 HX k0 HDeaf
          go_wp2_with fail
          refine HS.out.mono ?_
          rintro e V2 ⟨rfl, a2, hs⟩
          have hR2 := hs.R.trans hR
          have HTw2 := hide (HTw1.out.one hs HTw1.out.x.ok)
          clear hs HS HTw1 v0 v1 v2 v3 v4
          have HL1 := hide (look_any HTw2.out.x.rm HTw2.out.x.ok)
          have HL2 := hide (fun (V : World) (hV : Below V2.heap.size V2 V) => look_any (HTw2.out.y.rm.below hV) HTw2.out.y.ok)
          have heq := look_eq r
          rw [hR2] at HL1
          generalize r.look = LK at HL1 HL2 heq
          go_wp2_with fail
          refine HL1.out.mono ?_
          rintro e V3 ⟨rfl, hb3⟩
          have HL3 := hide (HL2.out V3 hb3)
          have HTw3 := hide (HTw2.out.low hb3)
          clear hb3 HL1 HL2 HTw2
          go_wp2_with fail
          refine HL3.out.mono ?_
          rintro e V4 ⟨rfl, hb4⟩
          have HTw4 := hide (HTw3.out.low hb4)
          clear hb4 HL3 HTw3
          obtain ⟨ad2, cap2, htv⟩ := CH.own_slice HTw4.out.x.rm.tl
          have HS := hide (rtold_any HTw4.out.x.rm)
          rw [htv, hR2] at HS
          have hrk : ({ r with T := [] } : Rn).ok := ⟨HTw4.out.x.ok.s8, HTw4.out.x.ok.l1, HTw4.out.x.ok.w1, HTw4.out.x.ok.w8, HTw4.out.x.ok.r1, HTw4.out.x.ok.r2, HTw4.out.x.ok.q1, HTw4.out.x.ok.q2, HTw4.out.x.ok.c, HTw4.out.x.ok.cb, HTw4.out.x.ok.j⟩
          have HRk := hide hrk
          have HTl : Hid (r.T.length ≤ 1000000000) := hide (by omega)
          obtain ⟨N, hN⟩ : ∃ N, r.T.length = N := ⟨_, rfl⟩
          have HNe := hide hN
          rw [hN] at HS
          clear hrk hN hT
          go_wp2_with fail
          refine HS.out.mono ?_
          rintro e V5 ⟨rfl, hs, hown⟩
          have HTw5 := hide (HTw4.out.one hs HRk.out)
          obtain ⟨ad3, cap3, htv3⟩ := CH.own_slice HTw5.out.y.rm.tl
          have HS2 := hide (rtold_any HTw5.out.y.rm)
          rw [htv3, HNe.out] at HS2
          have HAp : Hid (∀ g, (Value.slice ad2 N cap2).ownBlock = some g → ∀ i, ¬ b.g r g i) := hide (fun g hg i => HTw4.out.ba g i (.inr (.inr (.inl (by rw [htv, HNe.out]; exact hg)))))
          have HOw := hide hown
          clear hs HS hown HTw4 htv htv3
          go_wp2_with fail
          refine HS2.out.mono ?_
          rintro e V6 ⟨rfl, hs, hown⟩
          have HTw6 := hide (HTw5.out.two hs HRk.out)
          have ho1 : V6.ownsRow 0 98 13 (.slice ad2 N cap2) N (ecs r.T) := CH.own_keep HOw.out (fun g hg => hs.kp.block g (HOw.out.lt g hg).2 (fun i => HAp.out g hg i))
          obtain ⟨e1, he1⟩ := own_er (T := r.T.map Ev.cs) ho1 (by rw [List.length_map]; exact HNe.out.symm) (ev_at r.T)
          obtain ⟨e2, he2⟩ := own_er (T := r.T.map Ev.cs) hown (by rw [List.length_map]; exact HNe.out.symm) (ev_at r.T)
          have HEv := hide (events_true (k1 := cap2) (k2 := cap3) HNe.out he1 he2 (by have := HTl.out; have := HNe.out; omega))
          clear hs HS2 hown ho1 he1 he2 HOw HAp HTw5
          go_wp2_with fail
          refine HEv.out.mono ?_
          rintro e V7 ⟨rfl, hb7⟩
          have HTw7 := hide (HTw6.out.low hb7)
          clear hb7 HEv HTw6
          have HS := hide (step_any HTw7.out.x.rm HRk.out (Nat.zero_le _))
          change Hid (Calls _ _ #[.pointer (some ⟨R0, 0, none⟩)] _ _) at HS
          go_wp2_with fail
          refine HS.out.mono ?_
          rintro e V8 ⟨u1, a8, rfl, hown, hs⟩
          obtain ⟨ad4, cap4, rfl⟩ := CH.own_slice hown
          have HTw8 := hide (HTw7.out.one hs (Rn.stp_ok HRk.out))
          have HOw := hide hown
          have HLow : Hid (∀ x i, RA.g { b with tv := .slice none 0 0 } { r with T := [] } x i → x < V7.heap.size) := hide (fun x i hg => HTw7.out.y.rm.lt (RA.g_d hg))
          clear hs HS hown HTw7
          have HS := hide (step_any HTw8.out.y.rm HRk.out (Nat.zero_le _))
          change Hid (Calls _ _ #[.pointer (some ⟨b.R, 0, none⟩)] _ _) at HS
          go_wp2_with fail
          refine HS.out.mono ?_
          rintro e V9 ⟨u2, b9, rfl, hown, hs⟩
          obtain ⟨ad5, cap5, rfl⟩ := CH.own_slice hown
          have HTw9 := hide (HTw8.out.two hs (Rn.stp_ok HRk.out))
          have ho1 := CH.own_keep HOw.out (fun g hg => hs.kp.block g (HOw.out.lt g hg).2 (fun i hgi => absurd (HLow.out g i hgi) (Nat.not_lt.2 (HOw.out.lt g hg).1)))
          obtain ⟨M, hM⟩ : ∃ M, (Rn.out { r with T := [] }).length = M := ⟨_, rfl⟩
          have hle := own_le hown
          obtain ⟨e1, he1⟩ := own_er (T := (Rn.out { r with T := [] }).map Dg.cs) ho1 (by rw [List.length_map]) (dg_at _)
          obtain ⟨e2, he2⟩ := own_er (T := (Rn.out { r with T := [] }).map Dg.cs) hown (by rw [List.length_map]) (dg_at _)
          have HSd := hide (said_any (k1 := cap4) (k2 := cap5) rfl he1 he2 hle)
          clear hs HS hown ho1 he1 he2 HOw HLow HTw8 hle
          rw [hM] at HSd ⊢
          go_wp2_with fail
          refine HSd.out.mono ?_
          rintro e V10 ⟨rfl, hb10⟩
          have HBf := hide (HBl1.out.trans ((HTw9.out.x.bl.trans (hb10.mono HTw9.out.x.bl.size)).mono HBl1.out.size))
          clear hb10 HSd HTw9
          go_wp2_with fail
          go_ret
          exact ⟨rfl, HBf.out⟩
end Go.Proofs.YtkfnedhllfdghaaGreatDoor.RN
end
