import Derived.Test.YtnbmgddkaclneaaNtH
import Derived.ProofKit
import Derived.OpenShut
import Derived.ShutString
import Derived.SizedLaws
import Derived.Carry
import Derived.Deep.SlicePairs
import Derived.Deep.Strs
namespace Go.Proofs.Ytnbmgddkaclneaa
open Go.ChangeShapes Go.WideShapes Go.ChangeAt Go.RowKit Go.Deep

theorem own : ownKnob Try.prog.godebug = none := by kernel_rfl
theorem Try.laidOut : laidOutB Try.prog = true := by kernel_rfl
theorem Try.cellsI : Try.prog.cellsOf 3 = 1 := by kernel_rfl
theorem Try.cellsS : Try.prog.cellsOf 9 = 1 := by kernel_rfl
theorem Try.cellsA : Try.prog.cellsOf 33 = 2 := by kernel_rfl
theorem Try.cellsO : Try.prog.cellsOf 35 = 8 := by kernel_rfl
theorem Try.bytesO : Try.prog.bytesOf 35 = 72 := by kernel_rfl


/-- a call, as the walk reads it -/
structure OpV where
  k : Int
  on : Int
  p : Int
  fn : Int
  fl : Int
  tn : Int
  tl : Int
  data : ByteArray
structure Ops (w : World) (ad : Option Addr) (len ab ao : Nat) (Q : Nat → OpV) : Prop where
  some : 0 < len → ad = Option.some ⟨ab, ao, none⟩
  old : 0 < len → ab < w.heap.size
  c0 : ∀ i, i < len → w.cell? ⟨ab, ao + i * 8, none⟩ = Option.some (.int .i64 (Q i).k)
  c1 : ∀ i, i < len → w.cell? ⟨ab, ao + i * 8 + 1, none⟩ = Option.some (.int .i64 (Q i).on)
  c2 : ∀ i, i < len → w.cell? ⟨ab, ao + i * 8 + 2, none⟩ = Option.some (.int .i64 (Q i).p)
  c3 : ∀ i, i < len → w.cell? ⟨ab, ao + i * 8 + 3, none⟩ = Option.some (.int .i64 (Q i).fn)
  c4 : ∀ i, i < len → w.cell? ⟨ab, ao + i * 8 + 4, none⟩ = Option.some (.int .i64 (Q i).fl)
  c5 : ∀ i, i < len → w.cell? ⟨ab, ao + i * 8 + 5, none⟩ = Option.some (.int .i64 (Q i).tn)
  c6 : ∀ i, i < len → w.cell? ⟨ab, ao + i * 8 + 6, none⟩ = Option.some (.int .i64 (Q i).tl)
  c7 : ∀ i, i < len → w.cell? ⟨ab, ao + i * 8 + 7, none⟩ = Option.some (.string (Q i).data)
  bon : ∀ i, i < len → -9223372036854775808 ≤ (Q i).on ∧ (Q i).on ≤ 9223372036854775807

theorem Ops.none {w : World} {ad : Option Addr} {Q : Nat → OpV} : Ops w ad 0 0 0 Q :=
  ⟨fun h => absurd h (by omega), fun h => absurd h (by omega), fun _ h => absurd h (by omega), fun _ h => absurd h (by omega), fun _ h => absurd h (by omega), fun _ h => absurd h (by omega), fun _ h => absurd h (by omega), fun _ h => absurd h (by omega), fun _ h => absurd h (by omega), fun _ h => absurd h (by omega), fun _ h => absurd h (by omega)⟩

section
variable {H : Type} {enc : TypeId × Value → H}
theorem op_of {W : World} {n : Nat} {cs : List Value} {x : DataW H × List MemPlace} (hl : cs.length = 8) (h : DataW.trod enc Try.prog W 0 (fun _ => true) true n 35 cs = some x) :
    ∃ q : OpV, cs = [.int .i64 q.k, .int .i64 q.on, .int .i64 q.p, .int .i64 q.fn, .int .i64 q.fl, .int .i64 q.tn, .int .i64 q.tl, .string q.data] ∧ -9223372036854775808 ≤ q.on ∧ q.on ≤ 9223372036854775807 := by
  obtain ⟨xs, m, _, _, _, hlen, hf⟩ := DataW.trod_struct Try.underlying35 h
  match cs, hl with
  | [c0, c1, c2, c3, c4, c5, c6, c7], _ =>
    match xs, hlen with
    | [y0, y1, y2, y3, y4, y5], _ =>
      have f0 : DataW.trod enc Try.prog W 0 (fun _ => true) true m 3 (([c0, c1, c2, c3, c4, c5, c6, c7].drop 0).take (Try.prog.cellsOf 3)) = some y0 := hf 0 _ rfl
      have f1 : DataW.trod enc Try.prog W 0 (fun _ => true) true m 3 (([c0, c1, c2, c3, c4, c5, c6, c7].drop 1).take (Try.prog.cellsOf 3)) = some y1 := hf 1 _ rfl
      have f2 : DataW.trod enc Try.prog W 0 (fun _ => true) true m 3 (([c0, c1, c2, c3, c4, c5, c6, c7].drop 2).take (Try.prog.cellsOf 3)) = some y2 := hf 2 _ rfl
      have f3 : DataW.trod enc Try.prog W 0 (fun _ => true) true m 33 (([c0, c1, c2, c3, c4, c5, c6, c7].drop 3).take (Try.prog.cellsOf 33)) = some y3 := hf 3 _ rfl
      have f4 : DataW.trod enc Try.prog W 0 (fun _ => true) true m 33 (([c0, c1, c2, c3, c4, c5, c6, c7].drop 5).take (Try.prog.cellsOf 33)) = some y4 := hf 4 _ rfl
      have f5 : DataW.trod enc Try.prog W 0 (fun _ => true) true m 9 (([c0, c1, c2, c3, c4, c5, c6, c7].drop 7).take (Try.prog.cellsOf 9)) = some y5 := hf 5 _ rfl
      simp only [Try.cellsI, Try.cellsS, Try.cellsA, List.drop_succ_cons, List.drop_zero, List.take_succ_cons, List.take_zero] at f0 f1 f2 f3 f4 f5
      obtain ⟨z0, e0, _, _⟩ := DataW.trod_int Try.underlying3 f0
      obtain ⟨z1, e1, _, wf1⟩ := DataW.trod_int Try.underlying3 f1
      obtain ⟨z2, e2, _, _⟩ := DataW.trod_int Try.underlying3 f2
      obtain ⟨s7, e7, _, _⟩ := DataW.trod_string Try.underlying9 f5
      obtain ⟨a0, a1, _, _, _, g0, g1⟩ := trod_struct2 Try.underlying33 f3
      obtain ⟨b0, b1, _, _, _, g2, g3⟩ := trod_struct2 Try.underlying33 f4
      simp only [Try.cellsI, List.drop_succ_cons, List.drop_zero, List.take_succ_cons, List.take_zero] at g0 g1 g2 g3
      obtain ⟨z3, e3, _, _⟩ := DataW.trod_int Try.underlying3 g0
      obtain ⟨z4, e4, _, _⟩ := DataW.trod_int Try.underlying3 g1
      obtain ⟨z5, e5, _, _⟩ := DataW.trod_int Try.underlying3 g2
      obtain ⟨z6, e6, _, _⟩ := DataW.trod_int Try.underlying3 g3
      simp only [List.cons.injEq, and_true] at e0 e1 e2 e3 e4 e5 e6 e7
      subst e0; subst e1; subst e2; subst e3; subst e4; subst e5; subst e6; subst e7
      exact ⟨⟨z0, z1, z2, z3, z4, z5, z6, s7⟩, rfl, (bounds_i64 wf1).1, (bounds_i64 wf1).2⟩

/-- a slice of calls, opened -/
theorem ops_of {W : World} {base : Nat} {v : Value} {d : DataW H} {ps : List MemPlace} (hv : Value.okWide Try.prog W .any base 22 v) (h : DataW.Trod enc Try.prog W 0 (fun _ => true) true 22 v d ps) :
    ∃ (ad : Option Addr) (len cap ab ao : Nat) (Q : Nat → OpV), v = .slice ad len cap ∧ Ops W ad len ab ao Q ∧ (0 < len → ∃ el sp, d = .slice el sp ∧ el.length = len) := by
  obtain ⟨a0, len0, cap0, rfl⟩ := okWide_slice Try.underlying22 hv
  obtain ⟨n, hn⟩ := h
  rcases open_slice (cs := [.slice a0 len0 cap0]) Try.underlying22 hn with ⟨hc, _⟩ | ⟨a, len, cap, m, k, D, Pl, hc, _, hl, hm, hmm, hx, hall⟩
  · simp only [List.cons.injEq, and_true] at hc
    injection hc with h1 h2 h3
    subst h1; subst h2; subst h3
    exact ⟨none, 0, 0, 0, 0, fun _ => ⟨0, 0, 0, 0, 0, 0, 0, ⟨#[]⟩⟩, rfl, Ops.none, fun h => absurd h (by omega)⟩
  · simp only [List.cons.injEq, and_true] at hc
    injection hc with h1 h2 h3
    subst h1; subst h2; subst h3
    simp only [if_true] at hmm
    subst hmm
    simp only [Prod.mk.injEq] at hx
    obtain ⟨rfl, _⟩ := hx
    have each : ∀ i, i < m → ∃ q : OpV, ((W.cell? (a.add (i * 8)) = some (.int .i64 q.k) ∧ W.cell? (a.add (i * 8 + 1)) = some (.int .i64 q.on) ∧ W.cell? (a.add (i * 8 + 2)) = some (.int .i64 q.p) ∧ W.cell? (a.add (i * 8 + 3)) = some (.int .i64 q.fn)) ∧
        W.cell? (a.add (i * 8 + 4)) = some (.int .i64 q.fl) ∧ W.cell? (a.add (i * 8 + 5)) = some (.int .i64 q.tn) ∧ W.cell? (a.add (i * 8 + 6)) = some (.int .i64 q.tl) ∧ W.cell? (a.add (i * 8 + 7)) = some (.string q.data)) ∧ -9223372036854775808 ≤ q.on ∧ q.on ≤ 9223372036854775807 := by
      intro i hi
      obtain ⟨cs', g1, g2⟩ := hall i hi
      rw [Try.cellsO] at g1
      obtain ⟨_, hlen, hcell⟩ := World.cells?_some g1
      obtain ⟨q, rfl, hq1, hq2⟩ := op_of hlen g2
      have k0 := hcell 0 (by omega)
      have k1 := hcell 1 (by omega)
      have k2 := hcell 2 (by omega)
      have k3 := hcell 3 (by omega)
      have k4 := hcell 4 (by omega)
      have k5 := hcell 5 (by omega)
      have k6 := hcell 6 (by omega)
      have k7 := hcell 7 (by omega)
      rw [add_add] at k0 k1 k2 k3 k4 k5 k6 k7
      exact ⟨q, ⟨⟨by simpa using k0, by simpa using k1, by simpa using k2, by simpa using k3⟩, by simpa using k4, by simpa using k5, by simpa using k6, by simpa using k7⟩, hq1, hq2⟩
    have hI : Inhabited OpV := ⟨⟨0, 0, 0, 0, 0, 0, 0, ByteArray.empty⟩⟩
    obtain ⟨q, hq⟩ := choose_lt each
    by_cases hz : len0 = 0
    · subst hz
      exact ⟨_, 0, m, 0, 0, fun _ => ⟨0, 0, 0, 0, 0, 0, 0, ⟨#[]⟩⟩, rfl, Ops.none, fun h => absurd h (by omega)⟩
    · obtain ⟨ab, ao, spot⟩ := a
      have hspot : spot = none := by simpa [Addr.add] using World.cell?_spot (hq 0 (by omega)).1.1.1
      subst hspot
      have add2 : ∀ j : Nat, (⟨ab, ao, none⟩ : Addr).add j = ⟨ab, ao + j, none⟩ := fun j => by unfold Addr.add; split <;> simp_all
      simp only [add2] at hq
      refine ⟨_, len0, m, ab, ao, q, rfl, ⟨fun _ => rfl, fun _ => World.block_lt_of_cell? _ _ (hq 0 (by omega)).1.1.1, fun i hi => (hq i (by omega)).1.1.1, fun i hi => (hq i (by omega)).1.1.2.1, fun i hi => (hq i (by omega)).1.1.2.2.1, fun i hi => (hq i (by omega)).1.1.2.2.2, fun i hi => (hq i (by omega)).1.2.1, fun i hi => (hq i (by omega)).1.2.2.1, fun i hi => (hq i (by omega)).1.2.2.2.1, fun i hi => (hq i (by omega)).1.2.2.2.2, fun i hi => (hq i (by omega)).2⟩, fun _ => ⟨_, _, rfl, by simp⟩⟩

/-- a slice of strings, opened -/
theorem strs_of {W : World} {base : Nat} {v : Value} {d : DataW H} {ps : List MemPlace} (hv : Value.okWide Try.prog W .any base 40 v) (h : DataW.Trod enc Try.prog W 0 (fun _ => true) true 40 v d ps) :
    ∃ (ad : Option Addr) (len cap ab ao : Nat) (S : Nat → ByteArray), v = .slice ad len cap ∧ Strs W ad len ab ao S ∧ (0 < len → ∃ el sp, d = .slice el sp ∧ el.length = len) := by
  obtain ⟨a0, len0, cap0, rfl⟩ := okWide_slice Try.underlying40 hv
  obtain ⟨n, hn⟩ := h
  rcases open_slice (cs := [.slice a0 len0 cap0]) Try.underlying40 hn with ⟨hc, _⟩ | ⟨a, len, cap, m, k, D, Pl, hc, _, hl, hm, hmm, hx, hall⟩
  · simp only [List.cons.injEq, and_true] at hc
    injection hc with h1 h2 h3
    subst h1; subst h2; subst h3
    exact ⟨none, 0, 0, 0, 0, fun _ => ⟨#[]⟩, rfl, ⟨fun h => absurd h (by omega), fun h => absurd h (by omega), fun _ h => absurd h (by omega)⟩, fun h => absurd h (by omega)⟩
  · simp only [List.cons.injEq, and_true] at hc
    injection hc with h1 h2 h3
    subst h1; subst h2; subst h3
    simp only [if_true] at hmm
    subst hmm
    simp only [Prod.mk.injEq] at hx
    obtain ⟨rfl, _⟩ := hx
    have each : ∀ i, i < m → ∃ q : ByteArray, W.cell? (a.add i) = some (.string q) := by
      intro i hi
      obtain ⟨cs', g1, g2⟩ := hall i hi
      rw [Try.cellsS] at g1
      obtain ⟨_, hlen, hcell⟩ := World.cells?_some g1
      obtain ⟨s2, e2, _, _⟩ := DataW.trod_string Try.underlying9 g2
      subst e2
      have k0 := hcell 0 (by omega)
      rw [add_add] at k0
      exact ⟨s2, by simpa using k0⟩
    obtain ⟨q, hq⟩ := choose_lt each
    by_cases hz : len0 = 0
    · subst hz
      exact ⟨_, 0, m, 0, 0, fun _ => ⟨#[]⟩, rfl, ⟨fun h => absurd h (by omega), fun h => absurd h (by omega), fun _ h => absurd h (by omega)⟩, fun h => absurd h (by omega)⟩
    · obtain ⟨ab, ao, spot⟩ := a
      have hspot : spot = none := by simpa [Addr.add] using World.cell?_spot (hq 0 (by omega))
      subst hspot
      have add2 : ∀ j : Nat, (⟨ab, ao, none⟩ : Addr).add j = ⟨ab, ao + j, none⟩ := fun j => by unfold Addr.add; split <;> simp_all
      simp only [add2] at hq
      exact ⟨_, len0, m, ab, ao, q, rfl, ⟨fun _ => rfl, fun _ => World.block_lt_of_cell? _ _ (hq 0 (by omega)), fun i hi => hq i (by omega)⟩, fun _ => ⟨_, _, rfl, by simp⟩⟩

theorem bulk_pos (d : DataW H) : 1 ≤ Rows.uptoBulk d := by
  cases d with
  | lit x => cases x <;> simp [Rows.uptoBulk]
  | _ => simp [Rows.uptoBulk]
theorem bulk_len (l : List (DataW H)) : l.length ≤ Rows.uptoBulkAll l := by
  induction l with
  | nil => simp [Rows.uptoBulkAll]
  | cons d l ih => simp only [Rows.uptoBulkAll, List.length_cons]; have := bulk_pos d; omega
theorem bulk_slice {el sp : List (DataW H)} (h : Rows.uptoBulk (.slice el sp) ≤ 1048576) : el.length ≤ 1048576 := by
  simp only [Rows.uptoBulk] at h
  have := bulk_len el
  omega
end
end Go.Proofs.Ytnbmgddkaclneaa
