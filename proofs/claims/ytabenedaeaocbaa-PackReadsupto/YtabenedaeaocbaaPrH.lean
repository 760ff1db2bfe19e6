import Derived.Test.YtabenedaeaocbaaPrG
import Derived.ProofKit
import Derived.OpenShut
import Derived.ShutString
import Derived.SizedLaws
import Derived.Carry
import Derived.Deep.SlicePairs
import Derived.Deep.Slices
namespace Go.Proofs.Ytabenedaeaocbaa
open Go.ChangeShapes Go.WideShapes Go.ChangeAt Go.RowKit Go.Deep

theorem own : ownKnob Try.prog.godebug = none := by kernel_rfl
theorem Try.laidOut : laidOutB Try.prog = true := by kernel_rfl
theorem Try.cellsI : Try.prog.cellsOf 3 = 1 := by kernel_rfl
theorem Try.cellsO : Try.prog.cellsOf 32 = 2 := by kernel_rfl
theorem OpsR.none {w : World} {ad : Option Addr} {K M : Nat → Int} : OpsR w ad 0 0 0 K M :=
  ⟨fun h => absurd h (by omega), fun h => absurd h (by omega), fun _ h => absurd h (by omega), fun _ h => absurd h (by omega), fun _ h => absurd h (by omega)⟩

section
variable {H : Type} {enc : TypeId × Value → H}
theorem opr_of {W : World} {n : Nat} {cs : List Value} {x : DataW H × List MemPlace} (hl : cs.length = 2) (h : DataW.trod enc Try.prog W 0 (fun _ => true) true n 32 cs = some x) :
    ∃ q : Int × Int, cs = [.int .i64 q.1, .int .i64 q.2] ∧ -9223372036854775808 ≤ q.2 ∧ q.2 ≤ 9223372036854775807 := by
  obtain ⟨a0, a1, _, _, _, g0, g1⟩ := trod_struct2 Try.underlying32 h
  match cs, hl with
  | [c0, c1], _ =>
    simp only [Try.cellsI, List.drop_succ_cons, List.drop_zero, List.take_succ_cons, List.take_zero] at g0 g1
    obtain ⟨z0, e0, _, _⟩ := DataW.trod_int Try.underlying3 g0
    obtain ⟨z1, e1, _, wf1⟩ := DataW.trod_int Try.underlying3 g1
    simp only [List.cons.injEq, and_true] at e0 e1
    subst e0; subst e1
    exact ⟨(z0, z1), rfl, (bounds_i64 wf1).1, (bounds_i64 wf1).2⟩
/-- a slice of calls, opened -/
theorem opsr_of {W : World} {base : Nat} {v : Value} {d : DataW H} {ps : List MemPlace} (hv : Value.okWide Try.prog W .any base 22 v) (h : DataW.Trod enc Try.prog W 0 (fun _ => true) true 22 v d ps) :
    ∃ (ad : Option Addr) (len cap ab ao : Nat) (K M : Nat → Int), v = .slice ad len cap ∧ OpsR W ad len ab ao K M ∧ (0 < len → ∃ el sp, d = .slice el sp ∧ el.length = len) := by
  obtain ⟨a0, len0, cap0, rfl⟩ := okWide_slice Try.underlying22 hv
  obtain ⟨n, hn⟩ := h
  rcases open_slice (cs := [.slice a0 len0 cap0]) Try.underlying22 hn with ⟨hc, _⟩ | ⟨a, len, cap, m, k, D, Pl, hc, _, hl, hm, hmm, hx, hall⟩
  · simp only [List.cons.injEq, and_true] at hc
    injection hc with h1 h2 h3
    subst h1; subst h2; subst h3
    exact ⟨none, 0, 0, 0, 0, fun _ => 0, fun _ => 0, rfl, OpsR.none, fun h => absurd h (by omega)⟩
  · simp only [List.cons.injEq, and_true] at hc
    injection hc with h1 h2 h3
    subst h1; subst h2; subst h3
    simp only [if_true] at hmm
    subst hmm
    simp only [Prod.mk.injEq] at hx
    obtain ⟨rfl, _⟩ := hx
    have each : ∀ i, i < m → ∃ q : Int × Int, (W.cell? (a.add (i * 2)) = some (.int .i64 q.1) ∧ W.cell? (a.add (i * 2 + 1)) = some (.int .i64 q.2)) ∧ -9223372036854775808 ≤ q.2 ∧ q.2 ≤ 9223372036854775807 := by
      intro i hi
      obtain ⟨cs', g1, g2⟩ := hall i hi
      rw [Try.cellsO] at g1
      obtain ⟨_, hlen, hcell⟩ := World.cells?_some g1
      obtain ⟨q, rfl, hq1, hq2⟩ := opr_of hlen g2
      have k0 := hcell 0 (by omega)
      have k1 := hcell 1 (by omega)
      rw [add_add] at k0 k1
      exact ⟨q, ⟨by simpa using k0, by simpa using k1⟩, hq1, hq2⟩
    obtain ⟨q, hq⟩ := choose_lt each
    by_cases hz : len0 = 0
    · subst hz
      exact ⟨_, 0, m, 0, 0, fun _ => 0, fun _ => 0, rfl, OpsR.none, fun h => absurd h (by omega)⟩
    · obtain ⟨ab, ao, spot⟩ := a
      have hspot : spot = none := by simpa [Addr.add] using World.cell?_spot (hq 0 (by omega)).1.1
      subst hspot
      have add2 : ∀ j : Nat, (⟨ab, ao, none⟩ : Addr).add j = ⟨ab, ao + j, none⟩ := fun j => by unfold Addr.add; split <;> simp_all
      simp only [add2] at hq
      refine ⟨_, len0, m, ab, ao, fun i => (q i).1, fun i => (q i).2, rfl, ⟨fun _ => rfl, fun _ => World.block_lt_of_cell? _ _ (hq 0 (by omega)).1.1, fun i hi => (hq i (by omega)).1.1, fun i hi => (hq i (by omega)).1.2, fun i hi => (hq i (by omega)).2⟩, fun _ => ⟨_, _, rfl, by simp⟩⟩
theorem bulk_pos (d : DataW H) : 1 ≤ Rows.uptoBulk d := by
  cases d with
  | lit x => cases x <;> simp [Rows.uptoBulk]
  | _ => simp [Rows.uptoBulk]
theorem bulk_len (l : List (DataW H)) : l.length ≤ Rows.uptoBulkAll l := by
  induction l with
  | nil => simp [Rows.uptoBulkAll]
  | cons d l ih => simp only [Rows.uptoBulkAll, List.length_cons]; have := bulk_pos d; omega
theorem bulk_slice {el sp : List (DataW H)} (h : Rows.uptoBulk (.slice el sp) ≤ 1048576) : el.length ≤ 1048576 := by
  simp only [Rows.uptoBulk] at h
  have := bulk_len el
  omega
end
end Go.Proofs.Ytabenedaeaocbaa
