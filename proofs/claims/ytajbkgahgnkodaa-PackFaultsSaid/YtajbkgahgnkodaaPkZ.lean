import Derived.Test.YtajbkgahgnkodaaPkY
import Derived.Test.YtajbkgahgnkodaaPkV
import Derived.ProofKit
import Derived.OpenShut
import Derived.ShutString
import Derived.SizedLaws
import Derived.Carry
import Derived.Deep.SlicePairs
namespace Go.Proofs.Ytajbkgahgnkodaa
open Go.ChangeShapes Go.WideShapes Go.ChangeAt Go.RowKit Go.Deep

theorem own : ownKnob Try.prog.godebug = none := by kernel_rfl
theorem nat_of_u64 {n : Int} (h : (Lit.int .u64 n).wf = true) : ∃ a : Nat, n = (a : Int) ∧ a < 18446744073709551616 := by
  have := bounds_u64 h
  exact ⟨n.toNat, by omega, by omega⟩
theorem Try.laidOut : laidOutB Try.prog = true := by kernel_rfl
theorem Try.cellsI : Try.prog.cellsOf 3 = 1 := by kernel_rfl
theorem Try.cellsO : Try.prog.cellsOf 36 = 2 := by kernel_rfl

section
variable {H : Type} {enc : TypeId × Value → H}
/-- a slice of calls, opened -/
theorem ops_of {W : World} {base : Nat} {v : Value} {d : DataW H} {ps : List MemPlace} (hv : Value.okWide Try.prog W .any base 27 v) (h : DataW.Trod enc Try.prog W 0 (fun _ => true) true 27 v d ps) :
    ∃ (ad : Option Addr) (len cap ab ao : Nat) (K M : Nat → Int), v = .slice ad len cap ∧ Ops W ad len ab ao K M := by
  obtain ⟨a0, len0, cap0, rfl⟩ := okWide_slice Try.underlying27 hv
  obtain ⟨n, hn⟩ := h
  rcases open_slice_pairs (cs := [.slice a0 len0 cap0]) Try.underlying27 Try.underlying36 Try.cellsO rfl rfl Try.cellsI Try.cellsI hn with ⟨hc, _⟩ | ⟨a, len, cap, m, k, V0, V1, D0, D1, P0, P1, hc, _, hl, hm, hmm, _, hall⟩
  · simp only [List.cons.injEq, and_true] at hc
    injection hc with h1 h2 h3
    subst h1; subst h2; subst h3
    exact ⟨none, 0, 0, 0, 0, fun _ => 0, fun _ => 0, rfl, ⟨fun h => absurd h (by omega), fun h => absurd h (by omega), fun i h => absurd h (by omega), fun i h => absurd h (by omega), fun i h => absurd h (by omega), by omega⟩⟩
  · simp only [List.cons.injEq, and_true] at hc
    injection hc with h1 h2 h3
    subst h1; subst h2; subst h3
    simp only [if_true] at hmm
    subst hmm
    obtain ⟨ab, ao, spot⟩ := a
    have h0 : ∀ i, i < m → ∃ N : Int, V0 i = .int .i64 N := fun i hi => by
      obtain ⟨N, e1, _, _⟩ := DataW.trod_int Try.underlying3 (hall i hi).2.2.1
      simp only [List.cons.injEq, and_true] at e1
      exact ⟨N, e1⟩
    have h1 : ∀ i, i < m → ∃ N : Int, V1 i = .int .i64 N ∧ N ≤ 9223372036854775807 := fun i hi => by
      obtain ⟨N, e1, _, wf⟩ := DataW.trod_int Try.underlying3 (hall i hi).2.2.2
      simp only [List.cons.injEq, and_true] at e1
      exact ⟨N, e1, (bounds_i64 wf).2⟩
    obtain ⟨K, hK⟩ := choose_lt h0
    obtain ⟨M, hM⟩ := choose_lt h1
    by_cases hz : len0 = 0
    · subst hz
      exact ⟨_, 0, m, 0, 0, fun _ => 0, fun _ => 0, rfl, ⟨fun h => absurd h (by omega), fun h => absurd h (by omega), fun i h => absurd h (by omega), fun i h => absurd h (by omega), fun i h => absurd h (by omega), by omega⟩⟩
    · have hspot : spot = none := by simpa [Addr.add] using World.cell?_spot (hall 0 (by omega)).1
      subst hspot
      have add2 : ∀ j : Nat, (⟨ab, ao, none⟩ : Addr).add j = ⟨ab, ao + j, none⟩ := fun j => by unfold Addr.add; split <;> simp_all
      refine ⟨_, len0, m, ab, ao, K, M, rfl, ⟨fun _ => rfl, fun _ => ?_, fun i hi => ?_, fun i hi => ?_, fun i hi => (hM i (by omega)).2, by unfold maxLen at hm; omega⟩⟩
      · have := (hall 0 (by omega)).1
        exact World.block_lt_of_cell? _ _ this
      · have := (hall i (by omega)).1
        rw [hK i (by omega), add2] at this
        exact this
      · have := (hall i (by omega)).2.1
        rw [(hM i (by omega)).1, add2] at this
        exact this
/-- a slice of ints, opened -/
theorem ints_of {W : World} {base : Nat} {v : Value} {d : DataW H} {ps : List MemPlace} (hv : Value.okWide Try.prog W .any base 49 v) (h : DataW.Trod enc Try.prog W 0 (fun _ => true) true 49 v d ps) :
    ∃ (ad : Option Addr) (len cap ab ao : Nat) (K : Nat → Int), v = .slice ad len cap ∧ (0 < len → ad = some ⟨ab, ao, none⟩) ∧ (0 < len → ab < W.heap.size) ∧ len ≤ 9223372036854775807 ∧ ∀ i, i < len → W.cell? ⟨ab, ao + i, none⟩ = some (.int .i64 (K i)) := by
  obtain ⟨a0, len0, cap0, rfl⟩ := okWide_slice Try.underlying49 hv
  obtain ⟨n, hn⟩ := h
  rcases open_slice1 (cs := [.slice a0 len0 cap0]) Try.underlying49 Try.cellsI hn with ⟨hc, _⟩ | ⟨a, len, cap, m, k, V0, D0, P0, hc, _, hl, hm, hmm, _, hall⟩
  · simp only [List.cons.injEq, and_true] at hc
    injection hc with h1 h2 h3
    subst h1; subst h2; subst h3
    exact ⟨none, 0, 0, 0, 0, fun _ => 0, rfl, fun h => absurd h (by omega), fun h => absurd h (by omega), by omega, fun i h => absurd h (by omega)⟩
  · simp only [List.cons.injEq, and_true] at hc
    injection hc with h1 h2 h3
    subst h1; subst h2; subst h3
    simp only [if_true] at hmm
    subst hmm
    obtain ⟨ab, ao, spot⟩ := a
    have h0 : ∀ i, i < m → ∃ N : Int, V0 i = .int .i64 N := fun i hi => by
      obtain ⟨N, e1, _, _⟩ := DataW.trod_int Try.underlying3 (hall i hi).2
      simp only [List.cons.injEq, and_true] at e1
      exact ⟨N, e1⟩
    obtain ⟨K, hK⟩ := choose_lt h0
    by_cases hz : len0 = 0
    · subst hz
      exact ⟨_, 0, m, 0, 0, fun _ => 0, rfl, fun h => absurd h (by omega), fun h => absurd h (by omega), by omega, fun i h => absurd h (by omega)⟩
    · have hspot : spot = none := by simpa [Addr.add] using World.cell?_spot (hall 0 (by omega)).1
      subst hspot
      have add2 : ∀ j : Nat, (⟨ab, ao, none⟩ : Addr).add j = ⟨ab, ao + j, none⟩ := fun j => by unfold Addr.add; split <;> simp_all
      refine ⟨_, len0, m, ab, ao, K, rfl, fun _ => rfl, fun _ => ?_, by unfold maxLen at hm; omega, fun i hi => ?_⟩
      · have := (hall 0 (by omega)).1
        exact World.block_lt_of_cell? _ _ this
      · have := (hall i (by omega)).1
        rw [hK i (by omega), add2] at this
        exact this
end
end Go.Proofs.Ytajbkgahgnkodaa
