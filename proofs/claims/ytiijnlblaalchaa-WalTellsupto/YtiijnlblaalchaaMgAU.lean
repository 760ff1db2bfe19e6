import Derived.Test.YtiijnlblaalchaaMgAT
import Derived.ProofKit
import Derived.OpenShut
import Derived.ShutString
import Derived.SizedLaws
import Derived.Carry
import Derived.Deep.SlicePairs
import Derived.Deep.Strs
import Derived.Lib.SmallJoins

section
namespace Go.Proofs.Ytiijnlblaalchaa
open Go.ChangeShapes Go.WideShapes Go.ChangeAt Go.RowKit Go.Deep

theorem own : ownKnob Try.prog.godebug = none := by kernel_rfl
theorem Try.laidOut : laidOutB Try.prog = true := by kernel_rfl
theorem Try.cellsS : Try.prog.cellsOf 9 = 1 := by kernel_rfl
theorem Try.cellsI : Try.prog.cellsOf 3 = 1 := by kernel_rfl
section
variable {H : Type} {enc : TypeId × Value → H}
theorem range_get {α : Type} (f : Nat → α) (n i : Nat) (h : i < ((List.range n).map f).length) : ((List.range n).map f)[i] = f i := by simp
theorem range_len {α : Type} (f : Nat → α) (n : Nat) : ((List.range n).map f).length = n := by simp
theorem bulk_pos (d : DataW H) : 1 ≤ Rows.uptoBulk d := by
  cases d with
  | lit l => cases l <;> simp [Rows.uptoBulk]
  | _ => simp [Rows.uptoBulk]
theorem bulk_len (l : List (DataW H)) : l.length ≤ Rows.uptoBulkAll l := by
  induction l with
  | nil => simp [Rows.uptoBulkAll]
  | cons d l ih => simp only [Rows.uptoBulkAll, List.length_cons]; have := bulk_pos d; omega
theorem bulk_mem {l : List (DataW H)} {d : DataW H} (h : d ∈ l) : Rows.uptoBulk d ≤ Rows.uptoBulkAll l := by
  induction l with
  | nil => cases h
  | cons x l ih =>
    simp only [Rows.uptoBulkAll]
    rcases List.mem_cons.1 h with rfl | h
    · omega
    · have := ih h; omega
/-- a slice of texts, opened, with its bulk -/
theorem strs_small {W : World} {n : Nat} {v : Value} {x : DataW H × List MemPlace} (h : DataW.trod enc Try.prog W 0 (fun _ => true) true n 30 [v] = some x) (hk : Rows.uptoBulk x.1 ≤ 1048576) :
    ∃ (ad : Option Addr) (cap ab ao : Nat) (l : List ByteArray), v = .slice ad l.length cap ∧ D.Rs W ad ab ao l ∧ l.length ≤ 1048576 ∧ ∀ i (h : i < l.length), l[i].size ≤ 1048576 := by
  rcases open_slice (cs := [v]) Try.underlying30 h with ⟨hc, _⟩ | ⟨a, len, cap, m, k, E, Pl, hc, _, hl, hm, hmm, hx, hall⟩
  · simp only [List.cons.injEq, and_true] at hc
    exact ⟨none, 0, 0, 0, [], hc, ⟨fun h => absurd h (by simp), fun i h => absurd h (by simp)⟩, by simp, fun i h => absurd h (by simp)⟩
  · simp only [List.cons.injEq, and_true] at hc
    simp only [if_true] at hmm
    subst hmm
    rw [hx] at hk
    simp only [Rows.uptoBulk] at hk
    have hle : len ≤ 1048576 := by
      have := bulk_len ((List.range len).map E)
      rw [range_len] at this
      omega
    have each : ∀ i, i < m → ∃ q : ByteArray, W.cell? (a.add i) = some (.string q) ∧ E i = .lit (.string q.data.toList) := by
      intro i hi
      obtain ⟨cs', g1, g2⟩ := hall i hi
      rw [Try.cellsS] at g1
      obtain ⟨_, hlen, hcell⟩ := World.cells?_some g1
      obtain ⟨s2, e2, e3, _⟩ := DataW.trod_string Try.underlying9 g2
      subst e2
      have k0 := hcell 0 (by omega)
      rw [add_add] at k0
      simp only [Prod.mk.injEq] at e3
      exact ⟨s2, by simpa using k0, e3.1⟩
    obtain ⟨q, hq⟩ := choose_lt each
    refine ⟨some a, m, a.block, a.off, (List.range len).map q, by rw [range_len]; exact hc, ⟨fun h => ?_, fun i hi => ?_⟩, by rw [range_len]; exact hle, fun i hi => ?_⟩
    · rw [range_len] at h
      obtain ⟨ab, ao, spot⟩ := a
      have hspot : spot = none := by simpa [Addr.add] using World.cell?_spot (hq 0 (by omega)).1
      rw [hspot]
    · have hi' := hi
      rw [range_len] at hi'
      rw [range_get]
      have := (hq i (by omega)).1
      obtain ⟨ab, ao, spot⟩ := a
      have hspot : spot = none := by simpa [Addr.add] using World.cell?_spot (hq 0 (by omega)).1
      subst hspot
      rwa [Addr.add_lit] at this
    · have hi' := hi
      rw [range_len] at hi'
      rw [range_get]
      have h1 := bulk_mem (l := (List.range len).map E) (d := E i) (List.mem_map.2 ⟨i, List.mem_range.2 hi', rfl⟩)
      rw [(hq i (by omega)).2] at h1
      simp only [Rows.uptoBulk] at h1
      have h2 : (q i).size = (q i).data.toList.length := D.size_list _
      omega
/-- a slice of whole numbers, opened, with its bulk -/
theorem ints_small {W : World} {n : Nat} {v : Value} {x : DataW H × List MemPlace} (h : DataW.trod enc Try.prog W 0 (fun _ => true) true n 31 [v] = some x) (hk : Rows.uptoBulk x.1 ≤ 1048576) :
    ∃ (ad : Option Addr) (cap ab ao : Nat) (l : List Int), v = .slice ad l.length cap ∧ Ri W ad ab ao l ∧ l.length ≤ 1048576 := by
  rcases open_slice (cs := [v]) Try.underlying31 h with ⟨hc, _⟩ | ⟨a, len, cap, m, k, E, Pl, hc, _, hl, hm, hmm, hx, hall⟩
  · simp only [List.cons.injEq, and_true] at hc
    exact ⟨none, 0, 0, 0, [], hc, ⟨fun h => absurd h (by simp), fun i h => absurd h (by simp)⟩, by simp⟩
  · simp only [List.cons.injEq, and_true] at hc
    simp only [if_true] at hmm
    subst hmm
    rw [hx] at hk
    simp only [Rows.uptoBulk] at hk
    have hle : len ≤ 1048576 := by
      have := bulk_len ((List.range len).map E)
      rw [range_len] at this
      omega
    have each : ∀ i, i < m → ∃ q : Int, W.cell? (a.add i) = some (.int .i64 q) := by
      intro i hi
      obtain ⟨cs', g1, g2⟩ := hall i hi
      rw [Try.cellsI] at g1
      obtain ⟨_, hlen, hcell⟩ := World.cells?_some g1
      obtain ⟨s2, e2, _, _⟩ := DataW.trod_int Try.underlying3 g2
      subst e2
      have k0 := hcell 0 (by omega)
      rw [add_add] at k0
      exact ⟨s2, by simpa using k0⟩
    obtain ⟨q, hq⟩ := choose_lt each
    refine ⟨some a, m, a.block, a.off, (List.range len).map q, by rw [range_len]; exact hc, ⟨fun h => ?_, fun i hi => ?_⟩, by rw [range_len]; exact hle⟩
    · rw [range_len] at h
      obtain ⟨ab, ao, spot⟩ := a
      have hspot : spot = none := by simpa [Addr.add] using World.cell?_spot (hq 0 (by omega))
      rw [hspot]
    · have hi' := hi
      rw [range_len] at hi'
      rw [range_get]
      have := hq i (by omega)
      obtain ⟨ab, ao, spot⟩ := a
      have hspot : spot = none := by simpa [Addr.add] using World.cell?_spot (hq 0 (by omega))
      subst hspot
      rwa [Addr.add_lit] at this
end
end Go.Proofs.Ytiijnlblaalchaa
end
