import Derived.Test.YtcadelkinbdfhaaMgAR
import Derived.Test.YtcadelkinbdfhaaMgAS
import Derived.Deep.CondSized

section
namespace Go.Proofs.Ytcadelkinbdfhaa
open Go.ChangeShapes Go.WideShapes Go.ChangeAt Go.RowKit Go.Deep
open Rc (L V Ch)

section
variable {H : Type} {enc : TypeId × Value → H}
theorem bulk_pos (d : DataW H) : 1 ≤ Rows.uptoBulk d := by
  cases d with
  | lit l => cases l <;> simp [Rows.uptoBulk]
  | _ => simp [Rows.uptoBulk]
theorem bulk_len (l : List (DataW H)) : l.length ≤ Rows.uptoBulkAll l := by
  induction l with
  | nil => simp [Rows.uptoBulkAll]
  | cons d l ih => simp only [Rows.uptoBulkAll, List.length_cons]; have := bulk_pos d; omega
/-- a row's form and length -/
theorem row_form {W : World} {n : Nat} {v : Value} {x : DataW H × List MemPlace} (h : DataW.trod enc Try.prog W 0 (fun _ => true) true n 22 [v] = some x) (hk : Rows.uptoBulk x.1 ≤ 1048576) {l : List Ch} (hR : Rw W v l) :
    (∀ cap, v = .slice none l.length cap → cap = 0) ∧ l.length ≤ 1048576 := by
  obtain ⟨p, cap0, hv, _⟩ := hR.form
  rcases open_slice (cs := [v]) Try.underlying22 h with ⟨hc, _⟩ | ⟨a, len, cap, m, k, E, Pl, hc, _, hl, hm, hmm, hx, hall⟩
  · simp only [List.cons.injEq, and_true] at hc
    rw [hc] at hv
    injection hv with e1 e2 e3
    refine ⟨fun cap h9 => ?_, by omega⟩
    rw [hc] at h9
    injection h9 with _ _ h9
    exact h9.symm
  · simp only [List.cons.injEq, and_true] at hc
    rw [hc] at hv
    injection hv with e1 e2 e3
    refine ⟨fun cap h9 => (by
      rw [hc] at h9
      injection h9 with h9 _ _
      exact absurd h9 (by simp)), ?_⟩
    rw [hx] at hk
    simp only [Rows.uptoBulk] at hk
    have := bulk_len ((List.range len).map E)
    rw [List.length_map, List.length_range] at this
    omega
end
end Go.Proofs.Ytcadelkinbdfhaa
end
