import Derived.Test.YthnmjjlbocofbaaQuX
import Derived.Carry
namespace Go.Proofs.Ythnmjjlbocofbaa
open Go.ChangeShapes Go.WideShapes Go.ChangeAt Go.RowKit Go.Deep

section
variable {H : Type} {enc : TypeId × Value → H}
theorem bulk_pos (d : DataW H) : 1 ≤ Rows.uptoBulk d := by
  cases d with
  | lit l => cases l <;> simp [Rows.uptoBulk]
  | _ => simp [Rows.uptoBulk]
theorem bulk_len (l : List (DataW H)) : l.length ≤ Rows.uptoBulkAll l := by
  induction l with
  | nil => simp [Rows.uptoBulkAll]
  | cons d l ih => simp only [Rows.uptoBulkAll, List.length_cons]; have := bulk_pos d; omega
theorem bulk_slice {d : DataW H} (hk : Rows.uptoBulk d ≤ 1048576) : ∀ el sp, d = .slice el sp → el.length ≤ 1048576 := fun el sp e => by
  subst e
  simp only [Rows.uptoBulk] at hk
  have := bulk_len el
  omega
/-- rows, opened, with their bulk -/
theorem rows_small {W : World} {n : Nat} {v : Value} {x : DataW H × List MemPlace} (h : DataW.trod enc Try.prog W 0 (fun _ => true) true n 35 [v] = some x) (hk : Rows.uptoBulk x.1 ≤ 1048576) :
    ∃ (ad : Option Addr) (cap ab ao : Nat) (l : List Rr), v = .slice ad l.length cap ∧ Rs W ad ab ao l ∧ l.length ≤ 1048576 ∧ ∀ i (h : i < l.length), -9223372036854775808 ≤ (l[i]).job ∧ (l[i]).job ≤ 9223372036854775807 := by
  obtain ⟨ad, cap, ab, ao, l, hv, hO, _, hj⟩ := rows_at h (fun el sp e => by have := bulk_slice hk el sp e; omega)
  refine ⟨ad, cap, ab, ao, l, hv, hO, ?_, hj⟩
  rcases open_slice (cs := [v]) Try.underlying35 h with ⟨hc, _⟩ | ⟨a, len, cap', m, k, D, Pl, hc, _, hl, hm, hmm, hx, hall⟩
  · simp only [List.cons.injEq, and_true] at hc
    rw [hv] at hc
    injection hc with _ h2 _
    omega
  · simp only [List.cons.injEq, and_true] at hc
    rw [hv] at hc
    injection hc with _ h2 _
    have := bulk_slice hk _ _ (by rw [hx])
    rw [range_len] at this
    omega
theorem ops_small {W : World} {n : Nat} {v : Value} {x : DataW H × List MemPlace} (h : DataW.trod enc Try.prog W 0 (fun _ => true) true n 22 [v] = some x) (hk : Rows.uptoBulk x.1 ≤ 1048576) :
    ∃ (ad : Option Addr) (cap ab ao : Nat) (l : List Rr), v = .slice ad l.length cap ∧ Rs W ad ab ao l ∧ l.length ≤ 1048576 ∧ ∀ i (h : i < l.length), -9223372036854775808 ≤ (l[i]).job ∧ (l[i]).job ≤ 9223372036854775807 := by
  obtain ⟨ad, cap, ab, ao, l, hv, hO, _, hj⟩ := ops_at h (fun el sp e => by have := bulk_slice hk el sp e; omega)
  refine ⟨ad, cap, ab, ao, l, hv, hO, ?_, hj⟩
  rcases open_slice (cs := [v]) Try.underlying22 h with ⟨hc, _⟩ | ⟨a, len, cap', m, k, D, Pl, hc, _, hl, hm, hmm, hx, hall⟩
  · simp only [List.cons.injEq, and_true] at hc
    rw [hv] at hc
    injection hc with _ h2 _
    omega
  · simp only [List.cons.injEq, and_true] at hc
    rw [hv] at hc
    injection hc with _ h2 _
    have := bulk_slice hk _ _ (by rw [hx])
    rw [range_len] at this
    omega
end
end Go.Proofs.Ythnmjjlbocofbaa
