import Derived.Test.YtkchddphmkgilaaQuV
namespace Go.Proofs.Ytkchddphmkgilaa
open Go.RowKit

theorem opF_bd {m : Int} (m1 : 1 ≤ m) (m8 : m ≤ 8) (i : Nat) (a : Int × Int) (r : Rr) (ha : 0 ≤ a.1 ∧ a.1 ≤ i ∧ 0 ≤ a.2 ∧ a.2 ≤ 8 * i) (h0 : 0 ≤ r.att) (h1 : r.att ≤ m) : 0 ≤ (opF m a r).1 ∧ (opF m a r).1 ≤ (i + 1 : Nat) ∧ 0 ≤ (opF m a r).2 ∧ (opF m a r).2 ≤ 8 * (i + 1 : Nat) := by
  unfold opF
  split
  · show 0 ≤ a.1 + 1 ∧ a.1 + 1 ≤ _ ∧ 0 ≤ a.2 + m - r.att ∧ a.2 + m - r.att ≤ _
    omega
  · omega
/-- what Find finds of a row's badge -/
theorem Ok.fnd_at {m : Int} {L : List Rr} (h : Ok m L) (k : Nat) (hk : k < L.length) : (0 < (L[k]).bdg ∧ fnd (L[k]).bdg L = L[k] ∧ (!decide (L[k] = rr0)) = true) ∨ ((L[k]).bdg = 0 ∧ fnd 0 L = rr0) := by
  have hz : ∀ i (hi : i < L.length), (L[i]).bdg = 0 → ¬ 0 < (L[i]).att := fun i hi e => by
    rcases h.bd i hi with ⟨a, _⟩ | ⟨_, a, _⟩ <;> omega
  have hb := h.bdg k hk
  by_cases h0 : 0 < (L[k]).bdg
  · left
    have ha : 0 < (L[k]).att := by
      rcases h.bd k hk with ⟨_, a⟩ | ⟨a, _, _⟩
      · omega
      · have := h.att k hk; omega
    refine ⟨h0, ?_, ?_⟩
    · rcases fnd_or (L[k]).bdg L with ⟨_, a⟩ | ⟨j, hj, a, b, c⟩
      · exact absurd ⟨ha, rfl⟩ (a k hk)
      · have := h.uni k j hk hj h0 c.symm
        subst this
        exact a
    · rw [decide_eq_false fun e => by rw [e] at h0; exact absurd h0 (by decide)]; rfl
  · right
    refine ⟨by omega, ?_⟩
    rcases fnd_or 0 L with ⟨a, _⟩ | ⟨j, hj, _, b, c⟩
    · exact a
    · exact absurd b (hz j hj c)
theorem Ok.fnd_0 {m : Int} {L : List Rr} (h : Ok m L) : fnd 0 L = rr0 := by
  rcases fnd_or 0 L with ⟨a, _⟩ | ⟨j, hj, _, b, c⟩
  · exact a
  · rcases h.bd j hj with ⟨a, _⟩ | ⟨_, a, _⟩ <;> omega
end Go.Proofs.Ytkchddphmkgilaa
