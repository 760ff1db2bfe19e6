import Derived.Test.YtkchddphmkgilaaQuV
import Derived.Deep.DeepCutAuto
import Derived.Deep.CutBlock
import Derived.Deep.LoopGhost
namespace Go.Proofs.Ytkchddphmkgilaa
open Go.RowKit

/-- a call of QueueStays' script: what is none of three settles -/
def kd (o : Rr) : Rr := if o.st = 0 ∨ o.st = 2 ∨ o.st = 3 then o else ⟨o.job, 4, o.att, o.bdg, o.node, o.life, o.code, o.bits⟩
/-- rows only grow, and what is settled stays -/
theorem Ok.later {m : Int} {L : List Rr} (h : Ok m L) (o : Rr) : L.length ≤ (dsL m L o).length ∧ ∀ k (hk : k < L.length), ∃ hk' : k < (dsL m L o).length, (((L[k]).st = 3 ∨ (L[k]).st = 4) → (dsL m L o)[k] = L[k]) ∧ (L[k]).att ≤ ((dsL m L o)[k]).att ∧ (L[k]).bdg ≤ ((dsL m L o)[k]).bdg := by
  rcases h.step o with ⟨_, b⟩ | ⟨_, r, b⟩ | ⟨_, i, r, hi, b, c, d, e, f⟩
  · rw [b]
    exact ⟨Nat.le_refl _, fun k hk => ⟨hk, fun _ => rfl, Int.le_refl _, Int.le_refl _⟩⟩
  · rw [b]
    refine ⟨by simp, fun k hk => ⟨by simp; omega, ?_⟩⟩
    rw [List.getElem_append_left hk]
    exact ⟨fun _ => rfl, Int.le_refl _, Int.le_refl _⟩
  · rw [b]
    refine ⟨by simp, fun k hk => ⟨by simpa using hk, ?_⟩⟩
    by_cases hik : i = k
    · subst hik
      rw [List.getElem_set_self]
      exact ⟨fun g => by omega, e, d⟩
    · rw [List.getElem_set_ne hik]
      exact ⟨fun _ => rfl, Int.le_refl _, Int.le_refl _⟩
theorem gb_at (L : List Rr) : gb L = 0 ∨ ∃ i, ∃ hi : i < L.length, gb L = (L[i]).bdg := by
  have : ∀ (l : List Rr) (a : Int), l.foldl gbF a = a ∨ ∃ r ∈ l, l.foldl gbF a = r.bdg := by
    intro l
    induction l with
    | nil => intro a; exact .inl rfl
    | cons x l ih =>
      intro a
      rw [List.foldl_cons]
      rcases ih (gbF a x) with h1 | ⟨r, h1, h2⟩
      · by_cases h3 : a < x.bdg
        · right; exact ⟨x, by simp, by rw [h1]; unfold gbF; rw [if_pos h3]⟩
        · left; rw [h1]; unfold gbF; rw [if_neg h3]
      · right; exact ⟨r, by simp [h1], h2⟩
  rcases this L 0 with h1 | ⟨r, h1, h2⟩
  · exact .inl h1
  · obtain ⟨i, hi, rfl⟩ := List.getElem_of_mem h1
    exact .inr ⟨i, hi, h2⟩
theorem Ok.gb_mono {m : Int} {L : List Rr} (h : Ok m L) (o : Rr) : gb L ≤ gb (dsL m L o) := by
  rcases gb_at L with h1 | ⟨i, hi, h1⟩
  · rw [h1]; exact (gb_ge _).1
  · obtain ⟨hk, _, _, h3⟩ := (h.later o).2 i hi
    have := (gb_ge (dsL m L o)).2 i hk
    omega
theorem grant_gb {L : List Rr} {j g n l : Int} (h : grE L j g n l = 0) : gb L < g ∧ g ≤ gb (grL L j g n l) := by
  obtain ⟨hj, h1, hg, _, _⟩ := grE_0 h
  obtain ⟨hi, e⟩ := rowR_in hj
  refine ⟨hg, ?_⟩
  have hL : grL L j g n l = L.set (j - 1).toNat (grt (rowR L j) g n l) := by unfold grL; rw [h]; rfl
  rw [hL]
  have := (gb_ge (L.set (j - 1).toNat (grt (rowR L j) g n l))).2 (j - 1).toNat (by rw [List.length_set]; exact hi)
  rw [List.getElem_set_self] at this
  exact this
end Go.Proofs.Ytkchddphmkgilaa
