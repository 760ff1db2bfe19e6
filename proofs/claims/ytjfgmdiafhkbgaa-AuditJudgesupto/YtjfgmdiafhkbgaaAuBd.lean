import Derived.Test.YtjfgmdiafhkbgaaAuAb
namespace Go.Proofs.Ytjfgmdiafhkbgaa
open Go.RowKit Go.MapKept
set_option maxRecDepth 8000

theorem take_get (l : List Ev) {n j : Nat} (hj : j < n) (hn : n ≤ l.length) : (l.take n)[j]! = l[j]! := by
  have hl : (l.take n).length = n := by rw [List.length_take]; omega
  rw [getElem!_pos (l.take n) j (by omega), getElem!_pos l j (by omega), List.getElem_take]
theorem hN_take (l : List Ev) {n : Nat} (hn : n ≤ l.length) : ∀ i, i ≤ n → hN (l.take n) i = hN l i
  | 0, _ => rfl
  | i + 1, hi => by
    show stp (hN (l.take n) i) _ = stp (hN l i) _
    rw [hN_take l hn i (by omega), take_get l (by omega) hn]
theorem allN_take (l : List Ev) {n : Nat} (hn : n ≤ l.length) : ∀ i, i ≤ n → allN (l.take n) i = allN l i
  | 0, _ => rfl
  | i + 1, hi => by
    show allN (l.take n) i ++ flts (stR (hN (l.take n) i) _) i 9 = allN l i ++ flts (stR (hN l i) _) i 9
    rw [allN_take l hn i (by omega), hN_take l hn i (by omega), take_get l (by omega) hn]
/-- the order of faults -/
def Ord (x y : Nat × Nat) : Prop := x.2 < y.2 ∨ x.2 = y.2 ∧ x.1 < y.1
theorem flts_mem {r : Ru} {i : Nat} {x : Nat × Nat} (h : x ∈ flts r i 9) : x.2 = i ∧ 1 ≤ x.1 ∧ x.1 ≤ 8 := by
  unfold flts at h
  obtain ⟨j, hj, rfl⟩ := List.mem_map.1 h
  obtain ⟨h1, h2⟩ := List.mem_filter.1 hj
  have h3 := List.mem_range.1 h1
  refine ⟨rfl, ?_, by show j ≤ 8; omega⟩
  show 1 ≤ j
  rcases Nat.eq_zero_or_pos j with rfl | h0
  · cases h2
  · exact h0
theorem flts_pair (r : Ru) (i n : Nat) : (flts r i n).Pairwise Ord := by
  unfold flts
  rw [List.pairwise_map]
  exact (List.Pairwise.filter _ List.pairwise_lt_range).imp fun h => Or.inr ⟨rfl, h⟩
theorem allN_mem (l : List Ev) {x : Nat × Nat} : ∀ {i}, x ∈ allN l i → x.2 < i ∧ 1 ≤ x.1 ∧ x.1 ≤ 8
  | 0, h => by cases h
  | i + 1, h => by
    rcases List.mem_append.1 h with h | h
    · obtain ⟨h1, h2, h3⟩ := allN_mem l h
      exact ⟨by omega, h2, h3⟩
    · obtain ⟨h1, h2, h3⟩ := flts_mem h
      exact ⟨by omega, h2, h3⟩
theorem allN_pair (l : List Ev) : ∀ i, (allN l i).Pairwise Ord
  | 0 => List.Pairwise.nil
  | i + 1 => List.pairwise_append.2 ⟨allN_pair l i, flts_pair _ _ _, fun x hx y hy => by
      have h1 := allN_mem l hx
      have h2 := flts_mem hy
      exact Or.inl (by omega)⟩
theorem allN_pre (l : List Ev) {n : Nat} : ∀ m, n ≤ m → ∃ t, allN l m = allN l n ++ t ∧ ∀ x ∈ t, n ≤ x.2
  | 0, h => by
    obtain rfl : n = 0 := by omega
    exact ⟨[], by simp, fun x h => by cases h⟩
  | m + 1, h => by
    by_cases hm : n = m + 1
    · subst hm
      exact ⟨[], by simp, fun x h => by cases h⟩
    · obtain ⟨t, ht, hx⟩ := allN_pre l (n := n) m (by omega)
      refine ⟨t ++ flts (stR (hN l m) l[m]!) m 9, ?_, fun x h => ?_⟩
      · show allN l m ++ _ = _
        rw [ht, List.append_assoc]
      · rcases List.mem_append.1 h with h | h
        · exact hx x h
        · have := flts_mem h; omega
theorem allE_zero {l : List Ev} (h : allE l = 0) : l.length ≤ 65536 ∧ l.all okE = true := by
  unfold allE at h
  split at h
  · cases h
  · split at h
    · rename_i h1 h2; exact ⟨by omega, h2⟩
    · cases h
theorem allE_or {l : List Ev} (h : ¬ allE l = 0) : allE l = 210 ∨ allE l = 211 := by
  unfold allE at h ⊢
  split
  · exact Or.inl rfl
  · split
    · rename_i h1 h2; rw [if_neg h1, if_pos h2] at h; exact absurd rfl h
    · exact Or.inr rfl
theorem allE_take {l : List Ev} (h : allE l = 0) {n : Nat} (hn : n ≤ l.length) : allE (l.take n) = 0 := by
  obtain ⟨h1, h2⟩ := allE_zero h
  have hl : (l.take n).length = n := by rw [List.length_take]; omega
  unfold allE
  rw [if_neg (by omega), if_pos]
  rw [List.all_eq_true] at h2 ⊢
  exact fun x hx => h2 x (List.mem_of_mem_take hx)
theorem allL_take {l : List Ev} (h : allE l = 0) {n : Nat} (hn : n ≤ l.length) : allL (l.take n) = allN l n := by
  have hl : (l.take n).length = n := by rw [List.length_take]; omega
  unfold allL
  rw [if_pos (allE_take h hn), hl, allN_take l hn n (Nat.le_refl _)]
/-- what AuditBegins asks of the faults -/
theorem begins_pure {l : List Ev} (h : allE l = 0) {n : Nat} (hn : n ≤ l.length) :
    (allN l n).length ≤ (allL l).length ∧ allN l n = (allL l).take (allN l n).length ∧ ∀ i, i < (allL l).length → (((allL l)[i]!).2 < n → i < (allN l n).length) ∧ ((allL l)[i]!).2 < l.length ∧ 1 ≤ ((allL l)[i]!).1 ∧ ((allL l)[i]!).1 ≤ 8 ∧ (0 < i → Ord (allL l)[i - 1]! (allL l)[i]!) := by
  have e : allL l = allN l l.length := by unfold allL; rw [if_pos h]
  rw [e]
  obtain ⟨t, ht, hx⟩ := allN_pre l (n := n) l.length hn
  refine ⟨by rw [ht, List.length_append]; omega, by rw [ht, List.take_left], fun i hi => ?_⟩
  have hm : (allN l l.length)[i]! ∈ allN l l.length := by rw [getElem!_pos _ i hi]; exact List.getElem_mem hi
  obtain ⟨h1, h2, h3⟩ := allN_mem l hm
  refine ⟨fun h4 => ?_, h1, h2, h3, fun h0 => ?_⟩
  · refine Decidable.byContradiction fun hc => ?_
    have : (allN l l.length)[i]! ∈ t := by
      rw [getElem!_pos _ i hi]
      have hh : (allN l l.length)[i] = t[i - (allN l n).length]'(by rw [ht, List.length_append] at hi; omega) := by
        simp only [ht]
        rw [List.getElem_append_right (by omega)]
      rw [hh]
      exact List.getElem_mem _
    have := hx _ this
    omega
  · have := List.pairwise_iff_getElem.1 (allN_pair l l.length) (i - 1) i (by omega) hi (by omega)
    rwa [getElem!_pos _ i hi, getElem!_pos _ (i - 1) (by omega)]
end Go.Proofs.Ytjfgmdiafhkbgaa
