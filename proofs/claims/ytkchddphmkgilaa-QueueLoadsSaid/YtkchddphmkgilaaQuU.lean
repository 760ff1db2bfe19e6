import Derived.Test.YtkchddphmkgilaaQuT
namespace Go.Proofs.Ytkchddphmkgilaa
open Go.RowKit

/-- the head, by the rows -/
theorem hdF_or (l : List Rr) (hj : ∀ r ∈ l, r.job ≠ 0) : (l.foldl hdF 0 = 0 ∧ ∀ r ∈ l, r.st ≠ 1) ∨ ∃ i, ∃ h : i < l.length, l.foldl hdF 0 = (l[i]).job ∧ (l[i]).st = 1 ∧ ∀ k (_ : k < i) (hk : k < l.length), (l[k]).st ≠ 1 := by
  induction l with
  | nil => exact .inl ⟨rfl, by simp⟩
  | cons r l ih =>
    rw [List.foldl_cons]
    by_cases h1 : r.st = 1
    · rw [show hdF 0 r = r.job from if_pos ⟨rfl, h1⟩, hdF_keep l (hj r (by simp))]
      exact .inr ⟨0, by simp, rfl, h1, fun k hk => absurd hk (by omega)⟩
    · rw [show hdF 0 r = 0 from if_neg fun x => h1 x.2]
      rcases ih fun x hx => hj x (by simp [hx]) with ⟨a, b⟩ | ⟨i, hi, a, b, c⟩
      · refine .inl ⟨a, fun x hx => ?_⟩
        rcases List.mem_cons.1 hx with e | e
        · rw [e]; exact h1
        · exact b x e
      · refine .inr ⟨i + 1, by simpa using hi, by simpa using a, by simpa using b, fun k hk hk2 => ?_⟩
        cases k with
        | zero => simpa using h1
        | succ k => simpa using c k (by omega) (by simpa using hk2)
theorem ROk.hd_or {m : Int} {L : List Rr} (h : ROk m L) : (hd L = 0 ∧ ∀ i (hi : i < L.length), (L[i]).st ≠ 1) ∨ ∃ i, ∃ hi : i < L.length, hd L = (i : Int) + 1 ∧ (L[i]).st = 1 ∧ ∀ k (_ : k < i) (hk : k < L.length), (L[k]).st ≠ 1 := by
  have hj : ∀ r ∈ L, r.job ≠ 0 := fun r hr => by
    obtain ⟨i, hi, rfl⟩ := List.getElem_of_mem hr
    have := h.job i hi; omega
  rcases hdF_or L hj with ⟨a, b⟩ | ⟨i, hi, a, b, c⟩
  · exact .inl ⟨a, fun i hi => b _ (List.getElem_mem hi)⟩
  · exact .inr ⟨i, hi, by rw [← h.job i hi]; exact a, b, c⟩
/-- attempts, together -/
def sA : List Rr → Int
  | [] => 0
  | r :: l => r.att + sA l
theorem sA_set (l : List Rr) : ∀ (i : Nat) (r : Rr) (h : i < l.length), sA (l.set i r) = sA l - (l[i]).att + r.att := by
  induction l with
  | nil => intro i r h; simp at h
  | cons x l ih =>
    intro i r h
    cases i with
    | zero => simp [sA]; omega
    | succ i =>
      have := ih i r (by simpa using h)
      simp [sA]; omega
theorem sA_append (l : List Rr) (r : Rr) : sA (l ++ [r]) = sA l + r.att := by
  induction l with
  | nil => simp [sA]
  | cons x l ih => simp [sA, ih]; omega
theorem sA_le (l : List Rr) {a b : Int} (h : ∀ r ∈ l, a ≤ r.att ∧ r.att ≤ b) : a * l.length ≤ sA l ∧ sA l ≤ b * l.length := by
  induction l with
  | nil => simp [sA]
  | cons x l ih =>
    have h1 := ih fun r hr => h r (by simp [hr])
    have h2 := h x (by simp)
    simp only [List.length_cons, sA, Int.natCast_add, Int.mul_add]
    omega
/-- what QueueEnds goes through -/
structure En (m : Int) (L : List Rr) (g : Int) : Prop where
  ok : Ok m L
  st : ∀ i (h : i < L.length), (L[i]).st = 1 ∨ (L[i]).st = 4
  gb : ∀ i (h : i < L.length), (L[i]).bdg ≤ g
  g0 : 0 ≤ g
  sum : 2 * sA L = g
theorem En.le {m : Int} {L : List Rr} {g : Int} (h : En m L g) : g ≤ 128 := by
  have h1 := (sA_le L (a := 0) (b := 8) fun r hr => by
    obtain ⟨i, hi, rfl⟩ := List.getElem_of_mem hr
    have := h.ok.att i hi; have := h.ok.m8; omega).2
  have h2 := h.ok.len
  have h3 := h.sum
  omega
theorem gb_le {L : List Rr} {g : Int} (h0 : 0 ≤ g) (h : ∀ i (hi : i < L.length), (L[i]).bdg ≤ g) : gb L ≤ g := by
  have : ∀ (l : List Rr) (a : Int), a ≤ g → (∀ r ∈ l, r.bdg ≤ g) → l.foldl gbF a ≤ g := by
    intro l
    induction l with
    | nil => intro a ha _; exact ha
    | cons r l ih =>
      intro a ha hl
      rw [List.foldl_cons]
      refine ih _ ?_ fun x hx => hl x (by simp [hx])
      have := hl r (by simp)
      unfold gbF; split <;> omega
  exact this L 0 h0 fun r hr => by obtain ⟨i, hi, rfl⟩ := List.getElem_of_mem hr; exact h i hi
theorem En.push {m : Int} {L : List Rr} (h : En m L 0) (hl : L.length < 8) : En m (L ++ [nrow ((L.length : Int) + 1)]) 0 := by
  have get : ∀ j (hj : j < (L ++ [nrow ((L.length : Int) + 1)]).length), (L ++ [nrow ((L.length : Int) + 1)])[j] = nrow ((L.length : Int) + 1) ∨ ∃ hj' : j < L.length, (L ++ [nrow ((L.length : Int) + 1)])[j] = L[j] := fun j hj => by
    by_cases e : j < L.length
    · exact .inr ⟨e, List.getElem_append_left e⟩
    · have : j = L.length := by simp at hj; omega
      subst this
      exact .inl (by simp)
  refine ⟨h.ok.push hl, fun j hj => ?_, fun j hj => ?_, Int.le_refl _, ?_⟩
  · rcases get j hj with g | ⟨hj', g⟩
    · rw [g]; exact .inl rfl
    · rw [g]; exact h.st j hj'
  · rcases get j hj with g | ⟨hj', g⟩
    · rw [g]; exact Int.le_refl _
    · rw [g]; exact h.gb j hj'
  · rw [sA_append]; have := h.sum; show 2 * (sA L + 0) = 0; omega
theorem En.nil {m : Int} (h : Ok m []) : En m [] 0 := ⟨h, fun i h => absurd h (by simp), fun i h => absurd h (by simp), Int.le_refl _, rfl⟩
theorem rowR_at {L : List Rr} {i : Nat} (hi : i < L.length) : rowR L ((i : Int) + 1) = L[i] := by
  obtain ⟨h1, h2⟩ := rowR_in (L := L) (j := (i : Int) + 1) (by omega)
  rw [h2]; congr 1; omega
/-- one attempt that ends -/
theorem En.step {m : Int} {L : List Rr} {g : Int} (h : En m L g) (hp : 0 < hd L) : ∃ i, ∃ hi : i < L.length, hd L = (i : Int) + 1 ∧
    grE L ((i : Int) + 1) (g + 2) 3 2 = 0 ∧ grL L ((i : Int) + 1) (g + 2) 3 2 = L.set i (grt L[i] (g + 2) 3 2) ∧ Ok m (L.set i (grt L[i] (g + 2) 3 2)) ∧
    grE (L.set i (grt L[i] (g + 2) 3 2)) ((i : Int) + 1) (g + 2 + 1) 3 2 = 112 ∧ grL (L.set i (grt L[i] (g + 2) 3 2)) ((i : Int) + 1) (g + 2 + 1) 3 2 = L.set i (grt L[i] (g + 2) 3 2) ∧
    exJ (L.set i (grt L[i] (g + 2) 3 2)) (g + 2) = (i : Int) + 1 ∧ exE (L.set i (grt L[i] (g + 2) 3 2)) (g + 2) = 0 ∧ exL m (L.set i (grt L[i] (g + 2) 3 2)) (g + 2) = L.set i (xp m (grt L[i] (g + 2) 3 2)) ∧
    En m (L.set i (xp m (grt L[i] (g + 2) 3 2))) (g + 2) ∧ rowR L ((i : Int) + 1) = L[i] ∧ rowR (L.set i (xp m (grt L[i] (g + 2) 3 2))) ((i : Int) + 1) = xp m (grt L[i] (g + 2) 3 2) := by
  have hle := h.le
  have hg0 := h.g0
  rcases h.ok.toROk.hd_or with ⟨a, _⟩ | ⟨i, hi, a, b, _⟩
  · omega
  have hr := rowR_at hi
  have hgb := gb_le h.g0 h.gb
  have hE : grE L ((i : Int) + 1) (g + 2) 3 2 = 0 := by
    unfold grE
    rw [if_neg (by omega), if_neg (by rw [hr, b]; decide), if_neg (by omega), if_neg (by decide)]
  have hL : grL L ((i : Int) + 1) (g + 2) 3 2 = L.set i (grt L[i] (g + 2) 3 2) := by
    unfold grL
    rw [hE, if_pos rfl, hr, show ((i : Int) + 1 - 1).toNat = i by omega]
  have hO : Ok m (L.set i (grt L[i] (g + 2) 3 2)) := by rw [← hL]; exact h.ok.grant hE
  obtain ⟨L1, hL1⟩ : ∃ L1, L.set i (grt L[i] (g + 2) 3 2) = L1 := ⟨_, rfl⟩
  have hi1 : i < L1.length := by rw [← hL1, List.length_set]; exact hi
  have g1 : L1[i] = grt L[i] (g + 2) 3 2 := by subst hL1; simp
  have hx : hix (g + 2) L1 = some i := by
    cases hx : hix (g + 2) L1 with
    | none => exact absurd ⟨by rw [g1]; rfl, by rw [g1]; rfl⟩ (hix_none hx i hi1)
    | some j =>
      obtain ⟨hj, _, h4⟩ := hix_some hx
      have := (hL1 ▸ hO : Ok m L1).uni j i hj hi1 (by omega) (by rw [h4, g1]; rfl)
      rw [this]
  have hgd : L1.getD i rr0 = grt L[i] (g + 2) 3 2 := by rw [List.getD_eq_getElem?_getD, List.getElem?_eq_getElem hi1]; exact g1
  have hE2 : grE L1 ((i : Int) + 1) (g + 2 + 1) 3 2 = 112 := by
    unfold grE
    rw [if_neg (by omega), if_pos (by rw [rowR_at hi1, g1]; show (2 : Int) ≠ 1; decide)]
  have hX : exL m L1 (g + 2) = L.set i (xp m (grt L[i] (g + 2) 3 2)) := by
    unfold exL; rw [hx]; simp only [hgd]; rw [← hL1, List.set_set]
  have hO2 : Ok m (L.set i (xp m (grt L[i] (g + 2) 3 2))) := by rw [← hX]; exact (hL1 ▸ hO : Ok m L1).expire _
  refine ⟨i, hi, a, hE, hL, hO, by rw [hL1]; exact hE2, by rw [hL1]; unfold grL; rw [hE2]; rfl, by rw [hL1]; unfold exJ; rw [hx], by rw [hL1]; unfold exE; rw [hx], by rw [hL1]; exact hX, ⟨hO2, fun j hj => ?_, fun j hj => ?_, by omega, ?_⟩, hr, by rw [rowR_at (by rw [List.length_set]; exact hi)]; simp⟩
  · by_cases e : i = j
    · subst e
      rw [List.getElem_set_self]
      unfold xp
      show (if _ then (4 : Int) else 1) = 1 ∨ (if _ then (4 : Int) else 1) = 4
      split <;> simp
    · rw [List.getElem_set_ne e]; exact h.st j (by simpa using hj)
  · by_cases e : i = j
    · subst e
      rw [List.getElem_set_self]
      exact Int.le_refl _
    · rw [List.getElem_set_ne e]; have := h.gb j (by simpa using hj); omega
  · rw [sA_set _ _ _ hi]
    have := h.sum
    show 2 * (sA L - (L[i]).att + ((L[i]).att + 1)) = g + 2
    omega
/-- when none is queued, all are lost -/
theorem En.fin {m : Int} {L : List Rr} {g : Int} (h : En m L g) (hp : ¬ 0 < hd L) : (∀ i (hi : i < L.length), (L[i]).st = 4 ∧ (L[i]).att = m) ∧ g = 2 * (m * L.length) := by
  have h4 : ∀ i (hi : i < L.length), (L[i]).st = 4 ∧ (L[i]).att = m := fun i hi => by
    rcases h.ok.toROk.hd_or with ⟨_, b⟩ | ⟨j, hj, a, _⟩
    · rcases h.st i hi with e | e
      · exact absurd e (b i hi)
      · refine ⟨e, ?_⟩
        rcases h.ok.st i hi with ⟨a, _⟩ | ⟨a, _⟩ | ⟨a, _⟩ | ⟨_, a⟩
        · rw [e] at a; cases a
        · rw [e] at a; cases a
        · rw [e] at a; cases a
        · exact a
    · omega
  refine ⟨h4, ?_⟩
  have h1 := sA_le L (a := m) (b := m) fun r hr => by
    obtain ⟨i, hi, rfl⟩ := List.getElem_of_mem hr
    rw [(h4 i hi).2]; exact ⟨Int.le_refl _, Int.le_refl _⟩
  have h2 := h.sum
  omega
end Go.Proofs.Ytkchddphmkgilaa
