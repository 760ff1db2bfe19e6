import Derived.Test.YtkchddphmkgilaaQuH
namespace Go.Proofs.Ytkchddphmkgilaa
open Go.RowKit

/-- rows may be -/
structure ROk (m : Int) (L : List Rr) : Prop where
  len : L.length ≤ 8
  form : ∀ i (h : i < L.length), L[i] = fm ((i : Int) + 1) L[i]
  st : ∀ i (h : i < L.length), sMay m L[i]
  bd : ∀ i (h : i < L.length), bMay L[i]
  uni : ∀ i j (hi : i < L.length) (hj : j < L.length), 0 < (L[i]).bdg → (L[i]).bdg = (L[j]).bdg → i = j
/-- a queue may be -/
structure Ok (m : Int) (L : List Rr) : Prop extends ROk m L where
  m1 : 1 ≤ m
  m8 : m ≤ 8
theorem fm_job {k : Int} {r : Rr} (h : r = fm k r) : r.job = k := by
  have := congrArg Rr.job h
  rw [this]; unfold fm; split; rfl; split <;> rfl
theorem ROk.job {m : Int} {L : List Rr} (h : ROk m L) (i : Nat) (hi : i < L.length) : (L[i]).job = (i : Int) + 1 := fm_job (h.form i hi)
theorem shF_true (r : Rr) (l : List Rr) : l.foldl (shF r) true = true := by
  induction l with
  | nil => rfl
  | cons o l ih => rw [List.foldl_cons, show shF r true o = true from rfl]; exact ih
theorem shF_iff (r : Rr) (l : List Rr) : l.foldl (shF r) false = false ↔ ∀ o ∈ l, o = r ∨ o.bdg ≠ r.bdg := by
  induction l with
  | nil => simp
  | cons o l ih =>
    rw [List.foldl_cons]
    by_cases h : o = r ∨ o.bdg ≠ r.bdg
    · have : shF r false o = false := by
        unfold shF
        rcases h with h | h <;> simp [h]
      rw [this, ih]
      simp [h]
    · have h1 : o ≠ r ∧ o.bdg = r.bdg := by
        constructor
        · exact fun e => h (.inl e)
        · exact Classical.byContradiction fun e => h (.inr e)
      have : shF r false o = true := by unfold shF; simp [h1.1, h1.2]
      rw [this, shF_true]
      constructor
      · intro h2; cases h2
      · intro h2; exact absurd (h2 o (by simp)) h
theorem shr_iff (L : List Rr) (r : Rr) : shr L r = false ↔ (0 < r.bdg → ∀ o ∈ L, o = r ∨ o.bdg ≠ r.bdg) := by
  unfold shr
  by_cases h : 0 < r.bdg
  · rw [decide_eq_true h, Bool.true_and, shF_iff]
    exact ⟨fun h2 _ => h2, fun h2 => h2 h⟩
  · rw [decide_eq_false h, Bool.false_and]
    exact ⟨fun _ h2 => absurd h2 h, fun _ => rfl⟩
/-- all are counted -/
theorem gd_iff (m : Int) (L : List Rr) : ∀ (l : List Rr) (g : Int), l.foldl (gdF m L) g ≤ g + l.length ∧ (l.foldl (gdF m L) g = g + l.length ↔ ∀ i (h : i < l.length), gdP m L (g + i) l[i]) := by
  intro l
  induction l with
  | nil => intro g; simp
  | cons r l ih =>
    intro g
    rw [List.foldl_cons]
    by_cases h : gdP m L g r
    · have e : gdF m L g r = g + 1 := if_pos h
      obtain ⟨h1, h2⟩ := ih (g + 1)
      rw [e]
      refine ⟨by show _ ≤ g + ((l.length + 1 : Nat) : Int); omega, ?_⟩
      show _ = g + ((l.length + 1 : Nat) : Int) ↔ _
      rw [show g + ((l.length + 1 : Nat) : Int) = g + 1 + l.length by omega, h2]
      constructor
      · intro h3 i hi
        cases i with
        | zero => simpa using h
        | succ i =>
          have := h3 i (by simpa using hi)
          rw [show g + ((i + 1 : Nat) : Int) = g + 1 + i by omega]
          simpa using this
      · intro h3 i hi
        have := h3 (i + 1) (by simpa using hi)
        rw [show g + ((i + 1 : Nat) : Int) = g + 1 + i by omega] at this
        simpa using this
    · have e : gdF m L g r = g := if_neg h
      obtain ⟨h1, h2⟩ := ih g
      rw [e]
      refine ⟨by show _ ≤ g + ((l.length + 1 : Nat) : Int); omega, ?_⟩
      show _ = g + ((l.length + 1 : Nat) : Int) ↔ _
      constructor
      · intro h3; omega
      · intro h3
        have := h3 0 (by simp)
        simp at this
        exact absurd this h
theorem rok_iff (m : Int) (L : List Rr) (hl : L.length ≤ 8) : L.foldl (gdF m L) 0 = (L.length : Int) ↔ ROk m L := by
  have h := (gd_iff m L L 0).2
  rw [Int.zero_add] at h
  rw [h]
  constructor
  · intro h1
    have h2 : ∀ i (h : i < L.length), gdP m L (i : Int) L[i] := fun i hi => by have := h1 i hi; rwa [Int.zero_add] at this
    refine ⟨hl, fun i hi => (h2 i hi).1, fun i hi => (h2 i hi).2.1, fun i hi => (h2 i hi).2.2.1, fun i j hi hj hp he => ?_⟩
    have h3 := (shr_iff L L[i]).1 (h2 i hi).2.2.2 hp L[j] (List.getElem_mem hj)
    rcases h3 with h3 | h3
    · have e1 := fm_job (h2 i hi).1
      have e2 := fm_job (h2 j hj).1
      rw [h3, e1] at e2
      omega
    · exact absurd he.symm h3
  · intro h1 i hi
    rw [Int.zero_add]
    refine ⟨h1.form i hi, h1.st i hi, h1.bd i hi, (shr_iff L L[i]).2 fun hp o ho => ?_⟩
    obtain ⟨j, hj, rfl⟩ := List.getElem_of_mem ho
    by_cases he : (L[j]).bdg = (L[i]).bdg
    · left
      have := h1.uni i j hi hj hp he.symm
      subst this
      rfl
    · exact .inr he
theorem ROk.nil (m : Int) : ROk m [] := ⟨by decide, fun i h => absurd h (by simp), fun i h => absurd h (by simp), fun i h => absurd h (by simp), fun i j h => absurd h (by simp)⟩

/-- of a row that may be, its numbers -/
theorem Ok.att {m : Int} {L : List Rr} (h : Ok m L) (i : Nat) (hi : i < L.length) : 0 ≤ (L[i]).att ∧ (L[i]).att ≤ m := by
  have h1 := h.m1
  rcases h.st i hi with ⟨_, a, b⟩ | ⟨_, a, b, _⟩ | ⟨_, a, b, _⟩ | ⟨_, a⟩ <;> omega
theorem Ok.bdg {m : Int} {L : List Rr} (h : Ok m L) (i : Nat) (hi : i < L.length) : 0 ≤ (L[i]).bdg ∧ (L[i]).bdg ≤ 1099511627776 := by
  rcases h.bd i hi with ⟨_, a⟩ | ⟨_, a, b⟩ <;> omega
theorem fm_same {r : Rr} {k : Int} (h : r = fm k r) : (r.st ≠ 2 → r.node = 0 ∧ r.life = 0) ∧ (r.st ≠ 3 → r.code = 0 ∧ r.bits = 0) := by
  constructor
  · intro h2
    unfold fm at h
    rw [if_neg h2] at h
    split at h <;> (rw [h]; exact ⟨rfl, rfl⟩)
  · intro h3
    unfold fm at h
    split at h
    · rw [h]; exact ⟨rfl, rfl⟩
    · rw [h]
      exact ⟨rfl, rfl⟩

/-- where the row that a badge holds is -/
def hix (b : Int) : List Rr → Option Nat
  | [] => none
  | r :: l => if r.st = 2 ∧ r.bdg = b then some 0 else (hix b l).map (· + 1)
theorem hix_some {b : Int} : ∀ {l : List Rr} {i : Nat}, hix b l = some i → ∃ h : i < l.length, (l[i]).st = 2 ∧ (l[i]).bdg = b
  | [], i, h => by cases h
  | r :: l, i, h => by
    unfold hix at h
    split at h
    · rename_i h1; injection h with h; subst h; exact ⟨by simp, h1⟩
    · cases hq : hix b l with
      | none => rw [hq] at h; cases h
      | some k =>
        rw [hq] at h
        injection h with h
        subst h
        obtain ⟨h1, h2⟩ := hix_some hq
        exact ⟨by simpa using h1, by simpa using h2⟩
theorem hix_none {b : Int} : ∀ {l : List Rr}, hix b l = none → ∀ i (h : i < l.length), ¬ ((l[i]).st = 2 ∧ (l[i]).bdg = b)
  | [], _, i, hi => absurd hi (by simp)
  | r :: l, h, i, hi => by
    unfold hix at h
    split at h
    · cases h
    · rename_i h1
      have h2 : hix b l = none := by cases hq : hix b l with
        | none => rfl
        | some k => rw [hq] at h; cases h
      cases i with
      | zero => simpa using h1
      | succ i => simpa using hix_none h2 i (by simpa using hi)
/-- what Find finds -/
def fnd (b : Int) (L : List Rr) : Rr := L.foldl (fnF b) rr0
theorem fnF_or (b : Int) (l : List Rr) : ∀ (a : Rr), (l.foldl (fnF b) a = a ∧ ∀ i (h : i < l.length), ¬ (0 < (l[i]).att ∧ (l[i]).bdg = b)) ∨ ∃ i, ∃ h : i < l.length, l.foldl (fnF b) a = l[i] ∧ 0 < (l[i]).att ∧ (l[i]).bdg = b := by
  induction l with
  | nil => intro a; exact .inl ⟨rfl, fun i h => absurd h (by simp)⟩
  | cons r l ih =>
    intro a
    rw [List.foldl_cons]
    rcases ih (fnF b a r) with ⟨h1, h2⟩ | ⟨i, hi, h1, h2⟩
    · by_cases h : 0 < r.att ∧ r.bdg = b
      · right
        refine ⟨0, by simp, ?_, by simpa using h⟩
        rw [h1]; show fnF b a r = r
        exact if_pos h
      · left
        refine ⟨by rw [h1]; exact if_neg h, fun i hi => ?_⟩
        cases i with
        | zero => simpa using h
        | succ i => simpa using h2 i (by simpa using hi)
    · right
      exact ⟨i + 1, by simpa using hi, by simpa using h1, by simpa using h2⟩
theorem fnd_or (b : Int) (L : List Rr) : (fnd b L = rr0 ∧ ∀ i (h : i < L.length), ¬ (0 < (L[i]).att ∧ (L[i]).bdg = b)) ∨ ∃ i, ∃ h : i < L.length, fnd b L = L[i] ∧ 0 < (L[i]).att ∧ (L[i]).bdg = b := fnF_or b L rr0
theorem held_pos {m : Int} {L : List Rr} (h : ROk m L) (i : Nat) (hi : i < L.length) (h2 : (L[i]).st = 2) : 1 ≤ (L[i]).att ∧ 1 ≤ (L[i]).bdg := by
  have ha : 1 ≤ (L[i]).att := by
    rcases h.st i hi with ⟨a, _⟩ | ⟨_, a, _⟩ | ⟨a, _⟩ | ⟨a, _⟩
    · rw [a] at h2; cases h2
    · exact a
    · rw [a] at h2; cases h2
    · rw [a] at h2; cases h2
  refine ⟨ha, ?_⟩
  rcases h.bd i hi with ⟨a, _⟩ | ⟨_, a, _⟩
  · omega
  · exact a
/-- held, told by Find -/
theorem hld_some {m : Int} {L : List Rr} (h : ROk m L) {b : Int} {i : Nat} (hx : hix b L = some i) : ∃ hi : i < L.length, fnd b L = L[i] ∧ (L[i]).st = 2 ∧ (L[i]).bdg = b := by
  obtain ⟨hi, h2, hb⟩ := hix_some hx
  obtain ⟨ha, hb1⟩ := held_pos h i hi h2
  refine ⟨hi, ?_, h2, hb⟩
  rcases fnd_or b L with ⟨_, h3⟩ | ⟨j, hj, h3, h4, h5⟩
  · exact absurd ⟨by omega, hb⟩ (h3 i hi)
  · have := h.uni i j hi hj (by omega) (by rw [hb, h5])
    subst this
    exact h3
theorem hld_none {m : Int} {L : List Rr} (_ : ROk m L) {b : Int} (hx : hix b L = none) : (fnd b L).st ≠ 2 := by
  rcases fnd_or b L with ⟨h3, _⟩ | ⟨j, hj, h3, h4, h5⟩
  · rw [h3]; decide
  · rw [h3]
    intro h2
    exact hix_none hx j hj ⟨h2, h5⟩
/-- the head -/
def hd (L : List Rr) : Int := L.foldl hdF 0
theorem hdF_keep {h : Int} (l : List Rr) (h0 : h ≠ 0) : l.foldl hdF h = h := by
  induction l with
  | nil => rfl
  | cons r l ih => rw [List.foldl_cons, show hdF h r = h from if_neg fun x => h0 x.1]; exact ih
end Go.Proofs.Ytkchddphmkgilaa
