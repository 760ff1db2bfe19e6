import Derived.Test.YtepondcflkledaaGreatMgAN

section
namespace Go.Proofs.YtepondcflkledaaGreat.Q
set_option maxRecDepth 20000
open Go.RowKit

theorem fm_of {k : Int} {r : Rr} (hj : r.job = k) (h2 : r.st ≠ 2 → r.node = 0 ∧ r.life = 0) (h3 : r.st ≠ 3 → r.code = 0 ∧ r.bits = 0) : r = fm k r := by
  obtain ⟨job, st, att, bdg, node, life, code, bits⟩ := r
  unfold fm
  simp only at *
  subst hj
  by_cases e2 : st = 2
  · rw [if_pos e2]
    obtain ⟨a, b⟩ := h3 (by omega)
    rw [a, b]
  · rw [if_neg e2]
    obtain ⟨a, b⟩ := h2 e2
    by_cases e3 : st = 3
    · rw [if_pos e3, a, b]
    · rw [if_neg e3]
      obtain ⟨c, d⟩ := h3 e3
      rw [a, b, c, d]
theorem Ok.set {m : Int} {L : List Rr} (h : Ok m L) {i : Nat} (_ : i < L.length) {r : Rr} (hf : r = fm ((i : Int) + 1) r) (hs : sMay m r) (hb : bMay r) (hu : ∀ j (hj : j < L.length), j ≠ i → 0 < r.bdg → (L[j]).bdg ≠ r.bdg) : Ok m (L.set i r) := by
  have get : ∀ j (hj : j < (L.set i r).length), (j = i ∧ (L.set i r)[j] = r) ∨ (j ≠ i ∧ ∃ hj' : j < L.length, (L.set i r)[j] = L[j]) := fun j hj => by
    by_cases e : i = j
    · subst e; exact .inl ⟨rfl, by simp⟩
    · exact .inr ⟨fun x => e x.symm, by simpa using hj, by rw [List.getElem_set_ne e]⟩
  refine ⟨⟨by rw [List.length_set]; exact h.len, fun j hj => ?_, fun j hj => ?_, fun j hj => ?_, fun j k hj hk hp he => ?_⟩, h.m1, h.m8⟩
  · rcases get j hj with ⟨e, g⟩ | ⟨_, hj', g⟩
    · rw [g, e]; exact hf
    · rw [g]; exact h.form j hj'
  · rcases get j hj with ⟨e, g⟩ | ⟨_, hj', g⟩
    · rw [g]; exact hs
    · rw [g]; exact h.st j hj'
  · rcases get j hj with ⟨e, g⟩ | ⟨_, hj', g⟩
    · rw [g]; exact hb
    · rw [g]; exact h.bd j hj'
  · rcases get j hj with ⟨e, g⟩ | ⟨e, hj', g⟩
    · rcases get k hk with ⟨e', g'⟩ | ⟨e', hk', g'⟩
      · rw [e, e']
      · rw [g] at hp he; rw [g'] at he
        exact absurd he.symm (hu k hk' e' hp)
    · rcases get k hk with ⟨e', g'⟩ | ⟨e', hk', g'⟩
      · rw [g] at hp he; rw [g'] at he
        exact absurd he (hu j hj' e (by rw [← he]; exact hp))
      · rw [g] at hp he; rw [g'] at he
        exact h.uni j k hj' hk' hp he
theorem Ok.push {m : Int} {L : List Rr} (h : Ok m L) (hl : L.length < 8) : Ok m (L ++ [nrow ((L.length : Int) + 1)]) := by
  have get : ∀ j (hj : j < (L ++ [nrow ((L.length : Int) + 1)]).length), (j = L.length ∧ (L ++ [nrow ((L.length : Int) + 1)])[j] = nrow ((L.length : Int) + 1)) ∨ ∃ hj' : j < L.length, (L ++ [nrow ((L.length : Int) + 1)])[j] = L[j] := fun j hj => by
    by_cases e : j < L.length
    · exact .inr ⟨e, List.getElem_append_left e⟩
    · have : j = L.length := by simp at hj; omega
      subst this
      exact .inl ⟨rfl, by simp⟩
  have hm := h.m1
  refine ⟨⟨by simp; omega, fun j hj => ?_, fun j hj => ?_, fun j hj => ?_, fun j k hj hk hp he => ?_⟩, h.m1, h.m8⟩
  · rcases get j hj with ⟨e, g⟩ | ⟨hj', g⟩
    · rw [g, e]; exact fm_of rfl (fun _ => ⟨rfl, rfl⟩) (fun _ => ⟨rfl, rfl⟩)
    · rw [g]; exact h.form j hj'
  · rcases get j hj with ⟨e, g⟩ | ⟨hj', g⟩
    · rw [g]; exact .inl ⟨rfl, Int.le_refl _, by show (0 : Int) < m; omega⟩
    · rw [g]; exact h.st j hj'
  · rcases get j hj with ⟨e, g⟩ | ⟨hj', g⟩
    · rw [g]; exact .inl ⟨rfl, rfl⟩
    · rw [g]; exact h.bd j hj'
  · rcases get j hj with ⟨e, g⟩ | ⟨hj', g⟩
    · rw [g] at hp; exact absurd hp (by show ¬ (0 : Int) < 0; decide)
    · rcases get k hk with ⟨e', g'⟩ | ⟨hk', g'⟩
      · rw [g] at hp he; rw [g'] at he
        rw [he] at hp
        exact absurd hp (by show ¬ (0 : Int) < 0; decide)
      · rw [g] at hp he; rw [g'] at he
        exact h.uni j k hj' hk' hp he
theorem gbF_ge (l : List Rr) : ∀ g : Int, g ≤ l.foldl gbF g ∧ ∀ r ∈ l, r.bdg ≤ l.foldl gbF g := by
  induction l with
  | nil => intro g; exact ⟨Int.le_refl _, by simp⟩
  | cons r l ih =>
    intro g
    rw [List.foldl_cons]
    obtain ⟨h1, h2⟩ := ih (gbF g r)
    have h3 : g ≤ gbF g r ∧ r.bdg ≤ gbF g r := by unfold gbF; split <;> omega
    refine ⟨by omega, fun x hx => ?_⟩
    rcases List.mem_cons.1 hx with e | e
    · rw [e]; omega
    · exact h2 x e
theorem gb_ge (L : List Rr) : 0 ≤ gb L ∧ ∀ i (h : i < L.length), (L[i]).bdg ≤ gb L := ⟨(gbF_ge L 0).1, fun _ h => (gbF_ge L 0).2 _ (List.getElem_mem h)⟩
theorem grE_0 {L : List Rr} {j g n l : Int} (h : grE L j g n l = 0) : (1 ≤ j ∧ j ≤ (L.length : Int)) ∧ (rowR L j).st = 1 ∧ gb L < g ∧ g ≤ 1099511627776 ∧ hMay n l := by
  unfold grE at h
  split at h
  · cases h
  · rename_i h1
    split at h
    · cases h
    · rename_i h2
      split at h
      · cases h
      · rename_i h3
        split at h
        · cases h
        · rename_i h4
          exact ⟨Classical.not_not.1 h1, Classical.not_not.1 h2, by omega, by omega, Classical.not_not.1 h4⟩
theorem Ok.grant {m : Int} {L : List Rr} (h : Ok m L) {j g n l : Int} (h0 : grE L j g n l = 0) : Ok m (grL L j g n l) := by
  obtain ⟨hj, h1, hg, hg2, hh⟩ := grE_0 h0
  obtain ⟨hi, e⟩ := rowR_in hj
  have hL : grL L j g n l = L.set (j - 1).toNat (grt (rowR L j) g n l) := by unfold grL; rw [h0]; rfl
  rw [hL]
  rw [e] at h1 ⊢
  have h4 := h.st _ hi
  have h5 := fm_same (h.form _ hi)
  have h6 := h.job _ hi
  have hb := gb_ge L
  generalize (j - 1).toNat = i at *
  have ha : 0 ≤ (L[i]).att ∧ (L[i]).att < m := by
    rcases h4 with ⟨_, a, b⟩ | ⟨a, _⟩ | ⟨a, _⟩ | ⟨a, _⟩
    · exact ⟨a, b⟩
    all_goals rw [a] at h1; cases h1
  refine h.set hi (fm_of h6 (fun x => absurd rfl x) (fun _ => h5.2 (by rw [h1]; decide))) (.inr (.inl ⟨rfl, ?_, ?_, hh⟩)) (.inr ⟨?_, ?_, hg2⟩) (fun k hk _ _ => ?_)
  · show 1 ≤ (L[i]).att + 1; omega
  · show (L[i]).att + 1 ≤ m; omega
  · show (L[i]).att + 1 ≠ 0; omega
  · show 1 ≤ g; omega
  · show (L[k]).bdg ≠ g
    have := hb.2 k hk; omega
theorem Ok.held {m : Int} {L : List Rr} (h : Ok m L) {g : Int} {i : Nat} (hx : hix g L = some i) : ∃ hi : i < L.length, L.getD i rr0 = L[i] ∧ (L[i]).st = 2 ∧ (L[i]).bdg = g ∧ 1 ≤ (L[i]).att ∧ (L[i]).att ≤ m ∧ 1 ≤ (L[i]).bdg ∧ (L[i]).bdg ≤ 1099511627776 := by
  obtain ⟨hi, h2, hb⟩ := hix_some hx
  obtain ⟨ha, hb1⟩ := held_pos h.toROk i hi h2
  have h3 := h.att i hi
  have h4 := h.bdg i hi
  exact ⟨hi, by rw [List.getD_eq_getElem?_getD, List.getElem?_eq_getElem hi]; rfl, h2, hb, ha, by omega, hb1, by omega⟩
theorem Ok.expire {m : Int} {L : List Rr} (h : Ok m L) (g : Int) : Ok m (exL m L g) := by
  unfold exL
  cases hx : hix g L with
  | none => exact h
  | some i =>
    obtain ⟨hi, e, h2, hb, ha1, ha2, hb1, hb2⟩ := h.held hx
    simp only [e]
    have h5 := fm_same (h.form _ hi)
    have h6 := h.job _ hi
    by_cases hm : (L[i]).att = m
    · have ex : xp m L[i] = ⟨(L[i]).job, 4, (L[i]).att, (L[i]).bdg, 0, 0, (L[i]).code, (L[i]).bits⟩ := by unfold xp; rw [if_pos hm]
      rw [ex]
      refine h.set hi (fm_of h6 (fun _ => ⟨rfl, rfl⟩) (fun _ => h5.2 (by rw [h2]; decide))) (.inr (.inr (.inr ⟨rfl, hm⟩))) (.inr ⟨by show (L[i]).att ≠ 0; omega, hb1, hb2⟩) (fun k hk hn hp he => hn (h.uni k i hk hi (by rw [he]; exact hp) he))
    · have ex : xp m L[i] = ⟨(L[i]).job, 1, (L[i]).att, (L[i]).bdg, 0, 0, (L[i]).code, (L[i]).bits⟩ := by unfold xp; rw [if_neg hm]
      rw [ex]
      refine h.set hi (fm_of h6 (fun _ => ⟨rfl, rfl⟩) (fun _ => h5.2 (by rw [h2]; decide))) (.inl ⟨rfl, by show 0 ≤ (L[i]).att; omega, by show (L[i]).att < m; omega⟩) (.inr ⟨by show (L[i]).att ≠ 0; omega, hb1, hb2⟩) (fun k hk hn hp he => hn (h.uni k i hk hi (by rw [he]; exact hp) he))
theorem Ok.settle {m : Int} {L : List Rr} (h : Ok m L) (g c x : Int) : Ok m (seL L g c x) := by
  unfold seL
  cases hx : hix g L with
  | none => exact h
  | some i =>
    obtain ⟨hi, e, h2, hb, ha1, ha2, hb1, hb2⟩ := h.held hx
    simp only [e]
    by_cases hm : xMay c x
    · rw [if_pos hm]
      have h6 := h.job _ hi
      exact h.set hi (fm_of h6 (fun _ => ⟨rfl, rfl⟩) (fun y => absurd rfl y)) (.inr (.inr (.inl ⟨rfl, ha1, ha2, hm⟩))) (.inr ⟨by show (L[i]).att ≠ 0; omega, hb1, hb2⟩) (fun k hk hn hp he => hn (h.uni k i hk hi (by rw [he]; exact hp) he))
    · rw [if_neg hm]; exact h
/-- a call of a script: what it leaves, and whether it was refused -/
def dsL (m : Int) (L : List Rr) (o : Rr) : List Rr :=
  if o.st = 0 then (if L.length < 8 then L ++ [nrow ((L.length : Int) + 1)] else L) else if o.st = 2 then grL L o.att o.bdg o.node o.life else if o.st = 3 then exL m L o.bdg else if o.st = 4 then seL L o.bdg o.code o.bits else L
def dsB (L : List Rr) (o : Rr) : Bool :=
  if o.st = 0 then !decide (L.length < 8) else if o.st = 2 then grE L o.att o.bdg o.node o.life != 0 else if o.st = 3 then exE L o.bdg != 0 else if o.st = 4 then seE L o.bdg o.code o.bits != 0 else true
theorem Ok.does {m : Int} {L : List Rr} (h : Ok m L) (o : Rr) : Ok m (dsL m L o) := by
  unfold dsL
  split
  · split
    · exact h.push (by assumption)
    · exact h
  · split
    · by_cases h0 : grE L o.att o.bdg o.node o.life = 0
      · exact h.grant h0
      · unfold grL; rw [if_neg h0]; exact h
    · split
      · exact h.expire _
      · split
        · exact h.settle _ _ _
        · exact h
/-- refused: nothing; else one row more, or one row another -/
theorem Ok.step {m : Int} {L : List Rr} (h : Ok m L) (o : Rr) : (dsB L o = true ∧ dsL m L o = L) ∨ (dsB L o = false ∧ ∃ r, dsL m L o = L ++ [r]) ∨ (dsB L o = false ∧ ∃ i r, ∃ hi : i < L.length, dsL m L o = L.set i r ∧ r.st ≠ (L[i]).st ∧ r.bdg ≥ (L[i]).bdg ∧ r.att ≥ (L[i]).att ∧ ((L[i]).st = 1 ∨ (L[i]).st = 2)) := by
  unfold dsB dsL
  by_cases h0 : o.st = 0
  · simp only [if_pos h0]
    by_cases hl : L.length < 8
    · rw [if_pos hl, decide_eq_true hl]; exact .inr (.inl ⟨rfl, _, rfl⟩)
    · rw [if_neg hl, decide_eq_false hl]; exact .inl ⟨rfl, rfl⟩
  simp only [if_neg h0]
  by_cases h2 : o.st = 2
  · simp only [if_pos h2]
    by_cases he : grE L o.att o.bdg o.node o.life = 0
    · obtain ⟨hj, h1, hg, hg2, hh⟩ := grE_0 he
      obtain ⟨hi, e⟩ := rowR_in hj
      refine .inr (.inr ⟨by rw [he]; rfl, (o.att - 1).toNat, grt (rowR L o.att) o.bdg o.node o.life, hi, by unfold grL; rw [he]; rfl, ?_, ?_, ?_, ?_⟩)
      · rw [← e, h1]; show (2 : Int) ≠ 1; decide
      · have := (gb_ge L).2 _ hi; show o.bdg ≥ _; omega
      · rw [e]; show (L[(o.att - 1).toNat]).att + 1 ≥ _; omega
      · rw [← e]; exact .inl h1
    · exact .inl ⟨by simpa using he, by unfold grL; rw [if_neg he]⟩
  simp only [if_neg h2]
  by_cases h3 : o.st = 3
  · simp only [if_pos h3]
    unfold exE exL
    cases hx : hix o.bdg L with
    | none => exact .inl ⟨rfl, rfl⟩
    | some i =>
      obtain ⟨hi, e, h2, hb, ha1, ha2, hb1, hb2⟩ := h.held hx
      simp only [e]
      refine .inr (.inr ⟨rfl, i, _, hi, rfl, ?_, Int.le_refl _, Int.le_refl _, .inr h2⟩)
      rw [h2]; unfold xp; show (if (L[i]).att = m then (4 : Int) else 1) ≠ 2; split <;> decide
  simp only [if_neg h3]
  by_cases h4 : o.st = 4
  · simp only [if_pos h4]
    unfold seE seL
    cases hx : hix o.bdg L with
    | none => exact .inl ⟨rfl, rfl⟩
    | some i =>
      obtain ⟨hi, e, h2, hb, ha1, ha2, hb1, hb2⟩ := h.held hx
      simp only [e]
      by_cases hm : xMay o.code o.bits
      · rw [if_pos hm, if_pos hm]
        refine .inr (.inr ⟨rfl, i, _, hi, rfl, ?_, Int.le_refl _, Int.le_refl _, .inr h2⟩)
        rw [h2]; show (3 : Int) ≠ 2; decide
      · rw [if_neg hm, if_neg hm]; exact .inl ⟨rfl, rfl⟩
  · simp only [if_neg h4]; left; constructor <;> first | rfl | trivial
end Go.Proofs.YtepondcflkledaaGreat.Q
end

section
namespace Go.Proofs.YtepondcflkledaaGreat.Q
set_option maxRecDepth 20000
open Go.RowKit

/-- a number, counted round -/
def pl (n : Int) (m : Nat) : Nat := (if n.tmod (m : Int) < 0 then n.tmod (m : Int) + m else n.tmod (m : Int)).toNat
theorem pl_lt {n : Int} {m : Nat} (h0 : 0 < m) : pl n m < m := by
  have ht1 : n.tmod (m : Int) < (m : Int) := Int.tmod_lt_of_pos _ (by omega)
  unfold pl
  split <;> omega
section
variable {base : Nat} {w : World} {b : Nat} {v : Value} {L : List Rr} {m : Int}
/-- Submit, either way -/
def sbJ (L : List Rr) : Int := if L.length < 8 then (L.length : Int) + 1 else 0
def sbE (L : List Rr) : Int := if L.length < 8 then 0 else 110
def sbL (L : List Rr) : List Rr := if L.length < 8 then L ++ [nrow ((L.length : Int) + 1)] else L
theorem submit_any (h : Qm 142 base w b v m L) : Calls Tryz.prog 128 #[.pointer (some ⟨b, 0, none⟩)] w fun e w' => e = .returned (.tuple #[.int .i64 (sbJ L), .int .i64 (sbE L)]) ∧ ∃ v', Qm 142 base w' b v' m (sbL L) ∧ Mv (Ft b v) (Ft b v') w w' := by
  unfold sbJ sbE sbL
  by_cases hl : L.length < 8
  · rw [if_pos hl, if_pos hl, if_pos hl]; exact submit_yes h hl
  · rw [if_neg hl, if_neg hl, if_neg hl]
    refine (submit_no h (by omega)).mono ?_
    rintro e w' ⟨rfl, rfl⟩
    exact ⟨rfl, v, h, mv_refl _ _⟩
theorem Ok.submit (h : Ok m L) : Ok m (sbL L) := by
  unfold sbL; split
  · exact h.push (by assumption)
  · exact h
end
end Go.Proofs.YtepondcflkledaaGreat.Q
end
