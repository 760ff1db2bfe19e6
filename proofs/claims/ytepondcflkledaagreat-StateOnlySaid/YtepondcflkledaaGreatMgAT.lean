import Derived.Test.YtepondcflkledaaGreatMgAO
import Derived.Test.YtepondcflkledaaGreatMgAS

section
namespace Go.Proofs.YtepondcflkledaaGreat.S
set_option maxRecDepth 20000
open Go.RowKit
open Rc (Ch)
open Q (Rr rr0 nrow fnd grE grL exE exL seE seL hix gb rowR grt xp stl)

/-- what a job has beside its row -/
structure Pp where
  pr : ByteArray
  lg : List ByteArray
  deriving DecidableEq
def pp0 : Pp := ⟨⟨#[]⟩, []⟩
/-- a state: what is reserved, the rows, eight papers -/
structure Sx where
  res : Int
  L : List Rr
  P : List Pp
  deriving DecidableEq
def sx0 : Sx := ⟨0, [], List.replicate 8 pp0⟩
def Sx.pa (s : Sx) (i : Nat) : Pp := s.P.getD i pp0
/-- the place of a job's papers -/
def jx (j : Int) : Nat := (j - 1).toNat
/-- what a change makes -/
def one (m : Int) (s : Sx) (c : Ch) : Option Sx :=
  if Rc.check c ≠ 0 then none
  else if c.k = 1 then (if c.n ≤ s.res then none else some ⟨c.n, s.L, s.P⟩)
  else if c.k = 2 then (if s.L.length < 8 ∧ c.jo = (s.L.length : Int) + 1 then some ⟨s.res, s.L ++ [nrow ((s.L.length : Int) + 1)], s.P.set s.L.length ⟨c.pr, []⟩⟩ else none)
  else if c.k = 3 then (if s.res < c.ba ∨ grE s.L c.jo c.ba (2 + c.sl) c.li ≠ 0 then none else some ⟨s.res, grL s.L c.jo c.ba (2 + c.sl) c.li, s.P.set (jx c.jo) ⟨(s.pa (jx c.jo)).pr, []⟩⟩)
  else if c.k = 4 then (if (fnd c.ba s.L = rr0 ∨ (fnd c.ba s.L).st ≠ 2) ∨ 32 < (s.pa (jx (fnd c.ba s.L).job)).lg.length + c.tx.length then none else some ⟨s.res, s.L, s.P.set (jx (fnd c.ba s.L).job) ⟨(s.pa (jx (fnd c.ba s.L).job)).pr, (s.pa (jx (fnd c.ba s.L).job)).lg ++ c.tx⟩⟩)
  else if c.k = 5 then (if exE s.L c.ba = 0 then some ⟨s.res, exL m s.L c.ba, s.P⟩ else none)
  else (if seE s.L c.ba c.rc (c.rb : Int) = 0 then some ⟨s.res, seL s.L c.ba c.rc (c.rb : Int), s.P⟩ else none)
/-- changes, all or none -/
def app (m : Int) : Sx → List Ch → Option Sx
  | s, [] => some s
  | s, c :: l => match one m s c with | none => none | some t => app m t l
/-- the place of the first that may not come -/
def bad (m : Int) : Sx → List Ch → Nat
  | _, [] => 0
  | s, c :: l => match one m s c with | none => 0 | some t => bad m t l + 1
theorem app_append (m : Int) (k : List Ch) : ∀ (l : List Ch) (s : Sx), app m s (l ++ k) = (app m s l).bind fun t => app m t k
  | [], s => rfl
  | c :: l, s => by
    simp only [List.cons_append, app]
    cases one m s c with
    | none => rfl
    | some t => exact app_append m k l t
theorem app_step (m : Int) {s t : Sx} {l : List Ch} {i : Nat} (hi : i < l.length) (h : app m s (l.take i) = some t) : app m s (l.take (i + 1)) = one m t l[i]! := by
  rw [← List.take_append_getElem hi, app_append, h, getElem!_pos l i hi]
  simp only [Option.bind_some, app]
  cases one m t l[i] <;> rfl
theorem bad_none (m : Int) : ∀ (l : List Ch) (s : Sx), app m s l = none → bad m s l < l.length ∧ ∃ t, app m s (l.take (bad m s l)) = some t
  | [], s, h => by cases h
  | c :: l, s, h => by
    simp only [app] at h
    simp only [bad]
    cases ho : one m s c with
    | none => exact ⟨by simp, s, rfl⟩
    | some t =>
      rw [ho] at h
      obtain ⟨h1, u, h2⟩ := bad_none m l t h
      refine ⟨by simpa using h1, u, ?_⟩
      simp only [List.take_succ_cons, app, ho]
      exact h2
theorem bad_at (m : Int) : ∀ (l : List Ch) (s t : Sx) (i : Nat), i < l.length → app m s (l.take i) = some t → one m t l[i]! = none → bad m s l = i ∧ app m s l = none
  | [], s, t, i, hi, _, _ => absurd hi (by simp)
  | c :: l, s, t, 0, hi, h, h0 => by
    simp only [List.take_zero, app, Option.some.injEq] at h
    subst h
    have h0' : one m s c = none := h0
    simp only [bad, app, h0', and_self]
  | c :: l, s, t, i + 1, hi, h, h0 => by
    simp only [List.take_succ_cons, app] at h
    simp only [bad, app]
    cases ho : one m s c with
    | none => rw [ho] at h; cases h
    | some u =>
      rw [ho] at h
      have := bad_at m l u t i (by simpa using hi) h (by simpa using h0)
      exact ⟨by simp only [this.1], this.2⟩
/-- a part of what is taken -/
theorem app_part {m : Int} {s t u : Sx} {l : List Ch} {i k : Nat} (hik : i ≤ k) (h : app m s l = some t) (hi : app m s (l.take i) = some u) : ∃ v, app m u ((l.drop i).take (k - i)) = some v ∧ app m s (l.take k) = some v := by
  have e1 : l.take k = l.take i ++ (l.drop i).take (k - i) := by
    obtain ⟨d, rfl⟩ := Nat.exists_eq_add_of_le hik
    rw [List.take_add, Nat.add_sub_cancel_left]
  have e2 : app m s (l.take k) = app m u ((l.drop i).take (k - i)) := by rw [e1, app_append, hi]; rfl
  cases hv : app m s (l.take k) with
  | some v => exact ⟨v, by rw [← e2, hv], rfl⟩
  | none =>
    have := app_append m (l.drop k) (l.take k) s
    rw [List.take_append_drop, hv, h] at this
    cases this

/-- a state may be -/
structure Wf (m : Int) (s : Sx) : Prop where
  ok : Q.Ok m s.L
  len : s.P.length = 8
  r0 : 0 ≤ s.res
  r1 : s.res ≤ 1099511627776
  bd : ∀ i (h : i < s.L.length), (s.L[i]).bdg ≤ s.res
  bt : ∀ i (h : i < s.L.length), 0 ≤ (s.L[i]).bits ∧ (s.L[i]).bits < 18446744073709551616
  pp : ∀ i, (s.pa i).pr.size ≤ 1024 ∧ (s.pa i).lg.length ≤ 32 ∧ ∀ t ∈ (s.pa i).lg, t.size ≤ 32
  pg : ∀ i, i < s.L.length → 1 ≤ (s.pa i).pr.size
  fr : ∀ i (h : i < s.L.length), (s.L[i]).att = 0 → (s.pa i).lg = []
theorem pa_set (s : Sx) (r : Int) (M : List Rr) (i : Nat) (p : Pp) (k : Nat) : Sx.pa ⟨r, M, s.P.set i p⟩ k = if i = k ∧ i < s.P.length then p else s.pa k := by
  unfold Sx.pa
  simp only [List.getD_eq_getElem?_getD, List.getElem?_set]
  by_cases h : i = k
  · subst h
    by_cases h2 : i < s.P.length
    · simp [h2]
    · simp [h2]
  · simp [h]
theorem wf0 {m : Int} (h : Q.Ok m []) : Wf m sx0 := by
  have hp : ∀ i, sx0.pa i = pp0 := fun i => by
    show (List.replicate 8 pp0).getD i pp0 = pp0
    rw [List.getD_eq_getElem?_getD, List.getElem?_replicate]
    split <;> rfl
  refine ⟨h, rfl, Int.le_refl _, by decide, fun i hi => absurd hi (Nat.not_lt_zero i), fun i hi => absurd hi (Nat.not_lt_zero i), fun i => ?_, fun i hi => absurd hi (Nat.not_lt_zero i), fun i hi => absurd hi (Nat.not_lt_zero i)⟩
  rw [hp]; exact ⟨by decide, by decide, fun t h => by cases h⟩
theorem Wf.row {m : Int} {s : Sx} (h : Wf m s) {i : Nat} {r : Rr} (ho : Q.Ok m (s.L.set i r)) (hb : r.bdg ≤ s.res) (hx : 0 ≤ r.bits ∧ r.bits < 18446744073709551616) (ha : r.att = 0 → (s.pa i).lg = []) : Wf m ⟨s.res, s.L.set i r, s.P⟩ := by
  have get : ∀ j (hj : j < (s.L.set i r).length), (j = i ∧ (s.L.set i r)[j] = r) ∨ (∃ hj' : j < s.L.length, (s.L.set i r)[j] = s.L[j]) := fun j hj => by
    by_cases e : i = j
    · subst e; exact .inl ⟨rfl, by simp⟩
    · exact .inr ⟨by simpa using hj, by rw [List.getElem_set_ne e]⟩
  refine ⟨ho, h.len, h.r0, h.r1, fun j hj => ?_, fun j hj => ?_, h.pp, fun j hj => h.pg j (by simpa using hj), fun j hj => ?_⟩
  · rcases get j hj with ⟨_, e⟩ | ⟨hj', e⟩
    · show (s.L.set i r)[j].bdg ≤ s.res; rw [e]; exact hb
    · show (s.L.set i r)[j].bdg ≤ s.res; rw [e]; exact h.bd j hj'
  · rcases get j hj with ⟨_, e⟩ | ⟨hj', e⟩
    · show 0 ≤ (s.L.set i r)[j].bits ∧ (s.L.set i r)[j].bits < _; rw [e]; exact hx
    · show 0 ≤ (s.L.set i r)[j].bits ∧ (s.L.set i r)[j].bits < _; rw [e]; exact h.bt j hj'
  · intro h0
    rcases get j hj with ⟨ej, e⟩ | ⟨hj', e⟩
    · rw [ej]; exact ha (by rw [← e]; exact h0)
    · exact h.fr j hj' (by rw [← e]; exact h0)
theorem Wf.pap {m : Int} {s : Sx} (h : Wf m s) {i : Nat} {p : Pp} (hp : p.pr.size ≤ 1024 ∧ p.lg.length ≤ 32 ∧ ∀ t ∈ p.lg, t.size ≤ 32) (hg : i < s.L.length → 1 ≤ p.pr.size) (hf : ∀ h : i < s.L.length, (s.L[i]).att = 0 → p.lg = []) : Wf m ⟨s.res, s.L, s.P.set i p⟩ := by
  refine ⟨h.ok, by rw [List.length_set]; exact h.len, h.r0, h.r1, h.bd, h.bt, fun j => ?_, fun j hj => ?_, fun j hj h0 => ?_⟩
  · rw [pa_set]; split
    · exact hp
    · exact h.pp j
  · rw [pa_set]; split
    · rename_i h1; exact hg (by rw [h1.1]; exact hj)
    · exact h.pg j hj
  · rw [pa_set]; split
    · rename_i h1
      obtain ⟨rfl, _⟩ := h1
      exact hf hj h0
    · exact h.fr j hj h0
theorem dec {p : Prop} [Decidable p] (h : decide p = true) : p := of_decide_eq_true h
/-- what a change that may be has -/
theorem may_N {c : Ch} (h : Rc.Ok c) (hk : c.k = 1) : 1 ≤ c.n ∧ c.n ≤ 1099511627776 := by
  have := h.2.1 .N (by rw [hk]; decide)
  simp [Rc.may, Rc.get, Rc.sz, Rc.least, Rc.most] at this
  exact dec this
theorem may_P {c : Ch} (h : Rc.Ok c) (hk : c.k = 2) : 1 ≤ c.pr.size ∧ c.pr.size ≤ 1024 := by
  have := h.2.1 .P (by rw [hk]; decide)
  simp [Rc.may, Rc.get, Rc.sz, Rc.least, Rc.most] at this
  have := dec this
  omega
theorem may_T {c : Ch} (h : Rc.Ok c) (hk : c.k = 4) : (1 ≤ c.tx.length ∧ c.tx.length ≤ 8) ∧ ∀ t ∈ c.tx, t.size ≤ 32 := by
  have := h.2.1 .T (by rw [hk]; decide)
  simp [Rc.may, Rc.get, Rc.sz, Rc.least, Rc.most] at this
  have h1 := dec this.1
  exact ⟨by omega, this.2⟩
theorem may_G {c : Ch} (h : Rc.Ok c) (hk : c.k = 3) : (1 ≤ c.jo ∧ c.jo ≤ 8) ∧ (1 ≤ c.ba ∧ c.ba ≤ 1099511627776) ∧ (0 ≤ c.sl ∧ c.sl ≤ 7) ∧ 1 ≤ c.li ∧ c.li ≤ 1099511627776 := by
  have h1 := h.2.1 .J (by rw [hk]; decide)
  have h2 := h.2.1 .B (by rw [hk]; decide)
  have h3 := h.2.1 .S (by rw [hk]; decide)
  have h4 := h.2.1 .F (by rw [hk]; decide)
  simp [Rc.may, Rc.get, Rc.sz, Rc.least, Rc.most] at h1 h2 h3 h4
  have := dec h1
  have := dec h2
  have := dec h3
  have := dec h4
  omega
theorem may_B {c : Ch} (h : Rc.Ok c) (hk : 3 ≤ c.k) : 1 ≤ c.ba ∧ c.ba ≤ 1099511627776 := by
  have h0 := h.1.2
  have h2 := h.2.1 .B (by
    have : c.k = 3 ∨ c.k = 4 ∨ c.k = 5 ∨ c.k = 6 := by omega
    rcases this with e | e | e | e <;> rw [e] <;> decide)
  simp [Rc.may, Rc.get, Rc.sz, Rc.least, Rc.most] at h2
  exact dec h2
theorem fnd_in {m : Int} {L : List Rr} (h : Q.Ok m L) {b : Int} (h0 : fnd b L ≠ rr0) : ∃ i, ∃ hi : i < L.length, fnd b L = L[i] ∧ 0 < (L[i]).att ∧ (L[i]).bdg = b ∧ jx (fnd b L).job = i ∧ (fnd b L).job = (i : Int) + 1 := by
  rcases Q.fnd_or b L with ⟨e, _⟩ | ⟨i, hi, e, h1, h2⟩
  · exact absurd e h0
  · have hj := h.job i hi
    refine ⟨i, hi, e, h1, h2, ?_, ?_⟩
    · rw [e]; unfold jx; omega
    · rw [e]; exact hj
/-- what may come leaves what may be -/
theorem one_wf {m : Int} {s t : Sx} {c : Ch} (h : Wf m s) (hr : c.rb < 18446744073709551616) (h1 : one m s c = some t) : Wf m t := by
  unfold one at h1
  split at h1
  · cases h1
  rename_i hc
  have hok := (Rc.check_iff c).1 (Classical.not_not.1 hc)
  clear hc
  split at h1
  · rename_i hk
    split at h1
    · cases h1
    rename_i hn
    injection h1 with h1
    subst h1
    have := may_N hok hk
    have h0 := h.r0
    refine ⟨h.ok, h.len, by show 0 ≤ c.n; omega, this.2, fun i hi => ?_, h.bt, h.pp, h.pg, h.fr⟩
    have h2 := h.bd i hi
    show (s.L[i]).bdg ≤ c.n
    omega
  split at h1
  · rename_i _ hk
    split at h1
    · rename_i hn
      injection h1 with h1
      subst h1
      have hp := may_P hok hk
      have get : ∀ j (hj : j < (s.L ++ [nrow ((s.L.length : Int) + 1)]).length), (j = s.L.length ∧ (s.L ++ [nrow ((s.L.length : Int) + 1)])[j] = nrow ((s.L.length : Int) + 1)) ∨ ∃ hj' : j < s.L.length, (s.L ++ [nrow ((s.L.length : Int) + 1)])[j] = s.L[j] := fun j hj => by
        by_cases e : j < s.L.length
        · exact .inr ⟨e, List.getElem_append_left e⟩
        · have : j = s.L.length := by simp at hj; omega
          subst this
          exact .inl ⟨rfl, by simp⟩
      have hl8 : s.L.length < s.P.length := by rw [h.len]; exact hn.1
      refine ⟨h.ok.push hn.1, by rw [List.length_set]; exact h.len, h.r0, h.r1, fun j hj => ?_, fun j hj => ?_, fun j => ?_, fun j hj => ?_, fun j hj h0 => ?_⟩
      · show ((s.L ++ [nrow ((s.L.length : Int) + 1)])[j]).bdg ≤ s.res
        rcases get j hj with ⟨_, e⟩ | ⟨hj', e⟩
        · rw [e]; exact h.r0
        · rw [e]; exact h.bd j hj'
      · show 0 ≤ ((s.L ++ [nrow ((s.L.length : Int) + 1)])[j]).bits ∧ ((s.L ++ [nrow ((s.L.length : Int) + 1)])[j]).bits < _
        rcases get j hj with ⟨_, e⟩ | ⟨hj', e⟩
        · rw [e]; exact ⟨Int.le_refl _, by show (0 : Int) < _; decide⟩
        · rw [e]; exact h.bt j hj'
      · rw [pa_set]; split
        · exact ⟨hp.2, Nat.zero_le _, fun t h => by cases h⟩
        · exact h.pp j
      · rw [pa_set]; split
        · exact hp.1
        · rename_i hne
          rcases get j hj with ⟨e, _⟩ | ⟨hj', _⟩
          · exact absurd ⟨e.symm, hl8⟩ hne
          · exact h.pg j hj'
      · rw [pa_set]; split
        · rfl
        · rename_i hne
          rcases get j hj with ⟨e, _⟩ | ⟨hj', e⟩
          · exact absurd ⟨e.symm, hl8⟩ hne
          · exact h.fr j hj' (by rw [← e]; exact h0)
    · cases h1
  split at h1
  · rename_i _ _ hk
    split at h1
    · cases h1
    rename_i hn
    have hn1 : ¬ s.res < c.ba := fun e => hn (.inl e)
    have hn2 : grE s.L c.jo c.ba (2 + c.sl) c.li = 0 := Classical.not_not.1 fun e => hn (.inr e)
    injection h1 with h1
    subst h1
    have ho := h.ok.grant hn2
    obtain ⟨hj, _, _, _, _⟩ := Q.grE_0 hn2
    obtain ⟨hi, e⟩ := Q.rowR_in hj
    have hL : grL s.L c.jo c.ba (2 + c.sl) c.li = s.L.set (jx c.jo) (grt (rowR s.L c.jo) c.ba (2 + c.sl) c.li) := by unfold grL; rw [if_pos hn2]; rfl
    rw [hL] at ho ⊢
    rw [e] at ho ⊢
    have ha := h.ok.att _ hi
    exact (h.pap (i := jx c.jo) (p := ⟨(s.pa (jx c.jo)).pr, []⟩) ⟨(h.pp _).1, Nat.zero_le _, fun t h => by cases h⟩ (fun hi => h.pg _ hi) (fun _ _ => rfl)).row ho (by show c.ba ≤ s.res; omega) (h.bt _ hi) (fun h0 => by
      have h0' : (s.L[jx c.jo]).att + 1 = 0 := h0
      have ha' : 0 ≤ (s.L[jx c.jo]).att := ha.1
      omega)
  split at h1
  · rename_i _ _ _ hk
    split at h1
    · cases h1
    rename_i hn
    have hn1 : fnd c.ba s.L ≠ rr0 := fun e => hn (.inl (.inl e))
    have hn3 : ¬ 32 < (s.pa (jx (fnd c.ba s.L).job)).lg.length + c.tx.length := fun e => hn (.inr e)
    injection h1 with h1
    subst h1
    obtain ⟨i, hi, e, hat, _, ej, _⟩ := fnd_in h.ok hn1
    have hT := may_T hok hk
    rw [ej] at hn3 ⊢
    refine h.pap ⟨(h.pp i).1, by rw [List.length_append]; omega, fun t ht => ?_⟩ (fun hi => h.pg i hi) (fun hi h0 => by omega)
    rcases List.mem_append.1 ht with ht | ht
    · exact (h.pp i).2.2 t ht
    · exact hT.2 t ht
  split at h1
  · split at h1
    · injection h1 with h1
      subst h1
      have ho := h.ok.expire c.ba
      unfold exL at ho ⊢
      cases hx : hix c.ba s.L with
      | none => exact h
      | some i =>
        rw [hx] at ho
        obtain ⟨hi, e, _⟩ := h.ok.held hx
        simp only [e] at ho ⊢
        exact h.row ho (h.bd i hi) (h.bt i hi) (fun h0 => h.fr i hi h0)
    · cases h1
  · split at h1
    · injection h1 with h1
      subst h1
      have ho := h.ok.settle c.ba c.rc (c.rb : Int)
      unfold seL at ho ⊢
      cases hx : hix c.ba s.L with
      | none => exact h
      | some i =>
        rw [hx] at ho
        obtain ⟨hi, e, _⟩ := h.ok.held hx
        simp only [e] at ho ⊢
        by_cases hm : Q.xMay c.rc (c.rb : Int)
        · simp only [if_pos hm] at ho ⊢
          exact h.row ho (h.bd i hi) ⟨by show 0 ≤ (c.rb : Int); omega, by show (c.rb : Int) < _; omega⟩ (fun h0 => h.fr i hi h0)
        · simp only [if_neg hm] at ho ⊢
          exact h
    · cases h1
theorem app_wf {m : Int} : ∀ {l : List Ch} {s t : Sx}, Wf m s → (∀ c ∈ l, c.rb < 18446744073709551616) → app m s l = some t → Wf m t
  | [], s, t, h, _, h1 => by simp only [app, Option.some.injEq] at h1; subst h1; exact h
  | c :: l, s, t, h, hr, h1 => by
    simp only [app] at h1
    cases ho : one m s c with
    | none => rw [ho] at h1; cases h1
    | some u =>
      rw [ho] at h1
      exact app_wf (one_wf h (hr c (by simp)) ho) (fun d hd => hr d (by simp [hd])) h1
end Go.Proofs.YtepondcflkledaaGreat.S
end
