import Derived.Test.YtonoogiadgjodaaSoA
namespace Go.Proofs.Ytonoogiadgjodaa
open Go.RowKit
section
variable {own : Int → Int} {N : Int} {j : Jt}
theorem fit_kinds {rq rp : Int} (h : fitB rq rp = true) : 9 ≤ rp ∧ rp ≤ 13 := by
  unfold fitB at h
  split at h
  · omega
  · split at h
    · omega
    · split at h
      · omega
      · split at h
        · omega
        · cases h
theorem Cl.mns_2 {c : Cl} {m : Sm} (h : c.mns m = 2) : c.awt m = true ∧ m.k = 8 := by
  unfold Cl.mns at h
  split at h
  · cases h
  · split at h
    · assumption
    · split at h <;> cases h
theorem Cl.mns_3 {c : Cl} {m : Sm} (h : c.mns m = 3) : c.awt m = true ∧ fitB c.m.k m.k = true := by
  unfold Cl.mns at h
  split at h
  · cases h
  · split at h
    · cases h
    · split at h
      · assumption
      · cases h
theorem awt_parts {c : Cl} {m : Sm} (h : c.awt m = true) : c.m.nu ≠ 0 ∧ m.se = c.m.se ∧ m.nu = c.m.nu := by
  unfold Cl.awt at h
  simp only [Bool.and_eq_true, bne_iff_ne, ne_eq, beq_iff_eq] at h
  exact ⟨h.1.1, h.1.2, h.2⟩
/-- an answer that is taken is the one of this asking -/
theorem Inv.answered (h : Inv own N j) {x : Sd} (q : Good own j x) (hb : x.tb = false) (hm : j.c.mns x.m = 3) : ∃ k : Nat, x.an = (k : Int) + 1 ∧ j.deeds[k]? = some ⟨j.c.se, j.c.m.nu, j.asked⟩ := by
  obtain ⟨ha, hf⟩ := Cl.mns_3 hm
  obtain ⟨w1, w2, w3⟩ := awt_parts ha
  have hk := fit_kinds hf
  rcases q.rp hb with ⟨a, _⟩ | a | ⟨_, k, e1, a, e2⟩
  · omega
  · omega
  · have h2 : 2 ≤ j.c.m.k := by rcases h.ok.k with ⟨_, b⟩ | ⟨b, _⟩ <;> omega
    obtain ⟨q1, q2, q3⟩ := h.cq h2
    obtain ⟨s1, s2, s3⟩ := h.cs q3
    refine ⟨k, e1, ?_⟩
    obtain ⟨_, _, ho⟩ := h.dd _ (List.mem_of_getElem? e2)
    have hse : x.m.se = j.c.se := by omega
    have := ((ho (by show own x.m.se = j.life; rw [hse]; exact s3)).2 hse).2 (by show x.m.nu = j.c.la; omega) h2
    have h3 : a = j.asked := this
    rw [e2, h3, hse, w3]
/-- a message arrives at the caller -/
theorem Inv.hear (h : Inv own N j) {x : Sd} (q : Good own j x) (hb : x.tb = false) (hl : x.li = j.life) : Inv own N { j with c := (j.c.hear x.m).c } := by
  have hu := h.u1; have hn := h.n1
  have hok := Cl.hear_ok h.ok (m := x.m) (by have := q.s1; omega)
  have wy : ∀ c' : Cl, (∀ s n a, 1 ≤ s → Old own j s n a → Old own { j with c := c' } s n a) → (∀ y ∈ j.way, Good own { j with c := c' } y) ∧ ∀ d ∈ j.deeds, 1 ≤ d.se ∧ d.se ≤ j.used ∧ Old own { j with c := c' } d.se d.nu d.ak := fun c' old =>
    ⟨fun y hy => let q := h.wy y hy; ⟨q.s0, q.s1, q.l0, q.l1, fun e => (q.rq e).imp id fun ⟨a1, a2, a3, a4, a5⟩ => ⟨a1, a2, a3, a4, old _ _ _ a3 a5⟩, q.rp⟩, fun d hd => let ⟨r1, r2, r3⟩ := h.dd d hd; ⟨r1, r2, old _ _ _ r1 r3⟩⟩
  rcases Cl.mns_or j.c x.m with hm | hm | hm | hm
  · obtain ⟨k1, k7, kg⟩ := Cl.mns_1 hm
    have he : (j.c.hear x.m).c = { j.c with se := x.m.se, gr := x.m.se, la := 0, m := zS 0, ti := 0 } := by unfold Cl.hear; rw [if_pos hm]
    rw [he] at hok ⊢
    have ho : 1 ≤ x.m.se ∧ own x.m.se = x.li := by
      rcases q.rp hb with ⟨_, a, b⟩ | a | ⟨a, _⟩
      · exact ⟨a, b⟩
      · omega
      · omega
    have w := wy { j.c with se := x.m.se, gr := x.m.se, la := 0, m := zS 0, ti := 0 } fun s n a _ old e => by
      have h1 := (old e).1
      exact ⟨by show s ≤ x.m.se; omega, fun e2 => by have e2 : s = x.m.se := e2; omega⟩
    exact ⟨h.n0, h.n1, hok, h.f0, h.f1, h.u0, h.u1, h.a0, h.a1, h.n0, h.wl, h.dl, q.s1, fun _ => ⟨ho.1, Int.le_refl _, by show own x.m.se = j.life; rw [ho.2, hl]⟩, fun e => absurd e (by show ¬ (2 : Int) ≤ 0; decide), fun e => absurd e (by show ¬ (0 : Int) = 1; decide), h.ow, h.d0, h.dr, w.1, w.2⟩
  · have he : (j.c.hear x.m).c = { j.c with se := 0, m := zS 0, ti := 0 } := by unfold Cl.hear; rw [if_neg (by omega), if_pos hm]
    rw [he] at hok ⊢
    have w := wy { j.c with se := 0, m := zS 0, ti := 0 } fun s n a hs old e => ⟨(old e).1, fun e2 => by have e2 : s = 0 := e2; omega⟩
    exact ⟨h.n0, h.n1, hok, h.f0, h.f1, h.u0, h.u1, h.a0, h.a1, h.la, h.wl, h.dl, h.cg, fun e => absurd rfl e, fun e => absurd e (by show ¬ (2 : Int) ≤ 0; decide), fun e => absurd e (by show ¬ (0 : Int) = 1; decide), h.ow, h.d0, h.dr, w.1, w.2⟩
  · have he : (j.c.hear x.m).c = { j.c with m := zS 0, ti := 0 } := by unfold Cl.hear; rw [if_neg (by omega), if_neg (by omega), if_pos hm]
    rw [he] at hok ⊢
    have w := wy { j.c with m := zS 0, ti := 0 } fun s n a _ old e => ⟨(old e).1, fun e2 => ⟨((old e).2 e2).1, fun _ e4 => absurd e4 (by show ¬ (2 : Int) ≤ 0; decide)⟩⟩
    exact ⟨h.n0, h.n1, hok, h.f0, h.f1, h.u0, h.u1, h.a0, h.a1, h.la, h.wl, h.dl, h.cg, h.cs, fun e => absurd e (by show ¬ (2 : Int) ≤ 0; decide), fun e => absurd e (by show ¬ (0 : Int) = 1; decide), h.ow, h.d0, h.dr, w.1, w.2⟩
  · have he : (j.c.hear x.m).c = j.c := by unfold Cl.hear; rw [if_neg (by omega), if_neg (by omega), if_neg (by omega)]
    rw [he]
    exact h
/-- a session begins -/
def owns (own : Int → Int) (s l : Int) : Int → Int := fun t => if t = s then l else own t
theorem Inv.fresh (h : Inv own N j) (hN : N + 1 ≤ 4194304) {l : Int} (l0 : 1 ≤ l) (l1 : l ≤ j.life) : Inv (owns own (j.used + 1) l) (N + 1) { j with used := j.used + 1, D := ⟨0, l, j.used + 1, 0, e0⟩ } := by
  have g := h.up hN
  have hu := h.u1; have h0 := h.u0; have hf := h.f1
  have same : ∀ {s}, s ≤ j.used → owns own (j.used + 1) l s = own s := fun {s} hs => if_neg (by omega)
  have old : ∀ {s n a}, s ≤ j.used → Old own j s n a → Old (owns own (j.used + 1) l) { j with used := j.used + 1, D := ⟨0, l, j.used + 1, 0, e0⟩ } s n a := fun {s n a} hs ho e => ho ((same hs).symm.trans e)
  have hcg := h.cg
  refine ⟨g.n0, g.n1, g.ok, g.f0, g.f1, by show 0 ≤ j.used + 1; omega, by show j.used + 1 ≤ N + 1; omega, g.a0, g.a1, g.la, g.wl, g.dl, by show j.c.gr ≤ j.used + 1; omega, fun e => ?_, g.cq, g.ch, fun s h1 h2 => ?_, ⟨by show 0 ≤ l; omega, by show l ≤ _; omega, by show 0 ≤ j.used + 1; omega, by show j.used + 1 ≤ _; omega, Int.le_refl _, by show (0 : Int) ≤ N + 1; have := h.n0; omega⟩, fun _ => ⟨l1, by show 1 ≤ j.used + 1; omega, Int.le_refl _, if_pos rfl, ?_, fun e => absurd rfl e⟩, fun y hy => ?_, fun d hd => ?_⟩
  · obtain ⟨a, b, c⟩ := h.cs e
    refine ⟨a, b, ?_⟩
    show owns own (j.used + 1) l j.c.se = j.life
    rw [same (show j.c.se ≤ j.used by omega)]
    exact c
  · show owns own (j.used + 1) l s ≤ j.life
    unfold owns
    split
    · exact l1
    · have h2 : s ≤ j.used + 1 := h2
      exact h.ow s h1 (by omega)
  · show (0 : Int) = lastN (j.used + 1) j.deeds 0
    exact (lastN_none _ _ _ fun d hd => by have := (h.dd d hd).2.1; omega).symm
  · have q := h.wy y hy
    have qs := q.s1
    refine ⟨q.s0, by show y.m.se ≤ j.used + 1; omega, q.l0, q.l1, fun e => (q.rq e).imp id fun ⟨a1, a2, a3, a4, a5⟩ => ⟨a1, a2, a3, (same qs).trans a4, old qs a5⟩, fun e => ?_⟩
    rcases q.rp e with ⟨a, b, c⟩ | a | a
    · exact .inl ⟨a, b, (same qs).trans c⟩
    · exact .inr (.inl a)
    · exact .inr (.inr a)
  · obtain ⟨r1, r2, r3⟩ := h.dd d hd
    exact ⟨r1, by show d.se ≤ j.used + 1; omega, old r2 r3⟩
/-- a request acts -/
theorem Inv.acts (h : Inv own N j) (hN : N + 1 ≤ 4194304) {x : Sd} (q : Good own j x) (hb : x.tb = true) (hk : x.m.k ≠ 1) (h1 : j.D.li ≠ 0) (h3 : j.D.se = x.m.se) (h4 : x.m.nu = j.D.la + 1) : Inv own (N + 1) { j with deeds := j.deeds ++ [⟨x.m.se, x.m.nu, x.ak⟩], D := { j.D with la := j.D.la + 1, rp := txt (j.deeds.length + 1) } } := by
  have g := h.up hN
  obtain ⟨r1, r2, r3, r4, r5, _⟩ := h.dr h1
  obtain ⟨d1, d2, d3, d4, d5, d6⟩ := h.d0
  have hdl := h.dl
  obtain ⟨a1, a2, a3, a4, a5⟩ : 2 ≤ x.m.k ∧ x.m.k ≤ 4 ∧ 1 ≤ x.m.se ∧ own x.m.se = x.li ∧ Old own j x.m.se x.m.nu x.ak := by
    rcases q.rq hb with a | a
    · exact absurd a hk
    · exact a
  refine ⟨g.n0, g.n1, g.ok, g.f0, g.f1, g.u0, g.u1, g.a0, g.a1, g.la, g.wl, by show ((j.deeds ++ [_]).length : Int) ≤ N + 1; rw [List.length_append]; simp; omega, g.cg, g.cs, g.cq, g.ch, g.ow, ⟨d1, d2, d3, d4, by show 0 ≤ j.D.la + 1; omega, by show j.D.la + 1 ≤ N + 1; omega⟩, fun _ => ⟨r1, r2, r3, r4, ?_, fun _ => ⟨j.deeds.length, rfl, by show j.deeds.length < (j.deeds ++ [_]).length; rw [List.length_append]; simp, j.deeds.length, rfl, x.ak, ?_⟩⟩, fun y hy => ?_, fun d hd => ?_⟩
  · show j.D.la + 1 = lastN j.D.se (j.deeds ++ [⟨x.m.se, x.m.nu, x.ak⟩]) 0
    rw [lastN_append, if_pos h3.symm]
    exact h4.symm
  · show (j.deeds ++ [⟨x.m.se, x.m.nu, x.ak⟩])[j.deeds.length]? = some ⟨j.D.se, j.D.la + 1, x.ak⟩
    rw [List.getElem?_append_right (Nat.le_refl _), Nat.sub_self, h3, h4]
    rfl
  · have p := h.wy y hy
    exact ⟨p.s0, p.s1, p.l0, p.l1, p.rq, fun e => (p.rp e).imp id fun z => z.imp id fun ⟨u, v⟩ => ⟨u, v.push _⟩⟩
  · rcases List.mem_append.1 hd with hd | hd
    · exact h.dd d hd
    · rw [List.mem_singleton.1 hd]
      exact ⟨a3, q.s1, a5⟩
end
end Go.Proofs.Ytonoogiadgjodaa
