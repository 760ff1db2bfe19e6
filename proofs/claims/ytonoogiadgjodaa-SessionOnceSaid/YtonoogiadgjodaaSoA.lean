import Derived.Test.YtonoogiadgjodaaSeX
namespace Go.Proofs.Ytonoogiadgjodaa
open Go.RowKit

/-- a message under way -/
structure Sd where
  m : Sm
  tb : Bool
  li : Int
  ak : Int
  an : Int
/-- a request that acted -/
structure De where
  se : Int
  nu : Int
  ak : Int
/-- a caller and a table, joined -/
structure Jt where
  c : Cl
  D : Dk
  life : Int
  used : Int
  asked : Int
  way : List Sd
  deeds : List De
/-- the number of the last deed of a session -/
def lastN (s : Int) : List De → Int → Int
  | [], a => a
  | d :: ds, a => lastN s ds (if d.se = s then d.nu else a)
theorem lastN_append (s : Int) (ds : List De) (d : De) (a : Int) : lastN s (ds ++ [d]) a = if d.se = s then d.nu else lastN s ds a := by
  induction ds generalizing a with
  | nil => rfl
  | cons x ds ih => simp only [List.cons_append, lastN]; exact ih _
theorem lastN_none (s : Int) (ds : List De) (a : Int) (h : ∀ d ∈ ds, d.se ≠ s) : lastN s ds a = a := by
  induction ds generalizing a with
  | nil => rfl
  | cons x ds ih =>
    simp only [lastN]
    rw [if_neg (h x (List.mem_cons_self ..))]
    exact ih _ fun d hd => h d (List.mem_cons_of_mem _ hd)
/-- the text of an answer -/
def txt (n : Nat) : ByteArray := ⟨#[(n / 65536 % 256).toUInt8, (n / 256 % 256).toUInt8, (n % 256).toUInt8]⟩
/-- the deed of that place is this one's -/
def Ans (ds : List De) (i : Int) (s n : Int) : Prop := ∃ k : Nat, i = (k : Int) + 1 ∧ ∃ a, ds[k]? = some ⟨s, n, a⟩
theorem Ans.push {ds : List De} {i s n : Int} (h : Ans ds i s n) (d : De) : Ans (ds ++ [d]) i s n := by
  obtain ⟨k, h1, a, h2⟩ := h
  exact ⟨k, h1, a, by rw [List.getElem?_append_left (List.getElem?_eq_some_iff.1 h2).1]; exact h2⟩
/-- an asking that is no longer the one under way, or is it -/
def Old (own : Int → Int) (j : Jt) (s n a : Int) : Prop := own s = j.life → s ≤ j.c.gr ∧ (s = j.c.se → n ≤ j.c.la ∧ (n = j.c.la → 2 ≤ j.c.m.k → a = j.asked))
/-- what may be under way -/
structure Good (own : Int → Int) (j : Jt) (x : Sd) : Prop where
  s0 : 0 ≤ x.m.se
  s1 : x.m.se ≤ j.used
  l0 : 1 ≤ x.li
  l1 : x.li ≤ j.life
  rq : x.tb = true → x.m.k = 1 ∨ (2 ≤ x.m.k ∧ x.m.k ≤ 4 ∧ 1 ≤ x.m.se ∧ own x.m.se = x.li ∧ Old own j x.m.se x.m.nu x.ak)
  rp : x.tb = false → (x.m.k = 7 ∧ 1 ≤ x.m.se ∧ own x.m.se = x.li) ∨ x.m.k = 8 ∨ ((x.m.k = 10 ∨ x.m.k = 11 ∨ x.m.k = 13) ∧ Ans j.deeds x.an x.m.se x.m.nu)
/-- what always is -/
structure Inv (own : Int → Int) (N : Int) (j : Jt) : Prop where
  n0 : 0 ≤ N
  n1 : N ≤ 4194304
  ok : j.c.ok
  f0 : 1 ≤ j.life
  f1 : j.life ≤ N + 1
  u0 : 0 ≤ j.used
  u1 : j.used ≤ N
  a0 : 0 ≤ j.asked
  a1 : j.asked ≤ N
  la : j.c.la ≤ N
  wl : (j.way.length : Int) ≤ N
  dl : (j.deeds.length : Int) ≤ N
  cg : j.c.gr ≤ j.used
  cs : j.c.se ≠ 0 → 1 ≤ j.c.se ∧ j.c.se ≤ j.c.gr ∧ own j.c.se = j.life
  cq : 2 ≤ j.c.m.k → j.c.m.se = j.c.se ∧ j.c.m.nu = j.c.la ∧ j.c.se ≠ 0
  ch : j.c.m.k = 1 → j.c.m.se = 0
  ow : ∀ s, 1 ≤ s → s ≤ j.used → own s ≤ j.life
  d0 : 0 ≤ j.D.li ∧ j.D.li ≤ 1099511627776 ∧ 0 ≤ j.D.se ∧ j.D.se ≤ 1099511627776 ∧ 0 ≤ j.D.la ∧ j.D.la ≤ N
  dr : j.D.li ≠ 0 → j.D.li ≤ j.life ∧ 1 ≤ j.D.se ∧ j.D.se ≤ j.used ∧ own j.D.se = j.D.li ∧ j.D.la = lastN j.D.se j.deeds 0 ∧ (j.D.la ≠ 0 → ∃ k : Nat, j.D.rp = txt (k + 1) ∧ k < j.deeds.length ∧ Ans j.deeds ((k : Int) + 1) j.D.se j.D.la)
  wy : ∀ x ∈ j.way, Good own j x
  dd : ∀ d ∈ j.deeds, 1 ≤ d.se ∧ d.se ≤ j.used ∧ Old own j d.se d.nu d.ak
section
variable {own : Int → Int} {N : Int} {j : Jt}
theorem Inv.up (h : Inv own N j) (hN : N + 1 ≤ 4194304) : Inv own (N + 1) j := by
  have h0 := h.n0; have h1 := h.f1; have h2 := h.u1; have h3 := h.a1; have h4 := h.la; have h5 := h.wl; have h6 := h.dl; have h7 := h.d0
  exact ⟨by omega, hN, h.ok, h.f0, by omega, h.u0, by omega, h.a0, by omega, by omega, by omega, by omega, h.cg, h.cs, h.cq, h.ch, h.ow, ⟨h7.1, h7.2.1, h7.2.2.1, h7.2.2.2.1, h7.2.2.2.2.1, by omega⟩, h.dr, h.wy, h.dd⟩
/-- what is said -/
def Jt.say (j : Jt) (x : Sd) : Jt := { j with way := j.way ++ [x] }
theorem Good.say {x y : Sd} (h : Good own j x) : Good own (j.say y) x := ⟨h.s0, h.s1, h.l0, h.l1, h.rq, h.rp⟩
theorem Inv.say (h : Inv own N j) (hN : N + 1 ≤ 4194304) {x : Sd} (hx : Good own j x) : Inv own (N + 1) (j.say x) := by
  have g := h.up hN
  have h5 := h.wl
  exact ⟨g.n0, g.n1, g.ok, g.f0, g.f1, g.u0, g.u1, g.a0, g.a1, g.la, by show ((j.way ++ [x]).length : Int) ≤ N + 1; rw [List.length_append]; simp; omega, g.dl, g.cg, g.cs, g.cq, g.ch, g.ow, g.d0, g.dr, fun y hy => by
    rcases List.mem_append.1 hy with hy | hy
    · exact (h.wy y hy).say
    · rw [List.mem_singleton.1 hy]; exact hx.say, g.dd⟩
/-- what is under way is dropped -/
theorem Inv.cut (h : Inv own N j) {W : List Sd} (hl : W.length ≤ j.way.length) (hm : ∀ x ∈ W, x ∈ j.way) : Inv own N { j with way := W } := by
  have h5 := h.wl
  exact ⟨h.n0, h.n1, h.ok, h.f0, h.f1, h.u0, h.u1, h.a0, h.a1, h.la, by show (W.length : Int) ≤ N; omega, h.dl, h.cg, h.cs, h.cq, h.ch, h.ow, h.d0, h.dr, fun y hy => let g := h.wy y (hm y hy); ⟨g.s0, g.s1, g.l0, g.l1, g.rq, g.rp⟩, h.dd⟩
/-- the table is forgotten -/
theorem Inv.forget (h : Inv own N j) : Inv own N { j with D := dk0 } :=
  ⟨h.n0, h.n1, h.ok, h.f0, h.f1, h.u0, h.u1, h.a0, h.a1, h.la, h.wl, h.dl, h.cg, h.cs, h.cq, h.ch, h.ow, ⟨Int.le_refl _, by show (0 : Int) ≤ _; decide, Int.le_refl _, by show (0 : Int) ≤ _; decide, Int.le_refl _, h.n0⟩, fun e => absurd rfl e, fun y hy => let g := h.wy y hy; ⟨g.s0, g.s1, g.l0, g.l1, g.rq, g.rp⟩, h.dd⟩
/-- the caller begins its next life -/
theorem Inv.born (h : Inv own N j) (hN : N + 1 ≤ 4194304) : Inv own (N + 1) { j with life := j.life + 1, c := newC 2 } := by
  have g := h.up hN
  have h1 := h.f1; have hf := h.f0
  refine ⟨g.n0, g.n1, newC_ok (by decide) (by decide), by show 1 ≤ j.life + 1; omega, by show j.life + 1 ≤ N + 1 + 1; omega, g.u0, g.u1, g.a0, g.a1, by show (0 : Int) ≤ N + 1; have := h.n0; omega, g.wl, g.dl, h.u0, fun e => absurd rfl e, fun e => absurd e (by show ¬ (2 : Int) ≤ 0; decide), fun e => absurd e (by show ¬ (0 : Int) = 1; decide), fun s h1 h2 => by have := h.ow s h1 h2; show own s ≤ j.life + 1; omega, g.d0, fun e => ?_, fun x hx => ?_, fun d hd => ?_⟩
  · obtain ⟨r1, r2⟩ := h.dr e
    exact ⟨by show j.D.li ≤ j.life + 1; omega, r2⟩
  · have q := h.wy x hx
    have ql := q.l1
    refine ⟨q.s0, q.s1, q.l0, by show x.li ≤ j.life + 1; omega, fun e => ?_, q.rp⟩
    rcases q.rq e with a | ⟨a1, a2, a3, a4, _⟩
    · exact .inl a
    · refine .inr ⟨a1, a2, a3, a4, fun e2 => ?_⟩
      have e2 : own x.m.se = j.life + 1 := e2
      omega
  · obtain ⟨r1, r2, _⟩ := h.dd d hd
    have := h.ow d.se r1 r2
    refine ⟨r1, r2, fun e2 => ?_⟩
    have e2 : own d.se = j.life + 1 := e2
    omega
/-- only the timer is turned -/
theorem Inv.timer (h : Inv own N j) {c' : Cl} (hk : c'.ok) (h1 : c'.m = j.c.m) (h2 : c'.se = j.c.se) (h3 : c'.gr = j.c.gr) (h4 : c'.la = j.c.la) : Inv own N { j with c := c' } := by
  have old : ∀ {s n a}, Old own j s n a → Old own { j with c := c' } s n a := fun {s n a} ho e => by
    obtain ⟨r1, r2⟩ := ho e
    exact ⟨by show s ≤ c'.gr; rw [h3]; exact r1, fun e2 => by
      obtain ⟨q1, q2⟩ := r2 (e2.trans h2)
      exact ⟨by show n ≤ c'.la; rw [h4]; exact q1, fun e3 e4 => q2 (e3.trans h4) (by rw [← h1]; exact e4)⟩⟩
  exact ⟨h.n0, h.n1, hk, h.f0, h.f1, h.u0, h.u1, h.a0, h.a1, by show c'.la ≤ N; rw [h4]; exact h.la, h.wl, h.dl, by show c'.gr ≤ j.used; rw [h3]; exact h.cg, by show c'.se ≠ 0 → 1 ≤ c'.se ∧ c'.se ≤ c'.gr ∧ own c'.se = j.life; rw [h2, h3]; exact h.cs, by show 2 ≤ c'.m.k → c'.m.se = c'.se ∧ c'.m.nu = c'.la ∧ c'.se ≠ 0; rw [h1, h2, h4]; exact h.cq, by show c'.m.k = 1 → c'.m.se = 0; rw [h1]; exact h.ch, h.ow, h.d0, h.dr, fun x hx => let q := h.wy x hx; ⟨q.s0, q.s1, q.l0, q.l1, fun e => (q.rq e).imp id fun ⟨a1, a2, a3, a4, a5⟩ => ⟨a1, a2, a3, a4, old a5⟩, q.rp⟩, fun d hd => let ⟨r1, r2, r3⟩ := h.dd d hd; ⟨r1, r2, old r3⟩⟩
/-- the caller wants a session -/
theorem Inv.hello (h : Inv own N j) (hN : N + 1 ≤ 4194304) (hk : j.c.m.k = 0) : Inv own (N + 1) { j with c := j.c.hello.c, asked := j.asked + 1 } := by
  have g := h.up hN
  have hc : j.c.hello = ⟨0, { j.c with se := 0, m := zS 1, ti := 0 }⟩ := if_pos hk
  have hok := Cl.hello_ok h.ok
  rw [hc] at hok ⊢
  have old : ∀ {s n a}, 1 ≤ s → Old own j s n a → Old own { j with c := { j.c with se := 0, m := zS 1, ti := 0 }, asked := j.asked + 1 } s n a := fun {s n a} h1 ho e => ⟨(ho e).1, fun e2 => by have e2 : s = 0 := e2; omega⟩
  have h3 := h.a1; have h4 := h.a0
  exact ⟨g.n0, g.n1, hok, g.f0, g.f1, g.u0, g.u1, by show 0 ≤ j.asked + 1; omega, by show j.asked + 1 ≤ N + 1; omega, g.la, g.wl, g.dl, g.cg, fun e => absurd rfl e, fun e => absurd e (by show ¬ (2 : Int) ≤ 1; decide), fun _ => rfl, g.ow, g.d0, g.dr, fun x hx => let q := h.wy x hx; ⟨q.s0, q.s1, q.l0, q.l1, fun e => (q.rq e).imp id fun ⟨a1, a2, a3, a4, a5⟩ => ⟨a1, a2, a3, a4, old a3 a5⟩, q.rp⟩, fun d hd => let ⟨r1, r2, r3⟩ := h.dd d hd; ⟨r1, r2, old r1 r3⟩⟩
/-- the caller asks -/
theorem Inv.ask (h : Inv own N j) (hN : N + 1 ≤ 4194304) (hk : j.c.m.k = 0) (hs : j.c.se ≠ 0) {m : Sm} (hm : m.k = 2 ∨ m.k = 3 ∨ m.k = 4) : (j.c.ask m).e = 0 ∧ Inv own (N + 1) { j with c := (j.c.ask m).c, asked := j.asked + 1 } := by
  have g := h.up hN
  have hla := h.la; have hn1 := h.n1
  have hc : j.c.ask m = ⟨0, { j.c with la := j.c.la + 1, m := { m with se := j.c.se, nu := j.c.la + 1 }, ti := 0 }⟩ := by
    unfold Cl.ask
    rw [if_neg (by omega), if_neg (fun x => x hk), if_neg (by omega)]
  have hok := Cl.ask_ok h.ok m
  rw [hc] at hok ⊢
  refine ⟨rfl, ?_⟩
  have old : ∀ {s n a}, Old own j s n a → Old own { j with c := { j.c with la := j.c.la + 1, m := { m with se := j.c.se, nu := j.c.la + 1 }, ti := 0 }, asked := j.asked + 1 } s n a := fun {s n a} ho e => ⟨(ho e).1, fun e2 => by
    have := ((ho e).2 e2).1
    exact ⟨by show n ≤ j.c.la + 1; omega, fun e3 => by have e3 : n = j.c.la + 1 := e3; omega⟩⟩
  have h3 := h.a1; have h4 := h.a0
  exact ⟨g.n0, g.n1, hok, g.f0, g.f1, g.u0, g.u1, by show 0 ≤ j.asked + 1; omega, by show j.asked + 1 ≤ N + 1; omega, by show j.c.la + 1 ≤ N + 1; omega, g.wl, g.dl, g.cg, g.cs, fun _ => ⟨rfl, rfl, hs⟩, fun e => by have e : m.k = 1 := e; omega, g.ow, g.d0, g.dr, fun x hx => let q := h.wy x hx; ⟨q.s0, q.s1, q.l0, q.l1, fun e => (q.rq e).imp id fun ⟨a1, a2, a3, a4, a5⟩ => ⟨a1, a2, a3, a4, old a5⟩, q.rp⟩, fun d hd => let ⟨r1, r2, r3⟩ := h.dd d hd; ⟨r1, r2, old r3⟩⟩
/-- what is due is good to be said -/
theorem Inv.due (h : Inv own N j) (hk : j.c.m.k ≠ 0) : Good own j ⟨j.c.m, true, j.life, j.asked, 0⟩ := by
  rcases h.ok.k with ⟨a, _⟩ | ⟨a, _⟩
  · have hk1 : j.c.m.k = 1 := by omega
    have hse := h.ch hk1
    exact ⟨by show 0 ≤ j.c.m.se; omega, by show j.c.m.se ≤ j.used; have := h.u0; omega, h.f0, Int.le_refl _, fun _ => .inl hk1, fun e => by cases e⟩
  · obtain ⟨q1, q2, q3⟩ := h.cq (by omega)
    obtain ⟨s1, s2, s3⟩ := h.cs q3
    have := h.cg
    exact ⟨by show 0 ≤ j.c.m.se; omega, by show j.c.m.se ≤ j.used; omega, h.f0, Int.le_refl _, fun _ => .inr ⟨by show 2 ≤ j.c.m.k; omega, by show j.c.m.k ≤ 4; omega, by show 1 ≤ j.c.m.se; omega, by show own j.c.m.se = j.life; rw [q1]; exact s3, fun _ => ⟨by show j.c.m.se ≤ j.c.gr; omega, fun _ => ⟨by show j.c.m.nu ≤ j.c.la; omega, fun _ _ => rfl⟩⟩⟩, fun e => by cases e⟩
end
end Go.Proofs.Ytonoogiadgjodaa
