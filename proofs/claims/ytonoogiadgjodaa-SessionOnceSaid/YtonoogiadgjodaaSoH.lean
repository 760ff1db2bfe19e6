import Derived.Test.YtonoogiadgjodaaSoF
namespace Go.Proofs.Ytonoogiadgjodaa
open Go.RowKit

section
variable {own : Int → Int} {N : Int} {j : Jt} {x : Sd}
theorem atD_one (d : Dk) : atD [d] 0 = some d := rfl
theorem Good.cnt (q : Good own j x) (h : Inv own N j) : cnt x.li := ⟨q.l0, by have := q.l1; have := h.f1; have := h.n1; omega⟩
/-- the welcome of a session that stands -/
def wel (x : Sd) (s : Int) : Sd := ⟨{ zS 7 with se := s }, false, x.li, 0, 0⟩
def stl (x : Sd) : Sd := ⟨{ zS 8 with se := x.m.se, nu := x.m.nu }, false, x.li, 0, 0⟩
theorem hello_old (h : Inv own N j) (q : Good own j x) (h1 : x.li < j.D.li) : tHello [j.D] 0 x.li = (0, 0) := by
  unfold tHello
  rw [atD_one]
  show (if ¬ Go.Proofs.Ytonoogiadgjodaa.cnt x.li then (0, 0) else if x.li < j.D.li then (0, 0) else if j.D.li = x.li then (1, j.D.se) else (2, 0)) = _
  rw [if_neg (fun e => e (q.cnt h)), if_pos h1]
theorem hello_same (h : Inv own N j) (q : Good own j x) (h1 : j.D.li = x.li) : tHello [j.D] 0 x.li = (1, j.D.se) := by
  unfold tHello
  rw [atD_one]
  show (if ¬ Go.Proofs.Ytonoogiadgjodaa.cnt x.li then (0, 0) else if x.li < j.D.li then (0, 0) else if j.D.li = x.li then (1, j.D.se) else (2, 0)) = _
  rw [if_neg (fun e => e (q.cnt h)), if_neg (by omega), if_pos h1]
theorem hello_new (h : Inv own N j) (q : Good own j x) (h1 : j.D.li < x.li) : tHello [j.D] 0 x.li = (2, 0) := by
  unfold tHello
  rw [atD_one]
  show (if ¬ Go.Proofs.Ytonoogiadgjodaa.cnt x.li then (0, 0) else if x.li < j.D.li then (0, 0) else if j.D.li = x.li then (1, j.D.se) else (2, 0)) = _
  rw [if_neg (fun e => e (q.cnt h)), if_neg (by omega), if_neg (by omega)]
theorem open_new (h : Inv own N j) (q : Good own j x) (h1 : j.D.li < x.li) : tOpen [j.D] 0 x.li (j.used + 1) = ⟨0, [⟨0, x.li, j.used + 1, 0, e0⟩]⟩ := by
  have hu := h.u0; have hv := h.u1; have hn := h.n1
  unfold tOpen
  rw [atD_one]
  show (if ¬ Go.Proofs.Ytonoogiadgjodaa.cnt x.li then TR.mk 132 [j.D] else if ¬ Go.Proofs.Ytonoogiadgjodaa.cnt (j.used + 1) then TR.mk 132 [j.D] else if x.li < j.D.li then TR.mk 132 [j.D] else TR.mk 0 ([j.D].set (0 : Int).toNat ⟨0, x.li, j.used + 1, 0, e0⟩)) = _
  rw [if_neg (fun e => e (q.cnt h)), if_neg (fun e => e ⟨by omega, by omega⟩), if_neg (by omega)]
  rfl
theorem Inv.welO (h : Inv own N j) (hN : N + 1 ≤ 4194304) (q : Good own j x) (h1 : j.D.li = x.li) : Inv own (N + 1) (j.say (wel x j.D.se)) := by
  have l0 := q.l0
  obtain ⟨r1, r2, r3, r4, _⟩ := h.dr (by omega)
  refine h.say hN ⟨by show 0 ≤ j.D.se; omega, r3, q.l0, q.l1, fun e => (by cases e), fun _ => .inl ⟨rfl, r2, by show own j.D.se = x.li; omega⟩⟩
theorem Inv.welN (h : Inv own N j) (hN : N + 2 ≤ 4194304) (q : Good own j x) : Inv (owns own (j.used + 1) x.li) (N + 2) (Jt.say { j with used := j.used + 1, D := ⟨0, x.li, j.used + 1, 0, e0⟩ } (wel x (j.used + 1))) := by
  have hf := h.fresh (by omega) q.l0 q.l1
  have hu := h.u0
  have := hf.say (x := wel x (j.used + 1)) (by omega) ⟨by show 0 ≤ j.used + 1; omega, Int.le_refl _, q.l0, q.l1, fun e => (by cases e), fun _ => .inl ⟨rfl, by show 1 ≤ j.used + 1; omega, if_pos rfl⟩⟩
  rw [show N + 2 = N + 1 + 1 by omega]
  exact this
theorem Inv.stlS (h : Inv own N j) (hN : N + 1 ≤ 4194304) (q : Good own j x) : Inv own (N + 1) (j.say (stl x)) :=
  h.say hN ⟨q.s0, q.s1, q.l0, q.l1, fun e => (by cases e), fun _ => .inr (.inl rfl)⟩
theorem rpl_k (x : Sd) (an : Int) : (rpl x an).m.k = 10 ∨ (rpl x an).m.k = 11 ∨ (rpl x an).m.k = 13 := by
  by_cases a : x.m.k = 4
  · exact .inr (.inr (if_pos a))
  · by_cases b : x.m.k = 3
    · exact .inr (.inl ((if_neg a).trans (if_pos b)))
    · exact .inl ((if_neg a).trans (if_neg b))
theorem Inv.rplR (h : Inv own N j) (hN : N + 1 ≤ 4194304) {x : Sd} (q : Good own j x) {an : Int} (ha : Ans j.deeds an x.m.se x.m.nu) : Inv own (N + 1) (j.say (rpl x an)) :=
  h.say hN ⟨q.s0, q.s1, q.l0, q.l1, fun e => (by cases e), fun _ => .inr (.inr ⟨rpl_k x an, ha⟩)⟩
/-- what the table makes of a request -/
theorem ask_stale (h1 : j.D.li = 0 ∨ j.D.li ≠ x.li ∨ j.D.se ≠ x.m.se) : tAsk [j.D] 0 x.li x.m.se x.m.nu = (1, e0) := by
  unfold tAsk
  rw [atD_one]
  show (if j.D.li = 0 then (1, e0) else if j.D.li ≠ x.li then (1, e0) else if j.D.se ≠ x.m.se then (1, e0) else _) = _
  by_cases a : j.D.li = 0
  · rw [if_pos a]
  · rw [if_neg a]
    by_cases b : j.D.li = x.li
    · rw [if_neg (fun e => e b)]
      by_cases c : j.D.se = x.m.se
      · rcases h1 with h1 | h1 | h1
        · exact absurd h1 a
        · exact absurd b h1
        · exact absurd c h1
      · rw [if_pos c]
    · rw [if_pos b]
theorem ask_on (h1 : j.D.li ≠ 0) (h2 : j.D.li = x.li) (h3 : j.D.se = x.m.se) : tAsk [j.D] 0 x.li x.m.se x.m.nu = if x.m.nu = j.D.la then (if x.m.nu ≠ 0 then (2, j.D.rp) else (0, e0)) else if x.m.nu = j.D.la + 1 then (3, e0) else (0, e0) := by
  unfold tAsk
  rw [atD_one]
  show (if j.D.li = 0 then (1, e0) else if j.D.li ≠ x.li then (1, e0) else if j.D.se ≠ x.m.se then (1, e0) else _) = _
  rw [if_neg h1, if_neg (fun e => e h2), if_neg (fun e => e h3)]
theorem ans_on (h : Inv own N j) (h1 : j.D.li ≠ 0) (rp : ByteArray) : tAnswer [j.D] 0 rp = ⟨0, [{ j.D with la := j.D.la + 1, rp := rp }]⟩ := by
  have hd := h.d0; have hn := h.n1
  unfold tAnswer
  rw [atD_one]
  show (if j.D.li = 0 then TR.mk 132 [j.D] else if j.D.la = 1099511627776 then TR.mk 132 [j.D] else TR.mk 0 ([j.D].set (0 : Int).toNat { j.D with la := j.D.la + 1, rp := rp })) = _
  rw [if_neg h1, if_neg (by omega)]
  rfl
/-- a request that acts, and its answer -/
theorem Inv.actsR (h : Inv own N j) (hN : N + 2 ≤ 4194304) (q : Good own j x) (hb : x.tb = true) (hk : x.m.k ≠ 1) (h1 : j.D.li ≠ 0) (h3 : j.D.se = x.m.se) (h4 : x.m.nu = j.D.la + 1) : Inv own (N + 2) (Jt.say { j with deeds := j.deeds ++ [⟨x.m.se, x.m.nu, x.ak⟩], D := { j.D with la := j.D.la + 1, rp := txt (j.deeds.length + 1) } } (rpl x ((j.deeds.length + 1 : Nat) : Int))) := by
  have ha := h.acts (by omega) q hb hk h1 h3 h4
  have q' : Good own { j with deeds := j.deeds ++ [⟨x.m.se, x.m.nu, x.ak⟩], D := { j.D with la := j.D.la + 1, rp := txt (j.deeds.length + 1) } } x := ⟨q.s0, q.s1, q.l0, q.l1, q.rq, fun e => (q.rp e).imp id fun z => z.imp id fun ⟨u, v⟩ => ⟨u, v.push _⟩⟩
  rw [show N + 2 = N + 1 + 1 by omega]
  refine ha.rplR (by omega) q' ⟨j.deeds.length, rfl, x.ak, ?_⟩
  show (j.deeds ++ [⟨x.m.se, x.m.nu, x.ak⟩])[j.deeds.length]? = some ⟨x.m.se, x.m.nu, x.ak⟩
  rw [List.getElem?_append_right (Nat.le_refl _), Nat.sub_self]
  rfl
end
end Go.Proofs.Ytonoogiadgjodaa
