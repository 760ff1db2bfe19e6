import Derived.Test.YteckkaapibbpcaaChK
namespace Go.Proofs.Yteckkaapibbpcaa
open Go.RowKit

def pbs (L : List Pr) : List Value := L.map fun p => .pointer (some ⟨p.b, 0, none⟩)
def pxs (L : List Pr) : List Value := L.map fun p => .pointer (some ⟨p.x, 0, none⟩)
theorem pbs_len (L : List Pr) : (pbs L).length = L.length := by simp [pbs]
theorem pxs_len (L : List Pr) : (pxs L).length = L.length := by simp [pxs]
/-- all pairs -/
structure Kp (B : Nat) (w : World) (L : List Pr) : Prop where
  one : ∀ (i : Nat) p, L[i]? = some p → One B w p
  ap : ∀ (i j : Nat) p q, i ≠ j → L[i]? = some p → L[j]? = some q → Ap p q
section
variable {B : Nat} {w w1 : World} {L : List Pr}
theorem Kp.below (h : Kp B w L) (hb : Below w.heap.size w w1) : Kp B w1 L := ⟨fun i p hi => (h.one i p hi).below hb, h.ap⟩
theorem own_blk {e : TypeId} {n : Nat} {v : Value} {xs : List Value} (h : w.ownsRow B e 1 v n xs) {k : Nat} (hk : v.ownBlock = some k) : ∃ cs, w.heap[k]? = some (.cells cs e (0, 0)) := by
  rcases h.2 with ⟨rfl, _⟩ | ⟨g, c, cur, rfl, _, hg, _⟩
  · cases hk
  · have e1 : g = k := by simpa [Value.ownBlock] using hk
    subst e1
    exact ⟨cur, hg⟩
/-- a row of another type grows -/
theorem grown_at {e : TypeId} {n : Nat} {v : Value} {xs : List Value} (hg : w.grownBy w1 v.ownBlock) (hv : w.ownsRow B e 1 v n xs) {j : Nat} {cs : Array Value} {t : TypeId} (hj : w.heap[j]? = some (.cells cs t (0, 0))) (ht : t ≠ e) : w1.heap[j]? = w.heap[j]? :=
  hg.block j (lt_of_block hj) (fun e1 => by obtain ⟨ds, hd⟩ := own_blk hv e1.symm; exact blk_ne hj hd ht rfl)
theorem One.grown {p : Pr} {e : TypeId} {n : Nat} {v : Value} {xs : List Value} (h : One B w p) (hg : w.grownBy w1 v.ownBlock) (hv : w.ownsRow B e 1 v n xs) (h1 : 53 ≠ e) (h2 : 37 ≠ e) (h3 : 9 ≠ e) : One B w1 p := by
  refine ⟨h.ok, ⟨(grown_at hg hv h.sb.cb h1).trans h.sb.cb, h.sb.rs.keep fun h0 => ?_⟩, ⟨(grown_at hg hv h.rb.cb h2).trans h.rb.cb, h.rb.rs.keep fun h0 => ?_, h.rb.hi⟩, h.lb, h.lx, h.lX, h.sep⟩
  · obtain ⟨cur, hc, _⟩ := h.sb.rs.blk h0
    exact grown_at hg hv hc h3
  · obtain ⟨cur, hc, _⟩ := h.rb.rs.blk h0
    exact grown_at hg hv hc h3
theorem Kp.grown {e : TypeId} {n : Nat} {v : Value} {xs : List Value} (h : Kp B w L) (hg : w.grownBy w1 v.ownBlock) (hv : w.ownsRow B e 1 v n xs) (h1 : 53 ≠ e) (h2 : 37 ≠ e) (h3 : 9 ≠ e) : Kp B w1 L := ⟨fun i p hi => (h.one i p hi).grown hg hv h1 h2 h3, h.ap⟩
theorem own_grown {e e2 : TypeId} {n n2 : Nat} {v v2 : Value} {xs ys : List Value} (h : w.ownsRow B e2 1 v2 n2 ys) (hg : w.grownBy w1 v.ownBlock) (hv : w.ownsRow B e 1 v n xs) (h1 : e2 ≠ e) : w1.ownsRow B e2 1 v2 n2 ys :=
  own_keep h fun k hk => by obtain ⟨cs, hc⟩ := own_blk h hk; exact grown_at hg hv hc h1
/-- a call at one of them -/
theorem Kp.step (h : Kp B w L) {k : Nat} {p p' : Pr} (hk : L[k]? = some p) (h1 : One B w1 p') (h2 : Fr p w w1) (h3 : Nx w p p') : Kp B w1 (L.set k p') := by
  have hlt := (List.getElem?_eq_some_iff.mp hk).1
  refine ⟨fun i q hq => ?_, fun i j q r hij hq hr => ?_⟩
  · rw [List.getElem?_set] at hq
    by_cases e : k = i
    · rw [if_pos e, if_pos hlt] at hq
      injection hq with hq
      subst hq
      exact h1
    · rw [if_neg e] at hq
      exact (h.one i q hq).fr h2 (h.one k p hk) (h.ap k i p q e hk hq)
  · rw [List.getElem?_set] at hq hr
    by_cases e : k = i
    · rw [if_pos e, if_pos hlt] at hq
      injection hq with hq
      subst hq
      rw [if_neg (by omega)] at hr
      exact (h.ap k j p r (by omega) hk hr).nx h3 (h.one j r hr).lo
    · rw [if_neg e] at hq
      by_cases e2 : k = j
      · rw [if_pos e2, if_pos hlt] at hr
        injection hr with hr
        subst hr
        exact (h.ap i k q p (by omega) hq hk).nx2 h3 (h.one i q hq).lo
      · rw [if_neg e2] at hr
        exact h.ap i j q r hij hq hr
theorem pbs_set {k : Nat} {p p' : Pr} (hk : L[k]? = some p) (hb : p'.b = p.b) : pbs (L.set k p') = pbs L := by
  unfold pbs
  rw [List.map_set, hb]
  apply List.ext_getElem?
  intro i
  rw [List.getElem?_set]
  by_cases e : k = i
  · subst e
    rw [if_pos rfl, List.getElem?_map, hk]
    simp [(List.getElem?_eq_some_iff.mp hk).1]
  · rw [if_neg e]
theorem pxs_set {k : Nat} {p p' : Pr} (hk : L[k]? = some p) (hb : p'.x = p.x) : pxs (L.set k p') = pxs L := by
  unfold pxs
  rw [List.map_set, hb]
  apply List.ext_getElem?
  intro i
  rw [List.getElem?_set]
  by_cases e : k = i
  · subst e
    rw [if_pos rfl, List.getElem?_map, hk]
    simp [(List.getElem?_eq_some_iff.mp hk).1]
  · rw [if_neg e]
/-- one more -/
theorem Kp.push (h : Kp B w L) {k : Nat} {p : Pr} (hk : L[k]? = some p) {b x : Nat} {ad' : Option Addr} (hs : Sb w b p.s ad' p.s.R.length p.X p.o) (hr : Rb w x p.s p.T p.adx p.capx p.Xx p.ox) (hb : B ≤ b) (hx : B ≤ x) (nb : ∀ (i : Nat) q, L[i]? = some q → q.b ≠ b ∧ q.x ≠ x) : Kp B w (L ++ [⟨b, x, p.s, p.T, ad', p.s.R.length, p.X, p.o, p.adx, p.capx, p.Xx, p.ox⟩]) := by
  have hp := h.one k p hk
  have hle := hp.sb.rs.le
  have hX : ∀ (i : Nat) q, L[i]? = some q → 0 < p.cap → 0 < q.capx → p.X ≠ q.Xx := fun i q hq h0 h1 => by
    by_cases e : k = i
    · subst e; rw [hk] at hq; injection hq with hq; subst hq; exact hp.sep h0 h1
    · exact (h.ap k i p q e hk hq).s1 h0 h1
  have hX2 : ∀ (i : Nat) q, L[i]? = some q → 0 < q.cap → 0 < p.capx → q.X ≠ p.Xx := fun i q hq h0 h1 => by
    by_cases e : k = i
    · subst e; rw [hk] at hq; injection hq with hq; subst hq; exact hp.sep h0 h1
    · exact (h.ap i k q p (by omega) hq hk).s1 h0 h1
  have hE : ∀ (i : Nat) q, L[i]? = some q → 0 < q.cap → 0 < p.cap → q.X = p.X → q.sp → p.o + p.s.R.length ≤ q.o + q.s.R.length := fun i q hq h0 h1 h2 h3 => by
    by_cases e : k = i
    · subst e; rw [hk] at hq; injection hq with hq; subst hq; exact Nat.le_refl _
    · exact ((h.ap i k q p (by omega) hq hk).X h0 h1 h2 h3).2
  have hnew : One B w ⟨b, x, p.s, p.T, ad', p.s.R.length, p.X, p.o, p.adx, p.capx, p.Xx, p.ox⟩ := ⟨hp.ok, hs, hr, hb, hx, fun h0 => hp.lX (by have h1 : 0 < p.s.R.length := h0; omega), fun h0 h1 => hp.sep (by have h2 : 0 < p.s.R.length := h0; omega) h1⟩
  have at_ : ∀ (i : Nat) q, (L ++ [(⟨b, x, p.s, p.T, ad', p.s.R.length, p.X, p.o, p.adx, p.capx, p.Xx, p.ox⟩ : Pr)])[i]? = some q → (i < L.length ∧ L[i]? = some q) ∨ (i = L.length ∧ q = ⟨b, x, p.s, p.T, ad', p.s.R.length, p.X, p.o, p.adx, p.capx, p.Xx, p.ox⟩) := fun i q hq => by
    by_cases e : i < L.length
    · rw [List.getElem?_append_left e] at hq; exact .inl ⟨e, hq⟩
    · rw [List.getElem?_append_right (by omega)] at hq
      have e2 : i - L.length = 0 := by
        have := (List.getElem?_eq_some_iff.mp hq).1
        simp at this
        omega
      rw [e2] at hq
      simp at hq
      exact .inr ⟨by omega, hq.symm⟩
  refine ⟨fun i q hq => ?_, fun i j q r hij hq hr => ?_⟩
  · rcases at_ i q hq with ⟨_, h1⟩ | ⟨_, rfl⟩
    · exact h.one i q h1
    · exact hnew
  · rcases at_ i q hq with ⟨_, h1⟩ | ⟨k1, rfl⟩
    · rcases at_ j r hr with ⟨_, h2⟩ | ⟨k2, rfl⟩
      · exact h.ap i j q r hij h1 h2
      · refine ⟨(nb i q h1).1, (nb i q h1).2, fun j0 j1 j2 j3 => ⟨fun hs => ?_, ?_⟩, fun j0 j1 => hX2 i q h1 j0 j1⟩
        · have h5 : p.s.R.length < p.s.R.length := hs
          omega
        · exact hE i q h1 j0 (by have h6 : 0 < p.s.R.length := j1; omega) j2 j3
    · rcases at_ j r hr with ⟨_, h2⟩ | ⟨k2, rfl⟩
      · refine ⟨Ne.symm (nb j r h2).1, Ne.symm (nb j r h2).2, fun j0 j1 j2 j3 => ?_, fun j0 j1 => hX j r h2 (by have h6 : 0 < p.s.R.length := j0; omega) j1⟩
        have h5 : p.s.R.length < p.s.R.length := j3
        omega
      · omega
end
/-- all that stands at a round's head -/
structure Mm (B : Nat) (w : World) (vl va : Value) (L : List Pr) : Prop where
  rl : w.ownsRow B 23 1 vl L.length (pbs L)
  ra : w.ownsRow B 27 1 va L.length (pxs L)
  kp : Kp B w L
section
variable {B : Nat} {w w1 : World} {vl va : Value} {L : List Pr}
theorem Mm.below (h : Mm B w vl va L) (hb : Below w.heap.size w w1) : Mm B w1 vl va L := ⟨own_below h.rl hb, own_below h.ra hb, h.kp.below hb⟩
theorem Mm.step (h : Mm B w vl va L) {k : Nat} {p p' : Pr} (hk : L[k]? = some p) (h1 : One B w1 p') (h2 : Fr p w w1) (h3 : Nx w p p') : Mm B w1 vl va (L.set k p') := by
  have hp := h.kp.one k p hk
  refine ⟨?_, ?_, h.kp.step hk h1 h2 h3⟩
  · rw [List.length_set, pbs_set hk h3.b]
    exact own_keep h.rl fun j hj => by obtain ⟨cs, hc⟩ := own_blk h.rl hj; exact h2.other hp hc (by decide) (by decide) (by decide)
  · rw [List.length_set, pxs_set hk h3.x]
    exact own_keep h.ra fun j hj => by obtain ⟨cs, hc⟩ := own_blk h.ra hj; exact h2.other hp hc (by decide) (by decide) (by decide)
theorem Mm.cl {g c : Nat} (h : Mm B w (.slice (some ⟨g, 0, none⟩) L.length c) va L) {k : Nat} {p : Pr} (hk : L[k]? = some p) : w.cell? ⟨g, k, none⟩ = some (.pointer (some ⟨p.b, 0, none⟩)) := by
  have e1 := h.rl.cells (g := g) rfl k (.pointer (some ⟨p.b, 0, none⟩)) (by unfold pbs; rw [List.getElem?_map, hk]; rfl)
  rw [Addr.add_lit, Nat.zero_add] at e1
  exact e1
theorem Mm.ca {g c : Nat} (h : Mm B w vl (.slice (some ⟨g, 0, none⟩) L.length c) L) {k : Nat} {p : Pr} (hk : L[k]? = some p) : w.cell? ⟨g, k, none⟩ = some (.pointer (some ⟨p.x, 0, none⟩)) := by
  have e1 := h.ra.cells (g := g) rfl k (.pointer (some ⟨p.x, 0, none⟩)) (by unfold pxs; rw [List.getElem?_map, hk]; rfl)
  rw [Addr.add_lit, Nat.zero_add] at e1
  exact e1
theorem Mm.formL (h : Mm B w vl va L) (h0 : 0 < L.length) : ∃ g c, vl = .slice (some ⟨g, 0, none⟩) L.length c := by
  obtain ⟨g, c, _, h1, _⟩ := own_form h.rl h0
  exact ⟨g, c, h1⟩
theorem Mm.formA (h : Mm B w vl va L) (h0 : 0 < L.length) : ∃ g c, va = .slice (some ⟨g, 0, none⟩) L.length c := by
  obtain ⟨g, c, _, h1, _⟩ := own_form h.ra h0
  exact ⟨g, c, h1⟩
end
end Go.Proofs.Yteckkaapibbpcaa
