import Derived.Test.YtpmjhndkcdfpfaaBdD
import Derived.Test.YtpmjhndkcdfpfaaBdO
namespace Go.Proofs.Ytpmjhndkcdfpfaa
open Go.RowKit

theorem own_keep {w w' : World} {B : Nat} {e : TypeId} {size n : Nat} {v : Value} {xs : List Value} (h : w.ownsRow B e size v n xs) (hk : ∀ k, v.ownBlock = some k → w'.heap[k]? = w.heap[k]?) : w'.ownsRow B e size v n xs := by
  refine ⟨h.1, ?_⟩
  rcases h.2 with h1 | ⟨g, cap, cur, rfl, hg, hb, h2⟩
  · exact .inl h1
  · exact .inr ⟨g, cap, cur, rfl, hg, (hk g rfl).trans hb, h2⟩
theorem own_blk {w : World} {B n size : Nat} {e : TypeId} {v : Value} {xs : List Value} (h : w.ownsRow B e size v n xs) {k : Nat} (hk : v.ownBlock = some k) : ∃ cs, w.heap[k]? = some (.cells cs e (0, 0)) := by
  rcases h.2 with ⟨rfl, _⟩ | ⟨g, cap, cur, rfl, _, hg, _⟩
  · cases hk
  · injection hk with hk; subst hk; exact ⟨cur, hg⟩
theorem blk_ne {w : World} {a b : Nat} {cs ds : Array Value} {s t : TypeId} (h : w.heap[a]? = some (.cells cs s (0, 0))) (k : w.heap[b]? = some (.cells ds t (0, 0))) (hn : s ≠ t) : a ≠ b := by
  rintro rfl
  rw [h] at k; injection k with k; injection k with _ k; exact hn k
/-- a counter and the document's -/
structure Sc where
  b : Nat
  x : Nat
  c : Bc
def pbs (L : List Sc) : List Value := L.map fun s => .pointer (some ⟨s.b, 0, none⟩)
def pxs (L : List Sc) : List Value := L.map fun s => .pointer (some ⟨s.x, 0, none⟩)
structure Kp (B : Nat) (w : World) (L : List Sc) : Prop where
  ok : ∀ (i : Nat) (s : Sc), L[i]? = some s → s.c.ok
  cb : ∀ (i : Nat) (s : Sc), L[i]? = some s → Cm 47 w s.b s.c
  cx : ∀ (i : Nat) (s : Sc), L[i]? = some s → Cm 42 w s.x s.c
  lo : ∀ (i : Nat) (s : Sc), L[i]? = some s → B ≤ s.b ∧ B ≤ s.x
  ap : ∀ (i j : Nat) (s t : Sc), L[i]? = some s → L[j]? = some t → i ≠ j → s.b ≠ t.b ∧ s.x ≠ t.x
section
variable {B : Nat} {w w' : World} {L : List Sc}
theorem Kp.keep (h : Kp B w L) (hb : ∀ (k : Nat) (cs : Array Value), w.heap[k]? = some (Obj.cells cs 47 (0, 0)) → w'.heap[k]? = w.heap[k]?) (hx : ∀ (k : Nat) (cs : Array Value), w.heap[k]? = some (Obj.cells cs 42 (0, 0)) → w'.heap[k]? = w.heap[k]?) : Kp B w' L :=
  ⟨h.ok, fun i s hs => (hb _ _ (h.cb i s hs)).trans (h.cb i s hs), fun i s hs => (hx _ _ (h.cx i s hs)).trans (h.cx i s hs), h.lo, h.ap⟩
theorem Kp.below (h : Kp B w L) (hb : Below w.heap.size w w') : Kp B w' L := h.keep (fun k _ e => hb.block k (lt_of_block e)) (fun k _ e => hb.block k (lt_of_block e))
/-- one pair has answered -/
theorem Kp.step {w1 : World} (h : Kp B w L) {p : Nat} {s : Sc} (hs : L[p]? = some s) {c' : Bc} (hc : c'.ok) (h1 : Cm 47 w1 s.b c') (ho1 : On s.b w w1) (h2 : Cm 42 w' s.x c') (ho2 : On s.x w1 w') : Kp B w' (L.set p ⟨s.b, s.x, c'⟩) := by
  have hp : p < L.length := (List.getElem?_eq_some_iff.1 hs).1
  have hbx : s.b ≠ s.x := blk_ne (h.cb p s hs) (h.cx p s hs) (by decide)
  have get : ∀ (j : Nat) (y : Sc), (L.set p ⟨s.b, s.x, c'⟩)[j]? = some y → (j = p ∧ y = ⟨s.b, s.x, c'⟩) ∨ (j ≠ p ∧ L[j]? = some y) := fun j y hy => by
    by_cases hj : j = p
    · subst hj
      rw [List.getElem?_set_self hp] at hy
      exact .inl ⟨rfl, by injection hy with hy; exact hy.symm⟩
    · rw [List.getElem?_set_ne (Ne.symm hj)] at hy
      exact .inr ⟨hj, hy⟩
  refine ⟨fun i y hy => ?_, fun i y hy => ?_, fun i y hy => ?_, fun i y hy => ?_, fun i j y z hy hz hij => ?_⟩
  · rcases get i y hy with ⟨rfl, rfl⟩ | ⟨hj, hy'⟩
    · exact hc
    · exact h.ok i y hy'
  · rcases get i y hy with ⟨rfl, rfl⟩ | ⟨hj, hy'⟩
    · exact h1.on ho2 hbx
    · have g := (h.cb i y hy').on ho1 (h.ap i p y s hy' hs hj).1
      exact g.on ho2 (blk_ne (h.cb i y hy') (h.cx p s hs) (by decide))
  · rcases get i y hy with ⟨rfl, rfl⟩ | ⟨hj, hy'⟩
    · exact h2
    · have g := (h.cx i y hy').on ho1 (blk_ne (h.cx i y hy') (h.cb p s hs) (by decide))
      exact g.on ho2 (h.ap i p y s hy' hs hj).2
  · rcases get i y hy with ⟨rfl, rfl⟩ | ⟨hj, hy'⟩
    · exact h.lo _ s hs
    · exact h.lo i y hy'
  · rcases get i y hy with ⟨rfl, rfl⟩ | ⟨hi, hy'⟩
    · rcases get j z hz with ⟨rfl, rfl⟩ | ⟨hj, hz'⟩
      · exact absurd rfl hij
      · exact h.ap _ j s z hs hz' hij
    · rcases get j z hz with ⟨rfl, rfl⟩ | ⟨hj, hz'⟩
      · exact h.ap i _ y s hy' hs hij
      · exact h.ap i j y z hy' hz' hij
theorem pbs_set {p : Nat} {s : Sc} (hs : L[p]? = some s) (c' : Bc) : pbs (L.set p ⟨s.b, s.x, c'⟩) = pbs L := by
  unfold pbs
  rw [List.map_set]
  apply List.ext_getElem?
  intro i
  by_cases hi : p = i
  · subst hi
    have hp : p < L.length := (List.getElem?_eq_some_iff.1 hs).1
    rw [List.getElem?_set_self (by simpa using hp), List.getElem?_map, hs]; rfl
  · rw [List.getElem?_set_ne hi]
theorem pxs_set {p : Nat} {s : Sc} (hs : L[p]? = some s) (c' : Bc) : pxs (L.set p ⟨s.b, s.x, c'⟩) = pxs L := by
  unfold pxs
  rw [List.map_set]
  apply List.ext_getElem?
  intro i
  by_cases hi : p = i
  · subst hi
    have hp : p < L.length := (List.getElem?_eq_some_iff.1 hs).1
    rw [List.getElem?_set_self (by simpa using hp), List.getElem?_map, hs]; rfl
  · rw [List.getElem?_set_ne hi]
/-- all of a script's state -/
structure Mem (B : Nat) (w : World) (vl vm : Value) (L : List Sc) : Prop where
  rl : w.ownsRow B 23 1 vl L.length (pbs L)
  rm : w.ownsRow B 27 1 vm L.length (pxs L)
  kp : Kp B w L
theorem Mem.below {vl vm : Value} (h : Mem B w vl vm L) (hb : Below w.heap.size w w') : Mem B w' vl vm L :=
  ⟨own_keep h.rl fun k hk => hb.block k (h.rl.lt k hk).2, own_keep h.rm fun k hk => hb.block k (h.rm.lt k hk).2, h.kp.below hb⟩
theorem Mem.drewN {vl vm : Value} (h : Mem B w vl vm L) (n : Nat) : Mem B (w.drewN n) vl vm L := ⟨own_keep h.rl fun _ _ => rfl, own_keep h.rm fun _ _ => rfl, ⟨h.kp.ok, h.kp.cb, h.kp.cx, h.kp.lo, h.kp.ap⟩⟩
theorem Mem.step {vl vm : Value} {w1 : World} (h : Mem B w vl vm L) {p : Nat} {s : Sc} (hs : L[p]? = some s) {c' : Bc} (hc : c'.ok) (h1 : Cm 47 w1 s.b c') (ho1 : On s.b w w1) (h2 : Cm 42 w' s.x c') (ho2 : On s.x w1 w') : Mem B w' vl vm (L.set p ⟨s.b, s.x, c'⟩) := by
  refine ⟨?_, ?_, h.kp.step hs hc h1 ho1 h2 ho2⟩
  · rw [List.length_set, pbs_set hs]
    refine own_keep h.rl fun k hk => ?_
    obtain ⟨cs, hcs⟩ := own_blk h.rl hk
    have n1 := blk_ne hcs (h.kp.cb p s hs) (by decide)
    have n2 := blk_ne hcs (h.kp.cx p s hs) (by decide)
    exact (ho2.block k (Nat.lt_of_lt_of_le (lt_of_block hcs) ho1.size) n2).trans (ho1.block k (lt_of_block hcs) n1)
  · rw [List.length_set, pxs_set hs]
    refine own_keep h.rm fun k hk => ?_
    obtain ⟨cs, hcs⟩ := own_blk h.rm hk
    have n1 := blk_ne hcs (h.kp.cb p s hs) (by decide)
    have n2 := blk_ne hcs (h.kp.cx p s hs) (by decide)
    exact (ho2.block k (Nat.lt_of_lt_of_le (lt_of_block hcs) ho1.size) n2).trans (ho1.block k (lt_of_block hcs) n1)
theorem Mem.cl {g cap : Nat} {vm : Value} (h : Mem B w (.slice (some ⟨g, 0, none⟩) L.length cap) vm L) {i : Nat} {s : Sc} (hs : L[i]? = some s) : w.cell? ⟨g, i, none⟩ = some (.pointer (some ⟨s.b, 0, none⟩)) := by
  have e1 := h.rl.cells (g := g) rfl i (.pointer (some ⟨s.b, 0, none⟩)) (by unfold pbs; rw [List.getElem?_map, hs]; rfl)
  rw [Addr.add_lit, Nat.zero_add] at e1
  exact e1
theorem Mem.cm {g cap : Nat} {vl : Value} (h : Mem B w vl (.slice (some ⟨g, 0, none⟩) L.length cap) L) {i : Nat} {s : Sc} (hs : L[i]? = some s) : w.cell? ⟨g, i, none⟩ = some (.pointer (some ⟨s.x, 0, none⟩)) := by
  have e1 := h.rm.cells (g := g) rfl i (.pointer (some ⟨s.x, 0, none⟩)) (by unfold pxs; rw [List.getElem?_map, hs]; rfl)
  rw [Addr.add_lit, Nat.zero_add] at e1
  exact e1
/-- one pair more -/
theorem Kp.push (h : Kp B w L) {b x : Nat} {c : Bc} (hc : c.ok) (hb : Cm 47 w b c) (hx : Cm 42 w x c) (lb : B ≤ b) (lx : B ≤ x) (nb : ∀ (i : Nat) (s : Sc), L[i]? = some s → s.b ≠ b ∧ s.x ≠ x) : Kp B w (L ++ [⟨b, x, c⟩]) := by
  have get : ∀ (j : Nat) (y : Sc), (L ++ [⟨b, x, c⟩])[j]? = some y → (j = L.length ∧ y = ⟨b, x, c⟩) ∨ L[j]? = some y := fun j y hy => by
    by_cases hj : j < L.length
    · rw [List.getElem?_append_left hj] at hy; exact .inr hy
    · rw [List.getElem?_append_right (by omega)] at hy
      have : j - L.length = 0 := by
        by_cases h0 : j - L.length = 0
        · exact h0
        · rw [List.getElem?_eq_none (by simp; omega)] at hy; cases hy
      rw [this] at hy
      exact .inl ⟨by omega, by injection hy with hy; exact hy.symm⟩
  refine ⟨fun i y hy => ?_, fun i y hy => ?_, fun i y hy => ?_, fun i y hy => ?_, fun i j y z hy hz hij => ?_⟩
  · rcases get i y hy with ⟨_, rfl⟩ | hy'
    · exact hc
    · exact h.ok i y hy'
  · rcases get i y hy with ⟨_, rfl⟩ | hy'
    · exact hb
    · exact h.cb i y hy'
  · rcases get i y hy with ⟨_, rfl⟩ | hy'
    · exact hx
    · exact h.cx i y hy'
  · rcases get i y hy with ⟨_, rfl⟩ | hy'
    · exact ⟨lb, lx⟩
    · exact h.lo i y hy'
  · rcases get i y hy with ⟨e1, rfl⟩ | hy'
    · rcases get j z hz with ⟨e2, rfl⟩ | hz'
      · exact absurd (e1.trans e2.symm) hij
      · obtain ⟨n1, n2⟩ := nb j z hz'; exact ⟨Ne.symm n1, Ne.symm n2⟩
    · rcases get j z hz with ⟨e2, rfl⟩ | hz'
      · exact nb i y hy'
      · exact h.ap i j y z hy' hz' hij
/-- what turns one row alone keeps the rest -/
theorem Kp.grown {v : Value} {e : TypeId} {n size : Nat} {xs : List Value} (h : Kp B w L) (ho : w.ownsRow B e size v n xs) (h1 : e ≠ 47) (h2 : e ≠ 42) (hk : ∀ k, k < w.heap.size → v.ownBlock ≠ some k → w'.heap[k]? = w.heap[k]?) : Kp B w' L := by
  refine h.keep (fun k cs he => hk k (lt_of_block he) fun e => ?_) (fun k cs he => hk k (lt_of_block he) fun e => ?_)
  · obtain ⟨ds, hds⟩ := own_blk ho e; exact blk_ne hds he h1 rfl
  · obtain ⟨ds, hds⟩ := own_blk ho e; exact blk_ne hds he h2 rfl
end
end Go.Proofs.Ytpmjhndkcdfpfaa
