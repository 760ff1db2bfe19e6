import Derived.Test.YtnbmgddkaclneaaNtI
namespace Go.Proofs.Ytnbmgddkaclneaa
open Go.RowKit

/-- what is not gone -/
def alive : List Dg → List Bool → List Dg
  | d :: sl, g :: gl => if g then alive sl gl else d :: alive sl gl
  | _, _ => []
theorem alive_append : ∀ (sl : List Dg) (gl : List Bool) (sl' : List Dg) (gl' : List Bool), sl.length = gl.length → alive (sl ++ sl') (gl ++ gl') = alive sl gl ++ alive sl' gl'
  | [], [], _, _, _ => rfl
  | d :: sl, g :: gl, sl', gl', h => by
    simp only [List.length_cons, Nat.add_right_cancel_iff] at h
    simp only [List.cons_append, alive, alive_append sl gl sl' gl' h]
    cases g <;> rfl
  | [], _ :: _, _, _, h => by simp at h
  | _ :: _, [], _, _, h => by simp at h
theorem alive_snoc (sl : List Dg) (gl : List Bool) (d : Dg) (h : sl.length = gl.length) : alive (sl ++ [d]) (gl ++ [false]) = alive sl gl ++ [d] := by
  rw [alive_append sl gl [d] [false] h]; rfl
theorem alive_take : ∀ (sl : List Dg) (gl : List Bool) (p : Nat), sl.length = gl.length → p < (alive sl gl).length →
    ∃ j, j < sl.length ∧ (alive sl gl)[p]? = sl[j]? ∧ gl[j]? = some false ∧ alive sl (gl.set j true) = (alive sl gl).eraseIdx p
  | [], [], p, _, hp => by simp [alive] at hp
  | [], _ :: _, _, h, _ => by simp at h
  | _ :: _, [], _, h, _ => by simp at h
  | d :: sl, true :: gl, p, h, hp => by
    simp only [List.length_cons, Nat.add_right_cancel_iff] at h
    simp only [alive, if_true] at hp ⊢
    obtain ⟨j, h1, h2, h3, h4⟩ := alive_take sl gl p h hp
    exact ⟨j + 1, by simp only [List.length_cons]; omega, by simpa using h2, by simpa using h3, by simp only [List.set_cons_succ, alive, if_true]; exact h4⟩
  | d :: sl, false :: gl, 0, h, hp => by
    exact ⟨0, by simp, by simp [alive], by simp, by simp [alive]⟩
  | d :: sl, false :: gl, p + 1, h, hp => by
    simp only [List.length_cons, Nat.add_right_cancel_iff] at h
    simp only [alive, Bool.false_eq_true, if_false, List.length_cons, Nat.add_lt_add_iff_right] at hp ⊢
    obtain ⟨j, h1, h2, h3, h4⟩ := alive_take sl gl p h hp
    exact ⟨j + 1, by omega, by simpa using h2, by simpa using h3, by simp only [List.set_cons_succ, alive, Bool.false_eq_true, if_false, List.eraseIdx_cons_succ]; rw [h4]⟩
theorem alive_split (sl : List Dg) (gl : List Bool) (i : Nat) (h : sl.length = gl.length) : alive sl gl = alive (sl.take i) (gl.take i) ++ alive (sl.drop i) (gl.drop i) := by
  rw [← alive_append _ _ _ _ (by rw [List.length_take, List.length_take, h]), List.take_append_drop, List.take_append_drop]
theorem alive_len (sl : List Dg) (gl : List Bool) : (alive sl gl).length ≤ sl.length := by
  induction sl generalizing gl with
  | nil => simp [alive]
  | cons d sl ih =>
    cases gl with
    | nil => simp [alive]
    | cons g gl => cases g <;> simp [alive] <;> have := ih gl <;> omega
/-- the one at i, if it is there -/
theorem alive_at (sl : List Dg) (gl : List Bool) (i : Nat) (h : sl.length = gl.length) (hi : i < sl.length) (hg : gl[i]'(by omega) = false) :
    (alive sl gl)[(alive (sl.take i) (gl.take i)).length]? = some (sl[i]) ∧ (alive (sl.take (i + 1)) (gl.take (i + 1))).length = (alive (sl.take i) (gl.take i)).length + 1 := by
  have hi' : i < gl.length := by omega
  refine ⟨?_, ?_⟩
  · conv => lhs; rw [alive_split sl gl i h]
    rw [List.getElem?_append_right (Nat.le_refl _), Nat.sub_self, List.drop_eq_getElem_cons hi, List.drop_eq_getElem_cons hi', hg]
    rfl
  · rw [List.take_succ_eq_append_getElem hi, List.take_succ_eq_append_getElem hi', hg, alive_snoc _ _ _ (by rw [List.length_take, List.length_take, h]), List.length_append]
    rfl
theorem alive_skip (sl : List Dg) (gl : List Bool) (i : Nat) (h : sl.length = gl.length) (hi : i < sl.length) (hg : gl[i]'(by omega) = true) :
    (alive (sl.take (i + 1)) (gl.take (i + 1))).length = (alive (sl.take i) (gl.take i)).length := by
  have hi' : i < gl.length := by omega
  rw [List.take_succ_eq_append_getElem hi, List.take_succ_eq_append_getElem hi', hg, alive_append _ _ _ _ (by rw [List.length_take, List.length_take, h])]
  simp [alive]

/-- the bag, the datagrams that were sent, and which of them are gone: the logic -/
structure Lg (l : List Dg) (s : Int) (sl : List Dg) (gl : List Bool) : Prop where
  len : sl.length = gl.length
  cnt : s = (sl.length : Int)
  num : ∀ i (h : i < sl.length), (sl[i]).num = (i : Int) + 1
  liv : l = alive sl gl
theorem Lg.none : Lg [] 0 [] [] := ⟨rfl, rfl, fun _ h => absurd h (by simp), rfl⟩
theorem Lg.snoc {l : List Dg} {s : Int} {sl : List Dg} {gl : List Bool} (h : Lg l s sl gl) (d : Dg) (hd : d.num = s + 1) : Lg (l ++ [d]) (s + 1) (sl ++ [d]) (gl ++ [false]) := by
  refine ⟨by simp [h.len], by rw [h.cnt]; simp, fun i hi => ?_, by rw [alive_snoc _ _ _ h.len, h.liv]⟩
  rw [List.getElem_append]
  split
  · exact h.num i _
  · next hn =>
    have hi2 : i = sl.length := by simp at hi; omega
    subst hi2
    simp only [Nat.sub_self, List.getElem_cons_zero]
    rw [hd, h.cnt]
/-- what is taken: its number tells which -/
theorem Lg.take {l : List Dg} {s : Int} {sl : List Dg} {gl : List Bool} (h : Lg l s sl gl) (p : Nat) (hp : p < l.length) :
    ∃ j, j < gl.length ∧ (l[p]).num = (j : Int) + 1 ∧ gl[j]? = some false ∧ Lg (l.eraseIdx p) s sl (gl.set j true) := by
  have hp' : p < (alive sl gl).length := by rw [← h.liv]; exact hp
  obtain ⟨j, h1, h2, h3, h4⟩ := alive_take sl gl p h.len hp'
  have e : l[p]? = sl[j]? := by rw [h.liv]; exact h2
  rw [List.getElem?_eq_getElem hp, List.getElem?_eq_getElem h1] at e
  injection e with e
  refine ⟨j, by rw [← h.len]; exact h1, by rw [e]; exact h.num j h1, h3, ⟨by rw [List.length_set]; exact h.len, h.cnt, h.num, by rw [h4, ← h.liv]⟩⟩
theorem Lg.le {l : List Dg} {s : Int} {sl : List Dg} {gl : List Bool} (h : Lg l s sl gl) : l.length ≤ sl.length := by rw [h.liv]; exact alive_len _ _

/-- the memory -/
structure Mem3 (base : Nat) (w : World) (B : Nat) (v : Value) (l : List Dg) (s : Int) (gs cs gg cg n : Nat) (sl : List Dg) (gl : List Bool) : Prop where
  bag : Bag 58 base w B v l s
  srow : w.ownsRow base 46 6 (.slice (some ⟨gs, 0, none⟩) n cs) n (dcs sl)
  grow : w.ownsRow base 4 1 (.slice (some ⟨gg, 0, none⟩) n cg) n (gl.map Value.bool)
  n1 : ¬ Ft B v gs
  n2 : ¬ Ft B v gg
  n3 : gs ≠ gg
theorem row_keep {w w' : World} {base : Nat} {e : TypeId} {size g n cap : Nat} {xs : List Value} (h : w.ownsRow base e size (.slice (some ⟨g, 0, none⟩) n cap) n xs) (hs : w'.heap[g]? = w.heap[g]?) : w'.ownsRow base e size (.slice (some ⟨g, 0, none⟩) n cap) n xs := by
  refine ⟨h.1, ?_⟩
  rcases h.2 with ⟨h1, _⟩ | ⟨g', cap', cur, h1, hb, hg, h2⟩
  · cases h1
  · injection h1 with e1 e2 e3
    injection e1 with e1
    injection e1 with e1
    subst e1; subst e3
    exact .inr ⟨g, cap, cur, rfl, hb, hs.trans hg, h2⟩
section
variable {base : Nat} {w w' : World} {B : Nat} {v : Value} {l : List Dg} {s : Int} {gs cs gg cg n : Nat} {sl : List Dg} {gl : List Bool}
theorem Mem3.lts (h : Mem3 base w B v l s gs cs gg cg n sl gl) : base ≤ gs ∧ gs < w.heap.size := h.srow.lt gs rfl
theorem Mem3.ltg (h : Mem3 base w B v l s gs cs gg cg n sl gl) : base ≤ gg ∧ gg < w.heap.size := h.grow.lt gg rfl
theorem Mem3.below (h : Mem3 base w B v l s gs cs gg cg n sl gl) (hb : Below w.heap.size w w') : Mem3 base w' B v l s gs cs gg cg n sl gl :=
  ⟨h.bag.below hb, row_keep h.srow (hb.block _ h.lts.2), row_keep h.grow (hb.block _ h.ltg.2), h.n1, h.n2, h.n3⟩
theorem Mem3.alloc (h : Mem3 base w B v l s gs cs gg cg n sl gl) (o : Obj) : Mem3 base (w.alloc o) B v l s gs cs gg cg n sl gl := h.below ((Below.refl _ w).alloc (Nat.le_refl _) o)
theorem Mem3.mv {v' : Value} {l' : List Dg} {s' : Int} (h : Mem3 base w B v l s gs cs gg cg n sl gl) (hB : Bag 58 base w' B v' l' s') (hm : Mv (Ft B v) (Ft B v') w w') : Mem3 base w' B v' l' s' gs cs gg cg n sl gl :=
  ⟨hB, row_keep h.srow (hm.block _ h.lts.2 h.n1), row_keep h.grow (hm.block _ h.ltg.2 h.n2), fun e => (hm.foot _ e).elim h.n1 (fun x => absurd h.lts.2 (by omega)), fun e => (hm.foot _ e).elim h.n2 (fun x => absurd h.ltg.2 (by omega)), h.n3⟩
theorem Mem3.sapp {g cap : Nat} {d : Dg} (h : Mem3 base w B v l s gs cs gg cg n sl gl) (hown : w'.ownsRow base 46 6 (.slice (some ⟨g, 0, none⟩) (n + 1) cap) (n + 1) (dcs sl ++ d.cs)) (hg : w.grownBy w' (some gs)) (hat : some gs = some g ∨ g = w.heap.size) :
    Bag 58 base w' B v l s ∧ w'.ownsRow base 46 6 (.slice (some ⟨g, 0, none⟩) (n + 1) cap) (n + 1) (dcs (sl ++ [d])) ∧ w'.ownsRow base 4 1 (.slice (some ⟨gg, 0, none⟩) n cg) n (gl.map Value.bool) ∧ ¬ Ft B v g ∧ ¬ Ft B v gg ∧ g ≠ gg := by
  have hn : ∀ k, k < w.heap.size → k ≠ gs → k ≠ g := fun k hk hne e => by
    rcases hat with h1 | h1
    · injection h1 with h1; exact hne (by omega)
    · omega
  refine ⟨h.bag.keep fun k hk => hg.block k (h.bag.ftlt k hk).2 (fun e => by injection e with e; exact h.n1 (by rw [← e]; exact hk)), ?_, row_keep h.grow (hg.block _ h.ltg.2 (fun e => by injection e with e; exact h.n3 e.symm)), ?_, h.n2, ?_⟩
  · rw [dcs_append, dcs_one]; exact hown
  · intro hk
    exact hn g (h.bag.ftlt g hk).2 (fun e => h.n1 (by rw [← e]; exact hk)) rfl
  · exact fun e => hn gg h.ltg.2 (fun e => h.n3 e.symm) e.symm
theorem mem3_gapp {g cap : Nat} {sl' : List Dg} (hB : Bag 58 base w B v l s) (hs : w.ownsRow base 46 6 (.slice (some ⟨gs, 0, none⟩) (n + 1) cs) (n + 1) (dcs sl'))
    (n1 : ¬ Ft B v gs) (n2 : ¬ Ft B v gg) (n3 : gs ≠ gg) (hown : w'.ownsRow base 4 1 (.slice (some ⟨g, 0, none⟩) (n + 1) cap) (n + 1) (gl.map Value.bool ++ [.bool false])) (hg : w.grownBy w' (some gg)) (hat : some gg = some g ∨ g = w.heap.size) :
    Mem3 base w' B v l s gs cs g cap (n + 1) sl' (gl ++ [false]) := by
  have hls := (hs.lt gs rfl).2
  have hn : ∀ k, k < w.heap.size → k ≠ gg → k ≠ g := fun k hk hne e => by
    rcases hat with h1 | h1
    · injection h1 with h1; exact hne (by omega)
    · omega
  refine ⟨hB.keep fun k hk => hg.block k (hB.ftlt k hk).2 (fun e => by injection e with e; exact n2 (by rw [← e]; exact hk)), row_keep hs (hg.block _ hls (fun e => by injection e with e; exact n3 e)), ?_, n1, ?_, ?_⟩
  · rw [List.map_append]; exact hown
  · intro hk
    exact hn g (hB.ftlt g hk).2 (fun e => n2 (by rw [← e]; exact hk)) rfl
  · exact hn gs hls n3
theorem Mem3.gset {j : Nat} (h : Mem3 base w B v l s gs cs gg cg n sl gl) (hl : gl.length = n) : Mem3 base (w.setCell ⟨gg, j, none⟩ (.bool true)) B v l s gs cs gg cg n sl (gl.set j true) := by
  have ho : ∀ k, k ≠ gg → (w.setCell ⟨gg, j, none⟩ (.bool true)).heap[k]? = w.heap[k]? := fun k hk => Below.heap_setCell w ⟨gg, j, none⟩ _ k hk
  refine ⟨h.bag.keep fun k hk => ho k (fun e => h.n2 (by rw [← e]; exact hk)), row_keep h.srow (ho _ h.n3), ?_, h.n1, h.n2, h.n3⟩
  rcases h.grow.2 with ⟨h1, _⟩ | ⟨g', cap', cur, h1, hb, hg, hc, hm, hs, ht⟩
  · cases h1
  · injection h1 with e1 e2 e3
    injection e1 with e1
    injection e1 with e1
    subst e1; subst e3
    refine ⟨by rw [List.length_map, List.length_set]; omega, .inr ⟨gg, cg, _, rfl, hb, heap_setCell_self w gg j (.bool true) cur _ _ hg, hc, hm, by rw [Array.size_setIfInBounds]; exact hs, ?_⟩⟩
    rw [Array.toList_setIfInBounds, List.take_set, ht, List.map_set]
theorem Mem3.gcell {j : Nat} (h : Mem3 base w B v l s gs cs gg cg n sl gl) (hj : j < gl.length) : w.cell? ⟨gg, j, none⟩ = some (.bool (gl[j])) ∧ w.frozen? ⟨gg, j, none⟩ = false := by
  refine ⟨?_, ?_⟩
  · have := h.grow.cells (g := gg) rfl j (.bool (gl[j])) (by simp [hj])
    rw [Addr.add_lit, Nat.zero_add] at this
    exact this
  · rcases h.grow.2 with ⟨h1, _⟩ | ⟨g', cap', cur, h1, hb, hg, _⟩
    · cases h1
    · injection h1 with e1 e2 e3
      injection e1 with e1
      injection e1 with e1
      subst e1
      simp [World.frozen?, hg]
theorem Mem3.six {i : Nat} (h : Mem3 base w B v l s gs cs gg cg n sl gl) (hi : i < sl.length) :
    w.cell? ⟨gs, i * 6, none⟩ = some (.int .i64 (sl[i]).num) ∧ w.cell? ⟨gs, i * 6 + 1, none⟩ = some (.int .i64 (sl[i]).fn) ∧ w.cell? ⟨gs, i * 6 + 2, none⟩ = some (.int .i64 (sl[i]).fl) ∧
    w.cell? ⟨gs, i * 6 + 3, none⟩ = some (.int .i64 (sl[i]).tn) ∧ w.cell? ⟨gs, i * 6 + 4, none⟩ = some (.int .i64 (sl[i]).tl) ∧ w.cell? ⟨gs, i * 6 + 5, none⟩ = some (.string (sl[i]).data) := by
  have c : ∀ k, k < 6 → w.cell? ⟨gs, i * 6 + k, none⟩ = (sl[i]).cs[k]? := fun k hk => by
    have h1 := dcs_get sl i k hi hk
    obtain ⟨u, hu⟩ : ∃ u, (sl[i]).cs[k]? = some u := ⟨_, List.getElem?_eq_getElem (show k < 6 from hk)⟩
    rw [hu] at h1 ⊢
    have := h.srow.cells (g := gs) rfl (i * 6 + k) u h1
    rw [Addr.add_lit, Nat.zero_add] at this
    exact this
  exact ⟨c 0 (by decide), c 1 (by decide), c 2 (by decide), c 3 (by decide), c 4 (by decide), c 5 (by decide)⟩
theorem Mem3.ftl (h : Mem3 base w B v l s gs cs gg cg n sl gl) : ∀ k, Ft B v k → base ≤ k := h.bag.ftlow
end
end Go.Proofs.Ytnbmgddkaclneaa
