import Derived.Test.YtlgcimfbhjidgaaMgAQ
import Derived.Laws.AppendOwnNone
import Derived.Deep.SlicePairs

section
namespace Go.Proofs.Ytlgcimfbhjidgaa
open Go.RowKit
open Rc (L V Ch)

/-- a row of changes that an append takes -/
def Src (w : World) (v : Value) (vals : List (Ch × Value)) : Prop := (v = .slice none 0 0 ∧ vals = []) ∨ ∃ a cap, v = .slice (some a) vals.length cap ∧ ∀ j u, (flatV vals)[j]? = some u → w.cell? (a.add j) = some u
theorem Src.below {w w' : World} {v : Value} {vals : List (Ch × Value)} (h : Src w v vals) (hb : Below w.heap.size w w') : Src w' v vals := by
  rcases h with h | ⟨a, cap, h1, h2⟩
  · exact .inl h
  · exact .inr ⟨a, cap, h1, fun j u hj => (hb.cell (p := a.add j) (World.block_lt_of_cell? _ _ (h2 j u hj))).trans (h2 j u hj)⟩
theorem flatV_one (vals : List (Ch × Value)) (h : ∀ x ∈ vals, x.2.oneCell' = true) : ∀ u ∈ flatV vals, u.oneCell' = true := by
  intro u hu
  obtain ⟨x, hx, hu⟩ := List.mem_flatMap.1 hu
  simp only [chC, List.mem_cons, List.not_mem_nil, or_false] at hu
  rcases hu with rfl | rfl | rfl | rfl | rfl | rfl | rfl | rfl | rfl | rfl
  all_goals first | rfl | exact h x hx
theorem flatV_app (a b : List (Ch × Value)) : flatV (a ++ b) = flatV a ++ flatV b := by simp [flatV]
/-- the texts of a row -/
def Txs (w : World) (vals : List (Ch × Value)) : Prop := ∀ x ∈ vals, Tx w x.2 x.1.tx ∧ x.1.tx.length ≤ 140737488351232 ∧ x.1.rb < 18446744073709551616
theorem Txs.below {w w' : World} {vals : List (Ch × Value)} (h : Txs w vals) (hb : Below w.heap.size w w') : Txs w' vals := fun x hx => ⟨(h x hx).1.below hb (Nat.le_refl _), (h x hx).2⟩
theorem Txs.one {w : World} {vals : List (Ch × Value)} (h : Txs w vals) : ∀ x ∈ vals, x.2.oneCell' = true := fun x hx => by
  obtain ⟨p, cap, e, _⟩ := (h x hx).1.form
  rw [e]; rfl
theorem Rw.src {w : World} {v : Value} {l : List Ch} (h : Rw w v l) (hn : ∀ cap, v = .slice none l.length cap → cap = 0) : ∃ vals : List (Ch × Value), vals.map Prod.fst = l ∧ Src w v vals ∧ Txs w vals := by
  obtain ⟨p, cap, hv, h2⟩ := h
  by_cases h0 : 0 < l.length
  · obtain ⟨b, off, hp, hlt, hx⟩ := h2 h0
    have hI : Inhabited Value := ⟨.bool true⟩
    obtain ⟨T, hT⟩ := Go.Deep.choose_lt hx
    have hl : ((List.range l.length).map fun j => (l[j]!, T j)).length = l.length := by simp
    refine ⟨(List.range l.length).map fun j => (l[j]!, T j), ?_, .inr ⟨⟨b, off, none⟩, cap, by rw [hl, hv, hp], fun k u hk => ?_⟩, fun x hx' => ?_⟩
    · rw [List.map_map]
      apply List.ext_getElem
      · simp
      · intro i h1 h3
        simp at h1
        simp
        rw [List.getElem?_eq_getElem h1]; rfl
    · have hk10 : k < l.length * 10 := by
        have := (List.getElem?_eq_some_iff.1 hk).1
        rw [flatV_len, hl] at this
        exact this
      have e := flatV_get (vals := (List.range l.length).map fun j => (l[j]!, T j)) (j := k / 10) (i := k % 10) (by rw [hl]; omega) (Nat.mod_lt _ (by decide))
      rw [show k / 10 * 10 + k % 10 = k by omega, hk] at e
      have := (hT (k / 10) (by omega)).2.2.2 (k % 10) u (by rw [e]; simp)
      rw [Addr.add_lit, show off + k = off + k / 10 * 10 + k % 10 by omega]
      exact this
    · obtain ⟨j, hj, rfl⟩ := List.mem_map.1 hx'
      have hj' := List.mem_range.1 hj
      exact ⟨(hT j hj').1, (hT j hj').2.1, (hT j hj').2.2.1⟩
  · have hl : l = [] := List.length_eq_zero_iff.1 (by omega)
    subst hl
    refine ⟨[], rfl, ?_, fun x hx => by cases hx⟩
    cases p with
    | none => exact .inl ⟨by rw [hv, hn cap hv]; rfl, rfl⟩
    | some a => exact .inr ⟨a, cap, hv, fun j u hj => by simp [flatV] at hj⟩
theorem Rw.of_own {w : World} {B : Nat} {v : Value} {vals : List (Ch × Value)} (h : w.ownsRow B 32 10 v vals.length (flatV vals)) (ht : Txs w vals) : Rw w v (vals.map Prod.fst) := by
  have hl : (vals.map Prod.fst).length = vals.length := by simp
  rcases h.2 with ⟨rfl, hn⟩ | ⟨g, cap, cur, rfl, hb, hg, hc, hm, hs, htt⟩
  · obtain rfl := List.length_eq_zero_iff.1 hn
    exact ⟨none, 0, rfl, fun h => absurd h (by simp)⟩
  · refine ⟨some ⟨g, 0, none⟩, cap, by rw [hl], fun _ => ⟨g, 0, rfl, lt_of_block hg, fun j hj => ?_⟩⟩
    rw [hl] at hj
    have e : (vals.map Prod.fst)[j]! = (vals[j]).1 := by rw [getElem!_pos _ j (by rw [hl]; exact hj)]; simp
    have hx := ht _ (List.getElem_mem hj)
    rw [e]
    refine ⟨(vals[j]).2, hx.1, hx.2.1, hx.2.2, fun i u hi => ?_⟩
    have hi10 : i < 10 := by
      have := (Array.getElem?_eq_some_iff.mp hi).1
      simpa [chC] using this
    have := h.cells (g := g) rfl (j * 10 + i) u (by rw [flatV_get hj hi10]; exact hi)
    rw [Addr.add_lit, Nat.zero_add] at this
    rw [Nat.zero_add]
    exact this
/-- an append of such a row -/
theorem wpList_append_src {P : Program} {w : World} {ops : Array Oper} {rest : List Oper} {o : Oper} {a : Act} {Q : Exit → Act → World → Prop} (hgd : o.guard = none) (s x : Operand) (t : TypeId)
    (ho : o.op = .call { callee := .builtin .append, args := #[s, x], argTypes := #[t, t] }) (base : Nat) (e : TypeId) (i : TypeInfo) (z : Value) (bytes : Nat) (ht : P.underlying t = some (.slice e)) (hi : P.info? e = some i) (hz : i.zero = some z)
    (hsize : i.size = 10) (hby : i.bytes = bytes) (hzs : z.cells.size = 10) (v : Value) (n : Nat) (xs : List Value) (hs : a.eval s = v) (hown : w.ownsRow base e 10 v n xs) (vs : Value) (vals : List (Ch × Value)) (hx : a.eval x = vs) (hsrc : Src w vs vals) (hT : Txs w vals)
    (h63 : n + vals.length ≤ maxLen) (hbytes : (n + vals.length) * bytes ≤ 140737488355328) (hbase : base ≤ w.heap.size)
    (h : ∀ v' w', w'.ownsRow base e 10 v' (n + vals.length) (xs ++ flatV vals) → w.grownBy w' v.ownBlock → wpList P ops Q rest (a.put o.dst v') w') : wpList P ops Q (o :: rest) a w := by
  rcases hsrc with ⟨rfl, rfl⟩ | ⟨ad, cap, rfl, hc⟩
  · refine wpList_append_own_none hgd s x t ho base e i 10 ht hi v n xs hs hown hx (h v w (by simpa [flatV] using hown) ⟨rfl, rfl, rfl, Nat.le_refl _, fun _ _ _ => rfl⟩)
  · exact wpList_append_own w hgd s x t ho base e i z 10 bytes ht hi hz hsize hby hzs (by decide) v n xs hs hown ad vals.length cap (flatV vals) hx (flatV_len vals) hc (flatV_one vals hT.one) h63 hbytes hbase fun v' w' h1 h2 _ => h v' w' h1 h2
end Go.Proofs.Ytlgcimfbhjidgaa
end
