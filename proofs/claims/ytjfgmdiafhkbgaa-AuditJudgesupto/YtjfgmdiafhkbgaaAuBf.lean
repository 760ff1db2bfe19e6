import Derived.Test.YtjfgmdiafhkbgaaAuBb
import Derived.Test.YtjfgmdiafhkbgaaAuPp
import Derived.Test.YtjfgmdiafhkbgaaAuBa
import Derived.Laws.AppendOwnNone
namespace Go.Proofs.Ytjfgmdiafhkbgaa
open Go.ChangeShapes Go.WideShapes Go.ChangeAt Go.RowKit Go.Deep Go.MapKept
set_option maxRecDepth 8000

instance : Inhabited (Ev × Value) := ⟨(default, .bool true)⟩
/-- the cells of events, each with its texts' value -/
def evs (l : List (Ev × Value)) : List Value := l.flatMap fun x => x.1.cs x.2
theorem evs_len (l : List (Ev × Value)) : (evs l).length = l.length * 13 := by
  induction l with
  | nil => rfl
  | cons x l ih => simp only [evs, List.flatMap_cons, List.length_append, List.length_cons] at ih ⊢; rw [ih]; simp [Ev.cs]; omega
theorem evs_app (a b : List (Ev × Value)) : evs (a ++ b) = evs a ++ evs b := by simp [evs]
theorem evs_get {l : List (Ev × Value)} {j k : Nat} (hj : j < l.length) (hk : k < 13) : (evs l)[j * 13 + k]? = ((l[j]!).1.cs (l[j]!).2)[k]? := by
  induction l generalizing j with
  | nil => simp at hj
  | cons x l ih =>
    have e : evs (x :: l) = x.1.cs x.2 ++ evs l := by simp [evs]
    rw [e]
    cases j with
    | zero =>
      rw [Nat.zero_mul, Nat.zero_add, List.getElem?_append_left (by simpa [Ev.cs] using hk)]
      rfl
    | succ j =>
      have e2 : (j + 1) * 13 + k = j * 13 + k + (x.1.cs x.2).length := by simp [Ev.cs]; omega
      rw [e2, List.getElem?_append_right (by omega), Nat.add_sub_cancel, ih (by simpa using hj)]
      rfl
/-- what may be told of each event's texts -/
def EvT (w : World) (l : List (Ev × Value)) : Prop := ∀ x ∈ l, (∃ q cq, x.2 = .slice q x.1.ts.length cq) ∧ Tx w x.2 x.1.ts
theorem EvT.below {w w' : World} {l : List (Ev × Value)} (h : EvT w l) (hb : Below w.heap.size w w') : EvT w' l := fun x hx => ⟨(h x hx).1, (h x hx).2.below hb⟩
theorem EvT.ones {w : World} {l : List (Ev × Value)} (h : EvT w l) : ∀ u ∈ evs l, u.oneCell' = true := by
  intro u hu
  obtain ⟨x, hx, hu⟩ := List.mem_flatMap.1 hu
  obtain ⟨⟨q, cq, e⟩, _⟩ := h x hx
  simp only [Ev.cs, List.mem_cons, List.not_mem_nil, or_false] at hu
  rcases hu with rfl | rfl | rfl | rfl | rfl | rfl | rfl | rfl | rfl | rfl | rfl | rfl | rfl
  all_goals first | rfl | (rw [e]; rfl)
theorem EvT.app {w : World} {a b : List (Ev × Value)} (h : EvT w a) (k : EvT w b) : EvT w (a ++ b) := fun x hx => (List.mem_append.1 hx).elim (h x) (k x)
/-- a row of events that an append takes -/
def Srv (w : World) (v : Value) (l : List (Ev × Value)) : Prop := (v = .slice none 0 0 ∧ l = []) ∨ ∃ a cap, v = .slice (some a) l.length cap ∧ l.length ≤ cap ∧ ∀ j u, (evs l)[j]? = some u → w.cell? (a.add j) = some u
theorem Srv.below {w w' : World} {v : Value} {l : List (Ev × Value)} (h : Srv w v l) (hb : Below w.heap.size w w') : Srv w' v l := by
  rcases h with h | ⟨a, cap, h1, h2, h3⟩
  · exact .inl h
  · exact .inr ⟨a, cap, h1, h2, fun j u hj => (hb.cell (p := a.add j) (World.block_lt_of_cell? _ _ (h3 j u hj))).trans (h3 j u hj)⟩
theorem Rv.srv {w : World} {v : Value} {l : List Ev} (h : Rv w v l) (hn : ∀ n cap, v = .slice none n cap → n = 0 ∧ cap = 0) : ∃ L : List (Ev × Value), L.map Prod.fst = l ∧ Srv w v L ∧ EvT w L := by
  obtain ⟨p, cap, hv, hc, h2⟩ := h
  by_cases h0 : 0 < l.length
  · obtain ⟨b, off, hp, hlt, hx⟩ := h2 h0
    have hx' : ∀ j, j < l.length → ∃ t : Value, (∃ q cq, t = .slice q (l[j]!).ts.length cq) ∧ Tx w t (l[j]!).ts ∧ ∀ k u, ((l[j]!).cs t)[k]? = some u → w.cell? ⟨b, off + j * 13 + k, none⟩ = some u := fun j hj => by
      obtain ⟨q, cq, h3, h4⟩ := hx j hj
      exact ⟨_, ⟨q, cq, rfl⟩, h3, h4⟩
    have hI : Inhabited Value := ⟨.bool true⟩
    obtain ⟨T, hT⟩ := Go.Deep.choose_lt hx'
    have hl : ((List.range l.length).map fun j => (l[j]!, T j)).length = l.length := by simp
    refine ⟨(List.range l.length).map fun j => (l[j]!, T j), ?_, .inr ⟨⟨b, off, none⟩, cap, by rw [hl, hv, hp], by rw [hl]; exact hc, fun k u hk => ?_⟩, fun x hx' => ?_⟩
    · rw [List.map_map]
      apply List.ext_getElem
      · simp
      · intro i h1 h3
        simp at h1
        simp
        rw [List.getElem?_eq_getElem h1]; rfl
    · have hk13 : k < l.length * 13 := by
        have := (List.getElem?_eq_some_iff.1 hk).1
        rw [evs_len, hl] at this
        exact this
      have e := evs_get (l := (List.range l.length).map fun j => (l[j]!, T j)) (j := k / 13) (k := k % 13) (by rw [hl]; omega) (Nat.mod_lt _ (by decide))
      rw [show k / 13 * 13 + k % 13 = k by omega, hk, range_get (fun j => (l[j]!, T j)) l.length (k / 13) (by omega)] at e
      have := (hT (k / 13) (by omega)).2.2 (k % 13) u e.symm
      rw [Addr.add_lit, show off + k = off + k / 13 * 13 + k % 13 by omega]
      exact this
    · obtain ⟨j, hj, rfl⟩ := List.mem_map.1 hx'
      have hj' := List.mem_range.1 hj
      exact ⟨(hT j hj').1, (hT j hj').2.1⟩
  · have hl : l = [] := List.length_eq_zero_iff.1 (by omega)
    subst hl
    refine ⟨[], rfl, ?_, fun x hx => by cases hx⟩
    cases p with
    | none => exact .inl ⟨by rw [hv]; have := hn _ _ hv; rw [this.2]; rfl, rfl⟩
    | some a => exact .inr ⟨a, cap, hv, hc, fun j u hj => by simp [evs] at hj⟩
theorem Rv.of_own {w : World} {B : Nat} {v : Value} {L : List (Ev × Value)} (h : w.ownsRow B 43 13 v L.length (evs L)) (ht : EvT w L) : Rv w v (L.map Prod.fst) := by
  have hl : (L.map Prod.fst).length = L.length := by simp
  rcases h.2 with ⟨rfl, hn⟩ | ⟨g, cap, cur, rfl, hb, hg, hc, hm, hs, htt⟩
  · exact ⟨none, 0, by rw [hl, hn], by omega, fun h => by omega⟩
  · refine ⟨some ⟨g, 0, none⟩, cap, by rw [hl], by omega, fun _ => ⟨g, 0, rfl, lt_of_block hg, fun j hj => ?_⟩⟩
    rw [hl] at hj
    have e : (L.map Prod.fst)[j]! = (L[j]!).1 := by rw [getElem!_pos _ j (by rw [hl]; exact hj), getElem!_pos L j hj]; simp
    have hmem : L[j]! ∈ L := by rw [getElem!_pos L j hj]; exact List.getElem_mem hj
    obtain ⟨⟨q, cq, e2⟩, h3⟩ := ht _ hmem
    rw [e]
    refine ⟨q, cq, by rw [← e2]; exact h3, fun i u hi => ?_⟩
    rw [← e2] at hi
    have hi13 : i < 13 := by
      have := (List.getElem?_eq_some_iff.1 hi).1
      simpa [Ev.cs] using this
    have := h.cells (g := g) rfl (j * 13 + i) u (by rw [evs_get hj hi13]; exact hi)
    rw [Addr.add_lit, Nat.zero_add] at this
    rw [Nat.zero_add]
    exact this
theorem evs_take (l : List (Ev × Value)) (n : Nat) {j : Nat} {u : Value} (h : (evs (l.take n))[j]? = some u) : (evs l)[j]? = some u := by
  have e : evs l = evs (l.take n) ++ evs (l.drop n) := by rw [← evs_app, List.take_append_drop]
  rw [e, List.getElem?_append_left (List.getElem?_eq_some_iff.1 h).1]
  exact h
theorem evs_drop (l : List (Ev × Value)) {n : Nat} (hn : n ≤ l.length) {j : Nat} {u : Value} (h : (evs (l.drop n))[j]? = some u) : (evs l)[n * 13 + j]? = some u := by
  have e : evs l = evs (l.take n) ++ evs (l.drop n) := by rw [← evs_app, List.take_append_drop]
  have hl : (evs (l.take n)).length = n * 13 := by rw [evs_len, List.length_take]; congr 1; omega
  rw [e, List.getElem?_append_right (by omega), hl, Nat.add_sub_cancel_left]
  exact h
/-- its first n -/
theorem Srv.take {w : World} {p : Option Addr} {N cap n : Nat} {l : List (Ev × Value)} (h : Srv w (.slice p N cap) l) (hn : n ≤ l.length) : Srv w (sliced p 0 n cap 13) (l.take n) := by
  rcases h with ⟨h1, rfl⟩ | ⟨a, cap', h1, h2, h3⟩
  · injection h1 with e1 e2 e3
    subst e1; subst e3
    have : n = 0 := by simpa using hn
    subst this
    exact .inl ⟨rfl, by simp⟩
  · injection h1 with e1 e2 e3
    subst e1; subst e3
    have hl : (l.take n).length = n := by rw [List.length_take]; omega
    refine .inr ⟨if cap = 0 then a else a.add 0, cap, ?_, by omega, fun j u hj => ?_⟩
    · unfold sliced
      rw [hl]
      split <;> rfl
    · have := h3 j u (evs_take l n hj)
      split
      · exact this
      · rw [Go.Addr.add_add, Nat.zero_add]; exact this
/-- what is behind its first n -/
theorem Srv.drop {w : World} {p : Option Addr} {N cap n : Nat} {l : List (Ev × Value)} (h : Srv w (.slice p N cap) l) (hn : n ≤ l.length) : Srv w (sliced p n N cap 13) (l.drop n) := by
  rcases h with ⟨h1, rfl⟩ | ⟨a, cap', h1, h2, h3⟩
  · injection h1 with e1 e2 e3
    subst e1; subst e3
    have : n = 0 := by simpa using hn
    subst this
    subst e2
    exact .inl ⟨rfl, by simp⟩
  · injection h1 with e1 e2 e3
    subst e1; subst e3; subst e2
    have hl : (l.drop n).length = l.length - n := List.length_drop
    by_cases hc : cap = n
    · have hz : l.drop n = [] := List.drop_eq_nil_of_le (by omega)
      refine .inr ⟨a, cap - n, ?_, by omega, fun j u hj => by rw [hz] at hj; simp [evs] at hj⟩
      unfold sliced
      rw [if_pos hc, hl]
    · refine .inr ⟨a.add (n * 13), cap - n, ?_, by omega, fun j u hj => ?_⟩
      · unfold sliced
        rw [if_neg hc, hl]
        rfl
      · rw [Go.Addr.add_add]
        exact h3 (n * 13 + j) u (evs_drop l hn hj)
theorem Try.infoE : (Try.prog.info? 43).map (fun i => (i.zero, i.size, i.bytes)) = some (some (.agg #[.int .i64 0, .int .i64 0, .int .i64 0, .int .i64 0, .int .i64 0, .int .i64 0, .int .i64 0, .int .i64 0, .int .i64 0, .int .i64 0, .int .u64 0, .string ByteArray.empty, .slice none 0 0]), 13, 128) := by kernel_rfl
/-- an append of such a row -/
theorem wpList_append_srv {P : Program} {w : World} {ops : Array Oper} {rest : List Oper} {o : Oper} {a : Act} {Q : Exit → Act → World → Prop} (hgd : o.guard = none) (s x : Operand) (t : TypeId)
    (ho : o.op = .call { callee := .builtin .append, args := #[s, x], argTypes := #[t, t] }) (base : Nat) (e : TypeId) (i : TypeInfo) (z : Value) (bytes : Nat) (ht : P.underlying t = some (.slice e)) (hi : P.info? e = some i) (hz : i.zero = some z)
    (hsize : i.size = 13) (hby : i.bytes = bytes) (hzs : z.cells.size = 13) (v : Value) (n : Nat) (xs : List Value) (hs : a.eval s = v) (hown : w.ownsRow base e 13 v n xs) (vs : Value) (l : List (Ev × Value)) (hx : a.eval x = vs) (hsrc : Srv w vs l) (hT : EvT w l)
    (h63 : n + l.length ≤ maxLen) (hbytes : (n + l.length) * bytes ≤ 140737488355328) (hbase : base ≤ w.heap.size)
    (h : ∀ v' w', w'.ownsRow base e 13 v' (n + l.length) (xs ++ evs l) → w.grownBy w' v.ownBlock → wpList P ops Q rest (a.put o.dst v') w') : wpList P ops Q (o :: rest) a w := by
  rcases hsrc with ⟨rfl, rfl⟩ | ⟨a0, cap, rfl, _, hc⟩
  · refine wpList_append_own_none hgd s x t ho base e i 13 ht hi v n xs hs hown hx (h v w (by simpa [evs] using hown) ⟨rfl, rfl, rfl, Nat.le_refl _, fun _ _ _ => rfl⟩)
  · exact wpList_append_own w hgd s x t ho base e i z 13 bytes ht hi hz hsize hby hzs (by decide) v n xs hs hown a0 l.length cap (evs l) hx (evs_len l) hc hT.ones h63 hbytes hbase fun v' w' h1 h2 _ => h v' w' h1 h2
/-- an append of such a row, run -/
theorem run_srv {w : World} {base n : Nat} {v : Value} {xs : List Value} (hown : w.ownsRow base 43 13 v n xs) {vs : Value} {l : List (Ev × Value)} (hsrc : Srv w vs l) (hT : EvT w l) (hn : n ≤ 1048576) (hl : l.length ≤ 1048576) (hbase : base ≤ w.heap.size) :
    ∃ v' w', (Builtin.append_ #[22, 22] 22 #[v, vs]).run Try.prog w = .ok v' w' ∧ w'.ownsRow base 43 13 v' (n + l.length) (xs ++ evs l) ∧ w.grownBy w' v.ownBlock ∧ Below base w w' ∧ ∃ ad cap, v' = .slice ad (n + l.length) cap := by
  obtain ⟨iE, hiE, zE0, zE1, zE2⟩ := info_parts Try.infoE
  rcases hsrc with ⟨rfl, rfl⟩ | ⟨a0, cap, rfl, _, hc⟩
  · obtain ⟨ad, cp, hv⟩ := own_slice hown
    exact ⟨v, w, run_append_owned_none (P := Try.prog) (w := w) base 22 22 43 iE 13 Try.underlying22 hiE v n xs hown, by simpa [evs] using hown, ⟨rfl, rfl, rfl, Nat.le_refl _, fun _ _ _ => rfl⟩, Below.refl _ _, ad, cp, hv⟩
  · obtain ⟨v', w', h1, h2, h3, _⟩ := run_append_own (P := Try.prog) w base 22 22 43 iE _ 13 128 Try.underlying22 hiE zE0 zE1 zE2 rfl (by decide) v n xs hown a0 l.length cap (evs l) (evs_len l) hc hT.ones (by unfold maxLen; omega) (by omega) hbase
    obtain ⟨ad, cp, hv⟩ := own_slice h2
    exact ⟨v', w', h1, h2, h3, ⟨h3.os, h3.tape, h3.output, h3.size, fun k hk => h3.block k (Nat.lt_of_lt_of_le hk hbase) fun e => absurd (own_lo hown k e.symm) (by omega)⟩, ad, cp, hv⟩
/-- one event in a block of its own -/
theorem Srv.one {w : World} {g : Nat} {x : Ev} {t : Value} (h : w.heap[g]? = some (.cells (x.cs t).toArray 43 (0, 0))) : Srv w (.slice (some ⟨g, 0, none⟩) 1 1) [(x, t)] :=
  .inr ⟨⟨g, 0, none⟩, 1, rfl, Nat.le_refl _, fun j u hj => World.news_of_block h j u (by simpa [evs] using hj)⟩
theorem EvT.one {w : World} {x : Ev} {q : Option Addr} {cq : Nat} (h : Tx w (.slice q x.ts.length cq) x.ts) : EvT w [(x, .slice q x.ts.length cq)] := fun y hy => by
  rw [List.mem_singleton] at hy
  subst hy
  exact ⟨⟨q, cq, rfl⟩, h⟩
theorem grownE {w w' : World} {r : Option Nat} (h : w.grownBy w' r) {B : Nat} (hB : B ≤ w.heap.size) (hr : ∀ k, r = some k → B ≤ k) : Below B w w' :=
  ⟨h.os, h.tape, h.output, h.size, fun k hk => h.block k (by omega) (fun e => absurd (hr k e.symm) (by omega))⟩
section
variable {H : Type} {enc : TypeId × Value → H}
/-- a row of events that comes in: where it points -/
theorem events_nil {W : World} {base : Nat} {v : Value} {d : DataW H} {ps : List MemPlace} (hv : Value.okWide Try.prog W .any base 22 v) (h : DataW.Trod enc Try.prog W 0 (fun _ => true) true 22 v d ps) : ∀ n cap, v = .slice none n cap → n = 0 ∧ cap = 0 := by
  obtain ⟨a0, len0, cap0, rfl⟩ := okWide_slice Try.underlying22 hv
  obtain ⟨n, hn⟩ := h
  rcases open_slice (cs := [.slice a0 len0 cap0]) Try.underlying22 hn with ⟨hc, _⟩ | ⟨a, len, cap, m, k, D, Pl, hc, _⟩
  · simp only [List.cons.injEq, and_true] at hc
    rw [hc]
    exact fun n cap e => by injection e with _ e2 e3; exact ⟨e2.symm, e3.symm⟩
  · simp only [List.cons.injEq, and_true] at hc
    rw [hc]
    exact fun n cap e => by injection e with e1; cases e1
end
end Go.Proofs.Ytjfgmdiafhkbgaa
