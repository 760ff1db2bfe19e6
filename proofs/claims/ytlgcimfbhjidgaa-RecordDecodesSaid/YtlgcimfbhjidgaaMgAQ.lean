import Derived.Test.YtlgcimfbhjidgaaMgAP

section
namespace Go.Proofs.Ytlgcimfbhjidgaa
open Go.RowKit
open Rc (L V Ch)

set_option maxHeartbeats 400000 in
theorem catchD {w : World} {X Z : Nat} {vx vz : Value} (hX : w.cell? ⟨X, 0, none⟩ = some vx) (hZ : w.cell? ⟨Z, 0, none⟩ = some vz) (zX : w.frozen? ⟨X, 0, none⟩ = false) (zZ : w.frozen? ⟨Z, 0, none⟩ = false) (hn : Z ≠ X) (older : List PanicEntry) :
    CallsD Try.prog 8 #[.pointer (some ⟨X, 0, none⟩), .pointer (some ⟨Z, 0, none⟩)] (.panicking ({ v := .iface 23 (.int .i64 83), recovered := false } :: older)) w fun e u' w' =>
      e = .returned (.tuple #[]) ∧ u' = .panicking ({ v := .iface 23 (.int .i64 83), recovered := true } :: older) ∧ w' = (w.setCell ⟨X, 0, none⟩ (.slice none 0 0)).setCell ⟨Z, 0, none⟩ (.int .i64 83) := by
  have c2 : (w.setCell ⟨X, 0, none⟩ (.slice none 0 0)).cell? ⟨Z, 0, none⟩ = some vz := cell_other hZ hn
  have z2 : (w.setCell ⟨X, 0, none⟩ (.slice none 0 0)).frozen? ⟨Z, 0, none⟩ = false := by rw [World.frozen?_setCell]; exact zZ
  refine callsD_of_wpS Try.func8 rfl fun c₀ cs hu => ?_
  apply wpS_seq
  apply wpS_region
  simp [wpOpsS, go_sem, recoverD, hu, Try.ntmps8, Exit.thenS]
  refine wpS_cond (t := true) (by simp [Act.eval, Array.replicate]) ?_
  simp only [if_true]
  refine wpS_of_wp ?_
  simp only [Array.replicate, List.replicate]
  go_wp2
  exact ⟨rfl, _, rfl, _, results_none rfl _ _ _, rfl, rfl, rfl⟩
set_option maxHeartbeats 400000 in
theorem idleD (w : World) (X Z : Nat) :
    CallsD Try.prog 8 #[.pointer (some ⟨X, 0, none⟩), .pointer (some ⟨Z, 0, none⟩)] .returning w fun e u' w' => e = .returned (.tuple #[]) ∧ u' = .returning ∧ w' = w := by
  refine callsD_of_wpS Try.func8 rfl fun c₀ cs hu => ?_
  apply wpS_seq
  apply wpS_region
  simp [wpOpsS, go_sem, recoverD, hu, Try.ntmps8, Exit.thenS]
  refine wpS_cond (t := false) (by simp [Act.eval, Array.replicate]) ?_
  simp only [Bool.false_eq_true, if_false]
  refine wpS_of_wp (wp_skip ?_)
  cases c₀
  simp_all [bodyPostS, results, Try.results8]
/-- Decode's ending -/
def EPost (w0 : World) (x : Option (List Ch)) (e : Ending) (w' : World) : Prop :=
  match x with
  | some l => ∃ A vals, e = .returned (.tuple #[.slice (some ⟨A, 0, none⟩) vals.length vals.length, .int .i64 0]) ∧ vals.map Prod.fst = l ∧ RowN w0 A vals w'
  | none => e = .returned (.tuple #[.slice none 0 0, .int .i64 83]) ∧ Below w0.heap.size w0 w'
theorem RowN.step {w0 w w' : World} {A : Nat} {vals : List (Ch × Value)} (h : RowN w0 A vals w) (hb : Below w0.heap.size w0 w') (hk : ∀ (X : Nat) (cs : Array Value) (ty : TypeId), w.heap[X]? = some (.cells cs ty (0, 0)) → (ty = 32 ∨ ty = 9) → w'.heap[X]? = w.heap[X]?) : RowN w0 A vals w' := by
  refine ⟨(hk A _ _ h.ch (.inl rfl)).trans h.ch, fun x hx => ?_, h.hA, hb⟩
  have o1 := h.own x hx
  refine own_stepS o1 fun X hX => ?_
  rcases o1.2 with ⟨e, _⟩ | ⟨g, cap, cur, e, _, hg, _⟩
  · rw [e] at hX; simp [Value.ownBlock] at hX
  · rw [e] at hX
    simp only [Value.ownBlock, Option.some.injEq] at hX
    subst hX
    exact hk _ _ _ hg (.inr rfl)
theorem RowN.base {w0 w1 w : World} {A : Nat} {vals : List (Ch × Value)} (h : RowN w1 A vals w) (hb : Below w0.heap.size w0 w1) : RowN w0 A vals w := by
  refine ⟨h.ch, fun x hx => ?_, Nat.le_trans hb.size h.hA, hb.trans (h.bel.mono hb.size)⟩
  have o1 := h.own x hx
  refine ⟨o1.1, ?_⟩
  rcases o1.2 with h2 | ⟨g, cap, cur, e, hg1, h2⟩
  · exact .inl h2
  · exact .inr ⟨g, cap, cur, e, Nat.le_trans hb.size hg1, h2⟩
set_option maxHeartbeats 800000 in
theorem decode_any (b : ByteArray) (hb : b.size ≤ 140737488351232) (w : World) : Calls Try.prog 4 #[.string b] w (EPost w (Rc.deco b)) := by
  have hmf : ∀ (fn : Fn) (first cap : Array Value) (w : World), (Instr.makeFunc fn first cap).run Try.prog w = .ok (.func fn first cap) w := fun _ _ _ _ => rfl
  have hX0 : ((w.alloc (.cells #[.slice none 0 0] 22)).alloc (.cells #[.int .i64 0] 23)).heap[w.heap.size]? = some (.cells #[.slice none 0 0] 22 (0, 0)) := (Below.heap_alloc _ _ _ (by simp)).trans (heap_alloc_new w _)
  have hZ0 : ((w.alloc (.cells #[.slice none 0 0] 22)).alloc (.cells #[.int .i64 0] 23)).heap[w.heap.size + 1]? = some (.cells #[.int .i64 0] 23 (0, 0)) := by
    have := heap_alloc_new (w.alloc (.cells #[.slice none 0 0] 22)) (.cells #[.int .i64 0] 23); simpa using this
  have hB0 : Below w.heap.size w ((w.alloc (.cells #[.slice none 0 0] 22)).alloc (.cells #[.int .i64 0] 23)) := (below_alloc w _).alloc (by simp) _
  have HR := hide (readRow_any b hb ((w.alloc (.cells #[.slice none 0 0] 22)).alloc (.cells #[.int .i64 0] 23)))
  have HX0 := hide hX0
  have HZ0 := hide hZ0
  have HB0 := hide hB0
  clear hX0 hZ0 hB0
  generalize hE : Rc.deco b = E at *
  go_enter_defers Try.func4, Try.ntmps4
  go_wp2_with fail
  generalize hW1 : (w.alloc (.cells #[.slice none 0 0] 22)).alloc (.cells #[.int .i64 0] 23) = W1 at *
  refine HR.out.mono ?_
  intro e w2 hP
  cases E with
  | none =>
    obtain ⟨he, hQ⟩ := hP
    have hX2 : w2.heap[w.heap.size]? = _ := (hQ.block _ (lt_of_block HX0.out)).trans HX0.out
    have hZ2 : w2.heap[w.heap.size + 1]? = _ := (hQ.block _ (lt_of_block HZ0.out)).trans HZ0.out
    have cX : w2.cell? ⟨w.heap.size, 0, none⟩ = some (.slice none 0 0) := by simp [World.cell?, hX2]
    have cZ : w2.cell? ⟨w.heap.size + 1, 0, none⟩ = some (.int .i64 0) := by simp [World.cell?, hZ2]
    have zX : w2.frozen? ⟨w.heap.size, 0, none⟩ = false := by simp [World.frozen?, hX2]
    have zZ : w2.frozen? ⟨w.heap.size + 1, 0, none⟩ = false := by simp [World.frozen?, hZ2]
    have HF : Hid (Below w.heap.size w ((w2.setCell ⟨w.heap.size, 0, none⟩ (.slice none 0 0)).setCell ⟨w.heap.size + 1, 0, none⟩ (.int .i64 83))) := hide (((HB0.out.trans (hQ.mono HB0.out.size)).setCell (Nat.le_refl _) _).setCell (Nat.le_succ _) _)
    have cX3 : ((w2.setCell ⟨w.heap.size, 0, none⟩ (.slice none 0 0)).setCell ⟨w.heap.size + 1, 0, none⟩ (.int .i64 83)).cell? ⟨w.heap.size, 0, none⟩ = some (.slice none 0 0) := cell_other (World.cell?_setCell_same _ _ _ cX) (by simp)
    have cZ3 : ((w2.setCell ⟨w.heap.size, 0, none⟩ (.slice none 0 0)).setCell ⟨w.heap.size + 1, 0, none⟩ (.int .i64 83)).cell? ⟨w.heap.size + 1, 0, none⟩ = some (.int .i64 83) := World.cell?_setCell_same _ _ _ (cell_other cZ (by simp))
    unfold Gives at he
    subst he
    clear HR hQ hX2 hZ2 hE
    go_wp2_with fail
    refine leaves_cons (f := 8) (args := #[.pointer (some ⟨w.heap.size, 0, none⟩), .pointer (some ⟨w.heap.size + 1, 0, none⟩)]) (by simp) (by simp [go_sem]) ?_
    refine (catchD cX cZ zX zZ (by omega) []).mono ?_
    rintro e u' w'' ⟨rfl, rfl, rfl⟩
    simp [Leaves, settle, results, Try.results4, go_sem, cX3, cZ3]
    exact ⟨rfl, HF.out⟩
  | some l =>
    obtain ⟨A, vals, rfl, hl, hN⟩ := hP
    have hX2 : w2.heap[w.heap.size]? = _ := (hN.bel.block _ (lt_of_block HX0.out)).trans HX0.out
    have hZ2 : w2.heap[w.heap.size + 1]? = _ := (hN.bel.block _ (lt_of_block HZ0.out)).trans HZ0.out
    have cX : w2.cell? ⟨w.heap.size, 0, none⟩ = some (.slice none 0 0) := by simp [World.cell?, hX2]
    have cZ : w2.cell? ⟨w.heap.size + 1, 0, none⟩ = some (.int .i64 0) := by simp [World.cell?, hZ2]
    have zX : w2.frozen? ⟨w.heap.size, 0, none⟩ = false := by simp [World.frozen?, hX2]
    have zZ : w2.frozen? ⟨w.heap.size + 1, 0, none⟩ = false := by simp [World.frozen?, hZ2]
    generalize hv : Value.slice (some ⟨A, 0, none⟩) vals.length vals.length = vv at *
    have cZ2 : (w2.setCell ⟨w.heap.size, 0, none⟩ vv).cell? ⟨w.heap.size + 1, 0, none⟩ = some (.int .i64 0) := cell_other cZ (by simp)
    have zZ2 : (w2.setCell ⟨w.heap.size, 0, none⟩ vv).frozen? ⟨w.heap.size + 1, 0, none⟩ = false := by rw [World.frozen?_setCell]; exact zZ
    have cX3 : ((w2.setCell ⟨w.heap.size, 0, none⟩ vv).setCell ⟨w.heap.size + 1, 0, none⟩ (.int .i64 0)).cell? ⟨w.heap.size, 0, none⟩ = some vv := cell_other (World.cell?_setCell_same _ _ _ cX) (by simp)
    have cZ3 : ((w2.setCell ⟨w.heap.size, 0, none⟩ vv).setCell ⟨w.heap.size + 1, 0, none⟩ (.int .i64 0)).cell? ⟨w.heap.size + 1, 0, none⟩ = some (.int .i64 0) := World.cell?_setCell_same _ _ _ cZ2
    have HF : Hid (RowN w A vals ((w2.setCell ⟨w.heap.size, 0, none⟩ vv).setCell ⟨w.heap.size + 1, 0, none⟩ (.int .i64 0))) := hide (by
      have hN0 := hN.base HB0.out
      refine hN0.step ((hN0.bel.setCell (Nat.le_refl _) _).setCell (Nat.le_succ _) _) fun X cs ty hX hty => ?_
      have n1 : X ≠ w.heap.size := blk_ne hX hX2 (by rcases hty with rfl | rfl <;> decide)
      have n2 : X ≠ w.heap.size + 1 := blk_ne hX hZ2 (by rcases hty with rfl | rfl <;> decide)
      exact (Below.heap_setCell _ _ _ _ n2).trans (Below.heap_setCell _ _ _ _ n1))
    clear HR hN hX2 hZ2 hE
    subst hv
    go_wp2_with fail
    refine leaves_cons (f := 8) (args := #[.pointer (some ⟨w.heap.size, 0, none⟩), .pointer (some ⟨w.heap.size + 1, 0, none⟩)]) (by simp) (by simp [go_sem]) ?_
    refine (idleD _ _ _).mono ?_
    rintro e u' w'' ⟨rfl, rfl, rfl⟩
    simp [Leaves, settle, results, Try.results4, go_sem, cX3, cZ3]
    exact ⟨A, vals, rfl, hl, HF.out⟩
end Go.Proofs.Ytlgcimfbhjidgaa
end

section
namespace Go.Proofs.Ytlgcimfbhjidgaa
open Go.RowKit
open Rc (L V Ch)

theorem tx_own {w : World} {n0 : Nat} {t : Value} {l : List ByteArray} (h : w.ownsRow n0 9 1 t l.length (strs l)) : Tx w t l := by
  rcases h.2 with ⟨rfl, hn⟩ | ⟨g, cap, cur, rfl, hb, hg, hc, hm, hs, ht⟩
  · obtain rfl := List.length_eq_zero_iff.mp hn
    exact Tx.nil w
  · refine ⟨some ⟨g, 0, none⟩, cap, rfl, fun _ => ⟨g, 0, rfl, lt_of_block hg, fun j hj => ?_⟩⟩
    have := World.ownsRow.cells (v := .slice (some ⟨g, 0, none⟩) l.length cap) h rfl j (.string l[j]!) (by simp [strs, hj])
    rcases Nat.eq_zero_or_pos j with rfl | h0
    · simpa [Addr.add] using this
    · simpa [Addr.add, Nat.ne_of_gt h0] using this
theorem flatV_get {vals : List (Ch × Value)} {j i : Nat} (hj : j < vals.length) (hi : i < 10) : (flatV vals)[j * 10 + i]? = (chC (vals[j]).1 (vals[j]).2)[i]? := by
  induction vals generalizing j with
  | nil => simp at hj
  | cons x l ih =>
    have e : flatV (x :: l) = (chC x.1 x.2).toList ++ flatV l := by simp [flatV]
    have hl : (chC x.1 x.2).toList.length = 10 := by simp [chC]
    rw [e]
    cases j with
    | zero => rw [List.getElem?_append_left (by omega)]; simp
    | succ j =>
      rw [List.getElem?_append_right (by omega), hl, show (j + 1) * 10 + i - 10 = j * 10 + i by omega]
      rw [List.length_cons] at hj
      rw [ih (by omega)]; rfl
theorem RowN.rw {w0 w : World} {A : Nat} {vals : List (Ch × Value)} {l : List Ch} (h : RowN w0 A vals w) (hl : vals.map Prod.fst = l) (hr : ∀ c ∈ l, c.tx.length ≤ 140737488351232 ∧ c.rb < 18446744073709551616) : Rw w (.slice (some ⟨A, 0, none⟩) vals.length vals.length) l := by
  have hlen : l.length = vals.length := by rw [← hl]; simp
  refine ⟨some ⟨A, 0, none⟩, vals.length, by rw [hlen], fun _ => ⟨A, 0, rfl, lt_of_block h.ch, fun j hj => ?_⟩⟩
  have hj' : j < vals.length := by omega
  have e : l[j]! = (vals[j]).1 := by rw [getElem!_pos l j hj]; simp [← hl]
  have hm := hr l[j]! (by rw [getElem!_pos l j hj]; exact List.getElem_mem hj)
  rw [e] at hm ⊢
  refine ⟨(vals[j]).2, tx_own (h.own _ (List.getElem_mem hj')), hm.1, hm.2, fun i u hi => ?_⟩
  have hi10 : i < 10 := by
    have := (Array.getElem?_eq_some_iff.mp hi).1
    simpa [chC] using this
  have hc := h.ch
  simp only [World.cell?, hc]
  simp only [Nat.zero_add, List.getElem?_toArray]
  rw [flatV_get hj' hi10, hi]
  rfl
theorem RowN.below {w0 w w' : World} {A : Nat} {vals : List (Ch × Value)} (h : RowN w0 A vals w) (hb : Below w.heap.size w w') : RowN w0 A vals w' :=
  h.step (h.bel.trans (hb.mono h.bel.size)) fun _ _ _ hX _ => hb.block _ (lt_of_block hX)
/-- what is decoded may be -/
theorem deco_small {b : ByteArray} {l : List Ch} (h : Rc.deco b = some l) : ∀ c ∈ l, c.tx.length ≤ 140737488351232 ∧ c.rb < 18446744073709551616 := by
  intro c hc
  obtain ⟨_, _, h3⟩ := Rc.deco_form h
  obtain ⟨hOk, hrb⟩ := h3 c hc
  refine ⟨?_, hrb⟩
  by_cases hT : L.T ∈ Rc.letters c.k
  · have := Rc.may_num (hOk.2.1 _ hT)
    simp only [Rc.sz, Rc.get, Rc.most] at this; omega
  · have := hOk.2.2 _ hT
    simp only [Rc.get, Rc.zV, Rc.V.mk.injEq] at this
    rw [this.2.2.2]; simp
def cGrant : Ch := ⟨3, 0, 1, 2, 0, 1, 0, 0, ⟨#[]⟩, []⟩
def cExpire : Ch := ⟨5, 0, 0, 2, 0, 0, 0, 0, ⟨#[]⟩, []⟩
def cReserve : Ch := ⟨1, 300, 0, 0, 0, 0, 0, 0, ⟨#[]⟩, []⟩
theorem enc300 : Pk.enc 300 = [172, 2] := by rw [Pk.enc_ge (by decide), Pk.enc_lt (by decide)]; rfl
theorem first2 : Rc.first [cGrant, cExpire] = 0 := by decide
theorem first1 : Rc.first [cReserve] = 0 := by decide
theorem row2 : Rc.row [cGrant, cExpire] = [2, 3, 1, 2, 0, 1, 5, 2] := by
  simp [Rc.row, Rc.all, Rc.bytes, Rc.body, Rc.letters, cGrant, cExpire, Rc.lay, Rc.get, Pk.enc_lt]
theorem row1 : Rc.row [cReserve] = [1, 1, 172, 2] := by
  simp [Rc.row, Rc.all, Rc.bytes, Rc.body, Rc.letters, cReserve, Rc.lay, Rc.get, Pk.enc_lt, enc300]
theorem enco2 : Rc.enco [cGrant, cExpire] = (⟨#[2, 3, 1, 2, 0, 1, 5, 2]⟩, 0) := by
  unfold Rc.enco; rw [if_neg (by simp), if_neg (by rw [first2]; simp), row2, if_neg (by simp)]
theorem enco1 : Rc.enco [cReserve] = (⟨#[1, 1, 172, 2]⟩, 0) := by
  unfold Rc.enco; rw [if_neg (by simp), if_neg (by rw [first1]; simp), row1, if_neg (by simp)]
theorem deco1 : Rc.deco ⟨#[1, 1, 172, 2]⟩ = some [cReserve] := by
  have := Rc.deco_at (l := [cReserve]) (by rw [enco1]) (by simp [cReserve])
  rw [enco1] at this; exact this
theorem check1 : Rc.check cReserve = 0 := by decide
set_option maxHeartbeats 1000000 in
theorem fixed_any (w : World) : Calls Try.prog 7 #[] w fun e w' => e = .returned (.bool true) ∧ Below w.heap.size w w' := by
  have HR2 : Hid (Rw (w.alloc (.cells (flatV [(cGrant, .slice none 0 0), (cExpire, .slice none 0 0)]).toArray 32)) (.slice (some ⟨w.heap.size, 0, none⟩) 2 2) [cGrant, cExpire]) := hide (by
    have : RowN w w.heap.size [(cGrant, .slice none 0 0), (cExpire, .slice none 0 0)] (w.alloc (.cells (flatV [(cGrant, .slice none 0 0), (cExpire, .slice none 0 0)]).toArray 32)) :=
      ⟨heap_alloc_new w _, by intro x hx; simp only [List.mem_cons, List.not_mem_nil, or_false] at hx; rcases hx with rfl | rfl <;> exact World.ownsRow_nil _ _ _ _, Nat.le_refl _, below_alloc w _⟩
    exact this.rw rfl (by simp [cGrant, cExpire]))
  have HE := hide (encode_any HR2.out)
  rw [enco2] at HE
  clear HR2
  go_enter Try.func7, Try.ntmps7
  go_wp2_with fail
  refine HE.out.mono ?_
  rintro e w2 ⟨rfl, hb2⟩
  have hb2' : Below w.heap.size w w2 := (below_alloc w _).trans (hb2.mono (by simp))
  have HD := hide (decode_any ⟨#[1, 1, 172, 2]⟩ (by decide) w2)
  rw [deco1] at HD
  have HB2 := hide hb2'
  clear HE hb2 hb2'
  go_wp2_with fail
  refine HD.out.mono ?_
  rintro e w3 ⟨A, vals, rfl, hl, hN⟩
  obtain ⟨t, rfl⟩ : ∃ t, vals = [(cReserve, t)] := by
    match vals, hl with
    | [(c, t)], hl => simp at hl; exact ⟨t, by rw [hl]⟩
  have ho := hN.own _ List.mem_cons_self
  have hT := tx_own ho
  have HC := hide (check_any cReserve t w3 hT (by simp [cReserve]))
  rw [check1] at HC
  obtain ⟨p, cap, ht, -⟩ := hT
  simp only at ht
  subst ht
  have hch := hN.ch
  have ca : Ca w3 A cReserve (.slice p cReserve.tx.length cap) := by unfold Ca; rw [hch]; simp [flatV]
  obtain ⟨c0, c1, c2, c3, c4, c5, c6, c7, c8, c9⟩ := ca.all
  have HB3 := hide (HB2.out.trans (hN.bel.mono HB2.out.size))
  simp only [cReserve, List.length_nil] at c0 c1 c2 c3 c4 c5 c6 c7 c8 c9
  simp only [cReserve, chC, List.length_nil] at HC
  clear HD hN ho hch ca hl
  have hsz := HB3.out.size
  go_wp2_with fail
  refine HC.out.mono ?_
  rintro e w4 ⟨rfl, hb4⟩
  have HF := hide (HB3.out.trans (hb4.mono hsz))
  clear HC hb4
  go_wp2
  go_ret
  exact ⟨rfl, HF.out⟩
end Go.Proofs.Ytlgcimfbhjidgaa
end

section
namespace Go.Proofs.Ytlgcimfbhjidgaa
open Go.RowKit
open Rc (L V Ch)

theorem ch_eq_iff (a b : Ch) : a = b ↔ a.tx = b.tx ∧ a.k = b.k ∧ a.n = b.n ∧ a.jo = b.jo ∧ a.ba = b.ba ∧ a.sl = b.sl ∧ a.li = b.li ∧ (a.rc = b.rc ∧ a.rb = b.rb) ∧ a.pr = b.pr := by
  constructor
  · rintro rfl; simp
  · rintro ⟨h1, h2, h3, h4, h5, h6, h7, ⟨h8, h9⟩, h10⟩; exact Rc.Ch.ext h2 h3 h4 h5 h6 h7 h8 h9 h10 h1
theorem list_eq_of {α : Type} [Inhabited α] {l m : List α} (h : l.length = m.length) (he : ∀ j, j < l.length → l[j]! = m[j]!) : l = m := by
  apply List.ext_getElem h
  intro i h1 h2
  have := he i h1
  rwa [getElem!_pos l i h1, getElem!_pos m i h2] at this
/-- two changes in boxes -/
structure Two (w0 : World) (X : Nat) (a b : Ch) (s t : Value) (w : World) : Prop where
  a : Ca w X a s
  b : Ca w (X + 1) b t
  bel : Below w0.heap.size w0 w
  hX : X = w0.heap.size
theorem Two.drewN {w0 : World} {X : Nat} {a b : Ch} {s t : Value} {w : World} (h : Two w0 X a b s t w) (n : Nat) : Two w0 X a b s t (w.drewN n) := ⟨h.a, h.b, h.bel.trans ((drewN_below _ n).mono h.bel.size), h.hX⟩
theorem below_drewN {w0 w : World} (h : Below w0.heap.size w0 w) (n : Nat) : Below w0.heap.size w0 (w.drewN n) := h.trans ((drewN_below _ n).mono h.size)
set_option maxHeartbeats 1600000 in
theorem sameOne_any {w : World} {a b : Ch} {s t : Value} (hs : Tx w s a.tx) (ht : Tx w t b.tx) (hl : a.tx.length ≤ 140737488351232) : Calls Try.prog 13 #[.agg (chC a s), .agg (chC b t)] w fun e w' => e = .returned (.bool (decide (a = b))) ∧ Below w.heap.size w w' := by
  have HEQ := hide (ch_eq_iff a b)
  have H2 : Hid (Two w w.heap.size a b s t ((w.alloc (.cells (chC a s) 32)).alloc (.cells (chC b t) 32))) := hide
    ⟨(Below.heap_alloc _ _ _ (by simp)).trans (heap_alloc_new w _), by unfold Ca; have := heap_alloc_new (w.alloc (.cells (chC a s) 32)) (.cells (chC b t) 32); simpa using this, (below_alloc w _).alloc (by simp) _, rfl⟩
  obtain ⟨p, cap, rfl, hp⟩ := hs
  obtain ⟨p', cap', rfl, hp'⟩ := ht
  have HP := hide hp
  have HP' := hide hp'
  generalize hDD : decide (a = b) = DD
  clear hp hp'
  by_cases hlen : a.tx.length = b.tx.length
  case neg =>
    have bl : ((a.tx.length : Int) != (b.tx.length : Int)) = true := by simp; omega
    have HF : Hid (DD = false) := hide (by rw [← hDD]; exact decide_eq_false fun h => hlen (by rw [h]))
    have HB := hide H2.out.bel
    simp only [chC] at HB ⊢
    clear H2 hDD
    go_enter Try.func13, Try.ntmps13
    go_wp2
    go_ret
    exact ⟨by rw [HF.out]; rfl, HB.out⟩
  have bl : ((a.tx.length : Int) != (b.tx.length : Int)) = false := by simp; omega
  obtain ⟨a0, a1, a2, a3, a4, a5, a6, a7, a8, a9⟩ := H2.out.a.all
  obtain ⟨b0, b1, b2, b3, b4, b5, b6, b7, b8, b9⟩ := H2.out.b.all
  have hlt := H2.out.a.lt
  have hlt' := H2.out.b.lt
  simp only [chC] at H2 a9 b9 ⊢
  clear a0 a1 a2 a3 a4 a5 a6 a7 a8 b0 b1 b2 b3 b4 b5 b6 b7 b8
  go_enter Try.func13, Try.ntmps13
  go_wp2_with fail
  go_loopw [5] (fun s wr => ∃ k : Nat, k ≤ a.tx.length ∧ s = .int .i64 (k : Int) ∧ Hid (∀ j, j < k → a.tx[j]! = b.tx[j]!) ∧ Hid (Two w w.heap.size a b (.slice p a.tx.length cap) (.slice p' b.tx.length cap') wr)) (fun s _ => a.tx.length - (intOf s).toNat)
  case atStart => exact ⟨0, Nat.zero_le _, rfl, hide (fun j h => absurd h (Nat.not_lt_zero _)), hide (by have := H2.out; rw [hlen] at this ⊢; exact this)⟩
  case round =>
    obtain ⟨k, hk, rfl, HJ, HK⟩ := hrel
    obtain ⟨a0, a1, a2, a3, a4, a5, a6, a7, a8, a9⟩ := HK.out.a.all
    obtain ⟨b0, b1, b2, b3, b4, b5, b6, b7, b8, b9⟩ := HK.out.b.all
    have HB := hide HK.out.bel
    by_cases hkl : k < a.tx.length
    · have hki : (k : Int) < (a.tx.length : Int) := by omega
      have hki' : (k : Int) < (b.tx.length : Int) := by omega
      obtain ⟨gb, go, rfl, hgl, hx⟩ := HP.out (by omega)
      obtain ⟨gb', go', rfl, hgl', hx'⟩ := HP'.out (by omega)
      have x1 : wr.cell? ⟨gb, go + k, none⟩ = some (.string a.tx[k]!) := (HK.out.bel.cell (p := ⟨gb, go + k, none⟩) hgl).trans (hx k hkl)
      have x2 : wr.cell? ⟨gb', go' + k, none⟩ = some (.string b.tx[k]!) := (HK.out.bel.cell (p := ⟨gb', go' + k, none⟩) hgl').trans (hx' k (by omega))
      have l1 : gb < wr.heap.size := Nat.lt_of_lt_of_le hgl HK.out.bel.size
      have l2 : gb' < wr.heap.size := Nat.lt_of_lt_of_le hgl' HK.out.bel.size
      clear hx hx' a0 a1 a2 a3 a4 a5 a6 a7 a8 b0 b1 b2 b3 b4 b5 b6 b7 b8 HP HP'
      by_cases he : a.tx[k]! = b.tx[k]!
      · have HJ2 : Hid (∀ j, j < k + 1 → a.tx[j]! = b.tx[j]!) := hide fun j hj => by
          rcases Nat.lt_succ_iff_lt_or_eq.mp hj with h | h
          · exact HJ.out j h
          · rw [h]; exact he
        rw [← he] at x2
        generalize a.tx[k]! = S at *
        clear he HJ
        go_wp2_with fail
        go_quiet (fail)
        go_wp2
        go_roundw
        case rel => exact ⟨k + 1, by omega, by go_num, HJ2, hide (HK.out.drewN _)⟩
        case measure => simp [intOf]; omega
      · have HF : Hid (DD = false) := hide (by rw [← hDD]; exact decide_eq_false fun h => he (by rw [h]))
        have hbn : (a.tx[k]!.toList == b.tx[k]!.toList) = false := beq_eq_false_iff_ne.2 fun h => he (toList_inj h)
        have hbn' : ¬ a.tx[k]!.toList = b.tx[k]!.toList := fun h => he (toList_inj h)
        generalize a.tx[k]! = S at *
        generalize b.tx[k]! = S' at *
        clear he HJ hDD
        go_wp2_with fail
        go_quiet (fail)
        go_wp2
        go_ret
        exact ⟨by rw [HF.out]; rfl, below_drewN HB.out _⟩
    · obtain rfl : k = a.tx.length := by omega
      have hki : ¬ (a.tx.length : Int) < (a.tx.length : Int) := by omega
      have htx : a.tx = b.tx := list_eq_of hlen HJ.out
      have HQ : Hid (DD = decide (a.k = b.k ∧ a.n = b.n ∧ a.jo = b.jo ∧ a.ba = b.ba ∧ a.sl = b.sl ∧ a.li = b.li ∧ (a.rc = b.rc ∧ a.rb = b.rb) ∧ a.pr = b.pr)) := hide (by
        rw [← hDD]; exact decide_eq_decide.mpr (HEQ.out.trans ⟨fun h => h.2, fun h => ⟨htx, h⟩⟩))
      clear HJ HK HEQ H2 HP HP' hDD htx
      obtain ⟨ka, na, ja, baa, sa, la, rca, rba, pra, txa⟩ := a
      obtain ⟨kb, nb, jb, bab, sb, lb, rcb, rbb, prb, txb⟩ := b
      simp only at *
      by_cases e_k : ka = kb
      case neg =>
        have HF : Hid (DD = false) := hide (by rw [HQ.out]; exact decide_eq_false fun h => e_k h.1)
        have hbe : (ka == kb) = false := beq_eq_false_iff_ne.2 e_k
        clear HQ e_k
        go_wp2
        go_ret
        exact ⟨by rw [HF.out]; rfl, HB.out⟩
      subst e_k
      by_cases e_n : na = nb
      case neg =>
        have HF : Hid (DD = false) := hide (by rw [HQ.out]; exact decide_eq_false fun h => e_n h.2.1)
        have hbe : (na == nb) = false := beq_eq_false_iff_ne.2 e_n
        clear HQ e_n
        go_wp2
        go_ret
        exact ⟨by rw [HF.out]; rfl, HB.out⟩
      subst e_n
      by_cases e_j : ja = jb
      case neg =>
        have HF : Hid (DD = false) := hide (by rw [HQ.out]; exact decide_eq_false fun h => e_j h.2.2.1)
        have hbe : (ja == jb) = false := beq_eq_false_iff_ne.2 e_j
        clear HQ e_j
        go_wp2
        go_ret
        exact ⟨by rw [HF.out]; rfl, HB.out⟩
      subst e_j
      by_cases e_ba : baa = bab
      case neg =>
        have HF : Hid (DD = false) := hide (by rw [HQ.out]; exact decide_eq_false fun h => e_ba h.2.2.2.1)
        have hbe : (baa == bab) = false := beq_eq_false_iff_ne.2 e_ba
        clear HQ e_ba
        go_wp2
        go_ret
        exact ⟨by rw [HF.out]; rfl, HB.out⟩
      subst e_ba
      by_cases e_s : sa = sb
      case neg =>
        have HF : Hid (DD = false) := hide (by rw [HQ.out]; exact decide_eq_false fun h => e_s h.2.2.2.2.1)
        have hbe : (sa == sb) = false := beq_eq_false_iff_ne.2 e_s
        clear HQ e_s
        go_wp2
        go_ret
        exact ⟨by rw [HF.out]; rfl, HB.out⟩
      subst e_s
      by_cases e_l : la = lb
      case neg =>
        have HF : Hid (DD = false) := hide (by rw [HQ.out]; exact decide_eq_false fun h => e_l h.2.2.2.2.2.1)
        have hbe : (la == lb) = false := beq_eq_false_iff_ne.2 e_l
        clear HQ e_l
        go_wp2
        go_ret
        exact ⟨by rw [HF.out]; rfl, HB.out⟩
      subst e_l
      have hE : ∀ (w : World), (binOp .eql 29 (.agg #[.int .i64 rca, .int .u64 (rba : Int)]) (.agg #[.int .i64 rcb, .int .u64 (rbb : Int)])).run Try.prog w = .ok (.bool (decide (rca = rcb ∧ rba = rbb))) w := fun w => eql_res rca rcb rba rbb w
      by_cases e_r : rca = rcb ∧ rba = rbb
      case neg =>
        have HF : Hid (DD = false) := hide (by rw [HQ.out]; exact decide_eq_false fun h => e_r h.2.2.2.2.2.2.1)
        rw [decide_eq_false e_r] at hE
        clear HQ e_r
        go_wp2
        go_ret
        exact ⟨by rw [HF.out]; rfl, HB.out⟩
      rw [decide_eq_true e_r] at hE
      by_cases e_p : pra = prb
      case neg =>
        have HF : Hid (DD = false) := hide (by rw [HQ.out]; exact decide_eq_false fun h => e_p h.2.2.2.2.2.2.2)
        have hbn : (pra.toList == prb.toList) = false := beq_eq_false_iff_ne.2 fun h => e_p (toList_inj h)
        have hbn' : ¬ pra.toList = prb.toList := fun h => e_p (toList_inj h)
        clear HQ e_p e_r
        go_wp2
        go_ret
        exact ⟨by rw [HF.out]; rfl, HB.out⟩
      have HF : Hid (DD = true) := hide (by rw [HQ.out]; exact decide_eq_true ⟨rfl, rfl, rfl, rfl, rfl, rfl, e_r, e_p⟩)
      subst e_p
      clear HQ e_r
      go_wp2
      go_ret
      exact ⟨by rw [HF.out]; rfl, HB.out⟩
end Go.Proofs.Ytlgcimfbhjidgaa
end

section
namespace Go.Proofs.Ytlgcimfbhjidgaa
open Go.RowKit
open Rc (L V Ch)

theorem Rw.at {w : World} {v : Value} {l : List Ch} {b off cap : Nat} (h : Rw w v l) (hv : v = .slice (some ⟨b, off, none⟩) l.length cap) {j : Nat} (hj : j < l.length) :
    ∃ pt ct, Tx w (.slice pt (l[j]!).tx.length ct) (l[j]!).tx ∧ (l[j]!).tx.length ≤ 140737488351232 ∧ (l[j]!).rb < 18446744073709551616 ∧ b < w.heap.size ∧ ∀ i u, (chC l[j]! (.slice pt (l[j]!).tx.length ct))[i]? = some u → w.cell? ⟨b, off + j * 10 + i, none⟩ = some u := by
  obtain ⟨p, cap', hv', h2⟩ := h
  obtain ⟨b', off', hp, hlt, hx⟩ := h2 (by omega)
  rw [hv] at hv'
  simp only [Value.slice.injEq] at hv'
  rw [hp] at hv'
  simp only [Option.some.injEq, Addr.mk.injEq] at hv'
  obtain ⟨⟨rfl, rfl, -⟩, -, rfl⟩ := hv'
  obtain ⟨t, ht, h1, h3, h4⟩ := hx j hj
  have hT := ht
  obtain ⟨pt, ct, rfl, -⟩ := ht
  exact ⟨pt, ct, hT, h1, h3, hlt, h4⟩
set_option maxHeartbeats 1600000 in
theorem same_any {w : World} {v v' : Value} {l m : List Ch} (h : Rw w v l) (h' : Rw w v' m) (hll : l.length ≤ 9223372036854775807) : Calls Try.prog 6 #[v, v'] w fun e w' => e = .returned (.bool (decide (l = m))) ∧ Below w.heap.size w w' := by
  have H := hide h
  have H' := hide h'
  generalize hDD : decide (l = m) = DD
  obtain ⟨p, cap, rfl, hp⟩ := h
  obtain ⟨p', cap', rfl, hp'⟩ := h'
  by_cases hlen : l.length = m.length
  case neg =>
    have bl : ((l.length : Int) != (m.length : Int)) = true := by simp; omega
    have HF : Hid (DD = false) := hide (by rw [← hDD]; exact decide_eq_false fun h => hlen (by rw [h]))
    clear H H' hp hp' hDD
    go_enter Try.func6, Try.ntmps6
    go_wp2
    go_ret
    exact ⟨by rw [HF.out]; rfl, Below.refl _ _⟩
  have bl : ((l.length : Int) != (m.length : Int)) = false := by simp; omega
  have hnot : ∀ (x : Bool) (w : World), (Op.unary .not (.bool x)).run Try.prog w = .ok (.bool (!x)) w := fun _ _ => rfl
  have HP : Hid (0 < l.length → ∃ b off, p = some ⟨b, off, none⟩ ∧ b < w.heap.size) := hide fun h => by obtain ⟨b, off, h1, h2, _⟩ := hp h; exact ⟨b, off, h1, h2⟩
  have HP' : Hid (0 < m.length → ∃ b off, p' = some ⟨b, off, none⟩ ∧ b < w.heap.size) := hide fun h => by obtain ⟨b, off, h1, h2, _⟩ := hp' h; exact ⟨b, off, h1, h2⟩
  clear hp hp'
  obtain ⟨n, hn⟩ : ∃ n, m.length = n := ⟨_, rfl⟩
  have hln : l.length = n := hlen.trans hn
  rw [hln, hn]
  rw [hln, hn] at bl
  clear hlen
  go_enter Try.func6, Try.ntmps6
  go_wp2_with fail
  go_loopw [5, 6] (fun s _ wr => ∃ k : Nat, k ≤ n ∧ s = .int .i64 (k : Int) ∧ Hid (∀ j, j < k → l[j]! = m[j]!) ∧ Hid (Below w.heap.size w wr)) (fun s _ _ => n - (intOf s).toNat)
  case atStart => exact ⟨0, Nat.zero_le _, rfl, hide (fun j h => absurd h (Nat.not_lt_zero _)), hide (Below.refl _ _)⟩
  case round =>
    obtain ⟨k, hk, rfl, HJ, HK⟩ := hrel
    by_cases hkl : k < n
    · have hki : (k : Int) < (n : Int) := by omega
      obtain ⟨b, off, rfl, hlt⟩ := HP.out (by omega)
      obtain ⟨b', off', rfl, hlt'⟩ := HP'.out (by omega)
      obtain ⟨pt, ct, hT, htl, -, -, hx⟩ := H.out.at rfl (show k < l.length by omega)
      obtain ⟨pt', ct', hT', htl', -, -, hx'⟩ := H'.out.at rfl (show k < m.length by omega)
      have hc : ∀ i u, (chC l[k]! (.slice pt (l[k]!).tx.length ct))[i]? = some u → wr.cell? ⟨b, off + k * 10 + i, none⟩ = some u := fun i u hi => (HK.out.cell (p := ⟨b, off + k * 10 + i, none⟩) hlt).trans (hx i u hi)
      have hc' : ∀ i u, (chC m[k]! (.slice pt' (m[k]!).tx.length ct'))[i]? = some u → wr.cell? ⟨b', off' + k * 10 + i, none⟩ = some u := fun i u hi => (HK.out.cell (p := ⟨b', off' + k * 10 + i, none⟩) hlt').trans (hx' i u hi)
      have HDD : Hid (l[k]! ≠ m[k]! → DD = false) := hide fun hne => by rw [← hDD]; exact decide_eq_false fun h => hne (by rw [h])
      have HJ2 : Hid (l[k]! = m[k]! → ∀ j, j < k + 1 → l[j]! = m[j]!) := hide fun he j hj => by
        rcases Nat.lt_succ_iff_lt_or_eq.mp hj with h | h
        · exact HJ.out j h
        · rw [h]; exact he
      generalize l[k]! = x at *
      generalize m[k]! = y at *
      have c0 : wr.cell? ⟨b, off + k * 10, none⟩ = some (.int .i64 x.k) := hc 0 _ rfl
      have c1 : wr.cell? ⟨b, off + k * 10 + 1, none⟩ = some (.int .i64 x.n) := hc 1 _ rfl
      have c2 : wr.cell? ⟨b, off + k * 10 + 2, none⟩ = some (.int .i64 x.jo) := hc 2 _ rfl
      have c3 : wr.cell? ⟨b, off + k * 10 + 3, none⟩ = some (.int .i64 x.ba) := hc 3 _ rfl
      have c4 : wr.cell? ⟨b, off + k * 10 + 4, none⟩ = some (.int .i64 x.sl) := hc 4 _ rfl
      have c5 : wr.cell? ⟨b, off + k * 10 + 5, none⟩ = some (.int .i64 x.li) := hc 5 _ rfl
      have c6 : wr.cell? ⟨b, off + k * 10 + 6, none⟩ = some (.int .i64 x.rc) := hc 6 _ rfl
      have c7 : wr.cell? ⟨b, off + k * 10 + 7, none⟩ = some (.int .u64 (x.rb : Int)) := hc 7 _ rfl
      have c8 : wr.cell? ⟨b, off + k * 10 + 8, none⟩ = some (.string x.pr) := hc 8 _ rfl
      have c9 : wr.cell? ⟨b, off + k * 10 + 9, none⟩ = some (.slice pt x.tx.length ct) := hc 9 _ rfl
      have d0 : wr.cell? ⟨b', off' + k * 10, none⟩ = some (.int .i64 y.k) := hc' 0 _ rfl
      have d1 : wr.cell? ⟨b', off' + k * 10 + 1, none⟩ = some (.int .i64 y.n) := hc' 1 _ rfl
      have d2 : wr.cell? ⟨b', off' + k * 10 + 2, none⟩ = some (.int .i64 y.jo) := hc' 2 _ rfl
      have d3 : wr.cell? ⟨b', off' + k * 10 + 3, none⟩ = some (.int .i64 y.ba) := hc' 3 _ rfl
      have d4 : wr.cell? ⟨b', off' + k * 10 + 4, none⟩ = some (.int .i64 y.sl) := hc' 4 _ rfl
      have d5 : wr.cell? ⟨b', off' + k * 10 + 5, none⟩ = some (.int .i64 y.li) := hc' 5 _ rfl
      have d6 : wr.cell? ⟨b', off' + k * 10 + 6, none⟩ = some (.int .i64 y.rc) := hc' 6 _ rfl
      have d7 : wr.cell? ⟨b', off' + k * 10 + 7, none⟩ = some (.int .u64 (y.rb : Int)) := hc' 7 _ rfl
      have d8 : wr.cell? ⟨b', off' + k * 10 + 8, none⟩ = some (.string y.pr) := hc' 8 _ rfl
      have d9 : wr.cell? ⟨b', off' + k * 10 + 9, none⟩ = some (.slice pt' y.tx.length ct') := hc' 9 _ rfl
      have hbl : b < wr.heap.size := Nat.lt_of_lt_of_le hlt HK.out.size
      have hbl' : b' < wr.heap.size := Nat.lt_of_lt_of_le hlt' HK.out.size
      have HS := hide fun (W : World) (hW : Below wr.heap.size wr W) => sameOne_any (a := x) (b := y) ((hT.below HK.out (Nat.le_refl _)).below hW (Nat.le_refl _)) ((hT'.below HK.out (Nat.le_refl _)).below hW (Nat.le_refl _)) htl
      simp only [chC] at HS
      have hsz := HK.out.size
      clear hc hc' hx hx' hT hT' HJ H H' HP HP'
      go_wp2_with fail
      refine wp_region_held_drew (S := fun W => Below wr.heap.size wr W) (by kernel_rfl) (Below.refl _ _).drew (fun hHeld => ?_)
      refine wpAnyH_take (i := 0) (v := .slice (some ⟨b, off, none⟩) n cap) rfl (by kernel_rfl) (by kernel_rfl) (by kernel_rfl) (fun _ _ _ h => h) (Or.inl ⟨by rfl, fun w1 hSw => by clear hHeld; go_simp⟩) hHeld ?_
      simp only [Act.put, List.setIfInBounds_toArray]
      refine wpAnyH_take (i := 1) (v := .int .i64 (k : Int)) rfl (by kernel_rfl) (by kernel_rfl) (by kernel_rfl) (fun _ _ _ h => h) (Or.inl ⟨by rfl, fun w1 hSw => by clear hHeld; go_simp⟩) hHeld ?_
      simp only [Act.put]
      refine wpAnyH_take (i := 2) (v := .pointer (some ⟨b, off + k * 10, none⟩)) rfl (by kernel_rfl) (by kernel_rfl) (by kernel_rfl) (fun _ _ _ h => h) (Or.inl ⟨by rfl, fun w1 hSw => by clear hHeld; go_simp⟩) hHeld ?_
      simp only [Act.put]
      refine wpAnyH_take (i := 3) (v := .agg #[.int .i64 x.k, .int .i64 x.n, .int .i64 x.jo, .int .i64 x.ba, .int .i64 x.sl, .int .i64 x.li, .int .i64 x.rc, .int .u64 (x.rb : Int), .string x.pr, .slice pt x.tx.length ct]) rfl (by kernel_rfl) (by kernel_rfl) (by kernel_rfl) (fun _ _ _ h => h) (Or.inl ⟨by rfl, fun w1 hSw => by clear hHeld; have q0 := (hSw.cell (p := ⟨b, off + k * 10, none⟩) hbl).trans c0; have q1 := (hSw.cell (p := ⟨b, off + k * 10 + 1, none⟩) hbl).trans c1; have q2 := (hSw.cell (p := ⟨b, off + k * 10 + 2, none⟩) hbl).trans c2; have q3 := (hSw.cell (p := ⟨b, off + k * 10 + 3, none⟩) hbl).trans c3; have q4 := (hSw.cell (p := ⟨b, off + k * 10 + 4, none⟩) hbl).trans c4; have q5 := (hSw.cell (p := ⟨b, off + k * 10 + 5, none⟩) hbl).trans c5; have q6 := (hSw.cell (p := ⟨b, off + k * 10 + 6, none⟩) hbl).trans c6; have q7 := (hSw.cell (p := ⟨b, off + k * 10 + 7, none⟩) hbl).trans c7; have q8 := (hSw.cell (p := ⟨b, off + k * 10 + 8, none⟩) hbl).trans c8; have q9 := (hSw.cell (p := ⟨b, off + k * 10 + 9, none⟩) hbl).trans c9; clear hSw HS; clear c0 c1 c2 c3 c4 c5 c6 c7 c8 c9 d0 d1 d2 d3 d4 d5 d6 d7 d8 d9; go_simp⟩) hHeld ?_
      simp only [Act.put]
      refine wpAnyH_take (i := 4) (v := .slice (some ⟨b', off', none⟩) n cap') rfl (by kernel_rfl) (by kernel_rfl) (by kernel_rfl) (fun _ _ _ h => h) (Or.inl ⟨by rfl, fun w1 hSw => by clear hHeld; go_simp⟩) hHeld ?_
      simp only [Act.put]
      refine wpAnyH_take (i := 5) (v := .int .i64 (k : Int)) rfl (by kernel_rfl) (by kernel_rfl) (by kernel_rfl) (fun _ _ _ h => h) (Or.inl ⟨by rfl, fun w1 hSw => by clear hHeld; go_simp⟩) hHeld ?_
      simp only [Act.put]
      refine wpAnyH_take (i := 6) (v := .pointer (some ⟨b', off' + k * 10, none⟩)) rfl (by kernel_rfl) (by kernel_rfl) (by kernel_rfl) (fun _ _ _ h => h) (Or.inl ⟨by rfl, fun w1 hSw => by clear hHeld; go_simp⟩) hHeld ?_
      simp only [Act.put]
      refine wpAnyH_take (i := 7) (v := .agg #[.int .i64 y.k, .int .i64 y.n, .int .i64 y.jo, .int .i64 y.ba, .int .i64 y.sl, .int .i64 y.li, .int .i64 y.rc, .int .u64 (y.rb : Int), .string y.pr, .slice pt' y.tx.length ct']) rfl (by kernel_rfl) (by kernel_rfl) (by kernel_rfl) (fun _ _ _ h => h) (Or.inl ⟨by rfl, fun w1 hSw => by clear hHeld; have q0 := (hSw.cell (p := ⟨b', off' + k * 10, none⟩) hbl').trans d0; have q1 := (hSw.cell (p := ⟨b', off' + k * 10 + 1, none⟩) hbl').trans d1; have q2 := (hSw.cell (p := ⟨b', off' + k * 10 + 2, none⟩) hbl').trans d2; have q3 := (hSw.cell (p := ⟨b', off' + k * 10 + 3, none⟩) hbl').trans d3; have q4 := (hSw.cell (p := ⟨b', off' + k * 10 + 4, none⟩) hbl').trans d4; have q5 := (hSw.cell (p := ⟨b', off' + k * 10 + 5, none⟩) hbl').trans d5; have q6 := (hSw.cell (p := ⟨b', off' + k * 10 + 6, none⟩) hbl').trans d6; have q7 := (hSw.cell (p := ⟨b', off' + k * 10 + 7, none⟩) hbl').trans d7; have q8 := (hSw.cell (p := ⟨b', off' + k * 10 + 8, none⟩) hbl').trans d8; have q9 := (hSw.cell (p := ⟨b', off' + k * 10 + 9, none⟩) hbl').trans d9; clear hSw HS; clear c0 c1 c2 c3 c4 c5 c6 c7 c8 c9 d0 d1 d2 d3 d4 d5 d6 d7 d8 d9; go_simp⟩) hHeld ?_
      simp only [Act.put]
      refine wpAnyH_ready (rs := [8]) (by kernel_rfl) (by simp) ?_
      refine AllReadyH.cons rfl (fun KK hK => ?_) AllReadyH.nil
      go_simp
      refine (HS.out _ (Below.refl _ _).drew).mono ?_
      rintro e w2 ⟨rfl, hb2⟩
      have hb3 : Below wr.heap.size wr w2 := (Below.refl _ _).drew.trans hb2
      have HB3 := hide (HK.out.trans (hb3.mono hsz))
      refine hK.out _ _ hb3 (fun hHeld => ?_)
      generalize hq : decide (x = y) = Q at *
      refine wpAnyH_take (i := 9) (v := .bool Q) rfl (by kernel_rfl) (by kernel_rfl) (by kernel_rfl) (fun _ _ _ h => h) (Or.inl ⟨by rfl, fun w1 hSw => by clear hHeld; go_simp⟩) hHeld ?_
      simp only [Act.put]
      refine wpAnyH_done (by kernel_rfl) ?_ _
      clear HS hb2 hb3 c0 c1 c2 c3 c4 c5 c6 c7 c8 c9 d0 d1 d2 d3 d4 d5 d6 d7 d8 d9
      cases Q
      · have HF : Hid (DD = false) := hide (HDD.out (of_decide_eq_false hq))
        clear HDD HJ2 hDD hq
        go_wp2
        go_ret
        exact ⟨by rw [HF.out]; rfl, HB3.out⟩
      · have HJ3 := hide (HJ2.out (of_decide_eq_true hq))
        clear HDD HJ2 hq
        go_wp2
        go_roundw
        case rel => exact ⟨k + 1, by omega, by go_num, HJ3, HB3⟩
        case measure => simp [intOf]; omega
    · obtain rfl : k = n := by omega
      have hki : ¬ (k : Int) < (k : Int) := by omega
      have HF : Hid (DD = true) := hide (by rw [← hDD]; exact decide_eq_true (list_eq_of (by omega) (by rw [hln]; exact HJ.out)))
      clear HJ hDD
      go_wp2
      go_ret
      exact ⟨by rw [HF.out]; rfl, HK.out⟩
end Go.Proofs.Ytlgcimfbhjidgaa
end

section
namespace Go.Proofs.Ytlgcimfbhjidgaa
open Go.RowKit
open Rc (L V Ch)

theorem Rw.rb {w : World} {v : Value} {l : List Ch} (h : Rw w v l) : ∀ c ∈ l, c.rb < 18446744073709551616 := by
  intro c hc
  obtain ⟨j, hj, rfl⟩ := List.mem_iff_getElem.mp hc
  obtain ⟨p, cap, hv, h2⟩ := h
  obtain ⟨b, off, hp, hlt, hx⟩ := h2 (by omega)
  obtain ⟨t, _, _, h3, _⟩ := hx j hj
  rwa [getElem!_pos l j hj] at h3
theorem enco_inj {l m : List Ch} (hl : (Rc.enco l).2 = 0) (hm : (Rc.enco m).2 = 0) (rl : ∀ c ∈ l, c.rb < 18446744073709551616) (rm : ∀ c ∈ m, c.rb < 18446744073709551616) (he : (Rc.enco l).1 = (Rc.enco m).1) : l = m := by
  obtain ⟨h1, h2, h3, h4⟩ := Rc.enco_ok hl
  obtain ⟨k1, k2, k3, k4⟩ := Rc.enco_ok hm
  rw [h4, k4] at he
  have hr : Rc.row l = Rc.row m := by
    have := congrArg (fun b : ByteArray => b.data.toList) he
    simpa using this
  exact (Rc.row_apart (more := []) (by rw [List.append_nil]; exact hr) (fun c hc => ⟨h2 c hc, rl c hc⟩) (fun c hc => ⟨k2 c hc, rm c hc⟩) (by omega) (by omega)).1
theorem enco_head {l : List Ch} (hl : (Rc.enco l).2 = 0) : ∃ rest, (Rc.enco l).1 = ⟨(UInt8.ofNat l.length :: rest).toArray⟩ ∧ (1 ≤ l.length ∧ l.length ≤ 16) ∧ (1 ≤ (Rc.enco l).1.size ∧ (Rc.enco l).1.size ≤ 2048) := by
  obtain ⟨h1, h2, h3, h4⟩ := Rc.enco_ok hl
  have e : Rc.row l = UInt8.ofNat l.length :: Rc.all l := by rw [Rc.row, Pk.enc_lt (by omega)]; rfl
  refine ⟨Rc.all l, by rw [h4, e], h1, ?_⟩
  have hs : (Rc.enco l).1.size = (Rc.row l).length := by rw [h4]; simp [ByteArray.size]
  rw [hs, e]
  rw [e] at h3
  exact ⟨by simp, h3⟩
theorem head_byte {a : ByteArray} {rest : List UInt8} {n : Nat} (ha : a = ⟨(UInt8.ofNat n :: rest).toArray⟩) (hn : n ≤ 16) (h : 0 < a.size) : (wrap64 (((a[0]'h).toNat : Nat) : Int) != (n : Int)) = false := by
  subst ha
  have : ((⟨(UInt8.ofNat n :: rest).toArray⟩ : ByteArray)[0]'h).toNat = n := Pk.toNat_ofNat (n := n) (by omega)
  rw [this]
  simp only [wrap64]
  rw [show ((n : Int) + 9223372036854775808) % 18446744073709551616 - 9223372036854775808 = (n : Int) by omega]
  simp
end Go.Proofs.Ytlgcimfbhjidgaa
end

section
namespace Go.Proofs.Ytlgcimfbhjidgaa
open Go.RowKit
open Rc (L V Ch)

theorem first_append (l m : List Ch) : Rc.first (l ++ m) = if Rc.first l ≠ 0 then Rc.first l else Rc.first m := by
  induction l with
  | nil => simp [Rc.first]
  | cons c l ih =>
    rw [List.cons_append, Rc.first, Rc.first]
    by_cases h : Rc.check c ≠ 0
    · simp [h]
    · rw [if_neg h, if_neg h, ih]
theorem all_append (l m : List Ch) : Rc.all (l ++ m) = Rc.all l ++ Rc.all m := by simp [Rc.all]
theorem row_cons {l : List Ch} (h : l.length ≤ 127) : Rc.row l = UInt8.ofNat l.length :: Rc.all l := by rw [Rc.row, Pk.enc_lt (by omega)]; rfl
theorem row_len {l : List Ch} (h : l.length ≤ 127) : (Rc.row l).length = (Rc.all l).length + 1 := by rw [row_cons h]; rfl
/-- what refuses a part refuses the whole -/
theorem join_no {l m : List Ch} (h : (Rc.enco l).2 ≠ 0 ∨ (Rc.enco m).2 ≠ 0) (hl : l.length ≠ 0) (hm : m.length ≠ 0) : (Rc.enco (l ++ m)).2 ≠ 0 := by
  intro h0
  obtain ⟨h1, h2, h3, _⟩ := Rc.enco_ok h0
  rw [List.length_append] at h1
  rw [row_len (by rw [List.length_append]; omega), all_append, List.length_append] at h3
  have part : ∀ k : List Ch, k.length ≠ 0 → k.length ≤ 16 → (∀ c ∈ k, Rc.Ok c) → (Rc.all k).length + 1 ≤ 2048 → (Rc.enco k).2 = 0 := by
    intro k k0 k1 k2 k3
    unfold Rc.enco
    rw [if_neg (by omega), if_neg (by rw [(Rc.first_iff k).mpr fun c hc => (Rc.check_iff c).mpr (k2 c hc)]; simp), if_neg (by rw [row_len (by omega)]; omega)]
  rcases h with h | h
  · exact h (part l hl (by omega) (fun c hc => h2 c (List.mem_append_left _ hc)) (by omega))
  · exact h (part m hm (by omega) (fun c hc => h2 c (List.mem_append_right _ hc)) (by omega))
/-- both may be: the whole is too much, or it is both behind how many there are -/
theorem join_yes {l m : List Ch} (hl : (Rc.enco l).2 = 0) (hm : (Rc.enco m).2 = 0) :
    (Rc.enco l).1 = ⟨(UInt8.ofNat l.length :: Rc.all l).toArray⟩ ∧ (Rc.enco m).1 = ⟨(UInt8.ofNat m.length :: Rc.all m).toArray⟩ ∧
    Rc.enco (l ++ m) = if 16 < l.length + m.length ∨ 2048 < (Rc.all l).length + (Rc.all m).length + 1 then (Rc.e0, 82) else (⟨(UInt8.ofNat (l.length + m.length) :: (Rc.all l ++ Rc.all m)).toArray⟩, 0) := by
  obtain ⟨h1, h2, h3, h4⟩ := Rc.enco_ok hl
  obtain ⟨k1, k2, k3, k4⟩ := Rc.enco_ok hm
  refine ⟨by rw [h4, row_cons (by omega)], by rw [k4, row_cons (by omega)], ?_⟩
  have hf : Rc.first (l ++ m) = 0 := (Rc.first_iff _).mpr fun c hc => (Rc.check_iff c).mpr (by
    rcases List.mem_append.mp hc with h | h
    · exact h2 c h
    · exact k2 c h)
  unfold Rc.enco
  by_cases h16 : 16 < l.length + m.length
  · rw [if_pos (.inr (by rw [List.length_append]; exact h16)), if_pos (.inl h16)]
  · have hs : (l ++ m).length ≤ 127 := by rw [List.length_append]; omega
    rw [if_neg (by rw [List.length_append]; omega), if_neg (by rw [hf]; simp), row_len hs, row_cons hs, all_append, List.length_append, List.length_append]
    by_cases h48 : 2048 < (Rc.all l).length + (Rc.all m).length + 1
    · rw [if_pos h48, if_pos (.inr h48)]
    · rw [if_neg h48, if_neg (by omega)]
end Go.Proofs.Ytlgcimfbhjidgaa
end
