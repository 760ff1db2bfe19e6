import Derived.Test.YtjabnddjahhgoaaRcV
namespace Go.Proofs.Ytjabnddjahhgoaa
open Go.RowKit
open Rc (L V Ch)

theorem tx_own {w : World} {n0 : Nat} {t : Value} {l : List ByteArray} (h : w.ownsRow n0 9 1 t l.length (strs l)) : Tx w t l := by
  rcases h.2 with ⟨rfl, hn⟩ | ⟨g, cap, cur, rfl, hb, hg, hc, hm, hs, ht⟩
  · obtain rfl := List.length_eq_zero_iff.mp hn
    exact Tx.nil w
  · refine ⟨some ⟨g, 0, none⟩, cap, rfl, fun _ => ⟨g, 0, rfl, lt_of_block hg, fun j hj => ?_⟩⟩
    have := World.ownsRow.cells (v := .slice (some ⟨g, 0, none⟩) l.length cap) h rfl j (.string l[j]!) (by simp [strs, hj])
    rcases Nat.eq_zero_or_pos j with rfl | h0
    · simpa [Addr.add] using this
    · simpa [Addr.add, Nat.ne_of_gt h0] using this
theorem flatV_get {vals : List (Ch × Value)} {j i : Nat} (hj : j < vals.length) (hi : i < 10) : (flatV vals)[j * 10 + i]? = (chC (vals[j]).1 (vals[j]).2)[i]? := by
  induction vals generalizing j with
  | nil => simp at hj
  | cons x l ih =>
    have e : flatV (x :: l) = (chC x.1 x.2).toList ++ flatV l := by simp [flatV]
    have hl : (chC x.1 x.2).toList.length = 10 := by simp [chC]
    rw [e]
    cases j with
    | zero => rw [List.getElem?_append_left (by omega)]; simp
    | succ j =>
      rw [List.getElem?_append_right (by omega), hl, show (j + 1) * 10 + i - 10 = j * 10 + i by omega]
      rw [List.length_cons] at hj
      rw [ih (by omega)]; rfl
theorem RowN.rw {w0 w : World} {A : Nat} {vals : List (Ch × Value)} {l : List Ch} (h : RowN w0 A vals w) (hl : vals.map Prod.fst = l) (hr : ∀ c ∈ l, c.tx.length ≤ 140737488351232 ∧ c.rb < 18446744073709551616) : Rw w (.slice (some ⟨A, 0, none⟩) vals.length vals.length) l := by
  have hlen : l.length = vals.length := by rw [← hl]; simp
  refine ⟨some ⟨A, 0, none⟩, vals.length, by rw [hlen], fun _ => ⟨A, 0, rfl, lt_of_block h.ch, fun j hj => ?_⟩⟩
  have hj' : j < vals.length := by omega
  have e : l[j]! = (vals[j]).1 := by rw [getElem!_pos l j hj]; simp [← hl]
  have hm := hr l[j]! (by rw [getElem!_pos l j hj]; exact List.getElem_mem hj)
  rw [e] at hm ⊢
  refine ⟨(vals[j]).2, tx_own (h.own _ (List.getElem_mem hj')), hm.1, hm.2, fun i u hi => ?_⟩
  have hi10 : i < 10 := by
    have := (Array.getElem?_eq_some_iff.mp hi).1
    simpa [chC] using this
  have hc := h.ch
  simp only [World.cell?, hc]
  simp only [Nat.zero_add, List.getElem?_toArray]
  rw [flatV_get hj' hi10, hi]
  rfl
theorem RowN.below {w0 w w' : World} {A : Nat} {vals : List (Ch × Value)} (h : RowN w0 A vals w) (hb : Below w.heap.size w w') : RowN w0 A vals w' :=
  h.step (h.bel.trans (hb.mono h.bel.size)) fun _ _ _ hX _ => hb.block _ (lt_of_block hX)
/-- what is decoded may be -/
theorem deco_small {b : ByteArray} {l : List Ch} (h : Rc.deco b = some l) : ∀ c ∈ l, c.tx.length ≤ 140737488351232 ∧ c.rb < 18446744073709551616 := by
  intro c hc
  obtain ⟨_, _, h3⟩ := Rc.deco_form h
  obtain ⟨hOk, hrb⟩ := h3 c hc
  refine ⟨?_, hrb⟩
  by_cases hT : L.T ∈ Rc.letters c.k
  · have := Rc.may_num (hOk.2.1 _ hT)
    simp only [Rc.sz, Rc.get, Rc.most] at this; omega
  · have := hOk.2.2 _ hT
    simp only [Rc.get, Rc.zV, Rc.V.mk.injEq] at this
    rw [this.2.2.2]; simp
def cGrant : Ch := ⟨3, 0, 1, 2, 0, 1, 0, 0, ⟨#[]⟩, []⟩
def cExpire : Ch := ⟨5, 0, 0, 2, 0, 0, 0, 0, ⟨#[]⟩, []⟩
def cReserve : Ch := ⟨1, 300, 0, 0, 0, 0, 0, 0, ⟨#[]⟩, []⟩
theorem enc300 : Pk.enc 300 = [172, 2] := by rw [Pk.enc_ge (by decide), Pk.enc_lt (by decide)]; rfl
theorem first2 : Rc.first [cGrant, cExpire] = 0 := by decide
theorem first1 : Rc.first [cReserve] = 0 := by decide
theorem row2 : Rc.row [cGrant, cExpire] = [2, 3, 1, 2, 0, 1, 5, 2] := by
  simp [Rc.row, Rc.all, Rc.bytes, Rc.body, Rc.letters, cGrant, cExpire, Rc.lay, Rc.get, Pk.enc_lt]
theorem row1 : Rc.row [cReserve] = [1, 1, 172, 2] := by
  simp [Rc.row, Rc.all, Rc.bytes, Rc.body, Rc.letters, cReserve, Rc.lay, Rc.get, Pk.enc_lt, enc300]
theorem enco2 : Rc.enco [cGrant, cExpire] = (⟨#[2, 3, 1, 2, 0, 1, 5, 2]⟩, 0) := by
  unfold Rc.enco; rw [if_neg (by simp), if_neg (by rw [first2]; simp), row2, if_neg (by simp)]
theorem enco1 : Rc.enco [cReserve] = (⟨#[1, 1, 172, 2]⟩, 0) := by
  unfold Rc.enco; rw [if_neg (by simp), if_neg (by rw [first1]; simp), row1, if_neg (by simp)]
theorem deco1 : Rc.deco ⟨#[1, 1, 172, 2]⟩ = some [cReserve] := by
  have := Rc.deco_at (l := [cReserve]) (by rw [enco1]) (by simp [cReserve])
  rw [enco1] at this; exact this
theorem check1 : Rc.check cReserve = 0 := by decide
set_option maxHeartbeats 1000000 in
theorem fixed_any (w : World) : Calls Try.prog 9 #[] w fun e w' => e = .returned (.bool true) ∧ Below w.heap.size w w' := by
  have HR2 : Hid (Rw (w.alloc (.cells (flatV [(cGrant, .slice none 0 0), (cExpire, .slice none 0 0)]).toArray 29)) (.slice (some ⟨w.heap.size, 0, none⟩) 2 2) [cGrant, cExpire]) := hide (by
    have : RowN w w.heap.size [(cGrant, .slice none 0 0), (cExpire, .slice none 0 0)] (w.alloc (.cells (flatV [(cGrant, .slice none 0 0), (cExpire, .slice none 0 0)]).toArray 29)) :=
      ⟨heap_alloc_new w _, by intro x hx; simp only [List.mem_cons, List.not_mem_nil, or_false] at hx; rcases hx with rfl | rfl <;> exact World.ownsRow_nil _ _ _ _, Nat.le_refl _, below_alloc w _⟩
    exact this.rw rfl (by simp [cGrant, cExpire]))
  have HE := hide (encode_any HR2.out)
  rw [enco2] at HE
  clear HR2
  go_enter Try.func9, Try.ntmps9
  go_wp2_with fail
  refine HE.out.mono ?_
  rintro e w2 ⟨rfl, hb2⟩
  have hb2' : Below w.heap.size w w2 := (below_alloc w _).trans (hb2.mono (by simp))
  have HD := hide (decode_any ⟨#[1, 1, 172, 2]⟩ (by decide) w2)
  rw [deco1] at HD
  have HB2 := hide hb2'
  clear HE hb2 hb2'
  go_wp2_with fail
  refine HD.out.mono ?_
  rintro e w3 ⟨A, vals, rfl, hl, hN⟩
  obtain ⟨t, rfl⟩ : ∃ t, vals = [(cReserve, t)] := by
    match vals, hl with
    | [(c, t)], hl => simp at hl; exact ⟨t, by rw [hl]⟩
  have ho := hN.own _ List.mem_cons_self
  have hT := tx_own ho
  have HC := hide (check_any cReserve t w3 hT (by simp [cReserve]))
  rw [check1] at HC
  obtain ⟨p, cap, ht, -⟩ := hT
  simp only at ht
  subst ht
  have hch := hN.ch
  have ca : Ca w3 A cReserve (.slice p cReserve.tx.length cap) := by unfold Ca; rw [hch]; simp [flatV]
  obtain ⟨c0, c1, c2, c3, c4, c5, c6, c7, c8, c9⟩ := ca.all
  have HB3 := hide (HB2.out.trans (hN.bel.mono HB2.out.size))
  simp only [cReserve, List.length_nil] at c0 c1 c2 c3 c4 c5 c6 c7 c8 c9
  simp only [cReserve, chC, List.length_nil] at HC
  clear HD hN ho hch ca hl
  have hsz := HB3.out.size
  go_wp2_with fail
  refine HC.out.mono ?_
  rintro e w4 ⟨rfl, hb4⟩
  have HF := hide (HB3.out.trans (hb4.mono hsz))
  clear HC hb4
  go_wp2
  go_ret
  exact ⟨rfl, HF.out⟩
end Go.Proofs.Ytjabnddjahhgoaa
