import Derived.Test.YtonoogiadgjodaaSoK
namespace Go.Proofs.Ytonoogiadgjodaa
open Go.RowKit

section
variable {B : Nat} {w w' : World} {A : Ja} {j : Jt}
/-- an act's box -/
def Yx (w : World) (Y : Nat) (kd n : Int) : Prop := w.heap[Y]? = some (.cells #[.int .i64 kd, .int .i64 n] 70 (0, 0))
theorem Yx.below {Y : Nat} {kd n : Int} (h : Yx w Y kd n) (hb : Below w.heap.size w w') : Yx w' Y kd n := (hb.block _ (lt_of_block h)).trans h
theorem scs_take (l : List Sd) (K i : Nat) (h : i < K * 15) (hK : K ≤ l.length) : (scs l)[i]? = (scs (l.take K))[i]? := by
  have e : scs l = scs (l.take K) ++ scs (l.drop K) := by rw [← scs_append, List.take_append_drop]
  rw [e, List.getElem?_append_left (by rw [scs_len, List.length_take]; omega)]
theorem scs_drop (l : List Sd) (K i : Nat) (hK : K ≤ l.length) : (scs l)[K * 15 + i]? = (scs (l.drop K))[i]? := by
  have e : scs l = scs (l.take K) ++ scs (l.drop K) := by rw [← scs_append, List.take_append_drop]
  have hl : (scs (l.take K)).length = K * 15 := by rw [scs_len, List.length_take, Nat.min_eq_left hK]
  rw [e, List.getElem?_append_right (by omega), hl, Nat.add_sub_cancel_left]
theorem cut1 {W2 w3 : World} {X K : Nat} {v3 : Value} {T : List Sd} (hs : X + 1 ≤ W2.heap.size) (hown : w3.ownsRow (X + 1) 103 15 v3 (0 + K) (scs [] ++ scs T)) (hg : W2.grownBy w3 (Value.slice (some ⟨X + 1, 0, none⟩) 0 0).ownBlock) : w3.ownsRow (X + 1) 103 15 v3 K (scs T) ∧ Below (X + 1) W2 w3 := by
  refine ⟨?_, (Below.refl _ W2).grown hg hs (fun k hk => ?_)⟩
  · rw [Nat.zero_add] at hown
    exact hown
  · simp [Value.ownBlock] at hk
    omega
theorem cut2 {W2 w3 w4 : World} {X K m : Nat} {v3 v4 : Value} {T U : List Sd} (hl : T.length = K) (h3 : w3.ownsRow (X + 1) 103 15 v3 K (scs T)) (hb : Below (X + 1) W2 w3) (hm : U.length = m) (hown : w4.ownsRow (X + 1) 103 15 v4 (K + m) (scs T ++ scs U)) (hg : w3.grownBy w4 v3.ownBlock) (hs : X + 1 ≤ w3.heap.size) : w4.ownsRow (X + 1) 103 15 v4 (T ++ U).length (scs (T ++ U)) ∧ Below (X + 1) W2 w4 := by
  refine ⟨?_, hb.grown hg hs (fun k hk => (h3.lt k hk).1)⟩
  rw [List.length_append, hl, hm, scs_append]
  exact hown
/-- the way without one of it -/
theorem cut3 {W2 w4 : World} {X Y : Nat} {kd n : Int} {x : Sd} {v4 : Value} {W : List Sd} (h : Jm B w A j) (hB : B ≤ w.heap.size) (hX : w.heap.size = X) (hb2 : Below X w W2) (hs2 : X + 1 ≤ W2.heap.size) (hx2 : Sx W2 X x) (hy : Yx w Y kd n) (hb4 : Below (X + 1) W2 w4) (ho : w4.ownsRow (X + 1) 103 15 v4 W.length (scs W)) :
    Jm B (w4.setCell ⟨A.a, 5, none⟩ v4) { A with vw := v4 } { j with way := W } ∧ Jv A { A with vw := v4 } w (w4.setCell ⟨A.a, 5, none⟩ v4) ∧ Sx (w4.setCell ⟨A.a, 5, none⟩ v4) X x ∧ Yx (w4.setCell ⟨A.a, 5, none⟩ v4) Y kd n ∧ ¬ Ja.foot { A with vw := v4 } X ∧ Sx w4 X x ∧ Yx w4 Y kd n ∧ w4.heap[A.a]? = w.heap[A.a]? := by
  subst hX
  have hb : Below w.heap.size w w4 := hb2.trans (hb4.mono (by omega))
  have hx4 : Sx w4 w.heap.size x := (hb4.block _ (by omega)).trans hx2
  have hy4 : Yx w4 Y kd n := hy.below hb
  obtain ⟨n1, n2⟩ := h.newW hB hb (own_base ho (by omega))
  refine ⟨n1, n2, (Below.heap_setCell _ ⟨A.a, 5, none⟩ _ _ (by show w.heap.size ≠ A.a; have := h.lt; omega)).trans hx4, (Below.heap_setCell _ ⟨A.a, 5, none⟩ _ _ (blk_ne hy h.hj (by decide))).trans hy4, fun hf => ?_, hx4, hy4, hb.block _ h.lt⟩
  rcases hf with e | e | e | e | e
  · have e : w.heap.size = A.a := e
    have := h.lt; omega
  · have e : w.heap.size = A.bc := e
    have := h.cb.lt; omega
  · have e : w.heap.size = A.tg := e
    have := h.tm.gl; omega
  · have := (ho.lt _ e).1; omega
  · have := (h.rd.lt _ e).2; omega
end
end Go.Proofs.Ytonoogiadgjodaa
