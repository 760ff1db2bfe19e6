import Derived.Test.YtnbmgddkaclneaaNtQ
namespace Go.Proofs.Ytnbmgddkaclneaa
open Go.RowKit

theorem Try.infoN : (Try.prog.info? 23).map (fun i => (i.zero, i.size, i.bytes)) = some (some (.pointer none), 1, 8) := by kernel_rfl
theorem Try.infoR : (Try.prog.info? 27).map (fun i => (i.zero, i.size, i.bytes)) = some (some (.pointer none), 1, 8) := by kernel_rfl

/-- a bag and the document's, in memory -/
structure St where
  b : Nat
  v : Value
  b2 : Nat
  v2 : Value
  l : List Dg
  s : Int
def St.foot (x : St) (k : Nat) : Prop := F2 x.b x.v x.b2 x.v2 k
def St.at (base : Nat) (w : World) (x : St) : Prop := Two base w x.b x.v x.l x.s x.b2 x.v2 x.l x.s
theorem St.at.lt {base : Nat} {w : World} {x : St} (h : x.at base w) : ∀ k, x.foot k → base ≤ k ∧ k < w.heap.size := Two.lt h
theorem St.at.keep {base : Nat} {w w' : World} {x : St} (h : x.at base w) (hs : ∀ k, x.foot k → w'.heap[k]? = w.heap[k]?) : x.at base w' :=
  ⟨h.n.keep fun k hk => hs k (.inl hk), h.r.keep fun k hk => hs k (.inr hk), h.d⟩
def ptrs (S : List St) : List Value := S.map fun x => .pointer (some ⟨x.b, 0, none⟩)
def ptrs2 (S : List St) : List Value := S.map fun x => .pointer (some ⟨x.b2, 0, none⟩)

/-- the memory of NetActs -/
structure MemA (base : Nat) (w : World) (gl cl ga ca n : Nat) (S : List St) : Prop where
  len : S.length = n
  lrow : w.ownsRow base 23 1 (.slice (some ⟨gl, 0, none⟩) n cl) n (ptrs S)
  arow : w.ownsRow base 27 1 (.slice (some ⟨ga, 0, none⟩) n ca) n (ptrs2 S)
  each : ∀ x ∈ S, x.at base w
  sep : ∀ (i j : Nat) (x y : St), S[i]? = some x → S[j]? = some y → i ≠ j → ∀ k, x.foot k → ¬ y.foot k
  nl : ∀ x ∈ S, ¬ x.foot gl ∧ ¬ x.foot ga
  ne : gl ≠ ga

section
variable {base : Nat} {w w' : World} {gl cl ga ca n : Nat} {S : List St}
theorem MemA.below (h : MemA base w gl cl ga ca n S) (hb : Below w.heap.size w w') : MemA base w' gl cl ga ca n S :=
  ⟨h.len, own_same h.lrow (hb.block _ (h.lrow.lt gl rfl).2), own_same h.arow (hb.block _ (h.arow.lt ga rfl).2), fun x hx => (h.each x hx).keep fun k hk => hb.block k ((h.each x hx).lt k hk).2, h.sep, h.nl, h.ne⟩
theorem MemA.drew (h : MemA base w gl cl ga ca n S) : MemA base w.drew gl cl ga ca n S :=
  ⟨h.len, own_same h.lrow rfl, own_same h.arow rfl, fun x hx => (h.each x hx).keep fun _ _ => rfl, h.sep, h.nl, h.ne⟩
theorem MemA.heap (h : MemA base w gl cl ga ca n S) (e : w'.heap = w.heap) : MemA base w' gl cl ga ca n S :=
  ⟨h.len, own_same h.lrow (by rw [e]), own_same h.arow (by rw [e]), fun x hx => (h.each x hx).keep fun _ _ => by rw [e], h.sep, h.nl, h.ne⟩
theorem MemA.cells (h : MemA base w gl cl ga ca n S) {k : Nat} {x : St} (hx : S[k]? = some x) : w.cell? ⟨gl, k, none⟩ = some (.pointer (some ⟨x.b, 0, none⟩)) ∧ w.cell? ⟨ga, k, none⟩ = some (.pointer (some ⟨x.b2, 0, none⟩)) := by
  have h1 := h.lrow.cells (g := gl) rfl k (.pointer (some ⟨x.b, 0, none⟩)) (by simp [ptrs, hx])
  have h2 := h.arow.cells (g := ga) rfl k (.pointer (some ⟨x.b2, 0, none⟩)) (by simp [ptrs2, hx])
  rw [Addr.add_lit, Nat.zero_add] at h1 h2
  exact ⟨h1, h2⟩
theorem mem_set {k : Nat} {x y : St} (h : x ∈ S.set k y) : x = y ∨ x ∈ S := (List.mem_or_eq_of_mem_set h).symm
theorem MemA.step (h : MemA base w gl cl ga ca n S) {k : Nat} {x y : St} (hx : S[k]? = some x) (hy : y.at base w') (e1 : y.b = x.b) (e2 : y.b2 = x.b2) (hm : Mv x.foot y.foot w w') : MemA base w' gl cl ga ca n (S.set k y) := by
  have hxm : x ∈ S := List.mem_of_getElem? hx
  have hk : k < S.length := (List.getElem?_eq_some_iff.1 hx).1
  have hgl := (h.lrow.lt gl rfl).2
  have hga := (h.arow.lt ga rfl).2
  have p1 : ptrs (S.set k y) = ptrs S := by
    unfold ptrs
    rw [List.map_set]
    apply List.ext_getElem?
    intro i
    rw [List.getElem?_set]
    split
    · next h1 => subst h1; simp only [List.length_map, hk, if_true, List.getElem?_map, hx, Option.map_some, e1]
    · rfl
  have p2 : ptrs2 (S.set k y) = ptrs2 S := by
    unfold ptrs2
    rw [List.map_set]
    apply List.ext_getElem?
    intro i
    rw [List.getElem?_set]
    split
    · next h1 => subst h1; simp only [List.length_map, hk, if_true, List.getElem?_map, hx, Option.map_some, e2]
    · rfl
  have other : ∀ (i : Nat) (z : St), S[i]? = some z → i ≠ k → ∀ j, z.foot j → ¬ y.foot j := fun i z hz hi j hj hy' =>
    (hm.foot j hy').elim (fun hf => h.sep i k z x hz hx hi j hj hf) (fun h2 => absurd ((h.each z (List.mem_of_getElem? hz)).lt j hj).2 (by omega))
  have getS : ∀ (i : Nat) (z : St), (S.set k y)[i]? = some z → (i = k ∧ z = y) ∨ (i ≠ k ∧ S[i]? = some z) := fun i z hz => by
    rw [List.getElem?_set] at hz
    split at hz
    · next h1 => injection hz with hz; exact .inl ⟨h1.symm, hz.symm⟩
    · next h1 => exact .inr ⟨fun e => h1 e.symm, hz⟩
  refine ⟨by rw [List.length_set]; exact h.len, by rw [p1]; exact own_same h.lrow (hm.block _ hgl (h.nl x hxm).1), by rw [p2]; exact own_same h.arow (hm.block _ hga (h.nl x hxm).2), ?_, ?_, ?_, h.ne⟩
  · intro z hz
    obtain ⟨i, hi⟩ := List.getElem?_of_mem hz
    rcases getS i z hi with ⟨_, rfl⟩ | ⟨hik, hzi⟩
    · exact hy
    · have hzm := List.mem_of_getElem? hzi
      exact (h.each z hzm).keep fun j hj => hm.block j ((h.each z hzm).lt j hj).2 (fun hf => h.sep i k z x hzi hx hik j hj hf)
  · intro i j z u hz hu hij q hq
    rcases getS i z hz with ⟨hi, rfl⟩ | ⟨hi, hz'⟩
    · rcases getS j u hu with ⟨hj, rfl⟩ | ⟨hj, hu'⟩
      · exact absurd (hi.trans hj.symm) hij
      · exact fun hq2 => other j u hu' hj q hq2 hq
    · rcases getS j u hu with ⟨hj, rfl⟩ | ⟨hj, hu'⟩
      · exact other i z hz' hi q hq
      · exact h.sep i j z u hz' hu' hij q hq
  · intro z hz
    rcases mem_set hz with rfl | hz
    · exact ⟨fun hf => (hm.foot gl hf).elim (h.nl x hxm).1 (fun h2 => by omega), fun hf => (hm.foot ga hf).elim (h.nl x hxm).2 (fun h2 => by omega)⟩
    · exact h.nl z hz

theorem bag_base {T B : Nat} {W : World} {b : Nat} {v : Value} {l : List Dg} {s : Int} (h : Bag T B W b v l s) (hb : base ≤ B) : Bag T base W b v l s := ⟨h.blk, Nat.le_trans hb h.low, own_base h.row hb, h.apt⟩

/-- one bag more -/
theorem MemA.more {w1 w2 w3 w4 : World} {g6 c6 g7 c7 b' b2' : Nat} {v' v2' : Value} {L : List Dg} {s : Int} {o o' : Obj} (h : MemA base w gl cl ga ca n S) (hbw : base ≤ w.heap.size)
    (h1 : Below w.heap.size w w1) (hB : Bag 58 w.heap.size w1 b' v' L s)
    (hown6 : w2.ownsRow base 23 1 (.slice (some ⟨g6, 0, none⟩) (n + 1) c6) (n + 1) (ptrs S ++ [.pointer (some ⟨b', 0, none⟩)])) (hg6 : (w1.alloc o).grownBy w2 (some gl)) (hat6 : some gl = some g6 ∨ g6 = w1.heap.size + 1)
    (h3 : Below w2.heap.size w2 w3) (hR : Bag 30 w2.heap.size w3 b2' v2' L s)
    (hown7 : w4.ownsRow base 27 1 (.slice (some ⟨g7, 0, none⟩) (n + 1) c7) (n + 1) (ptrs2 S ++ [.pointer (some ⟨b2', 0, none⟩)])) (hg7 : (w3.alloc o').grownBy w4 (some ga)) (hat7 : some ga = some g7 ∨ g7 = w3.heap.size + 1) :
    MemA base w4 g6 c6 g7 c7 (n + 1) (S ++ [⟨b', v', b2', v2', L, s⟩]) := by
  have hgl := (h.lrow.lt gl rfl).2
  have hga := (h.arow.lt ga rfl).2
  have z1 := h1.size
  have z2 : w1.heap.size + 1 ≤ w2.heap.size := by have := hg6.size; rw [World.size_alloc] at this; exact this
  have z3 := h3.size
  have z4 : w3.heap.size + 1 ≤ w4.heap.size := by have := hg7.size; rw [World.size_alloc] at this; exact this
  have hg6b : g6 < w2.heap.size := (hown6.lt g6 rfl).2
  have e6 : gl = g6 ∨ g6 = w1.heap.size + 1 := hat6.elim (fun e => .inl (by injection e)) .inr
  have e7 : ga = g7 ∨ g7 = w3.heap.size + 1 := hat7.elim (fun e => .inl (by injection e)) .inr
  -- what lies between
  have k1 : ∀ k, k < w.heap.size → k ≠ gl → k ≠ ga → w4.heap[k]? = w.heap[k]? := fun k hk n1 n2 => by
    rw [hg7.block k (by rw [World.size_alloc]; omega) (fun e => n2 (by injection e)), Below.heap_alloc w3 _ k (by omega), h3.block k (by omega), hg6.block k (by rw [World.size_alloc]; omega) (fun e => n1 (by injection e)), Below.heap_alloc w1 _ k (by omega), h1.block k hk]
  have k2 : ∀ k, w.heap.size ≤ k → k < w1.heap.size → w4.heap[k]? = w1.heap[k]? := fun k hk1 hk2 => by
    rw [hg7.block k (by rw [World.size_alloc]; omega) (fun e => by injection e with e; omega), Below.heap_alloc w3 _ k (by omega), h3.block k (by omega), hg6.block k (by rw [World.size_alloc]; omega) (fun e => by injection e with e; omega), Below.heap_alloc w1 _ k (by omega)]
  have k3 : ∀ k, w2.heap.size ≤ k → k < w3.heap.size → w4.heap[k]? = w3.heap[k]? := fun k hk1 hk2 => by
    rw [hg7.block k (by rw [World.size_alloc]; omega) (fun e => by injection e with e; omega), Below.heap_alloc w3 _ k (by omega)]
  have k6 : w4.heap[g6]? = w2.heap[g6]? := by
    have n7 : g6 ≠ ga := by
      rcases e6 with e | e
      · rw [← e]; exact h.ne
      · omega
    rw [hg7.block g6 (by rw [World.size_alloc]; omega) (fun e => n7 (by injection e)), Below.heap_alloc w3 _ g6 (by omega), h3.block g6 hg6b]
  have newat : (⟨b', v', b2', v2', L, s⟩ : St).at base w4 := by
    refine ⟨bag_base (hB.keep fun k hk => ?_) hbw, bag_base (hR.keep fun k hk => ?_) (by omega), fun k hk hr => ?_⟩
    · have := hB.ftlt k hk; exact k2 k this.1 this.2
    · have := hR.ftlt k hk; exact k3 k this.1 this.2
    · have q1 := hB.ftlt k hk; have q2 := hR.ftlt k hr; omega
  have newft : ∀ k, (⟨b', v', b2', v2', L, s⟩ : St).foot k → (w.heap.size ≤ k ∧ k < w1.heap.size) ∨ (w2.heap.size ≤ k ∧ k < w3.heap.size) := fun k hk => hk.elim (fun q => .inl (hB.ftlt k q)) (fun q => .inr (hR.ftlt k q))
  have getS : ∀ (i : Nat) (z : St), (S ++ [(⟨b', v', b2', v2', L, s⟩ : St)])[i]? = some z → S[i]? = some z ∨ (i = S.length ∧ z = ⟨b', v', b2', v2', L, s⟩) := fun i z hz => by
    rw [List.getElem?_append] at hz
    split at hz
    · exact .inl hz
    · next hn =>
      have h0 : i - S.length = 0 := by
        rcases Nat.eq_zero_or_pos (i - S.length) with h0 | h0
        · exact h0
        · rw [List.getElem?_eq_none (by simp; omega)] at hz; cases hz
      rw [h0] at hz
      injection hz with hz
      exact .inr ⟨by omega, hz.symm⟩
  refine ⟨by rw [List.length_append, h.len]; rfl, ?_, ?_, ?_, ?_, ?_, ?_⟩
  · have : ptrs (S ++ [⟨b', v', b2', v2', L, s⟩]) = ptrs S ++ [.pointer (some ⟨b', 0, none⟩)] := by simp [ptrs]
    rw [this]; exact own_same hown6 k6
  · have : ptrs2 (S ++ [⟨b', v', b2', v2', L, s⟩]) = ptrs2 S ++ [.pointer (some ⟨b2', 0, none⟩)] := by simp [ptrs2]
    rw [this]; exact hown7
  · intro x hx
    rcases List.mem_append.1 hx with hx | hx
    · refine (h.each x hx).keep fun k hk => k1 k ((h.each x hx).lt k hk).2 (fun e => (h.nl x hx).1 (by rw [← e]; exact hk)) (fun e => (h.nl x hx).2 (by rw [← e]; exact hk))
    · simp at hx; subst hx; exact newat
  · intro i j x y hx hy hij k hk hk2
    rcases getS i x hx with hx | ⟨hi, rfl⟩
    · have q1 := ((h.each x (List.mem_of_getElem? hx)).lt k hk).2
      rcases getS j y hy with hy | ⟨hj, rfl⟩
      · exact h.sep i j x y hx hy hij k hk hk2
      · have := newft k hk2; omega
    · rcases getS j y hy with hy | ⟨hj, rfl⟩
      · have q1 := ((h.each y (List.mem_of_getElem? hy)).lt k hk2).2
        have := newft k hk; omega
      · exact hij (hi.trans hj.symm)
  · intro x hx
    rcases List.mem_append.1 hx with hx | hx
    · have q := (h.each x hx).lt
      refine ⟨fun hf => ?_, fun hf => ?_⟩
      · rcases e6 with e | e
        · exact (h.nl x hx).1 (by rw [e]; exact hf)
        · have := (q g6 hf).2; omega
      · rcases e7 with e | e
        · exact (h.nl x hx).2 (by rw [e]; exact hf)
        · have := (q g7 hf).2; omega
    · simp at hx; subst hx
      refine ⟨fun hf => ?_, fun hf => ?_⟩
      · have := newft g6 hf; omega
      · have := newft g7 hf; omega
  · rcases e6 with e | e <;> rcases e7 with e' | e'
    · rw [← e, ← e']; exact h.ne
    · omega
    · omega
    · omega
end
end Go.Proofs.Ytnbmgddkaclneaa
