import Derived.Test.YtnhibcadenmglaaDkRd
namespace Go.Proofs.Ytnhibcadenmglaa
open Go.RowKit

/-- a pair of disks -/
structure St where
  b : Nat
  c : Nat
  F : Nat → Prop
  G : Nat → Prop
  d : DS
def pcs : List St → List Value
  | [] => []
  | x :: l => [.pointer (some ⟨x.b, 0, none⟩), .pointer (some ⟨x.c, 0, none⟩)] ++ pcs l
theorem pcs_len (l : List St) : (pcs l).length = l.length * 2 := by
  induction l with
  | nil => rfl
  | cons d l ih => simp only [pcs, List.length_append, ih, List.length_cons, Nat.add_mul]; simp; omega
theorem pcs_append (l m : List St) : pcs (l ++ m) = pcs l ++ pcs m := by
  induction l with
  | nil => rfl
  | cons d l ih => simp only [List.cons_append, pcs, ih, List.append_assoc]
theorem pcs_drop (l : List St) (k : Nat) : (pcs l).drop (k * 2) = pcs (l.drop k) := by
  induction l generalizing k with
  | nil => simp [pcs]
  | cons d l ih =>
    cases k with
    | zero => simp
    | succ k =>
      have h6 : ([Value.pointer (some ⟨d.b, 0, none⟩), Value.pointer (some ⟨d.c, 0, none⟩)] : List Value).length = 2 := rfl
      simp only [List.drop_succ_cons, pcs, List.drop_append, h6, ← ih]
      rw [List.drop_of_length_le (by rw [h6]; omega), show (k + 1) * 2 - 2 = k * 2 by omega, List.nil_append]
theorem pcs_get (l : List St) (i : Nat) (hi : i < l.length) : (pcs l)[i * 2]? = some (.pointer (some ⟨l[i].b, 0, none⟩)) ∧ (pcs l)[i * 2 + 1]? = some (.pointer (some ⟨l[i].c, 0, none⟩)) := by
  have e := pcs_drop l i
  rw [List.drop_eq_getElem_cons hi] at e
  have h0 := congrArg (fun x => x[0]?) e
  have h1 := congrArg (fun x => x[1]?) e
  simp only [List.getElem?_drop, Nat.add_zero] at h0 h1
  exact ⟨h0.trans rfl, h1.trans rfl⟩
theorem pcs_set (l : List St) (i : Nat) (y : St) (h : ∀ x, l[i]? = some x → y.b = x.b ∧ y.c = x.c) : pcs (l.set i y) = pcs l := by
  induction l generalizing i with
  | nil => rfl
  | cons d l ih =>
    cases i with
    | zero =>
      obtain ⟨h1, h2⟩ := h d rfl
      simp only [List.set_cons_zero, pcs, h1, h2]
    | succ i =>
      simp only [List.set_cons_succ, pcs]
      rw [ih i (fun x hx => h x (by simpa using hx))]

/-- the pairs of a script -/
structure Mem (B : Nat) (w : World) (v : Value) (L : List St) (N : Nat) : Prop where
  row : w.ownsRow B 32 2 v L.length (pcs L)
  each : ∀ (i : Nat) (x : St), L[i]? = some x → Pr B w x.b x.c x.F x.G x.d x.d
  few : ∀ (i : Nat) (x : St), L[i]? = some x → x.d.R.length ≤ N
  ap : ∀ (i j : Nat) (x y : St), L[i]? = some x → L[j]? = some y → i ≠ j → (∀ k, x.F k → ¬ y.F k) ∧ x.c ≠ y.c
  cr : ∀ (i j : Nat) (x y : St), L[i]? = some x → L[j]? = some y → ¬ x.F y.c ∧ (∀ k, x.F k → ¬ y.G k) ∧ ¬ y.G x.c
  rf : ∀ k, v.ownBlock = some k → ∀ (i : Nat) (x : St), L[i]? = some x → ¬ x.F k ∧ k ≠ x.c ∧ ¬ x.G k
section
variable {B : Nat} {w w' : World} {v : Value} {L : List St} {N : Nat}
theorem Mem.below (h : Mem B w v L N) (hb : Below w.heap.size w w') : Mem B w' v L N :=
  ⟨own_keep h.row (fun k hk => hb.block k (h.row.lt k hk).2), fun i x hx => (h.each i x hx).below hb, h.few, h.ap, h.cr, h.rf⟩
theorem Mem.drew (h : Mem B w v L N) : Mem B w.drew v L N :=
  ⟨own_keep h.row (fun _ _ => rfl), fun i x hx => (h.each i x hx).drew, h.few, h.ap, h.cr, h.rf⟩
theorem Mem.more (h : Mem B w v L N) {M : Nat} (hm : N ≤ M) : Mem B w v L M := ⟨h.row, h.each, fun i x hx => Nat.le_trans (h.few i x hx) hm, h.ap, h.cr, h.rf⟩
theorem tn_low {b c : Nat} {F G : Nat → Prop} {d e : DS} (h : Pr B w b c F G d e) : ∀ k, Tn F c k → B ≤ k ∧ k < w.heap.size := fun k hk => hk.elim (fun hf => h.hd.ftlt k hf) (fun e => by rw [e]; exact ⟨h.hr.low, h.hr.lt⟩)
/-- one pair has answered -/
theorem Mem.step (h : Mem B w v L N) {i : Nat} {x : St} (hx : L[i]? = some x) (hl : Left B w w' x.b x.c x.F x.G x.d) :
    ∃ y, y.b = x.b ∧ y.c = x.c ∧ Mem B w' v (L.set i y) (N + 1) ∧ (L.set i y)[i]? = some y := by
  obtain ⟨d', F', G', hp, hfew, hm, hg⟩ := hl
  have hi : i < L.length := (List.getElem?_eq_some_iff.1 hx).1
  have hpx := h.each i x hx
  have f1 : ∀ k, F' k → x.F k ∨ w.heap.size ≤ k := fun k hk => (hm.foot k (.inl hk)).elim (fun ht => ht.elim .inl (fun e => absurd hk (by rw [e]; exact hp.cf))) .inr
  have old : ∀ (j : Nat) (y : St), L[j]? = some y → ∀ k, (y.F k ∨ k = y.c ∨ y.G k) → k < w.heap.size := fun j y hy k hk => by
    have := h.each j y hy
    rcases hk with hk | hk | hk
    · exact (this.hd.ftlt k hk).2
    · rw [hk]; exact this.hr.lt
    · exact (this.hr.glt k hk).2
  have get : ∀ (j : Nat) (y : St), (L.set i ⟨x.b, x.c, F', G', d'⟩)[j]? = some y → (j = i ∧ y = ⟨x.b, x.c, F', G', d'⟩) ∨ (j ≠ i ∧ L[j]? = some y) := fun j y hy => by
    by_cases hj : j = i
    · subst hj
      rw [List.getElem?_set_self hi] at hy
      exact .inl ⟨rfl, by injection hy with hy; exact hy.symm⟩
    · rw [List.getElem?_set_ne (Ne.symm hj)] at hy
      exact .inr ⟨hj, hy⟩
  refine ⟨⟨x.b, x.c, F', G', d'⟩, rfl, rfl, ⟨?_, ?_, ?_, ?_, ?_, ?_⟩, List.getElem?_set_self hi⟩
  · rw [List.length_set, pcs_set _ _ _ (fun y hy => by rw [hx] at hy; injection hy with hy; subst hy; exact ⟨rfl, rfl⟩)]
    refine own_keep h.row (fun k hk => hm.block k (h.row.lt k hk).2 (fun ht => ?_))
    obtain ⟨r1, r2, _⟩ := h.rf k hk i x hx
    exact ht.elim r1 r2
  · intro j y hy
    rcases get j y hy with ⟨rfl, rfl⟩ | ⟨hj, hy'⟩
    · exact hp
    · have hpy := h.each j y hy'
      obtain ⟨a1, a2⟩ := h.ap i j x y hx hy' (Ne.symm hj)
      obtain ⟨c1, c2, c3⟩ := h.cr i j x y hx hy'
      obtain ⟨e1, e2, e3⟩ := h.cr j i y x hy' hx
      exact ⟨hpy.hd.mv hm (fun k hk ht => ht.elim (fun hf => a1 k hf hk) (fun e => e1 (by rw [← e]; exact hk))), hpy.hr.mv hm (fun ht => ht.elim c1 (fun e => a2 e.symm)) (fun k hk ht => ht.elim (fun hf => c2 k hf hk) (fun e => c3 (by rw [← e]; exact hk))), hpy.cf, hpy.fg⟩
  · intro j y hy
    rcases get j y hy with ⟨rfl, rfl⟩ | ⟨hj, hy'⟩
    · have := h.few _ x hx; show d'.R.length ≤ N + 1; omega
    · have := h.few j y hy'; omega
  · intro p q y z hy hz hpq
    rcases get p y hy with ⟨rfl, rfl⟩ | ⟨hj, hy'⟩
    · rcases get q z hz with ⟨rfl, rfl⟩ | ⟨hj, hz'⟩
      · exact absurd rfl hpq
      · obtain ⟨a1, a2⟩ := h.ap _ q x z hx hz' hpq
        exact ⟨fun k hk hf => (f1 k hk).elim (fun h1 => a1 k h1 hf) (fun h1 => absurd (old q z hz' k (.inl hf)) (by omega)), a2⟩
    · rcases get q z hz with ⟨rfl, rfl⟩ | ⟨hj2, hz'⟩
      · obtain ⟨a1, a2⟩ := h.ap p _ y x hy' hx hpq
        exact ⟨fun k hk hf => (f1 k hf).elim (fun h1 => a1 k hk h1) (fun h1 => absurd (old p y hy' k (.inl hk)) (by omega)), a2⟩
      · exact h.ap p q y z hy' hz' hpq
  · intro p q y z hy hz
    rcases get p y hy with ⟨rfl, rfl⟩ | ⟨hj, hy'⟩
    · rcases get q z hz with ⟨rfl, rfl⟩ | ⟨hj, hz'⟩
      · exact ⟨hp.cf, hp.fg, hp.hr.ng⟩
      · obtain ⟨c1, c2, c3⟩ := h.cr _ q x z hx hz'
        exact ⟨fun hf => (f1 _ hf).elim c1 (fun h1 => absurd (old q z hz' z.c (.inr (.inl rfl))) (by omega)), fun k hk hG => (f1 k hk).elim (fun h1 => c2 k h1 hG) (fun h1 => absurd (old q z hz' k (.inr (.inr hG))) (by omega)), c3⟩
    · rcases get q z hz with ⟨rfl, rfl⟩ | ⟨hj2, hz'⟩
      · obtain ⟨c1, c2, c3⟩ := h.cr p _ y x hy' hx
        exact ⟨c1, fun k hk hG => (hg k hG).elim (c2 k hk) (fun h1 => absurd (old p y hy' k (.inl hk)) (by omega)), fun hG => (hg _ hG).elim c3 (fun h1 => absurd (old p y hy' y.c (.inr (.inl rfl))) (by omega))⟩
      · exact h.cr p q y z hy' hz'
  · intro k hk p y hy
    have hkl := (h.row.lt k hk).2
    rcases get p y hy with ⟨rfl, rfl⟩ | ⟨hj, hy'⟩
    · obtain ⟨r1, r2, r3⟩ := h.rf k hk _ x hx
      exact ⟨fun hf => (f1 k hf).elim r1 (fun h1 => by omega), r2, fun hG => (hg k hG).elim r3 (fun h1 => by omega)⟩
    · exact h.rf k hk p y hy'
/-- a pair more -/
theorem Mem.push (h : Mem B w v L N) {i : Nat} {x : St} (hx : L[i]? = some x) {w1 w2 w3 : World} {b' c' : Nat} {F' : Nat → Prop} {v' : Value} {o : Obj} (hD : Dk w.heap.size w1 b' F' x.d) (hb1 : Below w.heap.size w w1) (hR : Rk B w2 c' x.G x.d) (hc : c' = w1.heap.size) (hb2 : Below w1.heap.size w1 w2)
    (hown : w3.ownsRow B 32 2 v' (L.length + 1) (pcs L ++ [.pointer (some ⟨b', 0, none⟩), .pointer (some ⟨c', 0, none⟩)])) (hgr : (w2.alloc o).grownBy w3 v.ownBlock) (hat : v'.ownBlock = v.ownBlock ∨ ∀ k, v'.ownBlock = some k → w2.heap.size ≤ k) :
    Mem B w3 v' (L ++ [⟨b', c', F', x.G, x.d⟩]) N ∧ Below B w w3 := by
  subst hc
  have hpx := h.each i x hx
  have s1 := hb1.size
  have s2 := hb2.size
  have hBw : B ≤ w.heap.size := by have := (hpx.hd.ftlt _ hpx.hd.has).1; have := hpx.hd.lt; omega
  have hRl := hR.lt
  have far2 : ∀ k, k < w2.heap.size → v.ownBlock ≠ some k → w3.heap[k]? = w2.heap[k]? := fun k hk hn => (hgr.block k (by rw [World.size_alloc]; omega) (fun e => hn e.symm)).trans (Below.heap_alloc w2 o k hk)
  have far : ∀ k, k < w.heap.size → v.ownBlock ≠ some k → w3.heap[k]? = w.heap[k]? := fun k hk hn => (far2 k (by omega) hn).trans ((hb2.block k (by omega)).trans (hb1.block k hk))
  have rlt : ∀ k, v.ownBlock = some k → B ≤ k ∧ k < w.heap.size := h.row.lt
  have glt : ∀ k, x.G k → k < w.heap.size := fun k hk => (hpx.hr.glt k hk).2
  have flt : ∀ k, F' k → w.heap.size ≤ k ∧ k < w1.heap.size := hD.ftlt
  have old : ∀ (j : Nat) (y : St), L[j]? = some y → ∀ k, (y.F k ∨ k = y.c ∨ y.G k) → k < w.heap.size ∧ v.ownBlock ≠ some k := fun j y hy k hk => by
    have hp := h.each j y hy
    refine ⟨?_, fun e => ?_⟩
    · rcases hk with hk | hk | hk
      · exact (hp.hd.ftlt k hk).2
      · rw [hk]; exact hp.hr.lt
      · exact (hp.hr.glt k hk).2
    · obtain ⟨r1, r2, r3⟩ := h.rf k e j y hy
      exact hk.elim r1 (fun h => h.elim r2 r3)
  have get : ∀ (j : Nat) (y : St), (L ++ [⟨b', w1.heap.size, F', x.G, x.d⟩])[j]? = some y → L[j]? = some y ∨ (j = L.length ∧ y = ⟨b', w1.heap.size, F', x.G, x.d⟩) := fun j y hy => by
    by_cases hj : j < L.length
    · rw [List.getElem?_append_left hj] at hy; exact .inl hy
    · rw [List.getElem?_append_right (by omega)] at hy
      have hj2 : j - L.length = 0 := by
        rcases Nat.eq_zero_or_pos (j - L.length) with h0 | h0
        · exact h0
        · rw [List.getElem?_eq_none (by simp; omega)] at hy; cases hy
      rw [hj2] at hy
      simp at hy
      exact .inr ⟨by omega, hy.symm⟩
  have lt : ∀ (j : Nat) (y : St), L[j]? = some y → j < L.length := fun j y hy => (List.getElem?_eq_some_iff.1 hy).1
  refine ⟨⟨?_, ?_, ?_, ?_, ?_, ?_⟩, hgr.os.trans (hb2.os.trans hb1.os), hgr.tape.trans (hb2.tape.trans hb1.tape), hgr.output.trans (hb2.output.trans hb1.output), by have := hgr.size; rw [World.size_alloc] at this; omega, fun k hk => far k (by omega) (fun e => absurd (rlt k e).1 (by omega))⟩
  · rw [List.length_append, pcs_append]; exact hown
  · intro j y hy
    rcases get j y hy with hy' | ⟨_, rfl⟩
    · have hp := h.each j y hy'
      exact ⟨hp.hd.keep (fun k hk => far k (old j y hy' k (.inl hk)).1 (old j y hy' k (.inl hk)).2), hp.hr.keep (fun k hk => far k (old j y hy' k (.inr hk)).1 (old j y hy' k (.inr hk)).2), hp.cf, hp.fg⟩
    · refine ⟨(hD.keep (w' := w3) (fun k hk => ?_)).lower hBw, hR.keep (fun k hk => ?_), fun hf => absurd (flt _ hf).2 (by show ¬ (w1.heap.size < w1.heap.size); omega), fun k hk hG => absurd (glt k hG) (by have := (flt k hk).1; omega)⟩
      · have := flt k hk
        exact (far2 k (by omega) (fun e => absurd (rlt k e).2 (by omega))).trans (hb2.block k (by omega))
      · rcases hk with hk | hk
        · rw [hk]; exact far2 _ hRl (fun e => absurd (rlt _ e).2 (by omega))
        · have := glt k hk
          exact far2 k (by omega) (fun e => (h.rf k e i x hx).2.2 hk)
  · intro j y hy
    rcases get j y hy with hy' | ⟨_, rfl⟩
    · exact h.few j y hy'
    · exact h.few i x hx
  · intro p q y z hy hz hpq
    rcases get p y hy with hy' | ⟨e1, rfl⟩
    · rcases get q z hz with hz' | ⟨e2, rfl⟩
      · exact h.ap p q y z hy' hz' hpq
      · exact ⟨fun k hk hf => absurd (old p y hy' k (.inl hk)).1 (by have := (flt k hf).1; omega), fun e => absurd (old p y hy' y.c (.inr (.inl rfl))).1 (by rw [e]; show ¬ (w1.heap.size < w.heap.size); omega)⟩
    · rcases get q z hz with hz' | ⟨e2, rfl⟩
      · exact ⟨fun k hk hf => absurd (old q z hz' k (.inl hf)).1 (by have := (flt k hk).1; omega), fun e => absurd (old q z hz' z.c (.inr (.inl rfl))).1 (by rw [← e]; show ¬ (w1.heap.size < w.heap.size); omega)⟩
      · exact absurd (e1.trans e2.symm) hpq
  · intro p q y z hy hz
    rcases get p y hy with hy' | ⟨e1, rfl⟩
    · rcases get q z hz with hz' | ⟨e2, rfl⟩
      · exact h.cr p q y z hy' hz'
      · obtain ⟨c1, c2, c3⟩ := h.cr p i y x hy' hx
        exact ⟨fun hf => absurd (old p y hy' _ (.inl hf)).1 (by show ¬ (w1.heap.size < w.heap.size); omega), c2, c3⟩
    · rcases get q z hz with hz' | ⟨e2, rfl⟩
      · exact ⟨fun hf => absurd (old q z hz' z.c (.inr (.inl rfl))).1 (by have := (flt _ hf).1; omega), fun k hk hG => absurd (old q z hz' k (.inr (.inr hG))).1 (by have := (flt k hk).1; omega), fun hG => absurd (old q z hz' _ (.inr (.inr hG))).1 (by show ¬ (w1.heap.size < w.heap.size); omega)⟩
      · exact ⟨fun hf => absurd (flt _ hf).2 (by show ¬ (w1.heap.size < w1.heap.size); omega), fun k hk hG => absurd (glt k hG) (by have := (flt k hk).1; omega), fun hG => absurd (glt _ hG) (by show ¬ (w1.heap.size < w.heap.size); omega)⟩
  · intro k hk p y hy
    have hkk : v.ownBlock = some k ∨ w2.heap.size ≤ k := hat.elim (fun e => .inl (by rw [← e]; exact hk)) (fun e => .inr (e k hk))
    rcases get p y hy with hy' | ⟨_, rfl⟩
    · rcases hkk with hk1 | hk1
      · exact h.rf k hk1 p y hy'
      · exact ⟨fun hf => absurd (old p y hy' k (.inl hf)).1 (by omega), fun e => absurd (old p y hy' k (.inr (.inl e))).1 (by omega), fun hG => absurd (old p y hy' k (.inr (.inr hG))).1 (by omega)⟩
    · rcases hkk with hk1 | hk1
      · have := rlt k hk1
        exact ⟨fun hf => absurd (flt k hf).1 (by omega), fun e => by have e' : k = w1.heap.size := e; omega, fun hG => (h.rf k hk1 i x hx).2.2 hG⟩
      · exact ⟨fun hf => absurd (flt k hf).2 (by omega), fun e => by have e' : k = w1.heap.size := e; omega, fun hG => absurd (glt k hG) (by omega)⟩
/-- the first pair -/
theorem Mem.one {b c g : Nat} {F G : Nat → Prop} {d : DS} {cap : Nat} (h : Pr B w b c F G d d) (hrow : w.ownsRow B 32 2 (.slice (some ⟨g, 0, none⟩) 1 cap) 1 [.pointer (some ⟨b, 0, none⟩), .pointer (some ⟨c, 0, none⟩)]) (hg : ¬ F g ∧ g ≠ c ∧ ¬ G g) (hN : d.R.length ≤ N) : Mem B w (.slice (some ⟨g, 0, none⟩) 1 cap) [⟨b, c, F, G, d⟩] N := by
  have get : ∀ (j : Nat) (y : St), [(⟨b, c, F, G, d⟩ : St)][j]? = some y → j = 0 ∧ y = ⟨b, c, F, G, d⟩ := fun j y hy => by
    match j, hy with
    | 0, hy => simp at hy; exact ⟨rfl, hy.symm⟩
  refine ⟨hrow, ?_, ?_, ?_, ?_, ?_⟩
  · intro j y hy; obtain ⟨_, rfl⟩ := get j y hy; exact h
  · intro j y hy; obtain ⟨_, rfl⟩ := get j y hy; exact hN
  · intro p q y z hy hz hpq; obtain ⟨rfl, rfl⟩ := get p y hy; obtain ⟨rfl, rfl⟩ := get q z hz; exact absurd rfl hpq
  · intro p q y z hy hz; obtain ⟨rfl, rfl⟩ := get p y hy; obtain ⟨rfl, rfl⟩ := get q z hz; exact ⟨h.cf, h.fg, h.hr.ng⟩
  · intro k hk p y hy
    obtain ⟨_, rfl⟩ := get p y hy
    simp only [Value.ownBlock] at hk
    injection hk with hk
    subst hk
    exact hg
end
end Go.Proofs.Ytnhibcadenmglaa
