import Derived.Test.YtjpcghkdedldiaaLsZc
namespace Go.Proofs.Ytjpcghkdedldiaa
open Go.RowKit

/-- the document's table, wherever its list lies -/
def Xa (w : World) (x : Nat) (T : Int) (L : List Lz) : Prop := ∃ ad ab cap, Xt w x T ad ab cap L
section
variable {w w' : World} {x : Nat} {T : Int} {L : List Lz}
theorem Xa.below (h : Xa w x T L) (hb : Below w.heap.size w w') : Xa w' x T L := by
  obtain ⟨ad, ab, cap, h⟩ := h
  exact ⟨ad, ab, cap, h.below hb⟩
theorem Xa.map {m : Nat} (h : Xa w x T L) (hm : ∃ es c, w.heap[m]? = some (.map es c)) (hg : w.grownBy w' (some m)) : Xa w' x T L := by
  obtain ⟨ad, ab, cap, h⟩ := h
  exact ⟨ad, ab, cap, h.map hm hg⟩
theorem Xa.blk (h : Xa w x T L) : ∃ a n c, w.heap[x]? = some (.cells #[.int .i64 T, .slice a n c] 47 (0, 0)) := by
  obtain ⟨ad, ab, cap, h⟩ := h
  exact ⟨_, _, _, h.blk⟩
theorem Xa.lt (h : Xa w x T L) : x < w.heap.size := by
  obtain ⟨ad, ab, cap, h⟩ := h
  exact h.lt
theorem Xa.drew (h : Xa w x T L) : Xa w.drew x T L := by
  obtain ⟨ad, ab, cap, h⟩ := h
  exact ⟨ad, ab, cap, h.drewN 1⟩
end
theorem put_ins {j g n l T : Int} {L : List Lz} (h : thr j g L = false) : put ⟨j, g, n, l, T⟩ L = ins ⟨j, g, n, l, T⟩ L := by
  unfold put
  rw [del_none (fun x hx => (thr_false h x hx).2)]
theorem xgrant_ok {w : World} {x : Nat} {T : Int} {L : List Lz} (h : Xa w x T L) (hl : L.length ≤ 12) (j g n l : Int) :
    Calls Try.prog 22 #[.pointer (some ⟨x, 0, none⟩), .int .i64 j, .int .i64 g, .agg #[.int .i64 n, .int .i64 l]] w fun e w' => e = .returned (.int .i64 (grE L j g)) ∧ Xa w' x T (grL T L j g n l) ∧ w.grownBy w' (some x) := by
  obtain ⟨ad, ab, cap, hx⟩ := h
  by_cases ha : j < 1 ∨ 8 < j ∨ g < 1 ∨ 1099511627776 < g
  · have e1 : grE L j g = 1 := if_pos ha
    have e2 : grL T L j g n l = L := by unfold grL; rw [e1]; rfl
    rw [e1, e2]
    refine (xgrant_arg ha).mono ?_
    rintro e w' ⟨rfl, hb⟩
    exact ⟨rfl, ⟨ad, ab, cap, hx.below hb⟩, grown_any hb _⟩
  · refine (xgrant_in (n := n) (l := l) hx hl (by omega) (by omega) (by omega) (by omega)).mono ?_
    rintro e w' ⟨rfl, ht, hg⟩
    have e1 : grE L j g = if thr j g L = true then 121 else 0 := if_neg ha
    unfold grL
    rw [e1]
    by_cases hq : thr j g L = true
    · rw [if_pos hq] at ht
      rw [if_pos hq, if_neg (by decide)]
      exact ⟨rfl, ht, hg⟩
    · rw [if_neg hq] at ht
      rw [if_neg hq, if_pos rfl, put_ins (by simpa using hq)]
      exact ⟨rfl, ht, hg⟩
theorem xrenew_ok {w : World} {x : Nat} {T : Int} {L : List Lz} (h : Xa w x T L) (hR : Rise L) (hl : L.length ≤ 12) (g : Int) :
    Calls Try.prog 28 #[.pointer (some ⟨x, 0, none⟩), .int .i64 g] w fun e w' => e = .returned (.int .i64 (naE g L)) ∧ Xa w' x T (rnw T g L) ∧ w.grownBy w' (some x) := by
  obtain ⟨ad, ab, cap, hx⟩ := h
  exact xrenew_any hx hR hl g
theorem xdrop_ok {w : World} {x : Nat} {T : Int} {L : List Lz} (h : Xa w x T L) (hl : L.length ≤ 12) (g : Int) :
    Calls Try.prog 26 #[.pointer (some ⟨x, 0, none⟩), .int .i64 g] w fun e w' => e = .returned (.int .i64 (naE g L)) ∧ Xa w' x T (del g L) ∧ w.grownBy w' (some x) := by
  obtain ⟨ad, ab, cap, hx⟩ := h
  exact xdrop_any hx hl g
theorem xtick_ok {w : World} {x : Nat} {T : Int} {L : List Lz} (h : Xa w x T L) (hl : L.length ≤ 12) (hleft : ∀ y ∈ L, 1 ≤ y.left ∧ y.left ≤ 256) :
    Calls Try.prog 24 #[.pointer (some ⟨x, 0, none⟩)] w fun e w' => ∃ v, e = .returned v ∧ w'.ownsRow w.heap.size 54 5 v (tkO L).length (lcs (tkO L)) ∧ Xa w' x T (tkL L) ∧ w.grownBy w' (some x) := by
  obtain ⟨ad, ab, cap, hx⟩ := h
  refine (xtick_any hx hl hleft).mono ?_
  rintro e w' ⟨⟨v, he, ho⟩, hx', hg⟩
  exact ⟨v, he, ho, hx', hg⟩
theorem xfind_ok {w : World} {x : Nat} {T : Int} {L : List Lz} (h : Xa w x T L) (hl : L.length ≤ 12) (g : Int) : Calls Try.prog 29 #[.pointer (some ⟨x, 0, none⟩), .int .i64 g] w fun e w' => e = .returned (.tuple #[(fnd g L).val, .bool (has g L)]) ∧ Below w.heap.size w w' := by
  obtain ⟨ad, ab, cap, hx⟩ := h
  exact xfind_any hx hl g

/-- two blocks may turn -/
structure Two (m x : Nat) (w w' : World) : Prop where
  os : w'.os = w.os
  tape : w'.tape = w.tape
  output : w'.output = w.output
  size : w.heap.size ≤ w'.heap.size
  block : ∀ k, k < w.heap.size → k ≠ m → k ≠ x → w'.heap[k]? = w.heap[k]?
section
variable {m x : Nat} {w w1 w' : World}
theorem Two.both (h : w.grownBy w1 (some m)) (k : w1.grownBy w' (some x)) : Two m x w w' :=
  ⟨k.os.trans h.os, k.tape.trans h.tape, k.output.trans h.output, Nat.le_trans h.size k.size, fun i hi h1 h2 => (k.block i (Nat.lt_of_lt_of_le hi h.size) (fun e => h2 (by injection e))).trans (h.block i hi (fun e => h1 (by injection e)))⟩
theorem Two.of_below (h : Below w.heap.size w w') : Two m x w w' := ⟨h.os, h.tape, h.output, h.size, fun i hi _ _ => h.block i hi⟩
theorem Two.ahead (hb : Below w.heap.size w w1) (h : Two m x w1 w') : Two m x w w' :=
  ⟨h.os.trans hb.os, h.tape.trans hb.tape, h.output.trans hb.output, Nat.le_trans hb.size h.size, fun i hi h1 h2 => (h.block i (Nat.lt_of_lt_of_le hi hb.size) h1 h2).trans (hb.block i hi)⟩
theorem Two.behind (h : Two m x w w1) (hb : Below w1.heap.size w1 w') : Two m x w w' :=
  ⟨hb.os.trans h.os, hb.tape.trans h.tape, hb.output.trans h.output, Nat.le_trans h.size hb.size, fun i hi h1 h2 => (hb.block i (Nat.lt_of_lt_of_le hi h.size)).trans (h.block i hi h1 h2)⟩
theorem Two.below (h : Two m x w w') {B : Nat} (hB : B ≤ w.heap.size) (hm : B ≤ m) (hx : B ≤ x) : Below B w w' := ⟨h.os, h.tape, h.output, h.size, fun i hi => h.block i (by omega) (by omega) (by omega)⟩
end
/-- a table and the document's -/
structure Sc where
  b : Nat
  m : Nat
  x : Nat
  L : List Lz
structure Pr (T : Int) (w : World) (s : Sc) : Prop where
  ta : Ta w s.b s.m T s.L
  xa : Xa w s.x T s.L
section
variable {T : Int} {w w' w1 : World} {s t : Sc}
theorem Pr.below (h : Pr T w s) (hb : Below w.heap.size w w') : Pr T w' s := ⟨h.ta.below hb, h.xa.below hb⟩
theorem Pr.drew (h : Pr T w s) : Pr T w.drew s := ⟨⟨h.ta.tb.keep rfl rfl, h.ta.ok, h.ta.t1, h.ta.t2⟩, h.xa.drew⟩
/-- both have turned -/
theorem Pr.both {M : List Lz} (h : Pr T w s) (ht : Ta w1 s.b s.m T M) (hg : w.grownBy w1 (some s.m)) (hx : Xa w' s.x T M) (hk : w1.grownBy w' (some s.x)) : Pr T w' { s with L := M } ∧ Two s.m s.x w w' := by
  refine ⟨⟨⟨?_, ht.ok, ht.t1, ht.t2⟩, hx⟩, Two.both hg hk⟩
  obtain ⟨a, n, c, h1⟩ := (h.xa.map h.ta.tb.map.block hg).blk
  exact ht.tb.xturn h1 hk
/-- another pair, when two blocks turn -/
theorem Pr.other (h : Pr T w t) (hs : Pr T w s) (h2 : Two s.m s.x w w') (hm : t.m ≠ s.m) (hx : t.x ≠ s.x) : Pr T w' t := by
  obtain ⟨es, c, hms⟩ := hs.ta.tb.map.block
  obtain ⟨es', c', hmt⟩ := h.ta.tb.map.block
  obtain ⟨a, n, c1, hxs⟩ := hs.xa.blk
  obtain ⟨ad, ab, cap, hX⟩ := h.xa
  have hbt := h.ta.tb.blk
  have n1 : t.b ≠ s.m := fun e => by rw [e, hms] at hbt; cases hbt
  have n2 : t.b ≠ s.x := fun e => by rw [e, hxs] at hbt; cases hbt
  have n3 : t.m ≠ s.x := fun e => by rw [e, hxs] at hmt; cases hmt
  have n4 : t.x ≠ s.m := fun e => by have := hX.blk; rw [e, hms] at this; cases this
  have hrs : Rs w' ad ab 0 t.L := hX.rs.keep fun h0 => h2.block _ (hX.rs.lt h0) (fun e => by
      have h3 := hX.rs.c 0 h0 0 (by decide)
      unfold World.cell? at h3
      rw [show w.heap[ab]? = _ from e ▸ hms] at h3
      have h4 : ((t.L[0]'h0).cs)[0]? = some (.int .i64 (t.L[0]'h0).job) := rfl
      rw [h4] at h3
      simp at h3) (rs_ne hX.rs h0 hxs)
  exact ⟨⟨h.ta.tb.keep (h2.block _ h.ta.tb.lt n1 n2) (h2.block _ h.ta.tb.map.lt hm n3), h.ta.ok, h.ta.t1, h.ta.t2⟩, ⟨ad, ab, cap, ⟨(h2.block _ hX.lt n4 hx).trans hX.blk, hrs, hX.hc, hX.ha⟩⟩⟩
end
def pcs : List Sc → List Value
  | [] => []
  | s :: l => [.pointer (some ⟨s.b, 0, none⟩), .pointer (some ⟨s.x, 0, none⟩)] ++ pcs l
theorem pcs_len (l : List Sc) : (pcs l).length = l.length * 2 := by
  induction l with
  | nil => rfl
  | cons s l ih => simp [pcs, ih]; omega
theorem pcs_append (l k : List Sc) : pcs (l ++ k) = pcs l ++ pcs k := by
  induction l with
  | nil => rfl
  | cons s l ih => simp [pcs, ih]
theorem pcs_get (l : List Sc) : ∀ (i : Nat) (s : Sc), l[i]? = some s → (pcs l)[i * 2]? = some (.pointer (some ⟨s.b, 0, none⟩)) ∧ (pcs l)[i * 2 + 1]? = some (.pointer (some ⟨s.x, 0, none⟩)) := by
  induction l with
  | nil => intro i s h; simp at h
  | cons t l ih =>
    intro i s h
    cases i with
    | zero => simp at h; subst h; exact ⟨rfl, rfl⟩
    | succ i =>
      have := ih i s (by simpa using h)
      rw [show (i + 1) * 2 = i * 2 + 2 by omega]
      exact this
theorem pcs_set (l : List Sc) : ∀ (p : Nat) (s t : Sc), l[p]? = some s → t.b = s.b → t.x = s.x → pcs (l.set p t) = pcs l := by
  induction l with
  | nil => intro p s t h; simp at h
  | cons r l ih =>
    intro p s t h h1 h2
    cases p with
    | zero => simp at h; subst h; simp [pcs, h1, h2]
    | succ p => simp [pcs, ih p s t (by simpa using h) h1 h2]
theorem get_set {S : List Sc} {p : Nat} {s t : Sc} (hs : S[p]? = some s) (j : Nat) (y : Sc) (hy : (S.set p t)[j]? = some y) : (j = p ∧ y = t) ∨ (j ≠ p ∧ S[j]? = some y) := by
  have hp : p < S.length := (List.getElem?_eq_some_iff.1 hs).1
  by_cases hj : j = p
  · subst hj
    rw [List.getElem?_set_self hp] at hy
    exact .inl ⟨rfl, by injection hy with hy; exact hy.symm⟩
  · rw [List.getElem?_set_ne (Ne.symm hj)] at hy
    exact .inr ⟨hj, hy⟩
/-- the pairs of a script -/
structure Mem (w0 : World) (T : Int) (v : Value) (S : List Sc) (w : World) : Prop where
  low : Below w0.heap.size w0 w
  row : w.ownsRow w0.heap.size 32 2 v S.length (pcs S)
  pr : ∀ (i : Nat) (s : Sc), S[i]? = some s → Pr T w s
  lo : ∀ (i : Nat) (s : Sc), S[i]? = some s → w0.heap.size ≤ s.m ∧ w0.heap.size ≤ s.x
  ne : ∀ (i j : Nat) (s t : Sc), S[i]? = some s → S[j]? = some t → i ≠ j → s.m ≠ t.m ∧ s.x ≠ t.x
section
variable {w0 w w' : World} {T : Int} {v : Value} {S : List Sc}
theorem Mem.below (h : Mem w0 T v S w) (hb : Below w.heap.size w w') : Mem w0 T v S w' := ⟨below_of h.low hb, own_below h.row hb, fun i s hs => (h.pr i s hs).below hb, h.lo, h.ne⟩
theorem Mem.drewN (h : Mem w0 T v S w) (n : Nat) : Mem w0 T v S (w.drewN n) := h.below ⟨rfl, rfl, rfl, Nat.le_refl _, fun _ _ => rfl⟩
theorem Mem.step (h : Mem w0 T v S w) {p : Nat} {s : Sc} (hs : S[p]? = some s) {M : List Lz} (hp : Pr T w' { s with L := M }) (h2 : Two s.m s.x w w') : Mem w0 T v (S.set p { s with L := M }) w' := by
  obtain ⟨es, c, hms⟩ := (h.pr p s hs).ta.tb.map.block
  obtain ⟨a, n, c1, hxs⟩ := (h.pr p s hs).xa.blk
  refine ⟨h.low.trans (h2.below h.low.size (h.lo p s hs).1 (h.lo p s hs).2), ?_, fun j y hy => ?_, fun j y hy => ?_, fun i j y z hy hz hij => ?_⟩
  · rw [List.length_set, pcs_set S p s { s with L := M } hs rfl rfl]
    rcases own_form h.row with ⟨e, _⟩ | ⟨g, cap, e, hg⟩
    · refine ⟨h.row.1, ?_⟩
      rcases h.row.2 with h3 | ⟨g, cap, cur, e2, _⟩
      · exact .inl h3
      · rw [e] at e2; cases e2
    · subst e
      refine own_same h.row (h2.block g hg (fun e => ?_) (fun e => ?_))
      · rcases h.row.2 with ⟨h3, _⟩ | ⟨g', cap', cur, e2, _, hgb, _⟩
        · cases h3
        · injection e2 with e2; injection e2 with e2; injection e2 with e2; subst e2
          rw [e, hms] at hgb; cases hgb
      · rcases h.row.2 with ⟨h3, _⟩ | ⟨g', cap', cur, e2, _, hgb, _⟩
        · cases h3
        · injection e2 with e2; injection e2 with e2; injection e2 with e2; subst e2
          rw [e, hxs] at hgb; cases hgb
  · rcases get_set hs j y hy with ⟨_, rfl⟩ | ⟨hj, hy⟩
    · exact hp
    · obtain ⟨n1, n2⟩ := h.ne j p y s hy hs hj
      exact (h.pr j y hy).other (h.pr p s hs) h2 n1 n2
  · rcases get_set hs j y hy with ⟨_, rfl⟩ | ⟨hj, hy⟩
    · exact h.lo p s hs
    · exact h.lo j y hy
  · rcases get_set hs i y hy with ⟨hi, rfl⟩ | ⟨hi, hy⟩
    · rcases get_set hs j z hz with ⟨hj, rfl⟩ | ⟨hj, hz⟩
      · omega
      · exact h.ne p j s z hs hz (fun e => hj e.symm)
    · rcases get_set hs j z hz with ⟨hj, rfl⟩ | ⟨hj, hz⟩
      · exact h.ne i p y s hy hs hi
      · exact h.ne i j y z hy hz hij
/-- one more -/
theorem Mem.push {v' : Value} {s : Sc} (h : Mem w0 T v S w) (hlow : Below w0.heap.size w0 w') (hkeep : ∀ (i : Nat) (t : Sc), S[i]? = some t → Pr T w' t) (hp : Pr T w' s) (hl : w0.heap.size ≤ s.m ∧ w0.heap.size ≤ s.x) (hn : ∀ (i : Nat) (t : Sc), S[i]? = some t → t.m ≠ s.m ∧ t.x ≠ s.x)
    (hrow : w'.ownsRow w0.heap.size 32 2 v' (S.length + 1) (pcs S ++ [.pointer (some ⟨s.b, 0, none⟩), .pointer (some ⟨s.x, 0, none⟩)])) : Mem w0 T v' (S ++ [s]) w' := by
  have get : ∀ (i : Nat) (y : Sc), (S ++ [s])[i]? = some y → (i < S.length ∧ S[i]? = some y) ∨ (i = S.length ∧ y = s) := fun i y hy => by
    by_cases hi : i < S.length
    · rw [List.getElem?_append_left hi] at hy; exact .inl ⟨hi, hy⟩
    · rw [List.getElem?_append_right (by omega)] at hy
      have h1 : i = S.length := by
        have := (List.getElem?_eq_some_iff.1 hy).1
        simp at this
        omega
      subst h1
      simp at hy
      exact .inr ⟨rfl, hy.symm⟩
  refine ⟨hlow, ?_, fun i y hy => ?_, fun i y hy => ?_, fun i j y z hy hz hij => ?_⟩
  · rw [List.length_append, pcs_append]; exact hrow
  · rcases get i y hy with ⟨_, h1⟩ | ⟨_, rfl⟩
    · exact hkeep i y h1
    · exact hp
  · rcases get i y hy with ⟨_, h1⟩ | ⟨_, rfl⟩
    · exact h.lo i y h1
    · exact hl
  · rcases get i y hy with ⟨_, h1⟩ | ⟨hi, rfl⟩
    · rcases get j z hz with ⟨_, h2⟩ | ⟨hj, rfl⟩
      · exact h.ne i j y z h1 h2 hij
      · exact hn i y h1
    · rcases get j z hz with ⟨_, h2⟩ | ⟨hj, rfl⟩
      · obtain ⟨n1, n2⟩ := hn j z h2; exact ⟨Ne.symm n1, Ne.symm n2⟩
      · omega
end
end Go.Proofs.Ytjpcghkdedldiaa
