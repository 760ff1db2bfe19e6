import Derived.Test.YtkchddphmkgilaaQuRi
namespace Go.Proofs.Ytkchddphmkgilaa
open Go.RowKit

/-- a pair's call: what it turns -/
structure Fr (F F' : Nat → Prop) (x : Nat) (w w' : World) : Prop where
  os : w'.os = w.os
  tape : w'.tape = w.tape
  output : w'.output = w.output
  size : w.heap.size ≤ w'.heap.size
  block : ∀ k, k < w.heap.size → ¬ F k → k ≠ x → w'.heap[k]? = w.heap[k]?
  foot : ∀ k, F' k → F k ∨ w.heap.size ≤ k
theorem Fr.of_below {F : Nat → Prop} {x : Nat} {w w' : World} (h : Below w.heap.size w w') : Fr F F x w w' := ⟨h.os, h.tape, h.output, h.size, fun k hk _ _ => h.block k hk, fun _ hk => .inl hk⟩
theorem Fr.ahead {F F' : Nat → Prop} {x : Nat} {w w1 w' : World} (hb : Below w.heap.size w w1) (h : Fr F F' x w1 w') : Fr F F' x w w' :=
  ⟨h.os.trans hb.os, h.tape.trans hb.tape, h.output.trans hb.output, Nat.le_trans hb.size h.size, fun k hk h1 h2 => (h.block k (Nat.lt_of_lt_of_le hk hb.size) h1 h2).trans (hb.block k hk), fun k hk => (h.foot k hk).elim .inl fun h2 => .inr (Nat.le_trans hb.size h2)⟩
theorem Fr.both {F F' : Nat → Prop} {x : Nat} {w w1 w' : World} (hm : Mv F F' w w1) (ho : On x w1 w') : Fr F F' x w w' :=
  ⟨ho.os.trans hm.os, ho.tape.trans hm.tape, ho.output.trans hm.output, Nat.le_trans hm.size ho.size, fun k hk h1 h2 => (ho.block k (Nat.lt_of_lt_of_le hk hm.size) h2).trans (hm.block k hk h1), hm.foot⟩
theorem Fr.behind {F F' : Nat → Prop} {x : Nat} {w w1 w' : World} (h : Fr F F' x w w1) (hb : Below w1.heap.size w1 w') : Fr F F' x w w' :=
  ⟨hb.os.trans h.os, hb.tape.trans h.tape, hb.output.trans h.output, Nat.le_trans h.size hb.size, fun k hk h1 h2 => (hb.block k (Nat.lt_of_lt_of_le hk h.size)).trans (h.block k hk h1 h2), h.foot⟩
theorem Fr.below {F F' : Nat → Prop} {x : Nat} {w w' : World} (h : Fr F F' x w w') {B : Nat} (hB : B ≤ w.heap.size) (hF : ∀ k, F k → B ≤ k) (hx : B ≤ x) : Below B w w' :=
  ⟨h.os, h.tape, h.output, h.size, fun k hk => h.block k (by omega) (fun hf => absurd (hF k hf) (by omega)) (by omega)⟩
/-- a queue and the document's -/
structure Pr (B : Nat) (m : Int) (w : World) (b : Nat) (v : Value) (x : Nat) (ad : Option Addr) (ab cap : Nat) (L : List Rr) : Prop where
  q : Qm 47 B w b v m L
  x : Xm w x ad ab cap m L
  ok : Ok m L
  ap : 0 < L.length → ¬ Ft b v ab
theorem Pr.below {B : Nat} {m : Int} {w w' : World} {b : Nat} {v : Value} {x : Nat} {ad : Option Addr} {ab cap : Nat} {L : List Rr} (h : Pr B m w b v x ad ab cap L) (hb : Below w.heap.size w w') : Pr B m w' b v x ad ab cap L := ⟨h.q.below hb, h.x.below hb, h.ok, h.ap⟩
/-- what a call of a pair leaves -/
def ChP (B : Nat) (m : Int) (b : Nat) (v : Value) (x ab : Nat) (L : List Rr) (w w' : World) : Prop :=
  ∃ v' ad' ab' cap' L', Pr B m w' b v' x ad' ab' cap' L' ∧ Fr (Ft b v) (Ft b v') x w w' ∧ (L' = L ∧ ab' = ab ∨ w.heap.size ≤ ab')
theorem ChP.same {B : Nat} {m : Int} {w w' : World} {b : Nat} {v : Value} {x : Nat} {ad : Option Addr} {ab cap : Nat} {L : List Rr} (h : Pr B m w b v x ad ab cap L) (hb : Below w.heap.size w w') : ChP B m b v x ab L w w' :=
  ⟨v, ad, ab, cap, L, h.below hb, Fr.of_below hb, .inl ⟨rfl, rfl⟩⟩
theorem ChP.ahead {B : Nat} {m : Int} {b : Nat} {v : Value} {x ab : Nat} {L : List Rr} {w w1 w' : World} (hb : Below w.heap.size w w1) (h : ChP B m b v x ab L w1 w') : ChP B m b v x ab L w w' := by
  obtain ⟨v', ad', ab', cap', L', h1, h2, h3⟩ := h
  exact ⟨v', ad', ab', cap', L', h1, Fr.ahead hb h2, h3.elim .inl fun h4 => .inr (Nat.le_trans hb.size h4)⟩
theorem ChP.behind {B : Nat} {m : Int} {b : Nat} {v : Value} {x ab : Nat} {L : List Rr} {w w1 w' : World} (h : ChP B m b v x ab L w w1) (hb : Below w1.heap.size w1 w') : ChP B m b v x ab L w w' := by
  obtain ⟨v', ad', ab', cap', L', h1, h2, h3⟩ := h
  exact ⟨v', ad', ab', cap', L', h1.below hb, h2.behind hb, h3⟩
theorem blk_ne {w : World} {a b : Nat} {cs ds : Array Value} {s t : TypeId} (h : w.heap[a]? = some (.cells cs s (0, 0))) (k : w.heap[b]? = some (.cells ds t (0, 0))) (hn : s ≠ t) : a ≠ b := by
  rintro rfl
  rw [h] at k; injection k with k; injection k with _ k; exact hn k
theorem own_blk {w : World} {B n size : Nat} {e : TypeId} {v : Value} {xs : List Value} (h : w.ownsRow B e size v n xs) {k : Nat} (hk : v.ownBlock = some k) : ∃ cs, w.heap[k]? = some (.cells cs e (0, 0)) := by
  rcases h.2 with ⟨rfl, _⟩ | ⟨g, cap, cur, rfl, _, hg, _⟩
  · cases hk
  · injection hk with hk; subst hk; exact ⟨cur, hg⟩
/-- a block of another type is none of a queue's -/
theorem Qm.other {T B : Nat} {w : World} {b : Nat} {v : Value} {m : Int} {L : List Rr} (h : Qm T B w b v m L) {k : Nat} {cs : Array Value} {t : TypeId} (hk : w.heap[k]? = some (.cells cs t (0, 0))) (h1 : t ≠ T) (h2 : t ≠ 30) : ¬ Ft b v k := by
  rintro (rfl | e)
  · exact blk_ne hk h.blk h1 rfl
  · obtain ⟨ds, hd⟩ := own_blk h.row e; exact blk_ne hk hd h2 rfl
/-- both have changed -/
theorem ChP.both {B : Nat} {m : Int} {w w1 w' : World} {b : Nat} {v v' : Value} {x : Nat} {ad : Option Addr} {ab cap : Nat} {L L' : List Rr} (h : Pr B m w b v x ad ab cap L) (hk : Ok m L') (hq : Qm 47 B w1 b v' m L') (hm : Mv (Ft b v) (Ft b v') w w1) (hx : XPost x m w1 L' ab L w') : ChP B m b v x ab L w w' := by
  obtain ⟨ad2, ab2, cap2, hX, hor, hO⟩ := hx
  have hxb : ∃ cs, w1.heap[x]? = some (.cells cs 50 (0, 0)) := by
    refine ⟨_, (hm.block x h.x.lt (h.q.other h.x.blk (by decide) (by decide))).trans h.x.blk⟩
  obtain ⟨cs, hcs⟩ := hxb
  refine ⟨v', ad2, ab2, cap2, L', ⟨hq.keep fun k hk => hO.block k (hq.ftlt k hk).2 (fun e => hq.other hcs (by decide) (by decide) (by rw [← e]; exact hk)), hX, hk, fun h0 hf => ?_⟩, Fr.both hm hO, hor.elim .inl fun h4 => .inr (Nat.le_trans hm.size h4)⟩
  rcases hor with ⟨e1, e2⟩ | h4
  · subst e1; subst e2
    rcases hm.foot _ hf with h5 | h5
    · exact h.ap h0 h5
    · exact absurd (h.x.rs.lt h0) (by omega)
  · exact absurd (hq.ftlt _ hf).2 (by omega)
/-- a program's queue, as the document's may be asked behind it -/
theorem Pr.xmv {B : Nat} {m : Int} {w w1 : World} {b : Nat} {v v' : Value} {x : Nat} {ad : Option Addr} {ab cap : Nat} {L : List Rr} (h : Pr B m w b v x ad ab cap L) (hm : Mv (Ft b v) (Ft b v') w w1) : Xm w1 x ad ab cap m L :=
  h.x.keep (hm.block x h.x.lt (h.q.other h.x.blk (by decide) (by decide))) fun h0 => hm.block _ (h.x.rs.lt h0) (h.ap h0)
structure Sc where
  b : Nat
  v : Value
  x : Nat
  ad : Option Addr
  ab : Nat
  cap : Nat
  L : List Rr
def pcs : List Sc → List Value
  | [] => []
  | s :: l => [.pointer (some ⟨s.b, 0, none⟩), .pointer (some ⟨s.x, 0, none⟩)] ++ pcs l
theorem pcs_len (l : List Sc) : (pcs l).length = l.length * 2 := by
  induction l with
  | nil => rfl
  | cons s l ih => simp [pcs, ih]; omega
theorem pcs_append (l k : List Sc) : pcs (l ++ k) = pcs l ++ pcs k := by
  induction l with
  | nil => rfl
  | cons s l ih => simp [pcs, ih]
theorem pcs_get (l : List Sc) : ∀ (i : Nat) (s : Sc), l[i]? = some s → (pcs l)[i * 2]? = some (.pointer (some ⟨s.b, 0, none⟩)) ∧ (pcs l)[i * 2 + 1]? = some (.pointer (some ⟨s.x, 0, none⟩)) := by
  induction l with
  | nil => intro i s h; simp at h
  | cons t l ih =>
    intro i s h
    cases i with
    | zero => simp at h; subst h; exact ⟨rfl, rfl⟩
    | succ i =>
      have := ih i s (by simpa using h)
      rw [show (i + 1) * 2 = i * 2 + 2 by omega]
      exact this
theorem pcs_set (l : List Sc) : ∀ (p : Nat) (s t : Sc), l[p]? = some s → t.b = s.b → t.x = s.x → pcs (l.set p t) = pcs l := by
  induction l with
  | nil => intro p s t h; simp at h
  | cons r l ih =>
    intro p s t h h1 h2
    cases p with
    | zero => simp at h; subst h; simp [pcs, h1, h2]
    | succ p => simp [pcs, ih p s t (by simpa using h) h1 h2]
structure Kp (B : Nat) (m : Int) (w : World) (S : List Sc) : Prop where
  pr : ∀ (i : Nat) (s : Sc), S[i]? = some s → Pr B m w s.b s.v s.x s.ad s.ab s.cap s.L
  lo : ∀ (i : Nat) (s : Sc), S[i]? = some s → B ≤ s.x
  ft : ∀ (i j : Nat) (s t : Sc), S[i]? = some s → S[j]? = some t → i ≠ j → (∀ k, Ft s.b s.v k → ¬ Ft t.b t.v k) ∧ s.x ≠ t.x
  rb : ∀ (i j : Nat) (s t : Sc), S[i]? = some s → S[j]? = some t → 0 < t.L.length → ¬ Ft s.b s.v t.ab
theorem Kp.below {B : Nat} {m : Int} {w w' : World} {S : List Sc} (h : Kp B m w S) (hb : Below w.heap.size w w') : Kp B m w' S := ⟨fun i s hs => (h.pr i s hs).below hb, h.lo, h.ft, h.rb⟩
theorem get_set {S : List Sc} {p : Nat} {s t : Sc} (hs : S[p]? = some s) (j : Nat) (y : Sc) (hy : (S.set p t)[j]? = some y) : (j = p ∧ y = t) ∨ (j ≠ p ∧ S[j]? = some y) := by
  have hp : p < S.length := (List.getElem?_eq_some_iff.1 hs).1
  by_cases hj : j = p
  · subst hj
    rw [List.getElem?_set_self hp] at hy
    exact .inl ⟨rfl, by injection hy with hy; exact hy.symm⟩
  · rw [List.getElem?_set_ne (Ne.symm hj)] at hy
    exact .inr ⟨hj, hy⟩
theorem Kp.step {B : Nat} {m : Int} {w w' : World} {S : List Sc} (h : Kp B m w S) {p : Nat} {s : Sc} (hs : S[p]? = some s) {v' : Value} {ad' : Option Addr} {ab' cap' : Nat} {L' : List Rr} (hp : Pr B m w' s.b v' s.x ad' ab' cap' L') (hf : Fr (Ft s.b s.v) (Ft s.b v') s.x w w') (ho : L' = s.L ∧ ab' = s.ab ∨ w.heap.size ≤ ab') : Kp B m w' (S.set p ⟨s.b, v', s.x, ad', ab', cap', L'⟩) := by
  have oth : ∀ (j : Nat) (t : Sc), S[j]? = some t → j ≠ p → Pr B m w' t.b t.v t.x t.ad t.ab t.cap t.L := fun j t ht hj => by
    have hpt := h.pr j t ht
    have hps := h.pr p s hs
    refine ⟨hpt.q.keep fun k hk => hf.block k (hpt.q.ftlt k hk).2 (fun e => (h.ft p j s t hs ht (Ne.symm hj)).1 k e hk) (fun e => hpt.q.other hps.x.blk (by decide) (by decide) (by rw [← e]; exact hk)), hpt.x.keep ?_ ?_, hpt.ok, hpt.ap⟩
    · exact hf.block _ hpt.x.lt (hps.q.other hpt.x.blk (by decide) (by decide)) (Ne.symm (h.ft p j s t hs ht (Ne.symm hj)).2)
    · intro h0
      obtain ⟨cs, hcs⟩ := hpt.x.ty h0
      exact hf.block _ (hpt.x.rs.lt h0) (h.rb p j s t hs ht h0) (blk_ne hcs hps.x.blk (by decide))
  refine ⟨fun i y hy => ?_, fun i y hy => ?_, fun i j y z hy hz hij => ?_, fun i j y z hy hz h0 => ?_⟩
  · rcases get_set hs i y hy with ⟨_, rfl⟩ | ⟨hj, hy'⟩
    · exact hp
    · exact oth i y hy' hj
  · rcases get_set hs i y hy with ⟨_, rfl⟩ | ⟨hj, hy'⟩
    · exact h.lo p s hs
    · exact h.lo i y hy'
  · rcases get_set hs i y hy with ⟨ei, rfl⟩ | ⟨hi, hy'⟩
    · rcases get_set hs j z hz with ⟨ej, rfl⟩ | ⟨hj, hz'⟩
      · exact absurd (ei.trans ej.symm) hij
      · refine ⟨fun k hk hk2 => ?_, (h.ft p j s z hs hz' (Ne.symm hj)).2⟩
        rcases hf.foot k hk with h5 | h5
        · exact (h.ft p j s z hs hz' (Ne.symm hj)).1 k h5 hk2
        · exact absurd ((h.pr j z hz').q.ftlt k hk2).2 (by omega)
    · rcases get_set hs j z hz with ⟨ej, rfl⟩ | ⟨hj, hz'⟩
      · refine ⟨fun k hk hk2 => ?_, (h.ft i p y s hy' hs hi).2⟩
        rcases hf.foot k hk2 with h5 | h5
        · exact (h.ft i p y s hy' hs hi).1 k hk h5
        · exact absurd ((h.pr i y hy').q.ftlt k hk).2 (by omega)
      · exact h.ft i j y z hy' hz' hij
  · rcases get_set hs i y hy with ⟨ei, rfl⟩ | ⟨hi, hy'⟩
    · rcases get_set hs j z hz with ⟨ej, rfl⟩ | ⟨hj, hz'⟩
      · exact hp.ap h0
      · intro hk
        rcases hf.foot _ hk with h5 | h5
        · exact h.rb p j s z hs hz' h0 h5
        · exact absurd ((h.pr j z hz').x.rs.lt h0) (by omega)
    · rcases get_set hs j z hz with ⟨ej, rfl⟩ | ⟨hj, hz'⟩
      · intro hk
        rcases ho with ⟨e1, e2⟩ | h4
        · exact h.rb i p y s hy' hs (by rw [← e1]; exact h0) (by rw [← e2]; exact hk)
        · exact absurd ((h.pr i y hy').q.ftlt _ hk).2 (by simp only at h4 ⊢; omega)
      · exact h.rb i j y z hy' hz' h0
/-- one pair more: clones -/
theorem Kp.push {B : Nat} {m : Int} {w : World} {S : List Sc} (h : Kp B m w S) {p : Nat} {s : Sc} (hs : S[p]? = some s) {b' x' H : Nat} {v' : Value} (hq : Qm 47 H w b' v' m s.L) (hX : Xm w x' s.ad s.ab s.cap m s.L) (hB : B ≤ H) (hx : B ≤ x') (hH : ∀ (i : Nat) (t : Sc), S[i]? = some t → (∀ k, Ft t.b t.v k → k < H) ∧ t.x ≠ x' ∧ (0 < t.L.length → t.ab < H)) : Kp B m w (S ++ [⟨b', v', x', s.ad, s.ab, s.cap, s.L⟩]) := by
  have get : ∀ (j : Nat) (y : Sc), (S ++ [⟨b', v', x', s.ad, s.ab, s.cap, s.L⟩])[j]? = some y → (j = S.length ∧ y = ⟨b', v', x', s.ad, s.ab, s.cap, s.L⟩) ∨ S[j]? = some y := fun j y hy => by
    by_cases hj : j < S.length
    · rw [List.getElem?_append_left hj] at hy; exact .inr hy
    · rw [List.getElem?_append_right (by omega)] at hy
      have : j - S.length = 0 := by
        by_cases h0 : j - S.length = 0
        · exact h0
        · rw [List.getElem?_eq_none (by simp; omega)] at hy; cases hy
      rw [this] at hy
      exact .inl ⟨by omega, by injection hy with hy; exact hy.symm⟩
  have nw : ∀ k, Ft b' v' k → H ≤ k := fun k hk => (hq.ftlt k hk).1
  have qB : Qm 47 B w b' v' m s.L := ⟨hq.blk, Nat.le_trans hB hq.low, own_base hq.row hB, hq.apt⟩
  refine ⟨fun i y hy => ?_, fun i y hy => ?_, fun i j y z hy hz hij => ?_, fun i j y z hy hz h0 => ?_⟩
  · rcases get i y hy with ⟨_, rfl⟩ | hy'
    · exact ⟨qB, hX, (h.pr p s hs).ok, fun h0 hf => absurd (nw _ hf) (by have := (hH p s hs).2.2 h0; simp only; omega)⟩
    · exact h.pr i y hy'
  · rcases get i y hy with ⟨_, rfl⟩ | hy'
    · exact hx
    · exact h.lo i y hy'
  · rcases get i y hy with ⟨e1, rfl⟩ | hy'
    · rcases get j z hz with ⟨e2, rfl⟩ | hz'
      · exact absurd (e1.trans e2.symm) hij
      · exact ⟨fun k hk hk2 => absurd ((hH j z hz').1 k hk2) (by have := nw k hk; omega), Ne.symm (hH j z hz').2.1⟩
    · rcases get j z hz with ⟨e2, rfl⟩ | hz'
      · exact ⟨fun k hk hk2 => absurd ((hH i y hy').1 k hk) (by have := nw k hk2; omega), (hH i y hy').2.1⟩
      · exact h.ft i j y z hy' hz' hij
  · rcases get i y hy with ⟨_, rfl⟩ | hy'
    · intro hk
      have h5 := nw _ hk
      rcases get j z hz with ⟨_, rfl⟩ | hz'
      · have := (hH p s hs).2.2 h0; simp only at h5; omega
      · have := (hH j z hz').2.2 h0; omega
    · rcases get j z hz with ⟨_, rfl⟩ | hz'
      · exact h.rb i p y s hy' hs h0
      · exact h.rb i j y z hy' hz' h0
/-- all of a script's state -/
structure Mem (B : Nat) (m : Int) (w : World) (vl : Value) (S : List Sc) : Prop where
  rl : w.ownsRow B 41 2 vl S.length (pcs S)
  kp : Kp B m w S
theorem Mem.below {B : Nat} {m : Int} {w w' : World} {vl : Value} {S : List Sc} (h : Mem B m w vl S) (hb : Below w.heap.size w w') : Mem B m w' vl S := ⟨own_below h.rl hb, h.kp.below hb⟩
theorem Mem.step {B : Nat} {m : Int} {w w' : World} {vl : Value} {S : List Sc} (h : Mem B m w vl S) {p : Nat} {s : Sc} (hs : S[p]? = some s) (hc : ChP B m s.b s.v s.x s.ab s.L w w') : ∃ t, Mem B m w' vl (S.set p t) ∧ t.b = s.b ∧ t.x = s.x := by
  obtain ⟨v', ad', ab', cap', L', h1, h2, h3⟩ := hc
  have hps := h.kp.pr p s hs
  refine ⟨⟨s.b, v', s.x, ad', ab', cap', L'⟩, ⟨?_, h.kp.step hs h1 h2 h3⟩, rfl, rfl⟩
  rw [List.length_set, pcs_set S p s ⟨s.b, v', s.x, ad', ab', cap', L'⟩ hs rfl rfl]
  refine ⟨h.rl.1, ?_⟩
  rcases h.rl.2 with h4 | ⟨g, c, cur, e, hg, hh, h5⟩
  · exact .inl h4
  · exact .inr ⟨g, c, cur, e, hg, (h2.block g (lt_of_block hh) (hps.q.other hh (by decide) (by decide)) (blk_ne hh hps.x.blk (by decide))).trans hh, h5⟩
theorem Mem.cell {B : Nat} {m : Int} {w : World} {g cap : Nat} {S : List Sc} (h : Mem B m w (.slice (some ⟨g, 0, none⟩) S.length cap) S) {i : Nat} {s : Sc} (hs : S[i]? = some s) : w.cell? ⟨g, i * 2, none⟩ = some (.pointer (some ⟨s.b, 0, none⟩)) ∧ w.cell? ⟨g, i * 2 + 1, none⟩ = some (.pointer (some ⟨s.x, 0, none⟩)) := by
  obtain ⟨h1, h2⟩ := pcs_get S i s hs
  have e1 := h.rl.cells (g := g) rfl _ _ h1
  have e2 := h.rl.cells (g := g) rfl _ _ h2
  rw [Addr.add_lit, Nat.zero_add] at e1 e2
  exact ⟨e1, e2⟩
end Go.Proofs.Ytkchddphmkgilaa
