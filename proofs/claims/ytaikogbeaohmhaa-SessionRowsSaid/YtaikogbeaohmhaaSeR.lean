import Derived.Test.YtaikogbeaohmhaaSeP
namespace Go.Proofs.Ytaikogbeaohmhaa
open Go.RowKit

theorem Try.infoPT : (Try.prog.info? 47).map (fun i => (i.zero, i.size, i.bytes)) = some (some (.pointer none), 1, 8) := by kernel_rfl
theorem Try.infoXT : (Try.prog.info? 50).map (fun i => (i.zero, i.size, i.bytes)) = some (some (.pointer none), 1, 8) := by kernel_rfl
theorem one_new (w : World) (u : Value) (t : TypeId) : ∀ j x, [u][j]? = some x → (w.alloc (.cells #[u] t)).cell? ((⟨w.heap.size, 0, none⟩ : Addr).add j) = some x := by
  intro j x hj
  match j, hj with
  | 0, hj => simp at hj; subst hj; simp [Addr.add]
theorem Sc.does_eq (s : Sc) (q : Rw) : (s.does q).b = s.b ∧ (s.does q).g = s.g ∧ (s.does q).x = s.x ∧ (s.does q).y = s.y := by
  unfold Sc.does
  split
  · exact ⟨rfl, rfl, rfl, rfl⟩
  · split <;> exact ⟨rfl, rfl, rfl, rfl⟩
def pbs (L : List Sc) : List Value := L.map fun s => .pointer (some ⟨s.b, 0, none⟩)
def pxs (L : List Sc) : List Value := L.map fun s => .pointer (some ⟨s.x, 0, none⟩)
structure Kp (B : Nat) (w : World) (L : List Sc) : Prop where
  pt : ∀ (i : Nat) (s : Sc), L[i]? = some s → Pt B w s
  ap : ∀ (i j : Nat) (s t : Sc), L[i]? = some s → L[j]? = some t → i ≠ j → s.g ≠ t.g ∧ s.y ≠ t.y
  cr : ∀ (i j : Nat) (s t : Sc), L[i]? = some s → L[j]? = some t → s.g ≠ t.y
section
variable {B : Nat} {w w' : World} {L : List Sc}
theorem Pt.keep {s : Sc} (h : Pt B w s) (hb : w'.heap[s.b]? = w.heap[s.b]?) (hg : w'.heap[s.g]? = w.heap[s.g]?) (hx : w'.heap[s.x]? = w.heap[s.x]?) (hy : w'.heap[s.y]? = w.heap[s.y]?) : Pt B w' s := ⟨h.t.keep hb hg, h.r.keep hx hy, h.ne, h.d, h.e, h.l, h.n1⟩
theorem Pt.other {s t : Sc} (h : Pt B w s) (ht : Pt B w t) (h1 : s.g ≠ t.g) (h2 : s.y ≠ t.y) (h3 : s.g ≠ t.y) (h4 : t.g ≠ s.y) (hm : M2 t.g t.y w w') : Pt B w' s := by
  obtain ⟨⟨cg, hcg⟩, ⟨cy, hcy⟩⟩ := ht.blk
  exact h.keep (hm.block _ h.t.lt (blk_ne h.t.hb hcg (by decide)) (blk_ne h.t.hb hcy (by decide))) (hm.block _ h.t.gl h1 h3) (hm.block _ h.r.lt (blk_ne h.r.hb hcg (by decide)) (blk_ne h.r.hb hcy (by decide))) (hm.block _ h.r.gl (Ne.symm h4) h2)
theorem Kp.below (h : Kp B w L) (hb : Below w.heap.size w w') : Kp B w' L := ⟨fun i s hs => (h.pt i s hs).below hb, h.ap, h.cr⟩
theorem Kp.step (h : Kp B w L) {p : Nat} {s s' : Sc} (hs : L[p]? = some s) (hg : s'.g = s.g) (hy : s'.y = s.y) (h1 : Pt B w' s') (hm : M2 s.g s.y w w') : Kp B w' (L.set p s') := by
  have hp : p < L.length := (List.getElem?_eq_some_iff.1 hs).1
  have get : ∀ (j : Nat) (z : Sc), (L.set p s')[j]? = some z → (j = p ∧ z = s') ∨ (j ≠ p ∧ L[j]? = some z) := fun j z hz => by
    by_cases hj : j = p
    · subst hj
      rw [List.getElem?_set_self hp] at hz
      exact .inl ⟨rfl, by injection hz with hz; exact hz.symm⟩
    · rw [List.getElem?_set_ne (Ne.symm hj)] at hz
      exact .inr ⟨hj, hz⟩
  refine ⟨fun i z hz => ?_, fun i j z v hz hv hij => ?_, fun i j z v hz hv => ?_⟩
  · rcases get i z hz with ⟨_, rfl⟩ | ⟨hj, hz'⟩
    · exact h1
    · have a := h.ap i p z s hz' hs hj
      exact (h.pt i z hz').other (h.pt p s hs) a.1 a.2 (h.cr i p z s hz' hs) (h.cr p i s z hs hz') hm
  · rcases get i z hz with ⟨rfl, rfl⟩ | ⟨hi, hz'⟩
    · rcases get j v hv with ⟨rfl, rfl⟩ | ⟨hj, hv'⟩
      · exact absurd rfl hij
      · rw [hg, hy]; exact h.ap _ j s v hs hv' hij
    · rcases get j v hv with ⟨rfl, rfl⟩ | ⟨hj, hv'⟩
      · rw [hg, hy]; exact h.ap i _ z s hz' hs hij
      · exact h.ap i j z v hz' hv' hij
  · rcases get i z hz with ⟨rfl, rfl⟩ | ⟨hi, hz'⟩
    · rcases get j v hv with ⟨rfl, rfl⟩ | ⟨hj, hv'⟩
      · rw [hg, hy]; exact h.cr _ _ s s hs hs
      · rw [hg]; exact h.cr _ j s v hs hv'
    · rcases get j v hv with ⟨rfl, rfl⟩ | ⟨hj, hv'⟩
      · rw [hy]; exact h.cr i _ z s hz' hs
      · exact h.cr i j z v hz' hv'
theorem map_set {f : Sc → Value} {p : Nat} {s s' : Sc} (hs : L[p]? = some s) (hf : f s' = f s) : (L.set p s').map f = L.map f := by
  rw [List.map_set]
  apply List.ext_getElem?
  intro i
  by_cases hi : p = i
  · subst hi
    have hp : p < L.length := (List.getElem?_eq_some_iff.1 hs).1
    rw [List.getElem?_set_self (by simpa using hp), List.getElem?_map, hs, hf]; rfl
  · rw [List.getElem?_set_ne hi]
/-- all of a script's state -/
structure Mem (B : Nat) (w : World) (vl vm : Value) (L : List Sc) : Prop where
  rl : w.ownsRow B 47 1 vl L.length (pbs L)
  rm : w.ownsRow B 50 1 vm L.length (pxs L)
  kp : Kp B w L
theorem Mem.below {vl vm : Value} (h : Mem B w vl vm L) (hb : Below w.heap.size w w') : Mem B w' vl vm L := ⟨own_below h.rl hb, own_below h.rm hb, h.kp.below hb⟩
theorem Mem.step {vl vm : Value} (h : Mem B w vl vm L) {p : Nat} {s : Sc} (hs : L[p]? = some s) (q : Rw) (h1 : Pt B w' (s.does q)) (hm : M2 s.g s.y w w') : Mem B w' vl vm (L.set p (s.does q)) := by
  obtain ⟨e1, e2, e3, e4⟩ := Sc.does_eq s q
  obtain ⟨⟨cg, hcg⟩, ⟨cy, hcy⟩⟩ := (h.kp.pt p s hs).blk
  refine ⟨?_, ?_, h.kp.step hs e2 e4 h1 hm⟩
  · rw [List.length_set]
    unfold pbs
    rw [map_set hs (by rw [e1])]
    refine own_keep h.rl fun k hk => ?_
    obtain ⟨cs, hcs⟩ := own_blk h.rl hk
    exact hm.block k (lt_of_block hcs) (blk_ne hcs hcg (by decide)) (blk_ne hcs hcy (by decide))
  · rw [List.length_set]
    unfold pxs
    rw [map_set hs (by rw [e3])]
    refine own_keep h.rm fun k hk => ?_
    obtain ⟨cs, hcs⟩ := own_blk h.rm hk
    exact hm.block k (lt_of_block hcs) (blk_ne hcs hcg (by decide)) (blk_ne hcs hcy (by decide))
theorem Mem.cl {g cap : Nat} {vm : Value} (h : Mem B w (.slice (some ⟨g, 0, none⟩) L.length cap) vm L) {i : Nat} {s : Sc} (hs : L[i]? = some s) : w.cell? ⟨g, i, none⟩ = some (.pointer (some ⟨s.b, 0, none⟩)) := by
  have e1 := h.rl.cells (g := g) rfl i (.pointer (some ⟨s.b, 0, none⟩)) (by unfold pbs; rw [List.getElem?_map, hs]; rfl)
  rw [Addr.add_lit, Nat.zero_add] at e1
  exact e1
theorem Mem.cm {g cap : Nat} {vl : Value} (h : Mem B w vl (.slice (some ⟨g, 0, none⟩) L.length cap) L) {i : Nat} {s : Sc} (hs : L[i]? = some s) : w.cell? ⟨g, i, none⟩ = some (.pointer (some ⟨s.x, 0, none⟩)) := by
  have e1 := h.rm.cells (g := g) rfl i (.pointer (some ⟨s.x, 0, none⟩)) (by unfold pxs; rw [List.getElem?_map, hs]; rfl)
  rw [Addr.add_lit, Nat.zero_add] at e1
  exact e1
/-- one pair more -/
theorem Kp.push (h : Kp B w L) {s' : Sc} (h1 : Pt B w s') (hn : ∀ (i : Nat) (s : Sc), L[i]? = some s → s.g ≠ s'.g ∧ s.y ≠ s'.y ∧ s.g ≠ s'.y ∧ s'.g ≠ s.y) : Kp B w (L ++ [s']) := by
  have get : ∀ (j : Nat) (z : Sc), (L ++ [s'])[j]? = some z → (j = L.length ∧ z = s') ∨ L[j]? = some z := fun j z hz => by
    by_cases hj : j < L.length
    · rw [List.getElem?_append_left hj] at hz; exact .inr hz
    · rw [List.getElem?_append_right (by omega)] at hz
      have : j - L.length = 0 := by
        by_cases h0 : j - L.length = 0
        · exact h0
        · rw [List.getElem?_eq_none (by simp; omega)] at hz; cases hz
      rw [this] at hz
      exact .inl ⟨by omega, by injection hz with hz; exact hz.symm⟩
  refine ⟨fun i z hz => ?_, fun i j z v hz hv hij => ?_, fun i j z v hz hv => ?_⟩
  · rcases get i z hz with ⟨_, rfl⟩ | hz'
    · exact h1
    · exact h.pt i z hz'
  · rcases get i z hz with ⟨e1, rfl⟩ | hz'
    · rcases get j v hv with ⟨e2, rfl⟩ | hv'
      · exact absurd (e1.trans e2.symm) hij
      · obtain ⟨n1, n2, _, _⟩ := hn j v hv'; exact ⟨Ne.symm n1, Ne.symm n2⟩
    · rcases get j v hv with ⟨e2, rfl⟩ | hv'
      · obtain ⟨n1, n2, _, _⟩ := hn i z hz'; exact ⟨n1, n2⟩
      · exact h.ap i j z v hz' hv' hij
  · rcases get i z hz with ⟨e1, rfl⟩ | hz'
    · rcases get j v hv with ⟨e2, rfl⟩ | hv'
      · exact h1.ne
      · exact (hn j v hv').2.2.2
    · rcases get j v hv with ⟨e2, rfl⟩ | hv'
      · exact (hn i z hz').2.2.1
      · exact h.cr i j z v hz' hv'
/-- what turns a row of pointers alone keeps the pairs -/
theorem Kp.grown {v : Value} {e : TypeId} {n size : Nat} {xs : List Value} (h : Kp B w L) (ho : w.ownsRow B e size v n xs) (h1 : e ≠ 92) (h2 : e ≠ 94) (h3 : e ≠ 96) (hk : ∀ k, k < w.heap.size → v.ownBlock ≠ some k → w'.heap[k]? = w.heap[k]?) : Kp B w' L := by
  have ne : ∀ {k cs t}, w.heap[k]? = some (Obj.cells cs t (0, 0)) → e ≠ t → w'.heap[k]? = w.heap[k]? := fun {k cs t} e1 ht => hk k (lt_of_block e1) fun e2 => by
    obtain ⟨ds, hds⟩ := own_blk ho e2; exact blk_ne hds e1 ht rfl
  refine ⟨fun i s hs => ?_, h.ap, h.cr⟩
  have hp := h.pt i s hs
  obtain ⟨⟨cg, hcg⟩, ⟨cy, hcy⟩⟩ := hp.blk
  exact hp.keep (ne hp.t.hb h1) (ne hcg h3) (ne hp.r.hb h2) (ne hcy h3)
theorem Tm.grown {T b g c n size : Nat} {D : List Dk} {v : Value} {e : TypeId} {xs : List Value} (h : Tm T B w b g c D) (ho : w.ownsRow B e size v n xs) (h1 : e ≠ T) (h3 : e ≠ 96) (hk : ∀ k, k < w.heap.size → v.ownBlock ≠ some k → w'.heap[k]? = w.heap[k]?) : Tm T B w' b g c D := by
  have ne : ∀ {k cs t}, w.heap[k]? = some (Obj.cells cs t (0, 0)) → e ≠ t → w'.heap[k]? = w.heap[k]? := fun {k cs t} e1 ht => hk k (lt_of_block e1) fun e2 => by
    obtain ⟨ds, hds⟩ := own_blk ho e2; exact blk_ne hds e1 ht rfl
  obtain ⟨cs, hcs⟩ := own_blk h.row (k := g) rfl
  exact h.keep (ne h.hb h1) (ne hcs h3)
/-- the program's row is one longer already -/
structure Half (B : Nat) (w : World) (vl vm : Value) (L : List Sc) (b g c : Nat) (D : List Dk) : Prop where
  rl : w.ownsRow B 47 1 vl (L.length + 1) (pbs L ++ [.pointer (some ⟨b, 0, none⟩)])
  rm : w.ownsRow B 50 1 vm L.length (pxs L)
  kp : Kp B w L
  t : Tm 92 B w b g c D
  nb : ∀ (i : Nat) (s : Sc), L[i]? = some s → s.g ≠ g ∧ s.y ≠ g
theorem Half.below {vl vm : Value} {b g c : Nat} {D : List Dk} (h : Half B w vl vm L b g c D) (hb : Below w.heap.size w w') : Half B w' vl vm L b g c D := ⟨own_below h.rl hb, own_below h.rm hb, h.kp.below hb, h.t.below hb, h.nb⟩
theorem grown_block {v : Value} {o : Obj} (hg : (w.alloc o).grownBy w' v.ownBlock) : ∀ k, k < w.heap.size → v.ownBlock ≠ some k → w'.heap[k]? = w.heap[k]? := fun k hk hn => (hg.block k (by rw [World.size_alloc]; omega) (Ne.symm hn)).trans (Below.heap_alloc w o k hk)
theorem own_other {e e' : TypeId} {n n' size size' : Nat} {v v' : Value} {xs xs' : List Value} (h : w.ownsRow B e size v n xs) (h' : w.ownsRow B e' size' v' n' xs') (hn : e ≠ e') (hk : ∀ k, k < w.heap.size → v'.ownBlock ≠ some k → w'.heap[k]? = w.heap[k]?) : w'.ownsRow B e size v n xs := own_keep h fun k hk' => by
  obtain ⟨cs, hcs⟩ := own_blk h hk'
  exact hk k (lt_of_block hcs) fun e2 => by
    obtain ⟨ds, hds⟩ := own_blk h' e2; exact blk_ne hcs hds hn rfl
theorem Mem.half {vl vl' vm : Value} {b g c : Nat} {D : List Dk} {o : Obj} (h : Mem B w vl vm L) (hc : Tm 92 B w b g c D) (hn : ∀ (i : Nat) (s : Sc), L[i]? = some s → s.g ≠ g ∧ s.y ≠ g)
    (ho : w'.ownsRow B 47 1 vl' (L.length + 1) (pbs L ++ [.pointer (some ⟨b, 0, none⟩)])) (hg : (w.alloc o).grownBy w' vl.ownBlock) : Half B w' vl' vm L b g c D :=
  ⟨ho, own_other h.rm h.rl (by decide) (grown_block hg), h.kp.grown h.rl (by decide) (by decide) (by decide) (grown_block hg), hc.grown h.rl (by decide) (by decide) (grown_block hg), hn⟩
theorem Half.whole {vl vm vm' : Value} {b g c x y k : Nat} {D E : List Dk} {o : Obj} (h : Half B w vl vm L b g c D) (hc : Tm 94 B w x y k E) (hn : ∀ (i : Nat) (s : Sc), L[i]? = some s → s.y ≠ y ∧ s.g ≠ y) (hgy : g ≠ y) (hd : DOk D) (he : DOk E) (hl : Like D E) (n1 : 0 < D.length)
    (ho : w'.ownsRow B 50 1 vm' (L.length + 1) (pxs L ++ [.pointer (some ⟨x, 0, none⟩)])) (hg : (w.alloc o).grownBy w' vm.ownBlock) : Mem B w' vl vm' (L ++ [⟨b, g, c, D, x, y, k, E⟩]) := by
  refine ⟨?_, ?_, (h.kp.grown h.rm (by decide) (by decide) (by decide) (grown_block hg)).push ⟨h.t.grown h.rm (by decide) (by decide) (grown_block hg), hc.grown h.rm (by decide) (by decide) (grown_block hg), hgy, hd, he, hl, n1⟩ fun i s hs => ⟨(h.nb i s hs).1, (hn i s hs).1, (hn i s hs).2, Ne.symm (h.nb i s hs).2⟩⟩
  · rw [List.length_append]
    show w'.ownsRow B 47 1 vl (L.length + 1) (pbs (L ++ [⟨b, g, c, D, x, y, k, E⟩]))
    rw [show pbs (L ++ [⟨b, g, c, D, x, y, k, E⟩]) = pbs L ++ [.pointer (some ⟨b, 0, none⟩)] by unfold pbs; simp]
    exact own_other h.rl h.rm (by decide) (grown_block hg)
  · rw [List.length_append]
    show w'.ownsRow B 50 1 vm' (L.length + 1) (pxs (L ++ [⟨b, g, c, D, x, y, k, E⟩]))
    rw [show pxs (L ++ [⟨b, g, c, D, x, y, k, E⟩]) = pxs L ++ [.pointer (some ⟨x, 0, none⟩)] by unfold pxs; simp]
    exact ho
theorem below_grow {w1 : World} {v : Value} {o : Obj} (h : Below B w w1) (hB : B ≤ w1.heap.size) (hg : (w1.alloc o).grownBy w' v.ownBlock) (hv : ∀ k, v.ownBlock = some k → B ≤ k) : Below B w w' :=
  (h.alloc hB o).grown hg (by rw [World.size_alloc]; omega) hv
end
end Go.Proofs.Ytaikogbeaohmhaa
