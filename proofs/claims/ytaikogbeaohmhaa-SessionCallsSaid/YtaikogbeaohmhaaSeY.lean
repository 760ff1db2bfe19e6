import Derived.Test.YtaikogbeaohmhaaSeW
import Derived.Deep.DeepAppendWide
import Derived.Test.YtaikogbeaohmhaaSeK
namespace Go.Proofs.Ytaikogbeaohmhaa
open Go.RowKit

theorem Try.infoPC : (Try.prog.info? 23).map (fun i => (i.zero, i.size, i.bytes)) = some (some (.pointer none), 1, 8) := by kernel_rfl
theorem Try.infoXC : (Try.prog.info? 38).map (fun i => (i.zero, i.size, i.bytes)) = some (some (.agg (xC (newC 0) 0).toArray), 16, 144) := by kernel_rfl
theorem one_new (w : World) (u : Value) (t : TypeId) : ∀ j x, [u][j]? = some x → (w.alloc (.cells #[u] t)).cell? ((⟨w.heap.size, 0, none⟩ : Addr).add j) = some x := by
  intro j x hj
  match j, hj with
  | 0, hj => simp at hj; subst hj; simp [Addr.add]
/-- a caller and the document's -/
structure Pc where
  b : Nat
  c : Cl
  l : Int
def pcs (L : List Pc) : List Value := L.map fun s => .pointer (some ⟨s.b, 0, none⟩)
def xcs : List Pc → List Value
  | [] => []
  | s :: L => xC s.c s.l ++ xcs L
theorem xcs_len (L : List Pc) : (xcs L).length = L.length * 16 := by
  induction L with
  | nil => rfl
  | cons s L ih => simp only [xcs, List.length_append, ih, List.length_cons, Nat.add_mul, xC_len]; omega
theorem xcs_append (L M : List Pc) : xcs (L ++ M) = xcs L ++ xcs M := by
  induction L with
  | nil => rfl
  | cons s L ih => simp only [List.cons_append, xcs, ih, List.append_assoc]
theorem xcs_get (L : List Pc) (i k : Nat) (hi : i < L.length) (hk : k < 16) : (xcs L)[i * 16 + k]? = (xC (L[i]).c (L[i]).l)[k]? := by
  induction L generalizing i with
  | nil => cases hi
  | cons d L ih =>
    cases i with
    | zero => simp only [xcs]; rw [Nat.zero_mul, Nat.zero_add, List.getElem?_append_left (by rw [xC_len]; exact hk)]; rfl
    | succ i =>
      simp only [xcs]
      rw [List.getElem?_append_right (by rw [xC_len]; omega), show (i + 1) * 16 + k - (xC d.c d.l).length = i * 16 + k by rw [xC_len]; omega]
      exact ih i (by simpa using hi)
theorem xcs_set (L : List Pc) (i : Nat) (s : Pc) (hi : i < L.length) : xcs (L.set i s) = (xcs L).take (i * 16) ++ (xC s.c s.l ++ (xcs L).drop (i * 16 + 16)) := by
  induction L generalizing i with
  | nil => cases hi
  | cons d L ih =>
    cases i with
    | zero =>
      simp only [List.set_cons_zero, xcs, Nat.zero_mul, List.take_zero, List.nil_append, Nat.zero_add]
      rw [List.drop_append_of_le_length (by rw [xC_len]; exact Nat.le_refl _), List.drop_of_length_le (by rw [xC_len]; exact Nat.le_refl _), List.nil_append]
    | succ i =>
      simp only [List.set_cons_succ, xcs]
      rw [ih i (by simpa using hi)]
      have h1 : (xC d.c d.l ++ xcs L).take ((i + 1) * 16) = xC d.c d.l ++ (xcs L).take (i * 16) := by
        rw [List.take_append, xC_len, List.take_of_length_le (by rw [xC_len]; omega), show (i + 1) * 16 - 16 = i * 16 by omega]
      have h2 : (xC d.c d.l ++ xcs L).drop ((i + 1) * 16 + 16) = (xcs L).drop (i * 16 + 16) := by
        rw [List.drop_append, xC_len, List.drop_of_length_le (by rw [xC_len]; omega), List.nil_append, show (i + 1) * 16 + 16 - 16 = i * 16 + 16 by omega]
      rw [h1, h2, List.append_assoc]
theorem xC_one (c : Cl) (l : Int) : ∀ u ∈ xC c l, u.oneCell' = true := by
  intro u hu
  simp only [xC, List.mem_cons, List.not_mem_nil, or_false] at hu
  rcases hu with rfl | rfl | rfl | rfl | rfl | rfl | rfl | rfl | rfl | rfl | rfl | rfl | rfl | rfl | rfl | rfl <;> rfl
section
variable {B : Nat} {w w' : World} {L : List Pc}
/-- a caller of a row -/
theorem own_xb {g cap : Nat} (h : w.ownsRow B 38 16 (.slice (some ⟨g, 0, none⟩) L.length cap) L.length (xcs L)) {i : Nat} {s : Pc} (hs : L[i]? = some s) : Xb w g (i * 16) (xC s.c s.l) := by
  obtain ⟨hl, rfl⟩ := List.getElem?_eq_some_iff.1 hs
  obtain ⟨cs, hcs⟩ := own_blk h (k := g) rfl
  refine ⟨⟨cs, hcs, fun j hj => ?_⟩, xC_len _ _⟩
  have h1 := h.cellAt (i * 16 + j) (by omega)
  rw [xcs_get L i j hl hj] at h1
  rw [← h1]
  simp [World.cell?, hcs]
/-- a row with one caller turned -/
theorem own_xput {g cap b : Nat} (h : w.ownsRow B 38 16 (.slice (some ⟨g, 0, none⟩) L.length cap) L.length (xcs L)) {i : Nat} (hi : i < L.length) {s : Pc} (hm : Mc b g (i * 16) w w') (hx : Xb w' g (i * 16) (xC s.c s.l)) : w'.ownsRow B 38 16 (.slice (some ⟨g, 0, none⟩) L.length cap) L.length (xcs (L.set i s)) := by
  refine ⟨by rw [xcs_len, List.length_set], ?_⟩
  rcases h.2 with ⟨h', _⟩ | ⟨g', cap', cur, h', hb, hg, hnc, hcm, hcsz, htake⟩
  · simp at h'
  · simp only [Value.slice.injEq, Option.some.injEq, Addr.mk.injEq, and_true, true_and] at h'
    obtain ⟨rfl, rfl⟩ := h'
    obtain ⟨cs', e1, e2, e3⟩ := hm.row cur _ hg
    obtain ⟨cs2, e4, e5⟩ := hx.blk
    rw [e1] at e4
    injection e4 with e4
    injection e4 with e4
    subst e4
    refine .inr ⟨g, cap, cs', rfl, hb, e1, hnc, hcm, e2.trans hcsz, ?_⟩
    have hlx := xcs_len L
    have hat : ∀ k, k < L.length * 16 → cur[k]? = (xcs L)[k]? := fun k hk => by
      rw [← htake, List.getElem?_take, if_pos hk]; simp
    rw [xcs_set L i s hi]
    apply List.ext_getElem?
    intro k
    rw [List.getElem?_take]
    have hm16 : i * 16 + 16 ≤ L.length * 16 := by omega
    by_cases hk : k < L.length * 16
    · rw [if_pos hk, Array.getElem?_toList]
      by_cases h1 : k < i * 16
      · rw [List.getElem?_append_left (by rw [List.length_take]; omega), List.getElem?_take, if_pos h1, e3 k (.inl h1), hat k hk]
      · rw [List.getElem?_append_right (by rw [List.length_take]; omega), List.length_take, Nat.min_eq_left (by omega)]
        by_cases h2 : k < i * 16 + 16
        · rw [List.getElem?_append_left (by rw [xC_len]; omega), ← e5 (k - i * 16) (by omega), show i * 16 + (k - i * 16) = k by omega]
        · rw [List.getElem?_append_right (by rw [xC_len]; omega), xC_len, List.getElem?_drop, e3 k (.inr (by omega)), hat k hk, show i * 16 + 16 + (k - i * 16 - 16) = k by omega]
    · rw [if_neg hk, List.getElem?_eq_none]
      simp only [List.length_append, List.length_take, List.length_drop, xC_len]
      omega
structure Kc (B : Nat) (w : World) (L : List Pc) : Prop where
  ok : ∀ (i : Nat) (s : Pc), L[i]? = some s → Lk s.c s.l
  cb : ∀ (i : Nat) (s : Pc), L[i]? = some s → Cb w s.b s.c
  lo : ∀ (i : Nat) (s : Pc), L[i]? = some s → B ≤ s.b
  ap : ∀ (i j : Nat) (s t : Pc), L[i]? = some s → L[j]? = some t → i ≠ j → s.b ≠ t.b
theorem Kc.below (h : Kc B w L) (hb : Below w.heap.size w w') : Kc B w' L := ⟨h.ok, fun i s hs => (h.cb i s hs).below hb, h.lo, h.ap⟩
theorem Kc.step (h : Kc B w L) {p g o : Nat} {s s' : Pc} {A : List Value} (hs : L[p]? = some s) (hb : s'.b = s.b) (hk : Lk s'.c s'.l) (h1 : Cb w' s'.b s'.c) (hx : Xb w g o A) (hm : Mc s.b g o w w') : Kc B w' (L.set p s') := by
  have hp : p < L.length := (List.getElem?_eq_some_iff.1 hs).1
  have get : ∀ (j : Nat) (z : Pc), (L.set p s')[j]? = some z → (j = p ∧ z = s') ∨ (j ≠ p ∧ L[j]? = some z) := fun j z hz => by
    by_cases hj : j = p
    · subst hj
      rw [List.getElem?_set_self hp] at hz
      exact .inl ⟨rfl, by injection hz with hz; exact hz.symm⟩
    · rw [List.getElem?_set_ne (Ne.symm hj)] at hz
      exact .inr ⟨hj, hz⟩
  refine ⟨fun i z hz => ?_, fun i z hz => ?_, fun i z hz => ?_, fun i j z v hz hv hij => ?_⟩
  · rcases get i z hz with ⟨_, rfl⟩ | ⟨hj, hz'⟩
    · exact hk
    · exact h.ok i z hz'
  · rcases get i z hz with ⟨_, rfl⟩ | ⟨hj, hz'⟩
    · exact h1
    · have hc := h.cb i z hz'
      exact (hm.block _ hc.lt (h.ap i p z s hz' hs hj) (Ne.symm (hx.ne hc))).trans hc
  · rcases get i z hz with ⟨_, rfl⟩ | ⟨hj, hz'⟩
    · rw [hb]; exact h.lo p s hs
    · exact h.lo i z hz'
  · rcases get i z hz with ⟨rfl, rfl⟩ | ⟨hi, hz'⟩
    · rcases get j v hv with ⟨rfl, rfl⟩ | ⟨hj, hv'⟩
      · exact absurd rfl hij
      · rw [hb]; exact h.ap _ j s v hs hv' hij
    · rcases get j v hv with ⟨rfl, rfl⟩ | ⟨hj, hv'⟩
      · rw [hb]; exact h.ap i _ z s hz' hs hij
      · exact h.ap i j z v hz' hv' hij
/-- all of a script's state -/
structure Mm (B : Nat) (w : World) (vl vm : Value) (L : List Pc) : Prop where
  rl : w.ownsRow B 23 1 vl L.length (pcs L)
  rm : w.ownsRow B 38 16 vm L.length (xcs L)
  kc : Kc B w L
theorem Mm.below {vl vm : Value} (h : Mm B w vl vm L) (hb : Below w.heap.size w w') : Mm B w' vl vm L := ⟨own_below h.rl hb, own_below h.rm hb, h.kc.below hb⟩
theorem Mm.cl {g cap : Nat} {vm : Value} (h : Mm B w (.slice (some ⟨g, 0, none⟩) L.length cap) vm L) {i : Nat} {s : Pc} (hs : L[i]? = some s) : w.cell? ⟨g, i, none⟩ = some (.pointer (some ⟨s.b, 0, none⟩)) := by
  have e1 := h.rl.cells (g := g) rfl i (.pointer (some ⟨s.b, 0, none⟩)) (by unfold pcs; rw [List.getElem?_map, hs]; rfl)
  rw [Addr.add_lit, Nat.zero_add] at e1
  exact e1
theorem Mm.step {gl cl gm cm : Nat} (h : Mm B w (.slice (some ⟨gl, 0, none⟩) L.length cl) (.slice (some ⟨gm, 0, none⟩) L.length cm) L) {p : Nat} {s : Pc} (hs : L[p]? = some s) (c' : Cl) (l' : Int) (hk : Lk c' l') (h1 : Cb w' s.b c') (hx : Xb w' gm (p * 16) (xC c' l')) (hm : Mc s.b gm (p * 16) w w') : Mm B w' (.slice (some ⟨gl, 0, none⟩) L.length cl) (.slice (some ⟨gm, 0, none⟩) L.length cm) (L.set p ⟨s.b, c', l'⟩) := by
  have hp : p < L.length := (List.getElem?_eq_some_iff.1 hs).1
  refine ⟨?_, ?_, h.kc.step (s' := ⟨s.b, c', l'⟩) hs rfl hk h1 (own_xb h.rm hs) hm⟩
  · rw [List.length_set, show pcs (L.set p ⟨s.b, c', l'⟩) = pcs L by
      unfold pcs
      rw [List.map_set]
      apply List.ext_getElem?
      intro i
      by_cases hi : p = i
      · subst hi
        rw [List.getElem?_set_self (by simpa using hp), List.getElem?_map, hs]; rfl
      · rw [List.getElem?_set_ne hi]]
    refine own_keep h.rl fun k hk => ?_
    obtain ⟨cs, hcs⟩ := own_blk h.rl hk
    obtain ⟨cm1, hcm⟩ := own_blk h.rm (k := gm) rfl
    exact hm.block k (lt_of_block hcs) (blk_ne hcs (h.kc.cb p s hs) (by decide)) (blk_ne hcs hcm (by decide))
  · rw [List.length_set]
    exact own_xput (s := ⟨s.b, c', l'⟩) h.rm hp hm hx
/-- one more -/
theorem Kc.push (h : Kc B w L) {s' : Pc} (hk : Lk s'.c s'.l) (h1 : Cb w s'.b s'.c) (hl : B ≤ s'.b) (hn : ∀ (i : Nat) (s : Pc), L[i]? = some s → s.b ≠ s'.b) : Kc B w (L ++ [s']) := by
  have get : ∀ (j : Nat) (z : Pc), (L ++ [s'])[j]? = some z → (j = L.length ∧ z = s') ∨ L[j]? = some z := fun j z hz => by
    by_cases hj : j < L.length
    · rw [List.getElem?_append_left hj] at hz; exact .inr hz
    · rw [List.getElem?_append_right (by omega)] at hz
      have : j - L.length = 0 := by
        by_cases h0 : j - L.length = 0
        · exact h0
        · rw [List.getElem?_eq_none (by simp; omega)] at hz; cases hz
      rw [this] at hz
      exact .inl ⟨by omega, by injection hz with hz; exact hz.symm⟩
  refine ⟨fun i z hz => ?_, fun i z hz => ?_, fun i z hz => ?_, fun i j z v hz hv hij => ?_⟩
  · rcases get i z hz with ⟨_, rfl⟩ | hz'
    · exact hk
    · exact h.ok i z hz'
  · rcases get i z hz with ⟨_, rfl⟩ | hz'
    · exact h1
    · exact h.cb i z hz'
  · rcases get i z hz with ⟨_, rfl⟩ | hz'
    · exact hl
    · exact h.lo i z hz'
  · rcases get i z hz with ⟨e1, rfl⟩ | hz'
    · rcases get j v hv with ⟨e2, rfl⟩ | hv'
      · exact absurd (e1.trans e2.symm) hij
      · exact Ne.symm (hn j v hv')
    · rcases get j v hv with ⟨e2, rfl⟩ | hv'
      · exact hn i z hz'
      · exact h.ap i j z v hz' hv' hij
theorem grown_block {v : Value} {o : Obj} (hg : (w.alloc o).grownBy w' v.ownBlock) : ∀ k, k < w.heap.size → v.ownBlock ≠ some k → w'.heap[k]? = w.heap[k]? := fun k hk hn => (hg.block k (by rw [World.size_alloc]; omega) (Ne.symm hn)).trans (Below.heap_alloc w o k hk)
theorem own_other {e e' : TypeId} {n n' size size' : Nat} {v v' : Value} {xs xs' : List Value} (h : w.ownsRow B e size v n xs) (h' : w.ownsRow B e' size' v' n' xs') (hn : e ≠ e') (hk : ∀ k, k < w.heap.size → v'.ownBlock ≠ some k → w'.heap[k]? = w.heap[k]?) : w'.ownsRow B e size v n xs := own_keep h fun k hk' => by
  obtain ⟨cs, hcs⟩ := own_blk h hk'
  exact hk k (lt_of_block hcs) fun e2 => by
    obtain ⟨ds, hds⟩ := own_blk h' e2; exact blk_ne hcs hds hn rfl
theorem Kc.grown {v : Value} {e : TypeId} {n size : Nat} {xs : List Value} (h : Kc B w L) (ho : w.ownsRow B e size v n xs) (h1 : e ≠ 77) (hk : ∀ k, k < w.heap.size → v.ownBlock ≠ some k → w'.heap[k]? = w.heap[k]?) : Kc B w' L :=
  ⟨h.ok, fun i s hs => (hk _ (h.cb i s hs).lt fun e2 => by obtain ⟨ds, hds⟩ := own_blk ho e2; exact blk_ne hds (h.cb i s hs) h1 rfl).trans (h.cb i s hs), h.lo, h.ap⟩
theorem below_grow {w1 : World} {v : Value} {o : Obj} (h : Below B w w1) (hB : B ≤ w1.heap.size) (hg : (w1.alloc o).grownBy w' v.ownBlock) (hv : ∀ k, v.ownBlock = some k → B ≤ k) : Below B w w' :=
  (h.alloc hB o).grown hg (by rw [World.size_alloc]; omega) hv
end
end Go.Proofs.Ytaikogbeaohmhaa
