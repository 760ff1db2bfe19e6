import Derived.Test.YtkchddphmkgilaaQuL
namespace Go.Proofs.Ytkchddphmkgilaa
open Go.RowKit

/-- cells set one behind the other -/
def setL (l : List Value) (a : Nat) : List Value → List Value
  | [] => l
  | x :: xs => setL (l.set a x) (a + 1) xs
theorem setL_eq : ∀ (xs l : List Value) (a : Nat), a + xs.length ≤ l.length → setL l a xs = l.take a ++ xs ++ l.drop (a + xs.length)
  | [], l, a, _ => by simp [setL]
  | x :: xs, l, a, h => by
    have h' : a + (xs.length + 1) ≤ l.length := by simpa using h
    rw [setL, setL_eq xs (l.set a x) (a + 1) (by simp; omega)]
    exact list_seg_step l a x xs h'
abbrev set8a (w : World) (X a : Nat) (r : Rr) : World := (((((((w.setCell ⟨X, a, none⟩ (.int .i64 r.job)).setCell ⟨X, a + 1, none⟩ (.int .i64 r.st)).setCell ⟨X, a + 2, none⟩ (.int .i64 r.att)).setCell ⟨X, a + 3, none⟩ (.int .i64 r.bdg)).setCell ⟨X, a + 4, none⟩ (.int .i64 r.node)).setCell ⟨X, a + 5, none⟩ (.int .i64 r.life)).setCell ⟨X, a + 6, none⟩ (.int .i64 r.code)).setCell ⟨X, a + 7, none⟩ (.int .u64 r.bits)
theorem set8a_heap {w : World} {X : Nat} {cur : Array Value} {t : TypeId} (h : w.heap[X]? = some (.cells cur t (0, 0))) (a : Nat) (r : Rr) : (set8a w X a r).heap[X]? = some (.cells (setL cur.toList a r.cs).toArray t (0, 0)) := by
  have e0 := heap_set_self w X a (.int .i64 r.job) _ _ _ h
  have e1 := heap_set_self _ X (a + 1) (.int .i64 r.st) _ _ _ e0
  have e2 := heap_set_self _ X (a + 2) (.int .i64 r.att) _ _ _ e1
  have e3 := heap_set_self _ X (a + 3) (.int .i64 r.bdg) _ _ _ e2
  have e4 := heap_set_self _ X (a + 4) (.int .i64 r.node) _ _ _ e3
  have e5 := heap_set_self _ X (a + 5) (.int .i64 r.life) _ _ _ e4
  have e6 := heap_set_self _ X (a + 6) (.int .i64 r.code) _ _ _ e5
  have e7 := heap_set_self _ X (a + 7) (.int .u64 r.bits) _ _ _ e6
  have e8 : (((((((cur.setIfInBounds a (.int .i64 r.job)).setIfInBounds (a + 1) (.int .i64 r.st)).setIfInBounds (a + 2) (.int .i64 r.att)).setIfInBounds (a + 3) (.int .i64 r.bdg)).setIfInBounds (a + 4) (.int .i64 r.node)).setIfInBounds (a + 5) (.int .i64 r.life)).setIfInBounds (a + 6) (.int .i64 r.code)).setIfInBounds (a + 7) (.int .u64 r.bits) = (setL cur.toList a r.cs).toArray := by
    apply Array.ext'
    simp only [Array.toList_setIfInBounds, Rr.cs, setL]
  rw [e8] at e7
  exact e7
theorem take_mid (C xs : List Value) (a N : Nat) (h8 : xs.length = 8) (ha : a + 8 ≤ N) (hN : N ≤ C.length) : (C.take a ++ xs ++ C.drop (a + 8)).take N = (C.take N).take a ++ (xs ++ (C.take N).drop (a + 8)) := by
  obtain ⟨P, R, hC, hP⟩ : ∃ P R, C = P ++ R ∧ P.length = N := ⟨C.take N, C.drop N, (List.take_append_drop N C).symm, by rw [List.length_take]; omega⟩
  subst hC
  have e1 : (P ++ R).take N = P := by rw [← hP]; simp
  rw [e1, List.take_append_of_le_length (show a ≤ P.length by omega), List.drop_append_of_le_length (show a + 8 ≤ P.length by omega)]
  have e2 : (P.take a ++ xs ++ P.drop (a + 8)).length = N := by
    simp only [List.length_append, List.length_take, List.length_drop, h8]
    omega
  rw [show P.take a ++ xs ++ (P.drop (a + 8) ++ R) = (P.take a ++ xs ++ P.drop (a + 8)) ++ R by simp]
  rw [List.take_append_of_le_length (by omega), List.take_of_length_le (by omega), List.append_assoc]
theorem set8a_other (w : World) (X a : Nat) (r : Rr) (k : Nat) (hk : k ≠ X) : (set8a w X a r).heap[k]? = w.heap[k]? :=
  (Below.heap_setCell _ ⟨X, a + 7, none⟩ _ k hk).trans ((Below.heap_setCell _ ⟨X, a + 6, none⟩ _ k hk).trans ((Below.heap_setCell _ ⟨X, a + 5, none⟩ _ k hk).trans ((Below.heap_setCell _ ⟨X, a + 4, none⟩ _ k hk).trans ((Below.heap_setCell _ ⟨X, a + 3, none⟩ _ k hk).trans ((Below.heap_setCell _ ⟨X, a + 2, none⟩ _ k hk).trans ((Below.heap_setCell _ ⟨X, a + 1, none⟩ _ k hk).trans (Below.heap_setCell _ ⟨X, a, none⟩ _ k hk)))))))
theorem set8a_size (w : World) (X a : Nat) (r : Rr) : (set8a w X a r).heap.size = w.heap.size := by
  unfold set8a
  simp only [setCell_size]
/-- only what lies in one block is turned -/
theorem mv_set {F : Nat → Prop} {w w' : World} (h : Mv F F w w') {X : Nat} (hX : F X) (o : Nat) (v : Value) : Mv F F w (w'.setCell ⟨X, o, none⟩ v) :=
  ⟨h.os, h.tape, h.output, by rw [setCell_size]; exact h.size, fun k hk hn => (Below.heap_setCell _ ⟨X, o, none⟩ _ k (show k ≠ X from fun e => hn (by rw [e]; exact hX))).trans (h.block k hk hn), h.foot⟩
theorem mv_set8a {F : Nat → Prop} {w w' : World} (h : Mv F F w w') {X : Nat} (hX : F X) (a : Nat) (r : Rr) : Mv F F w (set8a w' X a r) := by
  have e0 := mv_set h hX a (.int .i64 r.job)
  have e1 := mv_set e0 hX (a + 1) (.int .i64 r.st)
  have e2 := mv_set e1 hX (a + 2) (.int .i64 r.att)
  have e3 := mv_set e2 hX (a + 3) (.int .i64 r.bdg)
  have e4 := mv_set e3 hX (a + 4) (.int .i64 r.node)
  have e5 := mv_set e4 hX (a + 5) (.int .i64 r.life)
  have e6 := mv_set e5 hX (a + 6) (.int .i64 r.code)
  exact mv_set e6 hX (a + 7) (.int .u64 r.bits)
theorem mv_refl (F : Nat → Prop) (w : World) : Mv F F w w := ⟨rfl, rfl, rfl, Nat.le_refl _, fun _ _ _ => rfl, fun _ h => .inl h⟩
theorem mv_alloc {F F' : Nat → Prop} {w w' : World} (h : Mv F F' w w') (o : Obj) : Mv F F' w (w'.alloc o) :=
  ⟨h.os, h.tape, h.output, by rw [World.size_alloc]; exact Nat.le_succ_of_le h.size, fun k hk hn => (Below.heap_alloc _ _ _ (Nat.lt_of_lt_of_le hk h.size)).trans (h.block k hk hn), h.foot⟩
theorem mv_drew {F F' : Nat → Prop} {w w' : World} (h : Mv F F' w w') : Mv F F' w w'.drew := ⟨h.os, h.tape, h.output, h.size, h.block, h.foot⟩
theorem own_set8a {w : World} {B g cap i : Nat} {L : List Rr} (h : w.ownsRow B 30 8 (.slice (some ⟨g, 0, none⟩) L.length cap) L.length (rcs L)) (hi : i < L.length) (r : Rr) :
    (set8a w g (i * 8) r).ownsRow B 30 8 (.slice (some ⟨g, 0, none⟩) L.length cap) L.length (rcs (L.set i r)) := by
  obtain ⟨hl, h2⟩ := h
  rcases h2 with ⟨h1, _⟩ | ⟨g', cap', cur, h1, hb, hg, hc, hm, hs, ht⟩
  · cases h1
  · injection h1 with h1 h2 h3
    injection h1 with h1
    injection h1 with h1
    subst h1; subst h3
    have hle : L.length * 8 ≤ cur.size := by rw [hs]; exact Nat.mul_le_mul_right _ hc
    have h8 : r.cs.length = 8 := rfl
    refine ⟨by rw [rcs_len, List.length_set], .inr ⟨g, cap, _, rfl, hb, set8a_heap hg _ _, hc, hm, ?_, ?_⟩⟩
    · rw [List.size_toArray, setL_eq _ _ _ (by rw [h8, Array.length_toList]; omega)]
      simp only [List.length_append, List.length_take, List.length_drop, h8, Array.length_toList]
      rw [Nat.min_eq_left (by omega)]
      omega
    · rw [List.toList_toArray, setL_eq _ _ _ (by rw [h8, Array.length_toList]; omega), rcs_set L i r hi, h8, ← ht]
      exact take_mid _ _ _ _ h8 (by omega) (by rw [Array.length_toList]; exact hle)
section
variable {T base : Nat} {w : World} {b : Nat} {v : Value} {L : List Rr} {m : Int}
theorem Qm.put1 {w' : World} {v' : Value} {L' : List Rr} (h : w'.heap[b]? = some (.cells #[.int .i64 m, v] T (0, 0))) (low : base ≤ b) (hr : w'.ownsRow base 30 8 v' L'.length (rcs L')) (hn : v'.ownBlock ≠ some b) : Qm T base (w'.setCell ⟨b, 1, none⟩ v') b v' m L' := by
  refine ⟨heap_set_self w' b 1 v' _ _ _ h, low, ?_, hn⟩
  refine ⟨hr.1, ?_⟩
  rcases hr.2 with h1 | ⟨g, cap, cur, rfl, hb, hg, h2⟩
  · exact .inl h1
  · exact .inr ⟨g, cap, cur, rfl, hb, (Below.heap_setCell w' ⟨b, 1, none⟩ _ g (fun e => hn (by rw [← show g = b from e]; rfl))).trans hg, h2⟩
theorem Qm.drew (h : Qm T base w b v m L) : Qm T base w.drew b v m L := h.keep fun _ _ => rfl
theorem Qm.alloc (h : Qm T base w b v m L) (o : Obj) : Qm T base (w.alloc o) b v m L := h.below (below_alloc w o)
theorem Qm.set8a {g cap i : Nat} (h : Qm T base w b (.slice (some ⟨g, 0, none⟩) L.length cap) m L) (hi : i < L.length) (r : Rr) : Qm T base (set8a w g (i * 8) r) b (.slice (some ⟨g, 0, none⟩) (L.set i r).length cap) m (L.set i r) := by
  have hne : b ≠ g := fun e => h.apt (by rw [e]; rfl)
  rw [List.length_set]
  exact ⟨(set8a_other _ _ _ _ _ hne).trans h.blk, h.low, by rw [List.length_set]; exact own_set8a h.row hi r, h.apt⟩
set_option maxHeartbeats 1000000 in
set_option maxRecDepth 8000 in
theorem qput_any (h : Qm 47 base w b v m L) (hl : L.length ≤ 8) {n : Nat} (hn : n < L.length) (r : Rr) (hr : r.job = (n : Int) + 1) : Calls Try.prog 40 #[.pointer (some ⟨b, 0, none⟩), r.val] w fun e w' => e = .returned (.tuple #[]) ∧ Qm 47 base w' b v m (L.set n r) ∧ Mv (Ft b v) (Ft b v) w w' := by
  obtain ⟨ad, cap, ab, rfl, hR, _⟩ := h.form
  have hat := hR.at_ (by omega)
  subst hat
  have hlt := h.lt
  have hlr := hR.lt (by omega)
  obtain ⟨k0, k1, k2, k3, k4, k5, k6, k7⟩ := hR.eight0 hn
  have hfz : ∀ o, w.frozen? ⟨ab, o, none⟩ = false := fun o => by
    rcases h.row.2 with ⟨h1, _⟩ | ⟨g', cap', cur, h1, hb, hg, _⟩
    · cases h1
    · injection h1 with h1; injection h1 with h1; injection h1 with h1; subst h1; simp [World.frozen?, hg]
  have z0 := hfz (n * 8)
  have z1 := hfz (n * 8 + 1)
  have z2 := hfz (n * 8 + 2)
  have z3 := hfz (n * 8 + 3)
  have z4 := hfz (n * 8 + 4)
  have z5 := hfz (n * 8 + 5)
  have z6 := hfz (n * 8 + 6)
  have z7 := hfz (n * 8 + 7)
  have c1 := h.c1
  have HQ : Hid (Qm 47 base ((set8a w ab (n * 8) r).alloc r.obj).drew b (.slice (some ⟨ab, 0, none⟩) L.length cap) m (L.set n r)) := by
    have := ((h.set8a hn r).alloc r.obj).drew
    rw [List.length_set] at this
    exact this
  have HM : Hid (Mv (Ft b (.slice (some ⟨ab, 0, none⟩) L.length cap)) (Ft b (.slice (some ⟨ab, 0, none⟩) L.length cap)) w ((set8a w ab (n * 8) r).alloc r.obj).drew) := hide (mv_drew (mv_alloc (mv_set8a (mv_refl _ _) (.inr rfl) _ _) _))
  have hnI : (n : Int) < (L.length : Int) := by omega
  have hj : r.job - 1 = (n : Int) := by omega
  have hn8 : (n : Int) ≤ 8 := by omega
  clear h hR hfz hr
  go_enter Try.func40, Try.ntmps40
  go_wp2
  go_region
  go_wp2
  go_end0
  exact ⟨rfl, HQ.out, HM.out⟩
end
end Go.Proofs.Ytkchddphmkgilaa
