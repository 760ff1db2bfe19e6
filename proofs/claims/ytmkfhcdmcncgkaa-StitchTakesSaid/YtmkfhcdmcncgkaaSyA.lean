import Derived.Test.YtmkfhcdmcncgkaaSxTw
import Derived.Deep.DeepCutAuto
namespace Go.Proofs.Ytmkfhcdmcncgkaa
open Go.RowKit Go.Shelf

/-- the cells of the document's stitcher -/
def xcs (win n : Int) (H : List Bool) (T : List ByteArray) : List Value := .int .i64 win :: .int .i64 n :: (H.map Value.bool ++ T.map Value.string)
theorem xcs_len {win n : Int} {H : List Bool} {T : List ByteArray} (h : H.length = 32) (t : T.length = 32) : (xcs win n H T).length = 66 := by simp [xcs, h, t]
/-- the document's stitcher in memory -/
structure Xb (w : World) (x : Nat) (win n : Int) (H : List Bool) (T : List ByteArray) : Prop where
  blk : w.heap[x]? = some (.cells (xcs win n H T).toArray 39 (0, 0))
  hl : H.length = 32
  tl : T.length = 32
section
variable {w w' : World} {x : Nat} {win n : Int} {H : List Bool} {T : List ByteArray}
theorem Xb.lt (h : Xb w x win n H T) : x < w.heap.size := lt_of_block h.blk
theorem Xb.keep (h : Xb w x win n H T) (e : w'.heap[x]? = w.heap[x]?) : Xb w' x win n H T := ⟨e.trans h.blk, h.hl, h.tl⟩
theorem Xb.below (h : Xb w x win n H T) (hb : Below w.heap.size w w') : Xb w' x win n H T := h.keep (hb.block _ h.lt)
theorem Xb.cell (h : Xb w x win n H T) (k : Nat) : w.cell? ⟨x, k, none⟩ = (xcs win n H T)[k]? := by simp [World.cell?, h.blk]
theorem Xb.c0 (h : Xb w x win n H T) : w.cell? ⟨x, 0, none⟩ = some (.int .i64 win) := h.cell 0
theorem Xb.c1 (h : Xb w x win n H T) : w.cell? ⟨x, 1, none⟩ = some (.int .i64 n) := h.cell 1
theorem Xb.ch (h : Xb w x win n H T) {i : Nat} {b : Bool} (hi : H[i]? = some b) : w.cell? ⟨x, 2 + i, none⟩ = some (.bool b) := by
  obtain ⟨h1, h2⟩ := List.getElem?_eq_some_iff.1 hi
  rw [h.cell, show 2 + i = i + 1 + 1 by omega]
  simp only [xcs, List.getElem?_cons_succ]
  rw [List.getElem?_append_left (by simpa using h1), List.getElem?_map, hi]
  rfl
theorem Xb.ct (h : Xb w x win n H T) {i : Nat} {t : ByteArray} (hi : T[i]? = some t) : w.cell? ⟨x, 34 + i, none⟩ = some (.string t) := by
  rw [h.cell, show 34 + i = i + 32 + 1 + 1 by omega]
  simp only [xcs, List.getElem?_cons_succ]
  rw [List.getElem?_append_right (by simp [h.hl]), List.length_map, h.hl, Nat.add_sub_cancel, List.getElem?_map, hi]
  rfl
theorem Xb.z (h : Xb w x win n H T) (k : Nat) : w.frozen? ⟨x, k, none⟩ = false := by simp [World.frozen?, h.blk]
theorem Xb.setAny (h : Xb w x win n H T) (k : Nat) (v : Value) : (w.setCell ⟨x, k, none⟩ v).heap[x]? = some (.cells ((xcs win n H T).set k v).toArray 39 (0, 0)) := by
  have := h.blk
  simp only [World.setCell, Array.getElem?_modify]
  rw [this]
  simp
theorem Xb.setN (h : Xb w x win n H T) (k : Int) : Xb (w.setCell ⟨x, 1, none⟩ (.int .i64 k)) x win k H T := ⟨h.setAny 1 _, h.hl, h.tl⟩
theorem Xb.setH (h : Xb w x win n H T) {i : Nat} (hi : i < 32) (b : Bool) : Xb (w.setCell ⟨x, 2 + i, none⟩ (.bool b)) x win n (H.set i b) T := by
  refine ⟨(h.setAny (2 + i) _).trans ?_, by rw [List.length_set]; exact h.hl, h.tl⟩
  rw [show 2 + i = i + 1 + 1 by omega]
  simp only [xcs, List.set_cons_succ]
  rw [List.set_append_left i (Value.bool b) (by simp [h.hl, hi]), ← List.map_set]
theorem Xb.setT (h : Xb w x win n H T) {i : Nat} (t : ByteArray) : Xb (w.setCell ⟨x, 34 + i, none⟩ (.string t)) x win n H (T.set i t) := by
  refine ⟨(h.setAny (34 + i) _).trans ?_, h.hl, by rw [List.length_set]; exact h.tl⟩
  rw [show 34 + i = i + 32 + 1 + 1 by omega]
  simp only [xcs, List.set_cons_succ]
  rw [List.set_append_right (i + 32) (Value.string t) (by simp [h.hl]), List.length_map, h.hl, Nat.add_sub_cancel, ← List.map_set]
end
set_option maxHeartbeats 1000000 in
theorem xnew_yes {a c : Int} (h : nok a c = true) (w : World) : Calls Try.prog 7 #[.int .i64 a, .int .i64 c] w fun e w' => e = .returned (.tuple #[.pointer (some ⟨w.heap.size, 0, none⟩), .int .i64 0]) ∧ Xb w' w.heap.size a c (List.replicate 32 false) (List.replicate 32 ByteArray.empty) ∧ Below w.heap.size w w' := by
  have h' : 1 ≤ a ∧ a ≤ 8 ∧ 0 ≤ c ∧ c ≤ 32 := by simpa [nok] using h
  have b1 : decide (a < 1) = false := by simp; omega
  have b2 : decide (8 < a) = false := by simp; omega
  have b3 : decide (c < 0) = false := by simp; omega
  have b4 : decide (32 < c) = false := by simp; omega
  clear h h'
  obtain ⟨zc, hzc⟩ : ∃ zc : Array Value, zc = (xcs 0 0 (List.replicate 32 false) (List.replicate 32 ByteArray.empty)).toArray := ⟨_, rfl⟩
  have hZV : ∀ w, (zeroValue 39).run Try.prog w = .ok (.agg zc) w := fun w => by rw [hzc]; kernel_rfl
  have hzs : zc.size = 66 := by rw [hzc]; rfl
  have hne : zc ≠ #[] := fun e => by rw [e] at hzs; cases hzs
  have e9 : (xcs a c (List.replicate 32 false) (List.replicate 32 ByteArray.empty)).toArray = (zc.setIfInBounds 0 (.int .i64 a)).setIfInBounds 1 (.int .i64 c) := by rw [hzc]; rfl
  have E9 := hide e9
  clear hzc e9
  go_enter Try.func7, Try.ntmps7
  go_wp2_with fail
  go_ret2
  refine ⟨rfl, ⟨?_, rfl, rfl⟩, below_alloc _ _⟩
  rw [E9.out]
  exact heap_alloc_new _ _
set_option maxHeartbeats 1000000 in
theorem xnew_no {a c : Int} (h : nok a c = false) (w : World) : Calls Try.prog 7 #[.int .i64 a, .int .i64 c] w fun e w' => e = .returned (.tuple #[.pointer none, .int .i64 150]) ∧ w' = w := by
  have h' : ¬ (1 ≤ a ∧ a ≤ 8 ∧ 0 ≤ c ∧ c ≤ 32) := by simpa [nok] using h
  clear h
  by_cases h1 : a < 1
  · have b1 : decide (a < 1) = true := by simpa using h1
    clear h1 h'
    go_enter Try.func7, Try.ntmps7
    go_wp2
    go_ret2
    exact ⟨rfl, rfl⟩
  have b1 : decide (a < 1) = false := by simpa using h1
  by_cases h2 : 8 < a
  · have b2 : decide (8 < a) = true := by simpa using h2
    clear h1 h' h2
    go_enter Try.func7, Try.ntmps7
    go_wp2
    go_ret2
    exact ⟨rfl, rfl⟩
  have b2 : decide (8 < a) = false := by simpa using h2
  by_cases h3 : c < 0
  · have b3 : decide (c < 0) = true := by simpa using h3
    clear h1 h' h2 h3
    go_enter Try.func7, Try.ntmps7
    go_wp2
    go_ret2
    exact ⟨rfl, rfl⟩
  have b3 : decide (c < 0) = false := by simpa using h3
  have b4 : decide (32 < c) = true := by simp; omega
  clear h1 h' h2 h3
  go_enter Try.func7, Try.ntmps7
  go_wp2
  go_ret2
  exact ⟨rfl, rfl⟩
/-- the document's stitcher has these -/
def LkM (M : List Hx) (H : List Bool) (T : List ByteArray) : Prop := ∀ i : Nat, i < 32 → H[i]? = some (has i M) ∧ (has i M = true → T[i]? = some (fnd i M).tx)
theorem lk_new : LkM [] (List.replicate 32 false) (List.replicate 32 ByteArray.empty) := fun i hi => ⟨by rw [List.getElem?_replicate, if_pos hi]; rfl, fun h => by simp [has] at h⟩
theorem has_put (i k : Int) (t : ByteArray) (M : List Hx) : has i (put ⟨k, t⟩ M) = (i == k || has i M) := by
  rw [Bool.eq_iff_iff, Bool.or_eq_true, has_iff, has_iff]
  constructor
  · rintro ⟨x, hx, e⟩
    rcases mem_put.1 hx with rfl | ⟨hx, _⟩
    · exact .inl (by simpa using e.symm)
    · exact .inr ⟨x, hx, e⟩
  · rintro (h | ⟨x, hx, e⟩)
    · exact ⟨⟨k, t⟩, mem_put.2 (.inl rfl), by simpa using (eq_of_beq h).symm⟩
    · by_cases hk : x.no = k
      · exact ⟨⟨k, t⟩, mem_put.2 (.inl rfl), by simp only; omega⟩
      · exact ⟨x, mem_put.2 (.inr ⟨hx, hk⟩), e⟩
theorem has_del (i n : Int) (M : List Hx) : has i (del n M) = (i != n && has i M) := by
  rw [Bool.eq_iff_iff, Bool.and_eq_true, has_iff, has_iff]
  constructor
  · rintro ⟨x, hx, e⟩
    obtain ⟨h1, h2⟩ := mem_del.1 hx
    exact ⟨by simp; omega, x, h1, e⟩
  · rintro ⟨h, x, hx, e⟩
    have : i ≠ n := by simpa using h
    exact ⟨x, mem_del.2 ⟨hx, by omega⟩, e⟩
theorem fnd_same {A B : List Hx} (hA : Rise A) {i : Int} (hb : has i B = true) (hm : fnd i B ∈ A) : fnd i A = fnd i B := by
  have h := fnd_at hA hm
  rwa [(fnd_mem hb).2] at h
theorem LkM.put {M : List Hx} {H : List Bool} {T : List ByteArray} (h : LkM M H T) (hR : Rise M) (hl : H.length = 32) (tl : T.length = 32) {k : Nat} (hk : k < 32) (t : ByteArray) : LkM (put ⟨k, t⟩ M) (H.set k true) (T.set k t) := fun i hi => by
  obtain ⟨h1, h2⟩ := h i hi
  rw [has_put]
  by_cases e : i = k
  · subst e
    rw [List.getElem?_set_self (by omega), List.getElem?_set_self (by omega)]
    refine ⟨by simp, fun _ => ?_⟩
    have := fnd_at (put_rise hR ⟨(i : Int), t⟩) (x := ⟨i, t⟩) (mem_put.2 (.inl rfl))
    simp only at this
    rw [this]
  · rw [List.getElem?_set_ne (fun e2 => e e2.symm), List.getElem?_set_ne (fun e2 => e e2.symm)]
    have e3 : ((i : Int) == (k : Int)) = false := by simp; omega
    rw [e3, Bool.false_or]
    refine ⟨h1, fun hh => ?_⟩
    rw [h2 hh]
    congr 2
    exact (fnd_same (put_rise hR _) hh (mem_put.2 (.inr ⟨(fnd_mem hh).1, by rw [(fnd_mem hh).2]; simp only; omega⟩))).symm
theorem LkM.del {M : List Hx} {H : List Bool} {T : List ByteArray} (h : LkM M H T) (hR : Rise M) (hl : H.length = 32) {k : Nat} : LkM (del k M) (H.set k false) T := fun i hi => by
  obtain ⟨h1, h2⟩ := h i hi
  rw [has_del]
  by_cases e : i = k
  · subst e
    rw [List.getElem?_set_self (by omega)]
    exact ⟨by simp, fun h => by simp at h⟩
  · rw [List.getElem?_set_ne (fun e2 => e e2.symm)]
    have e3 : ((i : Int) != (k : Int)) = true := by simp; omega
    rw [e3, Bool.true_and]
    refine ⟨h1, fun hh => ?_⟩
    rw [h2 hh]
    congr 2
    exact (fnd_same (del_rise hR _) hh (mem_del.2 ⟨(fnd_mem hh).1, by rw [(fnd_mem hh).2]; omega⟩)).symm
/-- the numbers, by the marks -/
def nums (H : List Bool) (i : Nat) : List Int := ((List.range i).filter fun j => H.getD j false).map Int.ofNat
theorem nums_yes {H : List Bool} {i : Nat} (h : H[i]? = some true) : nums H (i + 1) = nums H i ++ [(i : Int)] := by
  unfold nums
  rw [List.range_succ, List.filter_append, List.map_append]
  simp [List.getD_eq_getElem?_getD, h]
theorem nums_no {H : List Bool} {i : Nat} (h : H[i]? = some false) : nums H (i + 1) = nums H i := by
  unfold nums
  rw [List.range_succ, List.filter_append, List.map_append]
  simp [List.getD_eq_getElem?_getD, h]
theorem nums_len (H : List Bool) (i : Nat) : (nums H i).length ≤ i := by
  unfold nums
  rw [List.length_map]
  have := List.length_filter_le (fun j => H.getD j false) (List.range i)
  simpa using this
theorem nums_all {M : List Hx} {H : List Bool} {T : List ByteArray} (h : LkM M H T) (hR : Rise M) (hb : ∀ x ∈ M, 0 ≤ x.no ∧ x.no < 32) : nums H 32 = nos M := by
  have h1 : (nums H 32).Pairwise (· < ·) := by
    unfold nums
    refine List.pairwise_map.2 ((List.Pairwise.filter _ (List.pairwise_lt_range (n := 32))).imp fun h => ?_)
    exact Int.ofNat_lt.2 h
  refine sorted_eq (h1.imp fun h => Int.le_of_lt h) (nos_rise hR) ?_
  refine (List.perm_ext_iff_of_nodup (h1.imp fun h => Int.ne_of_lt h) ((nos_rise hR).imp fun h => Int.ne_of_lt h)).2 fun z => ?_
  unfold nums nos
  simp only [List.mem_map, List.mem_filter, List.mem_range]
  constructor
  · rintro ⟨j, ⟨hj, hq⟩, rfl⟩
    have := (h j hj).1
    rw [List.getD_eq_getElem?_getD, this, Option.getD_some] at hq
    obtain ⟨x, hx, e⟩ := has_iff.1 hq
    exact ⟨x, hx, e⟩
  · rintro ⟨x, hx, rfl⟩
    have hbx := hb x hx
    refine ⟨x.no.toNat, ⟨by omega, ?_⟩, by simp only [Int.ofNat_eq_natCast]; omega⟩
    rw [List.getD_eq_getElem?_getD, (h x.no.toNat (by omega)).1, Option.getD_some]
    exact has_iff.2 ⟨x, hx, by omega⟩
end Go.Proofs.Ytmkfhcdmcncgkaa
