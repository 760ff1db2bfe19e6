import Derived.Test.YtapcmmljdpallaaWrE
namespace Go.Proofs.Ytapcmmljdpallaa
open Go.RowKit
open Wr (Ms V L)

def chr : L → Int
  | .S => 83 | .N => 78 | .J => 74 | .B => 66 | .I => 73 | .C => 67 | .R => 82 | .T => 84 | .P => 80
/-- four closures of a field, in a world -/
def Fd (A base : Nat) (k : Int) (l : L) (bs : List Nat) (w : World) (v0 v1 v2 v3 : Value) : Prop :=
  ∃ P i1 i2 i3 i4 c1 c2 c3 c4, v0 = .func (.func i1) #[] c1 ∧ v1 = .func (.func i2) #[] c2 ∧ v2 = .func (.func i3) #[] c3 ∧ v3 = .func (.func i4) #[] c4 ∧ P w ∧ FdC A base k l P bs i1 i2 i3 i4 c1 c2 c3 c4
theorem Fd.high {A base : Nat} {k : Int} {l : L} {bs : List Nat} {w : World} {v0 v1 v2 v3 : Value} (h : Fd A base k l bs w v0 v1 v2 v3) : ∀ j ∈ bs, base ≤ j ∧ j < w.heap.size := by
  obtain ⟨P, i1, i2, i3, i4, c1, c2, c3, c4, e0, e1, e2, e3, hP, hF⟩ := h
  exact fun j hj => ⟨hF.low j hj, hF.high _ hP j hj⟩
theorem Fd.mono {A base base' : Nat} {k : Int} {l : L} {bs : List Nat} {w : World} {v0 v1 v2 v3 : Value} (h : Fd A base' k l bs w v0 v1 v2 v3) (hb : base ≤ base') : Fd A base k l bs w v0 v1 v2 v3 := by
  obtain ⟨P, i1, i2, i3, i4, c1, c2, c3, c4, e0, e1, e2, e3, hP, hF⟩ := h
  exact ⟨P, i1, i2, i3, i4, c1, c2, c3, c4, e0, e1, e2, e3, hP, hF.mono hb⟩
theorem Fd.keep {A base : Nat} {k : Int} {l : L} {bs : List Nat} {w w' : World} {v0 v1 v2 v3 : Value} (h : Fd A base k l bs w v0 v1 v2 v3) (hk : ∀ j ∈ bs, w'.heap[j]? = w.heap[j]?) : Fd A base k l bs w' v0 v1 v2 v3 := by
  obtain ⟨P, i1, i2, i3, i4, c1, c2, c3, c4, e0, e1, e2, e3, hP, hF⟩ := h
  exact ⟨P, i1, i2, i3, i4, c1, c2, c3, c4, e0, e1, e2, e3, hF.keep _ _ hP hk, hF⟩
def FOPost (A : Nat) (k : Int) (l : L) (w : World) (e : Ending) (w' : World) : Prop :=
  ∃ v0 v1 v2 v3 bs, e = .returned (.agg #[v0, v1, v2, v3]) ∧ Below w.heap.size w w' ∧ Fd A (w.heap.size + 1) k l bs w' v0 v1 v2 v3
set_option maxHeartbeats 400000 in
theorem lastIndex_any (k : Int) (w : World) : Calls Try.prog 56 #[.int .i64 k] w fun e w' => e = .returned (.int .i64 (Wr.most k .I)) ∧ w' = w := by
  by_cases h : k = 6
  · subst h
    go_enter Try.func56, Try.ntmps56
    go_wp2
    go_ret
    exact ⟨rfl, rfl⟩
  · have hm : Wr.most k .I = 31 := if_neg h
    rw [hm]
    go_enter Try.func56, Try.ntmps56
    go_wp2
    go_ret
    exact ⟨rfl, rfl⟩
set_option maxHeartbeats 400000 in
theorem mostCount_any (k : Int) (w : World) : Calls Try.prog 57 #[.int .i64 k] w fun e w' => e = .returned (.int .i64 (Wr.most k .C)) ∧ w' = w := by
  by_cases h : k = 15
  · subst h
    go_enter Try.func57, Try.ntmps57
    go_wp2
    go_ret
    exact ⟨rfl, rfl⟩
  · have hm : Wr.most k .C = 32 := if_neg h
    rw [hm]
    go_enter Try.func57, Try.ntmps57
    go_wp2
    go_ret
    exact ⟨rfl, rfl⟩
theorem Mg.c0 {w : World} {A : Nat} {m : Ms} (h : Mg w A m) : w.cell? ⟨A, 0, none⟩ = some (.int .i64 m.k) := by unfold Mg at h; simp [World.cell?, h, msgC]
def nil4 : Obj := .cells #[.nilFunc, .nilFunc, .nilFunc, .nilFunc] 81
/-- the result's cell, behind the call that made the field -/
structure Fo (w w1 : World) : Prop where
  q0 : w1.cell? ⟨w.heap.size, 0, none⟩ = some .nilFunc
  q1 : ∀ v0, (w1.setCell ⟨w.heap.size, 0, none⟩ v0).cell? ⟨w.heap.size, 1, none⟩ = some .nilFunc
  q2 : ∀ v0 v1, ((w1.setCell ⟨w.heap.size, 0, none⟩ v0).setCell ⟨w.heap.size, 1, none⟩ v1).cell? ⟨w.heap.size, 2, none⟩ = some .nilFunc
  q3 : ∀ v0 v1 v2, (((w1.setCell ⟨w.heap.size, 0, none⟩ v0).setCell ⟨w.heap.size, 1, none⟩ v1).setCell ⟨w.heap.size, 2, none⟩ v2).cell? ⟨w.heap.size, 3, none⟩ = some .nilFunc
  z0 : ∀ k, w1.frozen? ⟨w.heap.size, k, none⟩ = false
  z1 : ∀ k v0, (w1.setCell ⟨w.heap.size, 0, none⟩ v0).frozen? ⟨w.heap.size, k, none⟩ = false
  z2 : ∀ k v0 v1, ((w1.setCell ⟨w.heap.size, 0, none⟩ v0).setCell ⟨w.heap.size, 1, none⟩ v1).frozen? ⟨w.heap.size, k, none⟩ = false
  z3 : ∀ k v0 v1 v2, (((w1.setCell ⟨w.heap.size, 0, none⟩ v0).setCell ⟨w.heap.size, 1, none⟩ v1).setCell ⟨w.heap.size, 2, none⟩ v2).frozen? ⟨w.heap.size, k, none⟩ = false
  r : ∀ v0 v1 v2 v3, ((((w1.setCell ⟨w.heap.size, 0, none⟩ v0).setCell ⟨w.heap.size, 1, none⟩ v1).setCell ⟨w.heap.size, 2, none⟩ v2).setCell ⟨w.heap.size, 3, none⟩ v3).heap[w.heap.size]? = some (.cells #[v0, v1, v2, v3] 81 (0, 0))
  b : ∀ v0 v1 v2 v3, Below w.heap.size w ((((w1.setCell ⟨w.heap.size, 0, none⟩ v0).setCell ⟨w.heap.size, 1, none⟩ v1).setCell ⟨w.heap.size, 2, none⟩ v2).setCell ⟨w.heap.size, 3, none⟩ v3)
  k : ∀ v0 v1 v2 v3 j, j ≠ w.heap.size → ((((w1.setCell ⟨w.heap.size, 0, none⟩ v0).setCell ⟨w.heap.size, 1, none⟩ v1).setCell ⟨w.heap.size, 2, none⟩ v2).setCell ⟨w.heap.size, 3, none⟩ v3).heap[j]? = w1.heap[j]?
theorem fo_of {w w1 : World} (hb : Below (w.alloc nil4).heap.size (w.alloc nil4) w1) : Fo w w1 := by
  have hR : w1.heap[w.heap.size]? = some (.cells #[.nilFunc, .nilFunc, .nilFunc, .nilFunc] 81 (0, 0)) := (hb.block _ (by simp)).trans (heap_alloc_new w _)
  have hc1 := fun v0 => cells_set hR 0 v0
  have hc2 := fun v0 v1 => cells_set (hc1 v0) 1 v1
  have hc3 := fun v0 v1 v2 => cells_set (hc2 v0 v1) 2 v2
  have hc4 := fun v0 v1 v2 v3 => cells_set (hc3 v0 v1 v2) 3 v3
  have fz : ∀ (w2 : World) (cs : Array Value) (k : Nat), w2.heap[w.heap.size]? = some (.cells cs 81 (0, 0)) → w2.frozen? ⟨w.heap.size, k, none⟩ = false := fun w2 cs k h => by simp [World.frozen?, h]
  have hk : ∀ v0 v1 v2 v3 j, j ≠ w.heap.size → ((((w1.setCell ⟨w.heap.size, 0, none⟩ v0).setCell ⟨w.heap.size, 1, none⟩ v1).setCell ⟨w.heap.size, 2, none⟩ v2).setCell ⟨w.heap.size, 3, none⟩ v3).heap[j]? = w1.heap[j]? := fun v0 v1 v2 v3 j hj => by
    rw [Below.heap_setCell _ _ _ _ hj, Below.heap_setCell _ _ _ _ hj, Below.heap_setCell _ _ _ _ hj, Below.heap_setCell _ _ _ _ hj]
  refine ⟨by simp [World.cell?, hR], fun v0 => by simp [World.cell?, hc1 v0], fun v0 v1 => by simp [World.cell?, hc2 v0 v1], fun v0 v1 v2 => by simp [World.cell?, hc3 v0 v1 v2],
    fun k => fz _ _ k hR, fun k v0 => fz _ _ k (hc1 v0), fun k v0 v1 => fz _ _ k (hc2 v0 v1), fun k v0 v1 v2 => fz _ _ k (hc3 v0 v1 v2), fun v0 v1 v2 v3 => hc4 v0 v1 v2 v3, ?_, hk⟩
  intro v0 v1 v2 v3
  have hs := hb.size
  simp at hs
  exact ⟨hb.os, hb.tape, hb.output, by simp; omega, fun j hj => (hk v0 v1 v2 v3 j (by omega)).trans ((hb.block j (by simp; omega)).trans (Below.heap_alloc w _ j hj))⟩
set_option maxHeartbeats 800000 in
theorem fieldOf_S {w : World} {A : Nat} {m : Ms} (h : Mg w A m) :
    Calls Try.prog 39 #[.pointer (some ⟨A, 0, none⟩), .int .i32 (chr .S)] w (FOPost A m.k .S w) := by
  have hs := h.lt
  have c0 := h.c0
  have hmf := hmf
  have ca : ∀ ob, (w.alloc ob).cell? ⟨A, 0, none⟩ = some (.int .i64 m.k) := fun ob => Lib.cell?_alloc_some _ c0
  unfold chr
  go_enter Try.func39, Try.ntmps39
  go_wp2_with fail
  refine (wholeAt_any ⟨A, 1, none⟩ 1 1099511627776 _).mono ?_
  rintro e w1 ⟨rfl, hb1, hs1, h3⟩
  have h3 : W3 w1 (w.heap.size + 1) ⟨A, 1, none⟩ 1 1099511627776 := by simpa using h3
  have HF := hide (fo_of hb1)
  have H3 := hide h3
  obtain ⟨q0, q1, q2, q3, z0, z1, z2, z3, _, _, _⟩ := HF.out
  clear hb1 h3
  unfold wF p0
  go_wp2
  exact bodyPost_ret (results_cell_row (p := 4) (ty := 81) rfl _ _ w.heap.size 81 _ (0, 0) _ rfl (HF.out.r _ _ _ _) Try.underlying81 rfl (by kernel_rfl)) rfl
    ⟨_, _, _, _, _, rfl, HF.out.b _ _ _ _, _, _, _, _, _, _, _, _, _, rfl, rfl, rfl, rfl, (fd_whole (l := .S) (k := m.k) (X := w.heap.size + 1) (base := w.heap.size + 1) rfl (by omega) (by omega)).keep w1 _ H3.out (fun j hj => HF.out.k _ _ _ _ j (by simp at hj; omega)), (fd_whole (l := .S) (k := m.k) (X := w.heap.size + 1) (base := w.heap.size + 1) rfl (by omega) (by omega))⟩
set_option maxHeartbeats 800000 in
theorem fieldOf_N {w : World} {A : Nat} {m : Ms} (h : Mg w A m) :
    Calls Try.prog 39 #[.pointer (some ⟨A, 0, none⟩), .int .i32 (chr .N)] w (FOPost A m.k .N w) := by
  have hs := h.lt
  have c0 := h.c0
  have hmf := hmf
  have ca : ∀ ob, (w.alloc ob).cell? ⟨A, 0, none⟩ = some (.int .i64 m.k) := fun ob => Lib.cell?_alloc_some _ c0
  unfold chr
  go_enter Try.func39, Try.ntmps39
  go_wp2_with fail
  refine (wholeAt_any ⟨A, 2, none⟩ 1 1099511627776 _).mono ?_
  rintro e w1 ⟨rfl, hb1, hs1, h3⟩
  have h3 : W3 w1 (w.heap.size + 1) ⟨A, 2, none⟩ 1 1099511627776 := by simpa using h3
  have HF := hide (fo_of hb1)
  have H3 := hide h3
  obtain ⟨q0, q1, q2, q3, z0, z1, z2, z3, _, _, _⟩ := HF.out
  clear hb1 h3
  unfold wF p0
  go_wp2
  exact bodyPost_ret (results_cell_row (p := 4) (ty := 81) rfl _ _ w.heap.size 81 _ (0, 0) _ rfl (HF.out.r _ _ _ _) Try.underlying81 rfl (by kernel_rfl)) rfl
    ⟨_, _, _, _, _, rfl, HF.out.b _ _ _ _, _, _, _, _, _, _, _, _, _, rfl, rfl, rfl, rfl, (fd_whole (l := .N) (k := m.k) (X := w.heap.size + 1) (base := w.heap.size + 1) rfl (by omega) (by omega)).keep w1 _ H3.out (fun j hj => HF.out.k _ _ _ _ j (by simp at hj; omega)), (fd_whole (l := .N) (k := m.k) (X := w.heap.size + 1) (base := w.heap.size + 1) rfl (by omega) (by omega))⟩
set_option maxHeartbeats 800000 in
theorem fieldOf_J {w : World} {A : Nat} {m : Ms} (h : Mg w A m) :
    Calls Try.prog 39 #[.pointer (some ⟨A, 0, none⟩), .int .i32 (chr .J)] w (FOPost A m.k .J w) := by
  have hs := h.lt
  have c0 := h.c0
  have hmf := hmf
  have ca : ∀ ob, (w.alloc ob).cell? ⟨A, 0, none⟩ = some (.int .i64 m.k) := fun ob => Lib.cell?_alloc_some _ c0
  unfold chr
  go_enter Try.func39, Try.ntmps39
  go_wp2_with fail
  refine (wholeAt_any ⟨A, 3, none⟩ 1 8 _).mono ?_
  rintro e w1 ⟨rfl, hb1, hs1, h3⟩
  have h3 : W3 w1 (w.heap.size + 1) ⟨A, 3, none⟩ 1 8 := by simpa using h3
  have HF := hide (fo_of hb1)
  have H3 := hide h3
  obtain ⟨q0, q1, q2, q3, z0, z1, z2, z3, _, _, _⟩ := HF.out
  clear hb1 h3
  unfold wF p0
  go_wp2
  exact bodyPost_ret (results_cell_row (p := 4) (ty := 81) rfl _ _ w.heap.size 81 _ (0, 0) _ rfl (HF.out.r _ _ _ _) Try.underlying81 rfl (by kernel_rfl)) rfl
    ⟨_, _, _, _, _, rfl, HF.out.b _ _ _ _, _, _, _, _, _, _, _, _, _, rfl, rfl, rfl, rfl, (fd_whole (l := .J) (k := m.k) (X := w.heap.size + 1) (base := w.heap.size + 1) rfl (by omega) (by omega)).keep w1 _ H3.out (fun j hj => HF.out.k _ _ _ _ j (by simp at hj; omega)), (fd_whole (l := .J) (k := m.k) (X := w.heap.size + 1) (base := w.heap.size + 1) rfl (by omega) (by omega))⟩
set_option maxHeartbeats 800000 in
theorem fieldOf_B {w : World} {A : Nat} {m : Ms} (h : Mg w A m) :
    Calls Try.prog 39 #[.pointer (some ⟨A, 0, none⟩), .int .i32 (chr .B)] w (FOPost A m.k .B w) := by
  have hs := h.lt
  have c0 := h.c0
  have hmf := hmf
  have ca : ∀ ob, (w.alloc ob).cell? ⟨A, 0, none⟩ = some (.int .i64 m.k) := fun ob => Lib.cell?_alloc_some _ c0
  unfold chr
  go_enter Try.func39, Try.ntmps39
  go_wp2_with fail
  refine (wholeAt_any ⟨A, 4, none⟩ 1 1099511627776 _).mono ?_
  rintro e w1 ⟨rfl, hb1, hs1, h3⟩
  have h3 : W3 w1 (w.heap.size + 1) ⟨A, 4, none⟩ 1 1099511627776 := by simpa using h3
  have HF := hide (fo_of hb1)
  have H3 := hide h3
  obtain ⟨q0, q1, q2, q3, z0, z1, z2, z3, _, _, _⟩ := HF.out
  clear hb1 h3
  unfold wF p0
  go_wp2
  exact bodyPost_ret (results_cell_row (p := 4) (ty := 81) rfl _ _ w.heap.size 81 _ (0, 0) _ rfl (HF.out.r _ _ _ _) Try.underlying81 rfl (by kernel_rfl)) rfl
    ⟨_, _, _, _, _, rfl, HF.out.b _ _ _ _, _, _, _, _, _, _, _, _, _, rfl, rfl, rfl, rfl, (fd_whole (l := .B) (k := m.k) (X := w.heap.size + 1) (base := w.heap.size + 1) rfl (by omega) (by omega)).keep w1 _ H3.out (fun j hj => HF.out.k _ _ _ _ j (by simp at hj; omega)), (fd_whole (l := .B) (k := m.k) (X := w.heap.size + 1) (base := w.heap.size + 1) rfl (by omega) (by omega))⟩
set_option maxHeartbeats 800000 in
theorem fieldOf_I {w : World} {A : Nat} {m : Ms} (h : Mg w A m) :
    Calls Try.prog 39 #[.pointer (some ⟨A, 0, none⟩), .int .i32 (chr .I)] w (FOPost A m.k .I w) := by
  have hs := h.lt
  have c0 := h.c0
  have hmf := hmf
  have ca : ∀ ob, (w.alloc ob).cell? ⟨A, 0, none⟩ = some (.int .i64 m.k) := fun ob => Lib.cell?_alloc_some _ c0
  unfold chr
  go_enter Try.func39, Try.ntmps39
  go_wp2_with fail
  have hsz : (w.alloc (.cells #[.nilFunc, .nilFunc, .nilFunc, .nilFunc] 81)).drew.heap.size = w.heap.size + 1 := by simp
  have hn : A ≠ w.heap.size := by omega
  go_region_held3 (fun w' => w'.cell? ⟨A, 0, none⟩ = some (.int .i64 m.k)) (first | go_keep | exact ka | exact cell_other (cell_other (cell_other (cell_other ka hn) hn) hn) hn) (first
    | (go_at_call 56; refine (lastIndex_any m.k _).mono ?_; rintro e w0 ⟨rfl, rfl⟩)
    | (go_at_call 55; refine (wholeAt_any ⟨A, 5, none⟩ 0 (Wr.most m.k .I) _).mono ?_; rintro e w1 ⟨rfl, hb1, hs1, h3⟩; have HF := hide (fo_of (w := w) (w1 := w1) ⟨hb1.os, hb1.tape, hb1.output, hb1.size, hb1.block⟩); have ka : w1.cell? ⟨A, 0, none⟩ = some (.int .i64 m.k) := (hb1.cell (p := ⟨A, 0, none⟩) (by simp; omega)).trans (ca _); obtain ⟨q0, q1, q2, q3, z0, z1, z2, z3, _, _, _⟩ := HF.out; rw [hsz] at h3 ⊢; have H3 := hide h3; clear h3 hb1 hs1; unfold wF p0))
  go_wp2
  exact bodyPost_ret (results_cell_row (p := 4) (ty := 81) rfl _ _ w.heap.size 81 _ (0, 0) _ rfl (HF.out.r _ _ _ _) Try.underlying81 rfl (by kernel_rfl)) rfl
    ⟨_, _, _, _, _, rfl, HF.out.b _ _ _ _, _, _, _, _, _, _, _, _, _, rfl, rfl, rfl, rfl, (fd_whole (l := .I) (k := m.k) (X := w.heap.size + 1) (base := w.heap.size + 1) rfl (by omega) (by omega)).keep w1 _ H3.out (fun j hj => HF.out.k _ _ _ _ j (by simp at hj; omega)), (fd_whole (l := .I) (k := m.k) (X := w.heap.size + 1) (base := w.heap.size + 1) rfl (by omega) (by omega))⟩
set_option maxHeartbeats 800000 in
theorem fieldOf_C {w : World} {A : Nat} {m : Ms} (h : Mg w A m) :
    Calls Try.prog 39 #[.pointer (some ⟨A, 0, none⟩), .int .i32 (chr .C)] w (FOPost A m.k .C w) := by
  have hs := h.lt
  have c0 := h.c0
  have hmf := hmf
  have ca : ∀ ob, (w.alloc ob).cell? ⟨A, 0, none⟩ = some (.int .i64 m.k) := fun ob => Lib.cell?_alloc_some _ c0
  unfold chr
  go_enter Try.func39, Try.ntmps39
  go_wp2_with fail
  have hsz : (w.alloc (.cells #[.nilFunc, .nilFunc, .nilFunc, .nilFunc] 81)).drew.heap.size = w.heap.size + 1 := by simp
  have hn : A ≠ w.heap.size := by omega
  go_region_held3 (fun w' => w'.cell? ⟨A, 0, none⟩ = some (.int .i64 m.k)) (first | go_keep | exact ka | exact cell_other (cell_other (cell_other (cell_other ka hn) hn) hn) hn) (first
    | (go_at_call 57; refine (mostCount_any m.k _).mono ?_; rintro e w0 ⟨rfl, rfl⟩)
    | (go_at_call 55; refine (wholeAt_any ⟨A, 6, none⟩ 0 (Wr.most m.k .C) _).mono ?_; rintro e w1 ⟨rfl, hb1, hs1, h3⟩; have HF := hide (fo_of (w := w) (w1 := w1) ⟨hb1.os, hb1.tape, hb1.output, hb1.size, hb1.block⟩); have ka : w1.cell? ⟨A, 0, none⟩ = some (.int .i64 m.k) := (hb1.cell (p := ⟨A, 0, none⟩) (by simp; omega)).trans (ca _); obtain ⟨q0, q1, q2, q3, z0, z1, z2, z3, _, _, _⟩ := HF.out; rw [hsz] at h3 ⊢; have H3 := hide h3; clear h3 hb1 hs1; unfold wF p0))
  go_wp2
  exact bodyPost_ret (results_cell_row (p := 4) (ty := 81) rfl _ _ w.heap.size 81 _ (0, 0) _ rfl (HF.out.r _ _ _ _) Try.underlying81 rfl (by kernel_rfl)) rfl
    ⟨_, _, _, _, _, rfl, HF.out.b _ _ _ _, _, _, _, _, _, _, _, _, _, rfl, rfl, rfl, rfl, (fd_whole (l := .C) (k := m.k) (X := w.heap.size + 1) (base := w.heap.size + 1) rfl (by omega) (by omega)).keep w1 _ H3.out (fun j hj => HF.out.k _ _ _ _ j (by simp at hj; omega)), (fd_whole (l := .C) (k := m.k) (X := w.heap.size + 1) (base := w.heap.size + 1) rfl (by omega) (by omega))⟩
set_option maxHeartbeats 800000 in
theorem fieldOf_R {w : World} {A : Nat} {m : Ms} (h : Mg w A m) :
    Calls Try.prog 39 #[.pointer (some ⟨A, 0, none⟩), .int .i32 (chr .R)] w (FOPost A m.k .R w) := by
  have hs := h.lt
  have c0 := h.c0
  have hmf := hmf
  have ca : ∀ ob, (w.alloc ob).cell? ⟨A, 0, none⟩ = some (.int .i64 m.k) := fun ob => Lib.cell?_alloc_some _ c0
  unfold chr
  go_enter Try.func39, Try.ntmps39
  go_wp2_with fail
  refine (resultAt_any A 7 _).mono ?_
  rintro e w1 ⟨Y, C, hY, hC, rfl, hb1, h3⟩
  have hY : w.heap.size + 1 ≤ Y := by simpa using hY
  have hC : w.heap.size + 1 ≤ C := by simpa using hC
  have h3 : R3 w1 (w.heap.size + 1) Y C A 7 := by simpa using h3
  have HF := hide (fo_of hb1)
  have H3 := hide h3
  obtain ⟨q0, q1, q2, q3, z0, z1, z2, z3, _, _, _⟩ := HF.out
  clear hb1 h3
  unfold rF p0
  go_wp2
  exact bodyPost_ret (results_cell_row (p := 4) (ty := 81) rfl _ _ w.heap.size 81 _ (0, 0) _ rfl (HF.out.r _ _ _ _) Try.underlying81 rfl (by kernel_rfl)) rfl
    ⟨_, _, _, _, _, rfl, HF.out.b _ _ _ _, _, _, _, _, _, _, _, _, _, rfl, rfl, rfl, rfl, (fd_res (k := m.k) (A := A) (X := w.heap.size + 1) (Y := Y) (C := C) (base := w.heap.size + 1) (by omega) (by omega) (by omega) (by omega)).keep w1 _ H3.out (fun j hj => HF.out.k _ _ _ _ j (by simp at hj; omega)), (fd_res (k := m.k) (X := w.heap.size + 1) (Y := Y) (C := C) (A := A) (base := w.heap.size + 1) (by omega) (by omega) (by omega) (by omega))⟩
set_option maxHeartbeats 800000 in
theorem fieldOf_T {w : World} {A : Nat} {m : Ms} (h : Mg w A m) :
    Calls Try.prog 39 #[.pointer (some ⟨A, 0, none⟩), .int .i32 (chr .T)] w (FOPost A m.k .T w) := by
  have hs := h.lt
  have c0 := h.c0
  have hmf := hmf
  have ca : ∀ ob, (w.alloc ob).cell? ⟨A, 0, none⟩ = some (.int .i64 m.k) := fun ob => Lib.cell?_alloc_some _ c0
  unfold chr
  go_enter Try.func39, Try.ntmps39
  go_wp2_with fail
  refine (textAt_any ⟨A, 9, none⟩ 0 32 _).mono ?_
  rintro e w1 ⟨rfl, hb1, hs1, h3⟩
  have h3 : T3 w1 (w.heap.size + 1) ⟨A, 9, none⟩ 0 32 := by simpa using h3
  have HF := hide (fo_of hb1)
  have H3 := hide h3
  obtain ⟨q0, q1, q2, q3, z0, z1, z2, z3, _, _, _⟩ := HF.out
  clear hb1 h3
  unfold tF p0
  go_wp2
  exact bodyPost_ret (results_cell_row (p := 4) (ty := 81) rfl _ _ w.heap.size 81 _ (0, 0) _ rfl (HF.out.r _ _ _ _) Try.underlying81 rfl (by kernel_rfl)) rfl
    ⟨_, _, _, _, _, rfl, HF.out.b _ _ _ _, _, _, _, _, _, _, _, _, _, rfl, rfl, rfl, rfl, (fd_text (l := .T) (k := m.k) (X := w.heap.size + 1) (base := w.heap.size + 1) rfl (by omega) (by omega)).keep w1 _ H3.out (fun j hj => HF.out.k _ _ _ _ j (by simp at hj; omega)), (fd_text (l := .T) (k := m.k) (X := w.heap.size + 1) (base := w.heap.size + 1) rfl (by omega) (by omega))⟩
set_option maxHeartbeats 800000 in
theorem fieldOf_P {w : World} {A : Nat} {m : Ms} (h : Mg w A m) :
    Calls Try.prog 39 #[.pointer (some ⟨A, 0, none⟩), .int .i32 (chr .P)] w (FOPost A m.k .P w) := by
  have hs := h.lt
  have c0 := h.c0
  have hmf := hmf
  have ca : ∀ ob, (w.alloc ob).cell? ⟨A, 0, none⟩ = some (.int .i64 m.k) := fun ob => Lib.cell?_alloc_some _ c0
  unfold chr
  go_enter Try.func39, Try.ntmps39
  go_wp2_with fail
  refine (textAt_any ⟨A, 10, none⟩ 1 1024 _).mono ?_
  rintro e w1 ⟨rfl, hb1, hs1, h3⟩
  have h3 : T3 w1 (w.heap.size + 1) ⟨A, 10, none⟩ 1 1024 := by simpa using h3
  have HF := hide (fo_of hb1)
  have H3 := hide h3
  obtain ⟨q0, q1, q2, q3, z0, z1, z2, z3, _, _, _⟩ := HF.out
  clear hb1 h3
  unfold tF p0
  go_wp2
  exact bodyPost_ret (results_cell_row (p := 4) (ty := 81) rfl _ _ w.heap.size 81 _ (0, 0) _ rfl (HF.out.r _ _ _ _) Try.underlying81 rfl (by kernel_rfl)) rfl
    ⟨_, _, _, _, _, rfl, HF.out.b _ _ _ _, _, _, _, _, _, _, _, _, _, rfl, rfl, rfl, rfl, (fd_text (l := .P) (k := m.k) (X := w.heap.size + 1) (base := w.heap.size + 1) rfl (by omega) (by omega)).keep w1 _ H3.out (fun j hj => HF.out.k _ _ _ _ j (by simp at hj; omega)), (fd_text (l := .P) (k := m.k) (X := w.heap.size + 1) (base := w.heap.size + 1) rfl (by omega) (by omega))⟩
end Go.Proofs.Ytapcmmljdpallaa
