import Derived.Test.YtapcmmljdpallaaWrB
import Derived.Laws.Concat
namespace Go.Proofs.Ytapcmmljdpallaa
open Go.RowKit

def rF (X C : Nat) : Array Value := #[.func (.func 70) #[] #[p0 C, p0 X], .func (.func 72) #[] #[p0 X], .func (.func 73) #[] #[p0 C, p0 X], .func (.func 75) #[] #[p0 C, p0 X]]
structure R3 (w : World) (X Y C A : Nat) (o : Nat) : Prop where
  a : Bx w X (.pointer (some ⟨A, o, none⟩)) 126
  c : W3 w Y ⟨A, o, none⟩ 0 7
  f : w.heap[C]? = some (.cells (wF Y) 81 (0, 0))
theorem R3.c0 {w : World} {X Y C A o : Nat} (h : R3 w X Y C A o) : w.cell? ⟨C, 0, none⟩ = some (.func (.func 66) #[] #[p0 (Y + 1), p0 Y, p0 (Y + 2)]) := by have := h.f; simp [World.cell?, this, wF]
theorem R3.c2 {w : World} {X Y C A o : Nat} (h : R3 w X Y C A o) : w.cell? ⟨C, 2, none⟩ = some (.func (.func 68) #[] #[p0 Y]) := by have := h.f; simp [World.cell?, this, wF]
theorem R3.c3 {w : World} {X Y C A o : Nat} (h : R3 w X Y C A o) : w.cell? ⟨C, 3, none⟩ = some (.func (.func 69) #[] #[p0 (Y + 2), p0 Y]) := by have := h.f; simp [World.cell?, this, wF]

set_option maxHeartbeats 400000 in
theorem resultAt_any (A o : Nat) (w : World) :
    Calls Try.prog 58 #[.pointer (some ⟨A, o, none⟩)] w fun e w' => ∃ Y C, w.heap.size ≤ Y ∧ w.heap.size ≤ C ∧ e = .returned (.agg (rF w.heap.size C)) ∧ Below w.heap.size w w' ∧ R3 w' w.heap.size Y C A o := by
  have hmf := hmf
  go_enter Try.func58, Try.ntmps58
  go_wp2_with fail
  refine (wholeAt_any ⟨A, o, none⟩ 0 7 _).mono ?_
  rintro e w1 ⟨rfl, hb1, hs1, h3⟩
  have hR : w1.heap[w.heap.size + 1]? = some (.cells #[.nilFunc, .nilFunc, .nilFunc, .nilFunc] 81 (0, 0)) := (hb1.block _ (by simp)).trans (by simpa using heap_alloc_new (w.alloc (.cells #[.pointer (some ⟨A, o, none⟩)] 126)) (.cells #[.nilFunc, .nilFunc, .nilFunc, .nilFunc] 81))
  have hRl := lt_of_block hR
  have hRa : ∀ ob, (w1.alloc ob).heap[w.heap.size + 1]? = some (.cells #[.nilFunc, .nilFunc, .nilFunc, .nilFunc] 81 (0, 0)) := fun ob => (Below.heap_alloc w1 ob _ hRl).trans hR
  have hc1 := fun v0 => cells_set hR 0 v0
  have hc2 := fun v0 v1 => cells_set (hc1 v0) 1 v1
  have hc3 := fun v0 v1 v2 => cells_set (hc2 v0 v1) 2 v2
  have hc4 := fun v0 v1 v2 v3 => cells_set (hc3 v0 v1 v2) 3 v3
  have q0 : ∀ ob, (w1.alloc ob).cell? ⟨w.heap.size + 1, 0, none⟩ = some .nilFunc := fun ob => by simp [World.cell?, hRa ob]
  have q1 : ∀ ob v0, ((w1.setCell ⟨w.heap.size + 1, 0, none⟩ v0).alloc ob).cell? ⟨w.heap.size + 1, 1, none⟩ = some .nilFunc := fun ob v0 => Lib.cell?_alloc_some _ (by simp [World.cell?, hc1 v0])
  have q2 : ∀ ob v0 v1, (((w1.setCell ⟨w.heap.size + 1, 0, none⟩ v0).setCell ⟨w.heap.size + 1, 1, none⟩ v1).alloc ob).cell? ⟨w.heap.size + 1, 2, none⟩ = some .nilFunc := fun ob v0 v1 => Lib.cell?_alloc_some _ (by simp [World.cell?, hc2 v0 v1])
  have q3 : ∀ ob v0 v1 v2, ((((w1.setCell ⟨w.heap.size + 1, 0, none⟩ v0).setCell ⟨w.heap.size + 1, 1, none⟩ v1).setCell ⟨w.heap.size + 1, 2, none⟩ v2).alloc ob).cell? ⟨w.heap.size + 1, 3, none⟩ = some .nilFunc := fun ob v0 v1 v2 => Lib.cell?_alloc_some _ (by simp [World.cell?, hc3 v0 v1 v2])
  have fz : ∀ (w2 : World) (ob : Obj) (cs : Array Value) (k : Nat), w2.heap[w.heap.size + 1]? = some (.cells cs 81 (0, 0)) → (w2.alloc ob).frozen? ⟨w.heap.size + 1, k, none⟩ = false := fun w2 ob cs k h => by simp [World.frozen?, Below.heap_alloc w2 ob _ (lt_of_block h), h]
  have z0 := fun ob k => fz _ ob _ k hR
  have z1 := fun ob k v0 => fz _ ob _ k (hc1 v0)
  have z2 := fun ob k v0 v1 => fz _ ob _ k (hc2 v0 v1)
  have z3 := fun ob k v0 v1 v2 => fz _ ob _ k (hc3 v0 v1 v2)
  clear hc1 hc2 hc3 fz
  have HC4 := hide hc4
  have HR := hide hR
  clear hc4 hR hRa
  have fin : ∀ v0 v1 v2 v3 ob k, k ≠ w.heap.size + 1 → k < w1.heap.size → (((((w1.setCell ⟨w.heap.size + 1, 0, none⟩ v0).setCell ⟨w.heap.size + 1, 1, none⟩ v1).setCell ⟨w.heap.size + 1, 2, none⟩ v2).setCell ⟨w.heap.size + 1, 3, none⟩ v3).alloc ob).heap[k]? = w1.heap[k]? := fun v0 v1 v2 v3 ob k hk hl => by
    rw [Below.heap_alloc _ _ _ (by simpa using hl), Below.heap_setCell _ _ _ _ hk, Below.heap_setCell _ _ _ _ hk, Below.heap_setCell _ _ _ _ hk, Below.heap_setCell _ _ _ _ hk]
  have fib : ∀ v0 v1 v2 v3 ob, Below w.heap.size w (((((w1.setCell ⟨w.heap.size + 1, 0, none⟩ v0).setCell ⟨w.heap.size + 1, 1, none⟩ v1).setCell ⟨w.heap.size + 1, 2, none⟩ v2).setCell ⟨w.heap.size + 1, 3, none⟩ v3).alloc ob) := fun v0 v1 v2 v3 ob =>
    ⟨hb1.os, hb1.tape, hb1.output, by have := hb1.size; simp at this ⊢; omega, fun k hk => (fin v0 v1 v2 v3 ob k (by omega) (by omega)).trans ((hb1.block k (by simp; omega)).trans ((below_two w _ _).block k hk))⟩
  have fir : ∀ v0 v1 v2 v3 ob, (((((w1.setCell ⟨w.heap.size + 1, 0, none⟩ v0).setCell ⟨w.heap.size + 1, 1, none⟩ v1).setCell ⟨w.heap.size + 1, 2, none⟩ v2).setCell ⟨w.heap.size + 1, 3, none⟩ v3).alloc ob).heap[w.heap.size + 1]? = some (.cells #[v0, v1, v2, v3] 81 (0, 0)) := fun v0 v1 v2 v3 ob => (Below.heap_alloc _ _ _ (by simpa using hRl)).trans (HC4.out v0 v1 v2 v3)
  have fic : ∀ v0 v1 v2 v3 ob, (((((w1.setCell ⟨w.heap.size + 1, 0, none⟩ v0).setCell ⟨w.heap.size + 1, 1, none⟩ v1).setCell ⟨w.heap.size + 1, 2, none⟩ v2).setCell ⟨w.heap.size + 1, 3, none⟩ v3).alloc ob).heap[w1.heap.size]? = some ob := fun v0 v1 v2 v3 ob => by simpa using heap_alloc_new ((((w1.setCell ⟨w.heap.size + 1, 0, none⟩ v0).setCell ⟨w.heap.size + 1, 1, none⟩ v1).setCell ⟨w.heap.size + 1, 2, none⟩ v2).setCell ⟨w.heap.size + 1, 3, none⟩ v3) ob
  have hX : w1.heap[w.heap.size]? = some (.cells #[.pointer (some ⟨A, o, none⟩)] 126 (0, 0)) := (hb1.block _ (by simp; omega)).trans ((Below.heap_alloc _ _ _ (by simp)).trans (heap_alloc_new w _))
  have h3 : W3 w1 (w.heap.size + 1 + 1) ⟨A, o, none⟩ 0 7 := by simpa using h3
  have hs1 : w.heap.size + 1 + 1 + 3 < w1.heap.size := by simpa using hs1
  have F := hide (And.intro fin (And.intro fib (And.intro fir (And.intro fic (And.intro h3 hX)))))
  clear fin fib fir fic h3 hX hb1
  unfold wF p0
  go_wp2
  obtain ⟨fin, fib, fir, fic, h3, hX⟩ := F.out
  exact bodyPost_ret (results_cell_row (p := 2) (ty := 81) rfl _ _ (w.heap.size + 1) 81 _ (0, 0) _ rfl (fir _ _ _ _ _) Try.underlying81 rfl (by kernel_rfl)) rfl
    ⟨w.heap.size + 1 + 1, w1.heap.size, by omega, by omega, rfl, fib _ _ _ _ _, (fin _ _ _ _ _ _ (by omega) (by omega)).trans hX, ⟨(fin _ _ _ _ _ _ (by omega) (by omega)).trans h3.a, (fin _ _ _ _ _ _ (by omega) (by omega)).trans h3.l, (fin _ _ _ _ _ _ (by omega) (by omega)).trans h3.h⟩, fic _ _ _ _ _⟩
set_option maxHeartbeats 400000 in
theorem res1_any {w : World} {X Y C A o : Nat} {c : Int} {n : Nat} (h : R3 w X Y C A o) (ha : w.cell? ⟨A, o, none⟩ = some (.int .i64 c)) (hb : w.cell? ⟨A, o + 1, none⟩ = some (.int .u64 (n : Int))) (hn : n < 18446744073709551616) :
    Calls Try.prog 70 #[p0 C, p0 X] w fun e w' => e = .returned (.bool (decide (0 ≤ c ∧ c ≤ 7) && Wr.canonB c n)) ∧ Below w.heap.size w w' := by
  have c0 := h.c0
  have cX := h.a.c
  have HW := hide (whole1_any h.c ha)
  have HM := hide (mayBits_any c n hn)
  unfold p0 at *
  go_enter Try.func70, Try.ntmps70
  go_wp2_with fail
  refine HW.out.mono ?_
  rintro e w1 ⟨rfl, nd, rfl⟩
  have hda : ∀ x : Addr, (w.drewN nd).cell? x = w.cell? x := fun _ => rfl
  by_cases h1 : 0 ≤ c ∧ c ≤ 7
  · have hd : decide (0 ≤ c ∧ c ≤ 7) = true := decide_eq_true h1
    rw [hd]
    go_wp2_with fail
    refine (HM.out _).mono ?_
    rintro e w2 ⟨rfl, hb2⟩
    go_wp2_with fail
    go_ret
    exact ⟨by simp [h1], ⟨hb2.os, hb2.tape, hb2.output, hb2.size, hb2.block⟩⟩
  · have hd : decide (0 ≤ c ∧ c ≤ 7) = false := decide_eq_false h1
    rw [hd]
    go_wp2_with fail
    go_ret
    exact ⟨by simp; intro u v; exact absurd ⟨u, v⟩ h1, ⟨rfl, rfl, rfl, Nat.le_refl _, fun _ _ => rfl⟩⟩
set_option maxHeartbeats 400000 in
theorem res2_any {w : World} {X Y C A o : Nat} {c : Int} {n : Nat} (h : R3 w X Y C A o) (ha : w.cell? ⟨A, o, none⟩ = some (.int .i64 c)) (hb : w.cell? ⟨A, o + 1, none⟩ = some (.int .u64 (n : Int))) (hz : ∀ k, w.frozen? ⟨A, k, none⟩ = false) :
    Calls Try.prog 72 #[p0 X] w fun e w' => e = .returned (.tuple #[]) ∧ w' = (w.setCell ⟨A, o, none⟩ (.int .i64 0)).setCell ⟨A, o + 1, none⟩ (.int .u64 0) := by
  have cX := h.a.c
  unfold p0 at *
  go_enter Try.func72, Try.ntmps72
  go_wp2_with fail
  go_end0
  exact ⟨rfl, rfl⟩
theorem bits_add {a b : ByteArray} (h : a.size + b.size ≤ 9223372036854775807) (w1 : World) : (Op.stringOp .add a b).run Try.prog w1 = .ok (.string (a ++ b)) w1 := by
  exact run_string_add_sum w1 _ _ h
theorem W3.below {w w' : World} {X : Nat} {a : Addr} {lo hi : Int} (h : W3 w X a lo hi) (hb : Below w.heap.size w w') : W3 w' X a lo hi :=
  ⟨(hb.block _ (lt_of_block h.a)).trans h.a, (hb.block _ (lt_of_block h.l)).trans h.l, (hb.block _ (lt_of_block h.h)).trans h.h⟩
theorem W3.drew {w : World} {X : Nat} {a : Addr} {lo hi : Int} (h : W3 w X a lo hi) (n : Nat) : W3 (w.drewN n) X a lo hi := ⟨h.a, h.l, h.h⟩
theorem below_dr {k : Nat} {w w' : World} {n : Nat} (h : Below k (w.drewN n) w') : Below k w w' := ⟨h.os, h.tape, h.output, h.size, h.block⟩
set_option maxHeartbeats 400000 in
theorem res3_any {w : World} {X Y C A o : Nat} {c n : Nat} (h : R3 w X Y C A o) (ha : w.cell? ⟨A, o, none⟩ = some (.int .i64 (c : Int))) (hb : w.cell? ⟨A, o + 1, none⟩ = some (.int .u64 (n : Int))) (hc : c < 9223372036854775808) (hn : n < 18446744073709551616) :
    Calls Try.prog 73 #[p0 C, p0 X] w fun e w' => e = .returned (.string ((⟨(Pk.enc c).toArray⟩ : ByteArray) ++ ⟨(Pk.big8 n).toArray⟩)) ∧ Below w.heap.size w w' := by
  have c2 := h.c2
  have cX := h.a.c
  have lA := World.block_lt_of_cell? _ _ ha
  have lC := World.block_lt_of_cell? _ _ c2
  have lX := World.block_lt_of_cell? _ _ cX
  have hadd := bits_add (a := ⟨(Pk.enc c).toArray⟩) (b := ⟨(Pk.big8 n).toArray⟩) (by have := Pk.enc_ten (n := c) (by omega); show (Pk.enc c).toArray.size + (Pk.big8 n).toArray.size ≤ _; rw [show (Pk.big8 n).toArray.size = 8 from rfl]; simp; omega)
  unfold p0 at *
  go_enter Try.func73, Try.ntmps73
  go_wp2_with fail
  go_region_held3 (fun w' => w'.cell? ⟨C, 2, none⟩ = some (.func (.func 68) #[] #[.pointer (some ⟨Y, 0, none⟩)]) ∧ w'.cell? ⟨X, 0, none⟩ = some (.pointer (some ⟨A, o, none⟩)) ∧ w'.cell? ⟨A, o + 1, none⟩ = some (.int .u64 (n : Int))) (go_keep) (first
    | (go_at_call 68; first | (refine (whole3_any (h.c.below hb1) ((hb1.cell (p := ⟨A, o, none⟩) lA).trans ha) hc).mono ?_; rintro e w2 ⟨rfl, hb2⟩; have hb2 := hb1.trans (hb2.mono hb1.size); have kC := (hb2.cell (p := ⟨C, 2, none⟩) lC).trans c2; have kX := (hb2.cell (p := ⟨X, 0, none⟩) lX).trans cX; have kA := (hb2.cell (p := ⟨A, o + 1, none⟩) lA).trans hb) | (refine (whole3_any (h.c.drew _) ha hc).mono ?_; rintro e w1 ⟨rfl, hb1⟩; have hb1 := below_dr hb1; have kC := (hb1.cell (p := ⟨C, 2, none⟩) lC).trans c2; have kX := (hb1.cell (p := ⟨X, 0, none⟩) lX).trans cX; have kA := (hb1.cell (p := ⟨A, o + 1, none⟩) lA).trans hb))
    | (go_at_call 74; first | (refine (pbits_any n hn w1).mono ?_; rintro e w2 ⟨rfl, hb2⟩; have hb2 := hb1.trans (hb2.mono hb1.size); have kC := (hb2.cell (p := ⟨C, 2, none⟩) lC).trans c2; have kX := (hb2.cell (p := ⟨X, 0, none⟩) lX).trans cX; have kA := (hb2.cell (p := ⟨A, o + 1, none⟩) lA).trans hb) | (refine (pbits_any n hn (w.drewN _)).mono ?_; rintro e w1 ⟨rfl, hb1⟩; have hb1 := below_dr hb1; have kC := (hb1.cell (p := ⟨C, 2, none⟩) lC).trans c2; have kX := (hb1.cell (p := ⟨X, 0, none⟩) lX).trans cX; have kA := (hb1.cell (p := ⟨A, o + 1, none⟩) lA).trans hb)))
  all_goals
    go_wp2
    go_ret
    exact ⟨rfl, hb2⟩
end Go.Proofs.Ytapcmmljdpallaa
