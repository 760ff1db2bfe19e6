import Derived.Test.YtpgehocadohkiaaGreatDoorMgBA
import Derived.Deep.QuietTactic
import Derived.BigQuiet

section
namespace Go.Proofs.YtpgehocadohkiaaGreatDoor
open Go.RowKit Go.Shelf

set_option maxRecDepth 20000 in
set_option maxHeartbeats 8000000 in
theorem do_two (op : Int) (C : FuncId) (hop : MeanAt op (.func (.func C) #[] #[]) .nilFunc .nilFunc) (a b c : Nat) (ha : a < 8) (hb : b < 8) (n : Int) (k : Nat) (r rb : Nat) {w : World} {B fuel : Nat} {m : Mc} {v : Value} (h : Mb w B m v fuel) (hrb : m.R[b]! = rb)
    (hrun : ∀ (l : Array Value) (w1 : World), (callFunc C l).run Tryz.prog w1 = .ok (.enter C l) w1)
    (hC : ∀ w1, Calls Tryz.prog C #[.int .u64 (rb : Int)] w1 fun e w' => e = .returned (.int .u64 (r : Int)) ∧ ∃ n, w' = w1.drewN n) :
    Calls Tryz.prog 62 #[.pointer (some ⟨B, 0, none⟩), .agg #[.int .i64 op, .int .i64 (a : Int), .int .i64 (b : Int), .int .i64 (c : Int), .int .i64 n, .int .u64 (k : Int)]] w
      fun e w' => e = .returned noAct ∧ Mb w' B { m with R := m.R.set a r } v fuel ∧ w.grownBy w' (some B) := by
  have HM := hide meanings_any
  have HI := hide hop
  have HC := hide hC
  have HB := hide h
  have hlt := h.lt
  clear hop hC
  have HRB := hide hrb
  clear hrb
  go_enter Tryz.func62, Tryz.ntmps62
  go_wp2_with fail
  have hidx := HI.out
  unfold MeanAt at hidx
  refine wp_region_held_drew (S := fun w' => w'.cell? ⟨w.heap.size, 0, none⟩ = some (.int .i64 op)) (by kernel_rfl) (by simp) (fun hHeld => ?_)
  refine wpAnyH_take (i := 1) (v := .pointer (some ⟨w.heap.size, 0, none⟩)) rfl (by kernel_rfl) (by kernel_rfl) (by kernel_rfl) (fun _ _ _ h => h) (Or.inl ⟨by rfl, fun w1 hSw => by clear hHeld; go_simp⟩) hHeld ?_
  simp only [Act.put, List.setIfInBounds_toArray]
  refine wpAnyH_take (i := 2) (v := .int .i64 op) rfl (by kernel_rfl) (by kernel_rfl) (by kernel_rfl) (fun _ _ _ h => h) (Or.inl ⟨by rfl, fun w1 hSw => by clear hHeld; go_simp⟩) hHeld ?_
  simp only [Act.put]
  refine wpAnyH_ready (rs := [0, 4]) (by kernel_rfl) (by simp) ?_
  refine AllReadyH.cons rfl (fun K hK => ?_) (AllReadyH.cons rfl (fun K hK => ?_) AllReadyH.nil)
  · go_simp
    refine (HM.out _).mono ?_
    rintro e w1 ⟨rfl, hb1'⟩
    have hb1 := below_undrew hb1'
    clear hb1'
    have hc1 : w1.cell? ⟨w.heap.size, 0, none⟩ = some (.int .i64 op) := (hb1.cell (p := ⟨w.heap.size, 0, none⟩) (by simp; omega)).trans hHeld
    refine hK.out _ _ hc1 (fun hHeld => ?_)
    refine wpAnyH_take (i := 3) (v := .agg #[.func (.func C) #[] #[], .nilFunc, .nilFunc]) rfl (by kernel_rfl) (by kernel_rfl) (by kernel_rfl) (fun _ _ _ h => h) (Or.inl ⟨by rfl, fun w1 hSw => by clear hHeld; go_simp⟩) hHeld ?_
    simp only [Act.put]
    refine wpAnyH_ready (rs := [4]) (by kernel_rfl) (by simp) ?_
    refine AllReadyH.cons rfl (fun K hK => ?_) AllReadyH.nil
    go_simp
    have hc2 : (w1.alloc (.cells #[.nilFunc, .nilFunc, .nilFunc] 161)).cell? ⟨w.heap.size, 0, none⟩ = some (.int .i64 op) := Lib.cell?_alloc_some _ hc1
    refine hK.out _ _ hc2 (fun hHeld => ?_)
    refine wpAnyH_ready (rs := [5]) (by kernel_rfl) (by simp) ?_
    refine AllReadyH.cons rfl (fun K hK => ?_) AllReadyH.nil
    go_simp
    refine hK.out _ _ (Lib.cell?_alloc_some _ hc1) (fun _ => ?_)
    refine wpAnyH_done (by kernel_rfl) ?_ _
    have hbl : Below (w.heap.size + 2) (W2 w op a b c n k) (w1.alloc (.cells #[.func (.func C) #[] #[], .nilFunc, .nilFunc] 161)) := (hb1.mono (show w.heap.size + 2 ≤ _ by simp) : Below (w.heap.size + 2) (W2 w op a b c n k) w1).alloc (Nat.le_trans (show w.heap.size + 2 ≤ _ by simp) hb1.size) _
    have hD := doW_of (X := w1.heap.size) (t0 := .func (.func C) #[] #[]) (t1 := .nilFunc) (t2 := .nilFunc) h hbl (Nat.le_trans (show w.heap.size + 2 ≤ _ by simp) hb1.size) (by simp) (by simp) (by simp)
    have HD := hide hD
    generalize w1.alloc (.cells #[.func (.func C) #[] #[], .nilFunc, .nilFunc] 161) = w3 at *
    generalize w1.heap.size = X at *
    clear hb1 hc1 hc2 hbl hD hHeld hK
    have hai : (a : Int) < 8 := by omega
    have hbi : (b : Int) < 8 := by omega
    have hne : ¬ B = w.heap.size := by omega
    have hne1 : ¬ B = w.heap.size + 1 := by omega
    have hnX : ¬ B = X := by have := HD.out.xl; omega
    have e2 := neq_fun2 C
    have x0 := HD.out.x0
    have i1 := HD.out.i1
    have i2 := HD.out.i2
    have cb : w3.cell? ⟨B, 3 + b, none⟩ = some (.int .u64 (rb : Int)) := by rw [← HRB.out]; exact HD.out.mb.cell (HD.out.mb.l8.gR v fuel b hb)
    obtain ⟨ra, hra⟩ : ∃ ra, m.R[a]! = ra := ⟨_, rfl⟩
    have ca := HD.out.mb.cell (HD.out.mb.l8.gR v fuel a ha)
    rw [hra] at ca
    clear hra
    have za := HD.out.mb.z (3 + a)
    go_wp2_with fail
    refine wp_region_but (S := (fun w' => w'.cell? ⟨w.heap.size, 1, none⟩ = some (.int .i64 (a : Int)) ∧ w'.cell? ⟨w.heap.size, 2, none⟩ = some (.int .i64 (b : Int)) ∧ w'.cell? ⟨X, 0, none⟩ = some (.func (.func C) #[] #[]) ∧ w'.cell? ⟨B, 3 + b, none⟩ = some (.int .u64 (rb : Int)))) 16 (by kernel_rfl) ⟨i1, i2, x0, cb⟩ (fun hH => ?_)
    refine anyBut_plain (i := 0) (v := .pointer (some ⟨B, 0, none⟩)) rfl (by decide) (by kernel_rfl) (by kernel_rfl) (by kernel_rfl) (fun _ _ _ h => h) (Or.inl ⟨by kernel_rfl, fun w9 _ => by kernel_rfl⟩) hH ?_
    simp only [Act.put, List.setIfInBounds_toArray]
    refine anyBut_plain (i := 1) (v := .pointer (some ⟨w.heap.size, 1, none⟩)) rfl (by decide) (by kernel_rfl) (by kernel_rfl) (by kernel_rfl) (fun _ _ _ h => h) (Or.inl ⟨by kernel_rfl, fun w9 _ => by kernel_rfl⟩) hH ?_
    simp only [Act.put]
    refine anyBut_load (i := 2) (v := .int .i64 (a : Int)) rfl (by decide) (by kernel_rfl) (by kernel_rfl) (by kernel_rfl) (by kernel_rfl) (by kernel_rfl) (fun _ _ _ h => h) (Or.inl ⟨by kernel_rfl, fun w9 hS => by obtain ⟨s0, s1, s2, s3⟩ := hS; go_simp⟩) hH ?_
    simp only [Act.put]
    refine anyBut_plain (i := 3) (v := .pointer (some ⟨X, 0, none⟩)) rfl (by decide) (by kernel_rfl) (by kernel_rfl) (by kernel_rfl) (fun _ _ _ h => h) (Or.inl ⟨by kernel_rfl, fun w9 _ => by kernel_rfl⟩) hH ?_
    simp only [Act.put]
    refine anyBut_load (i := 4) (v := .func (.func C) #[] #[]) rfl (by decide) (by kernel_rfl) (by kernel_rfl) (by kernel_rfl) (by kernel_rfl) (by kernel_rfl) (fun _ _ _ h => h) (Or.inl ⟨by kernel_rfl, fun w9 hS => by obtain ⟨s0, s1, s2, s3⟩ := hS; go_simp⟩) hH ?_
    simp only [Act.put]
    refine anyBut_plain (i := 5) (v := .pointer (some ⟨B, 0, none⟩)) rfl (by decide) (by kernel_rfl) (by kernel_rfl) (by kernel_rfl) (fun _ _ _ h => h) (Or.inl ⟨by kernel_rfl, fun w9 _ => by kernel_rfl⟩) hH ?_
    simp only [Act.put]
    refine anyBut_plain (i := 6) (v := .pointer (some ⟨w.heap.size, 2, none⟩)) rfl (by decide) (by kernel_rfl) (by kernel_rfl) (by kernel_rfl) (fun _ _ _ h => h) (Or.inl ⟨by kernel_rfl, fun w9 _ => by kernel_rfl⟩) hH ?_
    simp only [Act.put]
    refine anyBut_load (i := 7) (v := .int .i64 (b : Int)) rfl (by decide) (by kernel_rfl) (by kernel_rfl) (by kernel_rfl) (by kernel_rfl) (by kernel_rfl) (fun _ _ _ h => h) (Or.inl ⟨by kernel_rfl, fun w9 hS => by obtain ⟨s0, s1, s2, s3⟩ := hS; go_simp⟩) hH ?_
    simp only [Act.put]
    refine anyBut_plain (i := 8) (v := .pointer (some ⟨B, 0, none⟩)) rfl (by decide) (by kernel_rfl) (by kernel_rfl) (by kernel_rfl) (fun _ _ _ h => h) (Or.inl ⟨by kernel_rfl, fun w9 _ => by kernel_rfl⟩) hH ?_
    simp only [Act.put]
    refine anyBut_plain (i := 9) (v := .pointer (some ⟨B, 3, none⟩)) rfl (by decide) (by kernel_rfl) (by kernel_rfl) (by kernel_rfl) (fun _ _ _ h => h) (Or.inl ⟨by kernel_rfl, fun w9 _ => by kernel_rfl⟩) hH ?_
    simp only [Act.put]
    refine anyBut_plain (i := 10) (v := .pointer (some ⟨B, 3 + b, none⟩)) rfl (by decide) (by kernel_rfl) (by kernel_rfl) (by kernel_rfl) (fun _ _ _ h => h) (Or.inl ⟨by kernel_rfl, fun w9 _ => by go_simp⟩) hH ?_
    simp only [Act.put]
    refine anyBut_load (i := 11) (v := .int .u64 (rb : Int)) rfl (by decide) (by kernel_rfl) (by kernel_rfl) (by kernel_rfl) (by kernel_rfl) (by kernel_rfl) (fun _ _ _ h => h) (Or.inl ⟨by kernel_rfl, fun w9 hS => by obtain ⟨s0, s1, s2, s3⟩ := hS; go_simp⟩) hH ?_
    simp only [Act.put]
    refine anyBut_plain (i := 13) (v := .pointer (some ⟨B, 0, none⟩)) rfl (by decide) (by kernel_rfl) (by kernel_rfl) (by kernel_rfl) (fun _ _ _ h => h) (Or.inl ⟨by kernel_rfl, fun w9 _ => by kernel_rfl⟩) hH ?_
    simp only [Act.put]
    refine anyBut_plain (i := 14) (v := .pointer (some ⟨B, 3, none⟩)) rfl (by decide) (by kernel_rfl) (by kernel_rfl) (by kernel_rfl) (fun _ _ _ h => h) (Or.inl ⟨by kernel_rfl, fun w9 _ => by kernel_rfl⟩) hH ?_
    simp only [Act.put]
    refine anyBut_one (i := 12) rfl (by kernel_rfl) (fun K hK => ?_)
    go_simp
    refine (HC.out _).mono ?_
    rintro e w4 ⟨rfl, n4, rfl⟩
    refine hK.out _ _ (fun _ => ⟨i1, i2, x0, cb⟩) ?_
    refine anyBut_plain (i := 15) (v := .pointer (some ⟨B, 3 + a, none⟩)) rfl (by decide) (by kernel_rfl) (by kernel_rfl) (by kernel_rfl) (fun _ _ _ h => h) (Or.inl ⟨by kernel_rfl, fun w9 _ => by go_simp⟩) ⟨i1, i2, x0, cb⟩ ?_
    simp only [Act.put, List.setIfInBounds_toArray]
    refine anyBut_one (i := 16) rfl (by kernel_rfl) (fun K hK => ?_)
    go_simp
    refine hK.out _ _ (fun h0 => absurd h0 (by decide)) (anyBut_done (by kernel_rfl) ?_ _)
    have HW := hide (three_end (r := r) HD.out n4 ha hlt)
    generalize (w3.drewN (1 + n4)).setCell ⟨B, 3 + a, none⟩ (.int .u64 (r : Int)) = w5 at *
    obtain ⟨r0, r1, rf⟩ := HW.out.act
    clear x0 i1 i2 cb ca za hH hK HD
    go_wp2_with fail
    obtain ⟨q1, q2, q3⟩ := HW.out.fin hlt (.int .i64 0) (.string ⟨#[]⟩)
    exact bodyPost_ret (results_cell_row (p := 4) (ty := 56) rfl _ _ (w.heap.size + 1) 56 _ (0, 0) _ rfl q1 Tryz.underlying56 rfl (by kernel_rfl)) rfl ⟨rfl, q2, q3⟩
  · go_simp
    have hc0 : ((((w.alloc (.cells #[.int .i64 op, .int .i64 (a : Int), .int .i64 (b : Int), .int .i64 (c : Int), .int .i64 n, .int .u64 (k : Int)] 71)).alloc (.cells #[.int .i64 0, .string ⟨#[]⟩] 56)).alloc (.cells #[.nilFunc, .nilFunc, .nilFunc] 161)).drew).cell? ⟨w.heap.size, 0, none⟩ = some (.int .i64 op) := Lib.cell?_alloc_some (W := W2 w op a b c n k) _ hHeld
    refine hK.out _ _ hc0 (fun hHeld => ?_)
    refine wpAnyH_ready (rs := [0]) (by kernel_rfl) (by simp) ?_
    refine AllReadyH.cons rfl (fun K hK => ?_) AllReadyH.nil
    go_simp
    refine (HM.out _).mono ?_
    rintro e w1 ⟨rfl, hb1'⟩
    have hb1 := below_undrew hb1'
    clear hb1'
    have hc1 : w1.cell? ⟨w.heap.size, 0, none⟩ = some (.int .i64 op) := (hb1.cell (p := ⟨w.heap.size, 0, none⟩) (by simp; omega)).trans hc0
    refine hK.out _ _ hc1 (fun hHeld => ?_)
    refine wpAnyH_take (i := 3) (v := .agg #[.func (.func C) #[] #[], .nilFunc, .nilFunc]) rfl (by kernel_rfl) (by kernel_rfl) (by kernel_rfl) (fun _ _ _ h => h) (Or.inl ⟨by rfl, fun w1 hSw => by clear hHeld; go_simp⟩) hHeld ?_
    simp only [Act.put]
    refine wpAnyH_ready (rs := [5]) (by kernel_rfl) (by simp) ?_
    refine AllReadyH.cons rfl (fun K hK => ?_) AllReadyH.nil
    have hbk : w1.heap[w.heap.size + 1 + 1]? = some (.cells #[.nilFunc, .nilFunc, .nilFunc] 161 (0, 0)) := (hb1.block (w.heap.size + 1 + 1) (by simp)).trans (by have q := heap_alloc_new ((w.alloc (.cells #[.int .i64 op, .int .i64 (a : Int), .int .i64 (b : Int), .int .i64 (c : Int), .int .i64 n, .int .u64 (k : Int)] 71)).alloc (.cells #[.int .i64 0, .string ⟨#[]⟩] 56)) (.cells #[.nilFunc, .nilFunc, .nilFunc] 161); rw [World.size_alloc, World.size_alloc] at q; exact q)
    refine wp_store_row 161 _ _ rfl (w.heap.size + 1 + 1) #[.func (.func C) #[] #[], .nilFunc, .nilFunc] rfl rfl 161 #[.nilFunc, .nilFunc, .nilFunc] hbk (by kernel_rfl) rfl (by simp [Value.oneCell']) ?_
    simp only [Act.put, List.setIfInBounds_toArray, List.getElem_toArray, List.getElem_cons_succ, List.getElem_cons_zero, List.set_cons_succ, List.set_cons_zero]
    refine hK.out _ _ ((cell_setRow_other _ _ _ _ (by show w.heap.size ≠ _; omega)).trans hc1) (fun _ => ?_)
    refine wpAnyH_done (by kernel_rfl) ?_ _
    have hbl : Below (w.heap.size + 2) (W2 w op a b c n k) (w1.setRow (w.heap.size + 1 + 1) #[.func (.func C) #[] #[], .nilFunc, .nilFunc]) := by
      have q1 : Below (w.heap.size + 2) (W2 w op a b c n k) w1 := ((below_one (W2 w op a b c n k) (.cells #[.nilFunc, .nilFunc, .nilFunc] 161)).mono (by simp [W2])).trans (hb1.mono (show w.heap.size + 2 ≤ _ by simp))
      exact q1.trans ⟨rfl, rfl, rfl, by simp [World.setRow], fun i hi => setRow_other _ _ _ _ (by omega)⟩
    have hD := doW_of (X := w.heap.size + 1 + 1) h hbl (Nat.le_refl _) (cell_setRow_same _ _ _ _ _ _ _ hbk) (cell_setRow_same _ _ _ _ _ _ _ hbk) (cell_setRow_same _ _ _ _ _ _ _ hbk)
    have HD := hide hD
    generalize w1.setRow (w.heap.size + 1 + 1) #[.func (.func C) #[] #[], .nilFunc, .nilFunc] = w3 at *
    clear hb1 hc1 hc0 hbl hD hbk hHeld
    generalize w.heap.size + 1 + 1 = X at *
    have hai : (a : Int) < 8 := by omega
    have hbi : (b : Int) < 8 := by omega
    have hne : ¬ B = w.heap.size := by omega
    have hne1 : ¬ B = w.heap.size + 1 := by omega
    have hnX : ¬ B = X := by have := HD.out.xl; omega
    have e2 := neq_fun2 C
    have x0 := HD.out.x0
    have i1 := HD.out.i1
    have i2 := HD.out.i2
    have cb : w3.cell? ⟨B, 3 + b, none⟩ = some (.int .u64 (rb : Int)) := by rw [← HRB.out]; exact HD.out.mb.cell (HD.out.mb.l8.gR v fuel b hb)
    obtain ⟨ra, hra⟩ : ∃ ra, m.R[a]! = ra := ⟨_, rfl⟩
    have ca := HD.out.mb.cell (HD.out.mb.l8.gR v fuel a ha)
    rw [hra] at ca
    clear hra
    have za := HD.out.mb.z (3 + a)
    go_wp2_with fail
    refine wp_region_but (S := (fun w' => w'.cell? ⟨w.heap.size, 1, none⟩ = some (.int .i64 (a : Int)) ∧ w'.cell? ⟨w.heap.size, 2, none⟩ = some (.int .i64 (b : Int)) ∧ w'.cell? ⟨X, 0, none⟩ = some (.func (.func C) #[] #[]) ∧ w'.cell? ⟨B, 3 + b, none⟩ = some (.int .u64 (rb : Int)))) 16 (by kernel_rfl) ⟨i1, i2, x0, cb⟩ (fun hH => ?_)
    refine anyBut_plain (i := 0) (v := .pointer (some ⟨B, 0, none⟩)) rfl (by decide) (by kernel_rfl) (by kernel_rfl) (by kernel_rfl) (fun _ _ _ h => h) (Or.inl ⟨by kernel_rfl, fun w9 _ => by kernel_rfl⟩) hH ?_
    simp only [Act.put, List.setIfInBounds_toArray]
    refine anyBut_plain (i := 1) (v := .pointer (some ⟨w.heap.size, 1, none⟩)) rfl (by decide) (by kernel_rfl) (by kernel_rfl) (by kernel_rfl) (fun _ _ _ h => h) (Or.inl ⟨by kernel_rfl, fun w9 _ => by kernel_rfl⟩) hH ?_
    simp only [Act.put]
    refine anyBut_load (i := 2) (v := .int .i64 (a : Int)) rfl (by decide) (by kernel_rfl) (by kernel_rfl) (by kernel_rfl) (by kernel_rfl) (by kernel_rfl) (fun _ _ _ h => h) (Or.inl ⟨by kernel_rfl, fun w9 hS => by obtain ⟨s0, s1, s2, s3⟩ := hS; go_simp⟩) hH ?_
    simp only [Act.put]
    refine anyBut_plain (i := 3) (v := .pointer (some ⟨X, 0, none⟩)) rfl (by decide) (by kernel_rfl) (by kernel_rfl) (by kernel_rfl) (fun _ _ _ h => h) (Or.inl ⟨by kernel_rfl, fun w9 _ => by kernel_rfl⟩) hH ?_
    simp only [Act.put]
    refine anyBut_load (i := 4) (v := .func (.func C) #[] #[]) rfl (by decide) (by kernel_rfl) (by kernel_rfl) (by kernel_rfl) (by kernel_rfl) (by kernel_rfl) (fun _ _ _ h => h) (Or.inl ⟨by kernel_rfl, fun w9 hS => by obtain ⟨s0, s1, s2, s3⟩ := hS; go_simp⟩) hH ?_
    simp only [Act.put]
    refine anyBut_plain (i := 5) (v := .pointer (some ⟨B, 0, none⟩)) rfl (by decide) (by kernel_rfl) (by kernel_rfl) (by kernel_rfl) (fun _ _ _ h => h) (Or.inl ⟨by kernel_rfl, fun w9 _ => by kernel_rfl⟩) hH ?_
    simp only [Act.put]
    refine anyBut_plain (i := 6) (v := .pointer (some ⟨w.heap.size, 2, none⟩)) rfl (by decide) (by kernel_rfl) (by kernel_rfl) (by kernel_rfl) (fun _ _ _ h => h) (Or.inl ⟨by kernel_rfl, fun w9 _ => by kernel_rfl⟩) hH ?_
    simp only [Act.put]
    refine anyBut_load (i := 7) (v := .int .i64 (b : Int)) rfl (by decide) (by kernel_rfl) (by kernel_rfl) (by kernel_rfl) (by kernel_rfl) (by kernel_rfl) (fun _ _ _ h => h) (Or.inl ⟨by kernel_rfl, fun w9 hS => by obtain ⟨s0, s1, s2, s3⟩ := hS; go_simp⟩) hH ?_
    simp only [Act.put]
    refine anyBut_plain (i := 8) (v := .pointer (some ⟨B, 0, none⟩)) rfl (by decide) (by kernel_rfl) (by kernel_rfl) (by kernel_rfl) (fun _ _ _ h => h) (Or.inl ⟨by kernel_rfl, fun w9 _ => by kernel_rfl⟩) hH ?_
    simp only [Act.put]
    refine anyBut_plain (i := 9) (v := .pointer (some ⟨B, 3, none⟩)) rfl (by decide) (by kernel_rfl) (by kernel_rfl) (by kernel_rfl) (fun _ _ _ h => h) (Or.inl ⟨by kernel_rfl, fun w9 _ => by kernel_rfl⟩) hH ?_
    simp only [Act.put]
    refine anyBut_plain (i := 10) (v := .pointer (some ⟨B, 3 + b, none⟩)) rfl (by decide) (by kernel_rfl) (by kernel_rfl) (by kernel_rfl) (fun _ _ _ h => h) (Or.inl ⟨by kernel_rfl, fun w9 _ => by go_simp⟩) hH ?_
    simp only [Act.put]
    refine anyBut_load (i := 11) (v := .int .u64 (rb : Int)) rfl (by decide) (by kernel_rfl) (by kernel_rfl) (by kernel_rfl) (by kernel_rfl) (by kernel_rfl) (fun _ _ _ h => h) (Or.inl ⟨by kernel_rfl, fun w9 hS => by obtain ⟨s0, s1, s2, s3⟩ := hS; go_simp⟩) hH ?_
    simp only [Act.put]
    refine anyBut_plain (i := 13) (v := .pointer (some ⟨B, 0, none⟩)) rfl (by decide) (by kernel_rfl) (by kernel_rfl) (by kernel_rfl) (fun _ _ _ h => h) (Or.inl ⟨by kernel_rfl, fun w9 _ => by kernel_rfl⟩) hH ?_
    simp only [Act.put]
    refine anyBut_plain (i := 14) (v := .pointer (some ⟨B, 3, none⟩)) rfl (by decide) (by kernel_rfl) (by kernel_rfl) (by kernel_rfl) (fun _ _ _ h => h) (Or.inl ⟨by kernel_rfl, fun w9 _ => by kernel_rfl⟩) hH ?_
    simp only [Act.put]
    refine anyBut_one (i := 12) rfl (by kernel_rfl) (fun K hK => ?_)
    go_simp
    refine (HC.out _).mono ?_
    rintro e w4 ⟨rfl, n4, rfl⟩
    refine hK.out _ _ (fun _ => ⟨i1, i2, x0, cb⟩) ?_
    refine anyBut_plain (i := 15) (v := .pointer (some ⟨B, 3 + a, none⟩)) rfl (by decide) (by kernel_rfl) (by kernel_rfl) (by kernel_rfl) (fun _ _ _ h => h) (Or.inl ⟨by kernel_rfl, fun w9 _ => by go_simp⟩) ⟨i1, i2, x0, cb⟩ ?_
    simp only [Act.put, List.setIfInBounds_toArray]
    refine anyBut_one (i := 16) rfl (by kernel_rfl) (fun K hK => ?_)
    go_simp
    refine hK.out _ _ (fun h0 => absurd h0 (by decide)) (anyBut_done (by kernel_rfl) ?_ _)
    have HW := hide (three_end (r := r) HD.out n4 ha hlt)
    generalize (w3.drewN (1 + n4)).setCell ⟨B, 3 + a, none⟩ (.int .u64 (r : Int)) = w5 at *
    obtain ⟨r0, r1, rf⟩ := HW.out.act
    clear x0 i1 i2 cb ca za hH hK HD
    go_wp2_with fail
    obtain ⟨q1, q2, q3⟩ := HW.out.fin hlt (.int .i64 0) (.string ⟨#[]⟩)
    exact bodyPost_ret (results_cell_row (p := 4) (ty := 56) rfl _ _ (w.heap.size + 1) 56 _ (0, 0) _ rfl q1 Tryz.underlying56 rfl (by kernel_rfl)) rfl ⟨rfl, q2, q3⟩
end Go.Proofs.YtpgehocadohkiaaGreatDoor
end

section
namespace Go.Proofs.YtpgehocadohkiaaGreatDoor
open Go.RowKit Go.Shelf

/-- a panic with a trap -/
def Traps (e : Ending) (t : Nat) : Prop := e = .panicked [{ v := .iface 102 (.int .i64 (t : Int)), recovered := false }]
/-- what an instruction comes to -/
structure APost (w : World) (B : Nat) (v : Value) (fuel : Nat) (d : Nat × Mc × Nat × ByteArray) (e : Ending) (w' : World) : Prop where
  ok : d.1 = 0 → e = .returned (.agg #[.int .i64 (d.2.2.1 : Int), .string d.2.2.2])
  no : d.1 ≠ 0 → Traps e d.1
  mb : Mb w' B d.2.1 v fuel
  gr : w.grownBy w' (some B)
set_option maxRecDepth 20000 in
set_option maxHeartbeats 8000000 in
theorem do_does (op : Int) (C : FuncId) (hop : MeanAt op .nilFunc .nilFunc (.func (.func C) #[] #[])) (a b c : Nat) (n : Int) (k : Nat) (d : Nat × Mc × Nat × ByteArray) {w : World} {B fuel : Nat} {m : Mc} {v : Value} (h : Mb w B m v fuel)
    (hrun : ∀ (l : Array Value) (w1 : World), (callFunc C l).run Tryz.prog w1 = .ok (.enter C l) w1)
    (hC : ∀ w1, Mb w1 B m v fuel → w.grownBy w1 (some B) → Calls Tryz.prog C #[.pointer (some ⟨B, 0, none⟩), .agg #[.int .i64 op, .int .i64 (a : Int), .int .i64 (b : Int), .int .i64 (c : Int), .int .i64 n, .int .u64 (k : Int)]] w1 (APost w1 B v fuel d)) :
    Calls Tryz.prog 62 #[.pointer (some ⟨B, 0, none⟩), .agg #[.int .i64 op, .int .i64 (a : Int), .int .i64 (b : Int), .int .i64 (c : Int), .int .i64 n, .int .u64 (k : Int)]] w (APost w B v fuel d) := by
  have HM := hide meanings_any
  have HI := hide hop
  have HC := hide hC
  have HB := hide h
  have hlt := h.lt
  clear hop hC
  go_enter Tryz.func62, Tryz.ntmps62
  go_wp2_with fail
  have hidx := HI.out
  unfold MeanAt at hidx
  refine wp_region_held_drew (S := fun w' => w'.cell? ⟨w.heap.size, 0, none⟩ = some (.int .i64 op)) (by kernel_rfl) (by simp) (fun hHeld => ?_)
  refine wpAnyH_take (i := 1) (v := .pointer (some ⟨w.heap.size, 0, none⟩)) rfl (by kernel_rfl) (by kernel_rfl) (by kernel_rfl) (fun _ _ _ h => h) (Or.inl ⟨by rfl, fun w1 hSw => by clear hHeld; go_simp⟩) hHeld ?_
  simp only [Act.put, List.setIfInBounds_toArray]
  refine wpAnyH_take (i := 2) (v := .int .i64 op) rfl (by kernel_rfl) (by kernel_rfl) (by kernel_rfl) (fun _ _ _ h => h) (Or.inl ⟨by rfl, fun w1 hSw => by clear hHeld; go_simp⟩) hHeld ?_
  simp only [Act.put]
  refine wpAnyH_ready (rs := [0, 4]) (by kernel_rfl) (by simp) ?_
  refine AllReadyH.cons rfl (fun K hK => ?_) (AllReadyH.cons rfl (fun K hK => ?_) AllReadyH.nil)
  · go_simp
    refine (HM.out _).mono ?_
    rintro e w1 ⟨rfl, hb1'⟩
    have hb1 := below_undrew hb1'
    clear hb1'
    have hc1 : w1.cell? ⟨w.heap.size, 0, none⟩ = some (.int .i64 op) := (hb1.cell (p := ⟨w.heap.size, 0, none⟩) (by simp; omega)).trans hHeld
    refine hK.out _ _ hc1 (fun hHeld => ?_)
    refine wpAnyH_take (i := 3) (v := .agg #[.nilFunc, .nilFunc, .func (.func C) #[] #[]]) rfl (by kernel_rfl) (by kernel_rfl) (by kernel_rfl) (fun _ _ _ h => h) (Or.inl ⟨by rfl, fun w1 hSw => by clear hHeld; go_simp⟩) hHeld ?_
    simp only [Act.put]
    refine wpAnyH_ready (rs := [4]) (by kernel_rfl) (by simp) ?_
    refine AllReadyH.cons rfl (fun K hK => ?_) AllReadyH.nil
    go_simp
    have hc2 : (w1.alloc (.cells #[.nilFunc, .nilFunc, .nilFunc] 161)).cell? ⟨w.heap.size, 0, none⟩ = some (.int .i64 op) := Lib.cell?_alloc_some _ hc1
    refine hK.out _ _ hc2 (fun hHeld => ?_)
    refine wpAnyH_ready (rs := [5]) (by kernel_rfl) (by simp) ?_
    refine AllReadyH.cons rfl (fun K hK => ?_) AllReadyH.nil
    go_simp
    refine hK.out _ _ (Lib.cell?_alloc_some _ hc1) (fun _ => ?_)
    refine wpAnyH_done (by kernel_rfl) ?_ _
    have hbl : Below (w.heap.size + 2) (W2 w op a b c n k) (w1.alloc (.cells #[.nilFunc, .nilFunc, .func (.func C) #[] #[]] 161)) := (hb1.mono (show w.heap.size + 2 ≤ _ by simp) : Below (w.heap.size + 2) (W2 w op a b c n k) w1).alloc (Nat.le_trans (show w.heap.size + 2 ≤ _ by simp) hb1.size) _
    have hD := doW_of (X := w1.heap.size) (t0 := .nilFunc) (t1 := .nilFunc) (t2 := .func (.func C) #[] #[]) h hbl (Nat.le_trans (show w.heap.size + 2 ≤ _ by simp) hb1.size) (by simp) (by simp) (by simp)
    have HD := hide hD
    generalize w1.alloc (.cells #[.nilFunc, .nilFunc, .func (.func C) #[] #[]] 161) = w3 at *
    generalize w1.heap.size = X at *
    clear hb1 hc1 hc2 hbl hD hHeld hK
    have e1 := neq_nil2
    have e2 := neq_nil3
    have x0 := HD.out.x0
    have x1 := HD.out.x1
    have x2 := HD.out.x2
    have i0 := HD.out.i0
    have i1 := HD.out.i1
    have i2 := HD.out.i2
    have i3 := HD.out.i3
    have i4 := HD.out.i4
    have i5 := HD.out.i5
    have hg3 := i_grown_below HD.out.gr (some B)
    go_wp2_with fail
    refine (HC.out w3 HD.out.mb hg3).mono ?_
    rintro e w4 ⟨hok, hno, hmb, hgr⟩
    have rz4 : w4.heap[w.heap.size + 1]? = some (.cells #[.int .i64 0, .string ⟨#[]⟩] 56 (0, 0)) := (hgr.block _ (by have := HD.out.sz; omega) (by simp; omega)).trans HD.out.rz
    have HW : Hid (DoE w w4 B d.2.1 v fuel) := ⟨rz4, hmb, i_grown_trans hg3 hgr⟩
    obtain ⟨r0, r1, rf⟩ := HW.out.act
    clear x0 x1 x2 i0 i1 i2 i3 i4 i5 HD rz4 hmb hgr hg3
    by_cases hd : d.1 = 0
    · have he := hok hd
      subst he
      clear hok hno
      go_wp2_with fail
      obtain ⟨q1, q2, q3⟩ := HW.out.fin hlt (.int .i64 (d.2.2.1 : Int)) (.string d.2.2.2)
      exact bodyPost_ret (results_cell_row (p := 4) (ty := 56) rfl _ _ (w.heap.size + 1) 56 _ (0, 0) _ rfl q1 Tryz.underlying56 rfl (by kernel_rfl)) rfl ⟨fun _ => rfl, fun h0 => absurd hd h0, q2, q3⟩
    · have he := hno hd
      unfold Traps at he
      subst he
      clear hok hno
      go_wp2_with fail
      exact ⟨rfl, fun h0 => absurd h0 hd, fun _ => rfl, HW.out.mb, HW.out.gr⟩
  · go_simp
    have hc0 : ((((w.alloc (.cells #[.int .i64 op, .int .i64 (a : Int), .int .i64 (b : Int), .int .i64 (c : Int), .int .i64 n, .int .u64 (k : Int)] 71)).alloc (.cells #[.int .i64 0, .string ⟨#[]⟩] 56)).alloc (.cells #[.nilFunc, .nilFunc, .nilFunc] 161)).drew).cell? ⟨w.heap.size, 0, none⟩ = some (.int .i64 op) := Lib.cell?_alloc_some (W := W2 w op a b c n k) _ hHeld
    refine hK.out _ _ hc0 (fun hHeld => ?_)
    refine wpAnyH_ready (rs := [0]) (by kernel_rfl) (by simp) ?_
    refine AllReadyH.cons rfl (fun K hK => ?_) AllReadyH.nil
    go_simp
    refine (HM.out _).mono ?_
    rintro e w1 ⟨rfl, hb1'⟩
    have hb1 := below_undrew hb1'
    clear hb1'
    have hc1 : w1.cell? ⟨w.heap.size, 0, none⟩ = some (.int .i64 op) := (hb1.cell (p := ⟨w.heap.size, 0, none⟩) (by simp; omega)).trans hc0
    refine hK.out _ _ hc1 (fun hHeld => ?_)
    refine wpAnyH_take (i := 3) (v := .agg #[.nilFunc, .nilFunc, .func (.func C) #[] #[]]) rfl (by kernel_rfl) (by kernel_rfl) (by kernel_rfl) (fun _ _ _ h => h) (Or.inl ⟨by rfl, fun w1 hSw => by clear hHeld; go_simp⟩) hHeld ?_
    simp only [Act.put]
    refine wpAnyH_ready (rs := [5]) (by kernel_rfl) (by simp) ?_
    refine AllReadyH.cons rfl (fun K hK => ?_) AllReadyH.nil
    have hbk : w1.heap[w.heap.size + 1 + 1]? = some (.cells #[.nilFunc, .nilFunc, .nilFunc] 161 (0, 0)) := (hb1.block (w.heap.size + 1 + 1) (by simp)).trans (by have q := heap_alloc_new ((w.alloc (.cells #[.int .i64 op, .int .i64 (a : Int), .int .i64 (b : Int), .int .i64 (c : Int), .int .i64 n, .int .u64 (k : Int)] 71)).alloc (.cells #[.int .i64 0, .string ⟨#[]⟩] 56)) (.cells #[.nilFunc, .nilFunc, .nilFunc] 161); rw [World.size_alloc, World.size_alloc] at q; exact q)
    refine wp_store_row 161 _ _ rfl (w.heap.size + 1 + 1) #[.nilFunc, .nilFunc, .func (.func C) #[] #[]] rfl rfl 161 #[.nilFunc, .nilFunc, .nilFunc] hbk (by kernel_rfl) rfl (by simp [Value.oneCell']) ?_
    simp only [Act.put, List.setIfInBounds_toArray, List.getElem_toArray, List.getElem_cons_succ, List.getElem_cons_zero, List.set_cons_succ, List.set_cons_zero]
    refine hK.out _ _ ((cell_setRow_other _ _ _ _ (by show w.heap.size ≠ _; omega)).trans hc1) (fun _ => ?_)
    refine wpAnyH_done (by kernel_rfl) ?_ _
    have hbl : Below (w.heap.size + 2) (W2 w op a b c n k) (w1.setRow (w.heap.size + 1 + 1) #[.nilFunc, .nilFunc, .func (.func C) #[] #[]]) := by
      have q1 : Below (w.heap.size + 2) (W2 w op a b c n k) w1 := ((below_one (W2 w op a b c n k) (.cells #[.nilFunc, .nilFunc, .nilFunc] 161)).mono (by simp [W2])).trans (hb1.mono (show w.heap.size + 2 ≤ _ by simp))
      exact q1.trans ⟨rfl, rfl, rfl, by simp [World.setRow], fun i hi => setRow_other _ _ _ _ (by omega)⟩
    have hD := doW_of (X := w.heap.size + 1 + 1) h hbl (Nat.le_refl _) (cell_setRow_same _ _ _ _ _ _ _ hbk) (cell_setRow_same _ _ _ _ _ _ _ hbk) (cell_setRow_same _ _ _ _ _ _ _ hbk)
    have HD := hide hD
    generalize w1.setRow (w.heap.size + 1 + 1) #[.nilFunc, .nilFunc, .func (.func C) #[] #[]] = w3 at *
    clear hb1 hc1 hc0 hbl hD hbk hHeld
    generalize w.heap.size + 1 + 1 = X at *
    have e1 := neq_nil2
    have e2 := neq_nil3
    have x0 := HD.out.x0
    have x1 := HD.out.x1
    have x2 := HD.out.x2
    have i0 := HD.out.i0
    have i1 := HD.out.i1
    have i2 := HD.out.i2
    have i3 := HD.out.i3
    have i4 := HD.out.i4
    have i5 := HD.out.i5
    have hg3 := i_grown_below HD.out.gr (some B)
    go_wp2_with fail
    refine (HC.out w3 HD.out.mb hg3).mono ?_
    rintro e w4 ⟨hok, hno, hmb, hgr⟩
    have rz4 : w4.heap[w.heap.size + 1]? = some (.cells #[.int .i64 0, .string ⟨#[]⟩] 56 (0, 0)) := (hgr.block _ (by have := HD.out.sz; omega) (by simp; omega)).trans HD.out.rz
    have HW : Hid (DoE w w4 B d.2.1 v fuel) := ⟨rz4, hmb, i_grown_trans hg3 hgr⟩
    obtain ⟨r0, r1, rf⟩ := HW.out.act
    clear x0 x1 x2 i0 i1 i2 i3 i4 i5 HD rz4 hmb hgr hg3
    by_cases hd : d.1 = 0
    · have he := hok hd
      subst he
      clear hok hno
      go_wp2_with fail
      obtain ⟨q1, q2, q3⟩ := HW.out.fin hlt (.int .i64 (d.2.2.1 : Int)) (.string d.2.2.2)
      exact bodyPost_ret (results_cell_row (p := 4) (ty := 56) rfl _ _ (w.heap.size + 1) 56 _ (0, 0) _ rfl q1 Tryz.underlying56 rfl (by kernel_rfl)) rfl ⟨fun _ => rfl, fun h0 => absurd hd h0, q2, q3⟩
    · have he := hno hd
      unfold Traps at he
      subst he
      clear hok hno
      go_wp2_with fail
      exact ⟨rfl, fun h0 => absurd h0 hd, fun _ => rfl, HW.out.mb, HW.out.gr⟩
end Go.Proofs.YtpgehocadohkiaaGreatDoor
end

section
namespace Go.Proofs.YtpgehocadohkiaaGreatDoor
open Go.RowKit Go.Shelf

theorem w2_E {w : World} {B fuel k a b c : Nat} {m : Mc} {v : Value} {op n : Int} (h : Mb w B m v fuel) : DoE w (W2 w op a b c n k) B m v fuel :=
  have g2 : Below w.heap.size w (W2 w op a b c n k) := (below_one w _).trans ((below_one _ _).mono (by simp))
  ⟨by have q := heap_alloc_new (w.alloc (.cells #[.int .i64 op, .int .i64 (a : Int), .int .i64 (b : Int), .int .i64 (c : Int), .int .i64 n, .int .u64 (k : Int)] 71)) (.cells #[.int .i64 0, .string ⟨#[]⟩] 56); rw [World.size_alloc] at q; exact q, h.below g2 h.lt, i_grown_below g2 _⟩
theorem DoE.drew {w w5 : World} {B fuel : Nat} {m : Mc} {v : Value} (h : DoE w w5 B m v fuel) (q : Nat) : DoE w (w5.drewN q) B m v fuel :=
  ⟨h.rz, ⟨h.mb.blk, h.mb.l8⟩, ⟨h.gr.os, h.gr.tape, h.gr.output, h.gr.size, h.gr.block⟩⟩
theorem DoE.grow {w w5 w6 : World} {B fuel : Nat} {m m' : Mc} {v : Value} (h : DoE w w5 B m v fuel) (hB : B < w.heap.size) (g : w5.grownBy w6 (some B)) (hm : Mb w6 B m' v fuel) : DoE w w6 B m' v fuel :=
  ⟨(g.block _ (lt_of_block h.rz) (by simp; omega)).trans h.rz, hm, i_grown_trans h.gr g⟩
theorem DoE.set {w w5 : World} {B fuel : Nat} {m m' : Mc} {v : Value} (h : DoE w w5 B m v fuel) (hB : B < w.heap.size) {i : Nat} {u : Value}
    (he : (m.vs v fuel).set i u = m'.vs v fuel) (l8 : m'.L8) : DoE w (w5.setCell ⟨B, i, none⟩ u) B m' v fuel :=
  h.grow hB (i_grown_set _ _ _ _) (h.mb.set he l8)

theorem Mc.L8.of {m m' : Mc} (h : m.L8) (hR : m'.R.length = m.R.length) (hS : m'.S.length = m.S.length) (hP : m'.P.length = m.P.length) : m'.L8 := ⟨hR.trans h.R, hS.trans h.S, hP.trans h.P⟩
theorem Mb.drew {w : World} {B fuel : Nat} {m : Mc} {v : Value} (h : Mb w B m v fuel) : Mb w.drew B m v fuel := ⟨h.blk, h.l8⟩
theorem i_grown_drew {w w' : World} {r : Option Nat} (h : w.grownBy w' r) : w.grownBy w'.drew r := ⟨h.os, h.tape, h.output, h.size, h.block⟩
set_option maxHeartbeats 1000000 in
theorem pushI_ok {w : World} {B fuel : Nat} {m : Mc} {v : Value} (h : Mb w B m v fuel) (hp : m.pn < 8) (x : Nat) :
    Calls Tryz.prog 176 #[.pointer (some ⟨B, 20, none⟩), .int .i64 (x : Int)] w fun e w' => e = .returned (.tuple #[]) ∧ Mb w' B { m with P := m.P.set m.pn x, pn := m.pn + 1 } v fuel ∧ w.grownBy w' (some B) := by
  have c28 := h.cell (h.l8.g_pn v fuel)
  obtain ⟨y, hy⟩ : ∃ y, m.P[m.pn]! = y := ⟨_, rfl⟩
  have cy := h.cell (h.l8.gP v fuel m.pn hp)
  rw [hy] at cy
  clear hy
  have z := h.z
  have h1 := h.set (m' := { m with P := m.P.set m.pn x }) (h.l8.gPs v fuel m.pn x hp) (h.l8.of rfl rfl (by simp))
  have HS := hide (h1.set (h1.l8.s_pn v fuel (m.pn + 1)) (h1.l8.of rfl rfl rfl))
  have hk := h1.cell (h1.l8.g_pn v fuel)
  have hz1 := h1.z
  clear h1
  have HG := hide (i_grown_trans (i_grown_set w B (20 + m.pn) (.int .i64 (x : Int))) (i_grown_set _ B 28 (.int .i64 ((m.pn + 1 : Nat) : Int))))
  obtain ⟨n, hn⟩ : ∃ n, m.pn = n := ⟨_, rfl⟩
  rw [hn] at c28 cy hp HS HG ⊢
  simp only [hn] at hk hz1
  have hni : (n : Int) < 8 := by omega
  have hb : ((n : Int) == 8) = false := by rw [beq_eq_false_iff_ne]; omega
  clear hn h
  go_enter Tryz.func176, Tryz.ntmps176
  go_wp2_with fail
  go_region_held3 (fun w' => w'.cell? ⟨B, 28, none⟩ = some (.int .i64 (n : Int))) (first | exact c28 | exact hk) (first | fail)
  go_wp2_with fail
  exact ⟨rfl, _, results_none rfl _ _ _, rfl, HS.out.drew, i_grown_drew HG.out⟩
set_option maxHeartbeats 1000000 in
theorem pushI_no {w : World} {B fuel : Nat} {m : Mc} {v : Value} (h : Mb w B m v fuel) (hp : m.pn = 8) (x : Nat) :
    Calls Tryz.prog 176 #[.pointer (some ⟨B, 20, none⟩), .int .i64 (x : Int)] w fun e w' => Traps e 2 ∧ w' = w := by
  have c28 := h.cell (h.l8.g_pn v fuel)
  rw [hp] at c28
  unfold Traps
  go_enter Tryz.func176, Tryz.ntmps176
  go_wp2_with fail
  exact ⟨rfl, rfl, rfl⟩
set_option maxHeartbeats 1000000 in
theorem pushU_ok {w : World} {B fuel : Nat} {m : Mc} {v : Value} (h : Mb w B m v fuel) (hp : m.sn < 8) (x : Nat) :
    Calls Tryz.prog 178 #[.pointer (some ⟨B, 11, none⟩), .int .u64 (x : Int)] w fun e w' => e = .returned (.tuple #[]) ∧ Mb w' B { m with S := m.S.set m.sn x, sn := m.sn + 1 } v fuel ∧ w.grownBy w' (some B) := by
  have c28 := h.cell (h.l8.g_sn v fuel)
  obtain ⟨y, hy⟩ : ∃ y, m.S[m.sn]! = y := ⟨_, rfl⟩
  have cy := h.cell (h.l8.gS v fuel m.sn hp)
  rw [hy] at cy
  clear hy
  have z := h.z
  have h1 := h.set (m' := { m with S := m.S.set m.sn x }) (h.l8.gSs v fuel m.sn x hp) (h.l8.of rfl (by simp) rfl)
  have HS := hide (h1.set (h1.l8.s_sn v fuel (m.sn + 1)) (h1.l8.of rfl rfl rfl))
  have hk := h1.cell (h1.l8.g_sn v fuel)
  have hz1 := h1.z
  clear h1
  have HG := hide (i_grown_trans (i_grown_set w B (11 + m.sn) (.int .u64 (x : Int))) (i_grown_set _ B 19 (.int .i64 ((m.sn + 1 : Nat) : Int))))
  obtain ⟨n, hn⟩ : ∃ n, m.sn = n := ⟨_, rfl⟩
  rw [hn] at c28 cy hp HS HG ⊢
  simp only [hn] at hk hz1
  have hni : (n : Int) < 8 := by omega
  have hb : ((n : Int) == 8) = false := by rw [beq_eq_false_iff_ne]; omega
  clear hn h
  go_enter Tryz.func178, Tryz.ntmps178
  go_wp2_with fail
  go_region_held3 (fun w' => w'.cell? ⟨B, 19, none⟩ = some (.int .i64 (n : Int))) (first | exact c28 | exact hk) (first | fail)
  go_wp2_with fail
  exact ⟨rfl, _, results_none rfl _ _ _, rfl, HS.out.drew, i_grown_drew HG.out⟩
set_option maxHeartbeats 1000000 in
theorem pushU_no {w : World} {B fuel : Nat} {m : Mc} {v : Value} (h : Mb w B m v fuel) (hp : m.sn = 8) (x : Nat) :
    Calls Tryz.prog 178 #[.pointer (some ⟨B, 11, none⟩), .int .u64 (x : Int)] w fun e w' => Traps e 2 ∧ w' = w := by
  have c28 := h.cell (h.l8.g_sn v fuel)
  rw [hp] at c28
  unfold Traps
  go_enter Tryz.func178, Tryz.ntmps178
  go_wp2_with fail
  exact ⟨rfl, rfl, rfl⟩
set_option maxHeartbeats 1000000 in
theorem popI_ok {w : World} {B fuel : Nat} {m : Mc} {v : Value} (h : Mb w B m v fuel) (hp : m.pn ≤ 8) (h0 : m.pn ≠ 0) :
    Calls Tryz.prog 177 #[.pointer (some ⟨B, 20, none⟩)] w fun e w' => e = .returned (.int .i64 (m.P[m.pn - 1]! : Int)) ∧ Mb w' B { m with pn := m.pn - 1 } v fuel ∧ w.grownBy w' (some B) := by
  have c28 := h.cell (h.l8.g_pn v fuel)
  have z := h.z
  have h1 := h.set (h.l8.s_pn v fuel (m.pn - 1)) (h.l8.of rfl rfl rfl)
  have HS := hide h1
  obtain ⟨y, hy⟩ : ∃ y, m.P[m.pn - 1]! = y := ⟨_, rfl⟩
  have cy := h1.cell (h1.l8.gP v fuel (m.pn - 1) (by omega))
  have hk := h1.cell (h1.l8.g_pn v fuel)
  clear h1
  rw [hy] at cy ⊢
  clear hy
  have HG := hide (i_grown_set w B 28 (.int .i64 ((m.pn - 1 : Nat) : Int)))
  obtain ⟨n, hn⟩ : ∃ n, m.pn = n + 1 := ⟨m.pn - 1, by omega⟩
  rw [hn] at c28 hp h0
  rw [hn, Nat.add_sub_cancel] at HS HG cy ⊢
  simp only [hn, Nat.add_sub_cancel] at hk
  have hni : (n : Int) < 8 := by omega
  have hb : ((n : Int) + 1 == 0) = false := by rw [beq_eq_false_iff_ne]; omega
  have hcast : ((n + 1 : Nat) : Int) = (n : Int) + 1 := by omega
  rw [hcast] at c28
  clear hn h h0 hcast
  go_enter Tryz.func177, Tryz.ntmps177
  go_wp2_with fail
  go_region_held3 (fun w' => w'.cell? ⟨B, 28, none⟩ = some (.int .i64 (n : Int)) ∧ w'.cell? ⟨B, 20 + n, none⟩ = some (.int .i64 (y : Int))) (first | exact ⟨hk, cy⟩) (first | fail)
  go_wp2_with fail
  go_ret
  exact ⟨rfl, HS.out.drew, i_grown_drew HG.out⟩
set_option maxHeartbeats 1000000 in
theorem popI_no {w : World} {B fuel : Nat} {m : Mc} {v : Value} (h : Mb w B m v fuel) (hp : m.pn = 0) :
    Calls Tryz.prog 177 #[.pointer (some ⟨B, 20, none⟩)] w fun e w' => Traps e 3 ∧ w' = w := by
  have c28 := h.cell (h.l8.g_pn v fuel)
  rw [hp] at c28
  unfold Traps
  go_enter Tryz.func177, Tryz.ntmps177
  go_wp2_with fail
  exact ⟨rfl, rfl, rfl⟩
set_option maxHeartbeats 1000000 in
theorem popU_ok {w : World} {B fuel : Nat} {m : Mc} {v : Value} (h : Mb w B m v fuel) (hp : m.sn ≤ 8) (h0 : m.sn ≠ 0) :
    Calls Tryz.prog 179 #[.pointer (some ⟨B, 11, none⟩)] w fun e w' => e = .returned (.int .u64 (m.S[m.sn - 1]! : Int)) ∧ Mb w' B { m with sn := m.sn - 1 } v fuel ∧ w.grownBy w' (some B) := by
  have c28 := h.cell (h.l8.g_sn v fuel)
  have z := h.z
  have h1 := h.set (h.l8.s_sn v fuel (m.sn - 1)) (h.l8.of rfl rfl rfl)
  have HS := hide h1
  obtain ⟨y, hy⟩ : ∃ y, m.S[m.sn - 1]! = y := ⟨_, rfl⟩
  have cy := h1.cell (h1.l8.gS v fuel (m.sn - 1) (by omega))
  have hk := h1.cell (h1.l8.g_sn v fuel)
  clear h1
  rw [hy] at cy ⊢
  clear hy
  have HG := hide (i_grown_set w B 19 (.int .i64 ((m.sn - 1 : Nat) : Int)))
  obtain ⟨n, hn⟩ : ∃ n, m.sn = n + 1 := ⟨m.sn - 1, by omega⟩
  rw [hn] at c28 hp h0
  rw [hn, Nat.add_sub_cancel] at HS HG cy ⊢
  simp only [hn, Nat.add_sub_cancel] at hk
  have hni : (n : Int) < 8 := by omega
  have hb : ((n : Int) + 1 == 0) = false := by rw [beq_eq_false_iff_ne]; omega
  have hcast : ((n + 1 : Nat) : Int) = (n : Int) + 1 := by omega
  rw [hcast] at c28
  clear hn h h0 hcast
  go_enter Tryz.func179, Tryz.ntmps179
  go_wp2_with fail
  go_region_held3 (fun w' => w'.cell? ⟨B, 19, none⟩ = some (.int .i64 (n : Int)) ∧ w'.cell? ⟨B, 11 + n, none⟩ = some (.int .u64 (y : Int))) (first | exact ⟨hk, cy⟩) (first | fail)
  go_wp2_with fail
  go_ret
  exact ⟨rfl, HS.out.drew, i_grown_drew HG.out⟩
set_option maxHeartbeats 1000000 in
theorem popU_no {w : World} {B fuel : Nat} {m : Mc} {v : Value} (h : Mb w B m v fuel) (hp : m.sn = 0) :
    Calls Tryz.prog 179 #[.pointer (some ⟨B, 11, none⟩)] w fun e w' => Traps e 3 ∧ w' = w := by
  have c28 := h.cell (h.l8.g_sn v fuel)
  rw [hp] at c28
  unfold Traps
  go_enter Tryz.func179, Tryz.ntmps179
  go_wp2_with fail
  exact ⟨rfl, rfl, rfl⟩
end Go.Proofs.YtpgehocadohkiaaGreatDoor
end
