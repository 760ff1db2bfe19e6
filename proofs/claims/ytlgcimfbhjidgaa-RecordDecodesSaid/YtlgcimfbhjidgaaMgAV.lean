import Derived.Test.YtlgcimfbhjidgaaMgAK
import Derived.Test.YtlgcimfbhjidgaaMgAM
import Derived.Deep.RegionHeld3

section
namespace Go.Proofs.Ytlgcimfbhjidgaa
open Go.RowKit
open Rc (L V Ch)

theorem baS (a : List UInt8) (x : ByteArray) : (⟨a.toArray⟩ : ByteArray) ++ x = ⟨(a ++ x.data.toList).toArray⟩ := by
  apply ByteArray.ext
  rw [ByteArray.data_append]
  apply Array.ext'
  simp
theorem addS {a b : List UInt8} (h : a.length + b.length ≤ 100000) (W : World) : (Op.stringOp .add ⟨a.toArray⟩ ⟨b.toArray⟩).run Try.prog W = .ok (.string ⟨(a ++ b).toArray⟩) W := by
  have := run_string_add_sum (P := Try.prog) W ⟨a.toArray⟩ ⟨b.toArray⟩ (by show a.toArray.size + b.toArray.size ≤ _; simp; omega)
  rw [this, baS]
theorem bndM {l : L} {v : V} (h : Rc.may l v = true) : (Rc.least l : Int) ≤ Rc.sz l v ∧ Rc.sz l v ≤ (Rc.most l : Int) := by
  unfold Rc.may at h
  rw [Bool.and_eq_true, Bool.and_eq_true, decide_eq_true_eq] at h
  exact h.1.1
theorem bndT {v : V} (h : Rc.may .T v = true) : ∀ t ∈ v.l, t.size ≤ 32 := by
  unfold Rc.may at h
  rw [Bool.and_eq_true] at h
  have := h.2
  simp at this
  exact this
set_option maxHeartbeats 400000 in
theorem dnum_any (x : Nat) (hx : x < 9223372036854775808) (w : World) : Calls Try.prog 25 #[.int .i64 (x : Int)] w fun e w' => e = .returned (.string ⟨(Pk.enc x).toArray⟩) ∧ Below w.heap.size w w' := by
  have HQ := hide (fun (y : Int) (hy : y = (x : Int)) => show Calls Try.prog 35 #[.int .u64 y] w fun e w' => e = .returned (.string ⟨(Pk.enc x).toArray⟩) ∧ Below w.heap.size w w' from by subst hy; exact qnum_any x (by omega) w)
  go_enter Try.func25, Try.ntmps25
  go_wp2_with fail
  refine (HQ.out _ (by first | rfl | omega | (rw [IntKind.wrap_u64]; omega))).mono ?_
  rintro e w1 ⟨rfl, hB⟩
  have HB := hide hB
  clear hB
  go_wp2
  go_ret
  exact ⟨rfl, HB.out⟩
theorem rnumI (y : Int) (x : Nat) (hy : y = (x : Int)) (hx : x < 9223372036854775808) (w : World) : Calls Try.prog 25 #[.int .i64 y] w fun e w' => e = .returned (.string ⟨(Pk.enc x).toArray⟩) ∧ Below w.heap.size w w' := by subst hy; exact dnum_any x hx w
theorem dtext_any (s : ByteArray) (hs : s.size ≤ 100000) (w : World) : Calls Try.prog 39 #[.string s] w fun e w' => e = .returned (.string ⟨(Pk.enc s.size ++ s.data.toList).toArray⟩) ∧ Below w.heap.size w w' := by
  have := qtext_any s (by omega) w
  rw [baS] at this
  exact this
theorem Ca.ten {w : World} {A : Nat} {c : Ch} {t : Value} (h : Ca w A c t) : w.cell? ⟨A, 0, none⟩ = some (.int .i64 c.k) ∧ w.cell? ⟨A, 1, none⟩ = some (.int .i64 c.n) ∧ w.cell? ⟨A, 2, none⟩ = some (.int .i64 c.jo) ∧ w.cell? ⟨A, 3, none⟩ = some (.int .i64 c.ba) ∧ w.cell? ⟨A, 4, none⟩ = some (.int .i64 c.sl) ∧ w.cell? ⟨A, 5, none⟩ = some (.int .i64 c.li) ∧ w.cell? ⟨A, 6, none⟩ = some (.int .i64 c.rc) ∧ w.cell? ⟨A, 7, none⟩ = some (.int .u64 (c.rb : Int)) ∧ w.cell? ⟨A, 8, none⟩ = some (.string c.pr) ∧ w.cell? ⟨A, 9, none⟩ = some t := by
  unfold Ca at h; simp [World.cell?, h, chC]
set_option maxHeartbeats 4000000 in
set_option maxRecDepth 8000 in
theorem rput1_any {x rb : Nat} {jo ba sl li rc : Int} {pr : ByteArray} {tx : List ByteArray} (hx : x ≤ 1099511627776) (t : Value) (w : World) : Calls Try.prog 27 #[.agg (chC ⟨1, (x : Int), jo, ba, sl, li, rc, rb, pr, tx⟩ t)] w fun e w' => e = .returned (.string ⟨(Pk.enc 1 ++ Pk.enc x).toArray⟩) ∧ Below w.heap.size w w' := by
  have HC : Hid (∀ V, Below (w.alloc (.cells (chC ⟨1, (x : Int), jo, ba, sl, li, rc, rb, pr, tx⟩ t) 32)).heap.size (w.alloc (.cells (chC ⟨1, (x : Int), jo, ba, sl, li, rc, rb, pr, tx⟩ t) 32)) V → _) := hide (fun V hV => (Ca.block (heap_alloc_new w (.cells (chC ⟨1, (x : Int), jo, ba, sl, li, rc, rb, pr, tx⟩ t) 32) : Ca _ w.heap.size ⟨1, (x : Int), jo, ba, sl, li, rc, rb, pr, tx⟩ t) (hV.block _ (by rw [World.size_alloc]; omega))).ten)
  have HB0 : Hid (Below w.heap.size w (w.alloc (.cells (chC ⟨1, (x : Int), jo, ba, sl, li, rc, rb, pr, tx⟩ t) 32))) := hide (below_alloc w _)
  have e1 := Pk.enc_ten (n := 1) (by decide)
  have ex := Pk.enc_ten (n := x) (by omega)
  have hadd := fun W => addS (a := Pk.enc 1) (b := Pk.enc x) (by omega) W
  unfold chC at HC HB0 ⊢
  go_enter Try.func27, Try.ntmps27
  go_wp2_with fail
  refine (dnum_any 1 (by decide) _).mono ?_
  rintro e w1 ⟨rfl, hB1⟩
  have HB1 := hide hB1
  clear hB1
  obtain ⟨c0, c1, c2, c3, c4, c5, c6, c7, c8, c9⟩ := HC.out _ HB1.out
  go_wp2_with fail
  refine (dnum_any x (by omega) _).mono ?_
  rintro e w2 ⟨rfl, hB2⟩
  have HBf := hide (HB0.out.trans ((HB1.out.trans (hB2.mono HB1.out.size)).mono HB0.out.size))
  clear hB2 c0 c1 c2 c3 c4 c5 c6 c7 c8 c9
  go_wp2
  go_ret
  exact ⟨rfl, HBf.out⟩
set_option maxHeartbeats 4000000 in
set_option maxRecDepth 8000 in
theorem rput5_any {x rb : Nat} {n jo sl li rc : Int} {pr : ByteArray} {tx : List ByteArray} (hx : x ≤ 1099511627776) (t : Value) (w : World) : Calls Try.prog 27 #[.agg (chC ⟨5, n, jo, (x : Int), sl, li, rc, rb, pr, tx⟩ t)] w fun e w' => e = .returned (.string ⟨(Pk.enc 5 ++ Pk.enc x).toArray⟩) ∧ Below w.heap.size w w' := by
  have HC : Hid (∀ V, Below (w.alloc (.cells (chC ⟨5, n, jo, (x : Int), sl, li, rc, rb, pr, tx⟩ t) 32)).heap.size (w.alloc (.cells (chC ⟨5, n, jo, (x : Int), sl, li, rc, rb, pr, tx⟩ t) 32)) V → _) := hide (fun V hV => (Ca.block (heap_alloc_new w (.cells (chC ⟨5, n, jo, (x : Int), sl, li, rc, rb, pr, tx⟩ t) 32) : Ca _ w.heap.size ⟨5, n, jo, (x : Int), sl, li, rc, rb, pr, tx⟩ t) (hV.block _ (by rw [World.size_alloc]; omega))).ten)
  have HB0 : Hid (Below w.heap.size w (w.alloc (.cells (chC ⟨5, n, jo, (x : Int), sl, li, rc, rb, pr, tx⟩ t) 32))) := hide (below_alloc w _)
  have e5 := Pk.enc_ten (n := 5) (by decide)
  have ex := Pk.enc_ten (n := x) (by omega)
  have hadd := fun W => addS (a := Pk.enc 5) (b := Pk.enc x) (by omega) W
  unfold chC at HC HB0 ⊢
  go_enter Try.func27, Try.ntmps27
  go_wp2_with fail
  refine (dnum_any 5 (by decide) _).mono ?_
  rintro e w1 ⟨rfl, hB1⟩
  have HB1 := hide hB1
  clear hB1
  obtain ⟨c0, c1, c2, c3, c4, c5, c6, c7, c8, c9⟩ := HC.out _ HB1.out
  go_wp2_with fail
  refine (dnum_any x (by omega) _).mono ?_
  rintro e w2 ⟨rfl, hB2⟩
  have HBf := hide (HB0.out.trans ((HB1.out.trans (hB2.mono HB1.out.size)).mono HB0.out.size))
  clear hB2 c0 c1 c2 c3 c4 c5 c6 c7 c8 c9
  go_wp2
  go_ret
  exact ⟨rfl, HBf.out⟩
set_option maxHeartbeats 4000000 in
set_option maxRecDepth 8000 in
theorem rput2_any {x rb : Nat} {n ba sl li rc : Int} {pr : ByteArray} {tx : List ByteArray} (hx : x ≤ 8) (hp : pr.size ≤ 1024) (t : Value) (w : World) : Calls Try.prog 27 #[.agg (chC ⟨2, n, (x : Int), ba, sl, li, rc, rb, pr, tx⟩ t)] w fun e w' => e = .returned (.string ⟨(Pk.enc 2 ++ Pk.enc x ++ (Pk.enc pr.size ++ pr.data.toList)).toArray⟩) ∧ Below w.heap.size w w' := by
  have HC : Hid (∀ V, Below (w.alloc (.cells (chC ⟨2, n, (x : Int), ba, sl, li, rc, rb, pr, tx⟩ t) 32)).heap.size (w.alloc (.cells (chC ⟨2, n, (x : Int), ba, sl, li, rc, rb, pr, tx⟩ t) 32)) V → _) := hide (fun V hV => (Ca.block (heap_alloc_new w (.cells (chC ⟨2, n, (x : Int), ba, sl, li, rc, rb, pr, tx⟩ t) 32) : Ca _ w.heap.size ⟨2, n, (x : Int), ba, sl, li, rc, rb, pr, tx⟩ t) (hV.block _ (by rw [World.size_alloc]; omega))).ten)
  have HB0 : Hid (Below w.heap.size w (w.alloc (.cells (chC ⟨2, n, (x : Int), ba, sl, li, rc, rb, pr, tx⟩ t) 32))) := hide (below_alloc w _)
  have e2 := Pk.enc_ten (n := 2) (by decide)
  have ex := Pk.enc_ten (n := x) (by omega)
  have ep := Pk.enc_ten (n := pr.size) (by omega)
  have hpl : pr.data.toList.length = pr.size := by simp
  have hadd1 := fun W => addS (a := Pk.enc 2) (b := Pk.enc x) (by omega) W
  have hadd2 := fun W => addS (a := Pk.enc 2 ++ Pk.enc x) (b := Pk.enc pr.size ++ pr.data.toList) (by rw [List.length_append, List.length_append]; omega) W
  
  unfold chC at HC HB0 ⊢
  go_enter Try.func27, Try.ntmps27
  go_wp2_with fail
  refine (dnum_any 2 (by decide) _).mono ?_
  rintro e w1 ⟨rfl, hB1⟩
  have HB1 := hide hB1
  clear hB1
  obtain ⟨c0, c1, c2, c3, c4, c5, c6, c7, c8, c9⟩ := HC.out _ HB1.out
  generalize w.alloc (.cells #[.int .i64 2, .int .i64 n, .int .i64 (x : Int), .int .i64 ba, .int .i64 sl, .int .i64 li, .int .i64 rc, .int .u64 (rb : Int), .string pr, t] 32) = W0 at *
  go_wp2_with fail
  refine wp_region_held_drew (S := fun w' => Below W0.heap.size W0 w') (by kernel_rfl) (Below.trans HB1.out ⟨rfl, rfl, rfl, Nat.le_refl _, fun _ _ => rfl⟩) (fun hHeld => ?_)
  refine wpAnyH_take (i := 0) (v := .string ⟨(Pk.enc 2).toArray⟩) rfl (by kernel_rfl) (by kernel_rfl) (by kernel_rfl) (fun _ _ _ h => h) (Or.inl ⟨by kernel_rfl, fun w1 hSw => by clear hHeld; obtain ⟨c0, c1, c2, c3, c4, c5, c6, c7, c8, c9⟩ := HC.out _ hSw; clear hSw; go_simp⟩) hHeld ?_
  try simp only [Act.put]
  try simp only [List.getElem_toArray]
  try simp only [List.getElem_cons_succ]
  try simp only [List.getElem_cons_zero]
  try simp only [List.setIfInBounds_toArray]
  try simp only [List.set_cons_succ, List.set_cons_zero]
  refine wpAnyH_take (i := 1) (v := .pointer (some ⟨w.heap.size, 2, none⟩)) rfl (by kernel_rfl) (by kernel_rfl) (by kernel_rfl) (fun _ _ _ h => h) (Or.inl ⟨by kernel_rfl, fun w1 hSw => by clear hHeld; obtain ⟨c0, c1, c2, c3, c4, c5, c6, c7, c8, c9⟩ := HC.out _ hSw; clear hSw; go_simp⟩) hHeld ?_
  try simp only [Act.put]
  try simp only [List.getElem_toArray]
  try simp only [List.getElem_cons_succ]
  try simp only [List.getElem_cons_zero]
  try simp only [List.setIfInBounds_toArray]
  try simp only [List.set_cons_succ, List.set_cons_zero]
  refine wpAnyH_take (i := 2) (v := .int .i64 (x : Int)) rfl (by kernel_rfl) (by kernel_rfl) (by kernel_rfl) (fun _ _ _ h => h) (Or.inl ⟨by kernel_rfl, fun w1 hSw => by clear hHeld; obtain ⟨c0, c1, c2, c3, c4, c5, c6, c7, c8, c9⟩ := HC.out _ hSw; clear hSw; go_simp⟩) hHeld ?_
  try simp only [Act.put]
  try simp only [List.getElem_toArray]
  try simp only [List.getElem_cons_succ]
  try simp only [List.getElem_cons_zero]
  try simp only [List.setIfInBounds_toArray]
  try simp only [List.set_cons_succ, List.set_cons_zero]
  refine wpAnyH_take (i := 5) (v := .pointer (some ⟨w.heap.size, 8, none⟩)) rfl (by kernel_rfl) (by kernel_rfl) (by kernel_rfl) (fun _ _ _ h => h) (Or.inl ⟨by kernel_rfl, fun w1 hSw => by clear hHeld; obtain ⟨c0, c1, c2, c3, c4, c5, c6, c7, c8, c9⟩ := HC.out _ hSw; clear hSw; go_simp⟩) hHeld ?_
  try simp only [Act.put]
  try simp only [List.getElem_toArray]
  try simp only [List.getElem_cons_succ]
  try simp only [List.getElem_cons_zero]
  try simp only [List.setIfInBounds_toArray]
  try simp only [List.set_cons_succ, List.set_cons_zero]
  refine wpAnyH_take (i := 6) (v := .string pr) rfl (by kernel_rfl) (by kernel_rfl) (by kernel_rfl) (fun _ _ _ h => h) (Or.inl ⟨by kernel_rfl, fun w1 hSw => by clear hHeld; obtain ⟨c0, c1, c2, c3, c4, c5, c6, c7, c8, c9⟩ := HC.out _ hSw; clear hSw; go_simp⟩) hHeld ?_
  try simp only [Act.put]
  try simp only [List.getElem_toArray]
  try simp only [List.getElem_cons_succ]
  try simp only [List.getElem_cons_zero]
  try simp only [List.setIfInBounds_toArray]
  try simp only [List.set_cons_succ, List.set_cons_zero]
  refine wpAnyH_ready (rs := [3]) (by kernel_rfl) (by simp) ?_
  refine AllReadyH.cons rfl (fun K hK => ?_) AllReadyH.nil
  go_simp
  refine (dnum_any x (by omega) _).mono ?_
  rintro e w0 ⟨rfl, hB0⟩
  refine hK.out _ _ (Below.trans hHeld (hB0.mono hHeld.size)) (fun hHeld => ?_)
  clear hK K
  try simp only [Act.put]
  try simp only [List.getElem_toArray]
  try simp only [List.getElem_cons_succ]
  try simp only [List.getElem_cons_zero]
  try simp only [List.setIfInBounds_toArray]
  try simp only [List.set_cons_succ, List.set_cons_zero]
  refine wpAnyH_take (i := 4) (v := .string ⟨(Pk.enc 2 ++ Pk.enc x).toArray⟩) rfl (by kernel_rfl) (by kernel_rfl) (by kernel_rfl) (fun _ _ _ h => h) (Or.inl ⟨by kernel_rfl, fun w1 hSw => by clear hHeld; obtain ⟨c0, c1, c2, c3, c4, c5, c6, c7, c8, c9⟩ := HC.out _ hSw; clear hSw; go_simp⟩) hHeld ?_
  try simp only [Act.put]
  try simp only [List.getElem_toArray]
  try simp only [List.getElem_cons_succ]
  try simp only [List.getElem_cons_zero]
  try simp only [List.setIfInBounds_toArray]
  try simp only [List.set_cons_succ, List.set_cons_zero]
  refine wpAnyH_ready (rs := [7]) (by kernel_rfl) (by simp) ?_
  refine AllReadyH.cons rfl (fun K hK => ?_) AllReadyH.nil
  go_simp
  refine (dtext_any pr (by omega) _).mono ?_
  rintro e w1 ⟨rfl, hB1⟩
  refine hK.out _ _ (Below.trans hHeld (hB1.mono hHeld.size)) (fun hHeld => ?_)
  clear hK K
  try simp only [Act.put]
  try simp only [List.getElem_toArray]
  try simp only [List.getElem_cons_succ]
  try simp only [List.getElem_cons_zero]
  try simp only [List.setIfInBounds_toArray]
  try simp only [List.set_cons_succ, List.set_cons_zero]
  refine wpAnyH_take (i := 8) (v := .string ⟨(Pk.enc 2 ++ Pk.enc x ++ (Pk.enc pr.size ++ pr.data.toList)).toArray⟩) rfl (by kernel_rfl) (by kernel_rfl) (by kernel_rfl) (fun _ _ _ h => h) (Or.inl ⟨by kernel_rfl, fun w1 hSw => by clear hHeld; obtain ⟨c0, c1, c2, c3, c4, c5, c6, c7, c8, c9⟩ := HC.out _ hSw; clear hSw; go_simp⟩) hHeld ?_
  try simp only [Act.put]
  try simp only [List.getElem_toArray]
  try simp only [List.getElem_cons_succ]
  try simp only [List.getElem_cons_zero]
  try simp only [List.setIfInBounds_toArray]
  try simp only [List.set_cons_succ, List.set_cons_zero]
  refine wpAnyH_take (i := 9) (v := .string ⟨(Pk.enc 2 ++ Pk.enc x ++ (Pk.enc pr.size ++ pr.data.toList)).toArray⟩) rfl (by kernel_rfl) (by kernel_rfl) (by kernel_rfl) (fun _ _ _ h => h) (Or.inl ⟨by kernel_rfl, fun w1 hSw => by clear hHeld; obtain ⟨c0, c1, c2, c3, c4, c5, c6, c7, c8, c9⟩ := HC.out _ hSw; clear hSw; go_simp⟩) hHeld ?_
  try simp only [Act.put]
  try simp only [List.getElem_toArray]
  try simp only [List.getElem_cons_succ]
  try simp only [List.getElem_cons_zero]
  try simp only [List.setIfInBounds_toArray]
  try simp only [List.set_cons_succ, List.set_cons_zero]
  refine wpAnyH_done (by kernel_rfl) ?_ _
  have HBf := hide (HB0.out.trans (hHeld.mono HB0.out.size))
  clear hHeld
  go_wp2
  go_ret
  exact ⟨rfl, HBf.out⟩
set_option maxHeartbeats 4000000 in
set_option maxRecDepth 8000 in
theorem rput3_any {x y z u rb : Nat} {n rc : Int} {pr : ByteArray} {tx : List ByteArray} (hx : x ≤ 8) (hy : y ≤ 1099511627776) (hz : z ≤ 7) (hu : u ≤ 1099511627776) (t : Value) (w : World) : Calls Try.prog 27 #[.agg (chC ⟨3, n, (x : Int), (y : Int), (z : Int), (u : Int), rc, rb, pr, tx⟩ t)] w fun e w' => e = .returned (.string ⟨(Pk.enc 3 ++ Pk.enc x ++ Pk.enc y ++ Pk.enc z ++ Pk.enc u).toArray⟩) ∧ Below w.heap.size w w' := by
  have HC : Hid (∀ V, Below (w.alloc (.cells (chC ⟨3, n, (x : Int), (y : Int), (z : Int), (u : Int), rc, rb, pr, tx⟩ t) 32)).heap.size (w.alloc (.cells (chC ⟨3, n, (x : Int), (y : Int), (z : Int), (u : Int), rc, rb, pr, tx⟩ t) 32)) V → _) := hide (fun V hV => (Ca.block (heap_alloc_new w (.cells (chC ⟨3, n, (x : Int), (y : Int), (z : Int), (u : Int), rc, rb, pr, tx⟩ t) 32) : Ca _ w.heap.size ⟨3, n, (x : Int), (y : Int), (z : Int), (u : Int), rc, rb, pr, tx⟩ t) (hV.block _ (by rw [World.size_alloc]; omega))).ten)
  have HB0 : Hid (Below w.heap.size w (w.alloc (.cells (chC ⟨3, n, (x : Int), (y : Int), (z : Int), (u : Int), rc, rb, pr, tx⟩ t) 32))) := hide (below_alloc w _)
  have e3 := Pk.enc_ten (n := 3) (by decide)
  have ex := Pk.enc_ten (n := x) (by omega)
  have ey := Pk.enc_ten (n := y) (by omega)
  have ez := Pk.enc_ten (n := z) (by omega)
  have eu := Pk.enc_ten (n := u) (by omega)
  obtain ⟨A1, hA1⟩ : ∃ A, A = Pk.enc 3 ++ Pk.enc x := ⟨_, rfl⟩
  have lA1 : A1.length ≤ 20 := by rw [hA1, List.length_append]; omega
  have addA1 : ∀ W, (Op.stringOp .add ⟨(Pk.enc 3).toArray⟩ ⟨(Pk.enc x).toArray⟩).run Try.prog W = .ok (.string ⟨(A1).toArray⟩) W := fun W => by rw [hA1]; exact addS (by omega) W
  obtain ⟨A2, hA2⟩ : ∃ A, A = A1 ++ Pk.enc y := ⟨_, rfl⟩
  have lA2 : A2.length ≤ 30 := by rw [hA2, List.length_append]; omega
  have addA2 : ∀ W, (Op.stringOp .add ⟨(A1).toArray⟩ ⟨(Pk.enc y).toArray⟩).run Try.prog W = .ok (.string ⟨(A2).toArray⟩) W := fun W => by rw [hA2]; exact addS (by omega) W
  obtain ⟨A3, hA3⟩ : ∃ A, A = A2 ++ Pk.enc z := ⟨_, rfl⟩
  have lA3 : A3.length ≤ 40 := by rw [hA3, List.length_append]; omega
  have addA3 : ∀ W, (Op.stringOp .add ⟨(A2).toArray⟩ ⟨(Pk.enc z).toArray⟩).run Try.prog W = .ok (.string ⟨(A3).toArray⟩) W := fun W => by rw [hA3]; exact addS (by omega) W
  obtain ⟨A4, hA4⟩ : ∃ A, A = A3 ++ Pk.enc u := ⟨_, rfl⟩
  have lA4 : A4.length ≤ 50 := by rw [hA4, List.length_append]; omega
  have addA4 : ∀ W, (Op.stringOp .add ⟨(A3).toArray⟩ ⟨(Pk.enc u).toArray⟩).run Try.prog W = .ok (.string ⟨(A4).toArray⟩) W := fun W => by rw [hA4]; exact addS (by omega) W
  rw [← hA1, ← hA2, ← hA3, ← hA4]
  clear hA1 hA2 hA3 hA4
  unfold chC at HC HB0 ⊢
  go_enter Try.func27, Try.ntmps27
  go_wp2_with fail
  refine (dnum_any 3 (by decide) _).mono ?_
  rintro e w1 ⟨rfl, hB1⟩
  have HB1 := hide hB1
  clear hB1
  obtain ⟨c0, c1, c2, c3, c4, c5, c6, c7, c8, c9⟩ := HC.out _ HB1.out
  generalize w.alloc (.cells #[.int .i64 3, .int .i64 n, .int .i64 (x : Int), .int .i64 (y : Int), .int .i64 (z : Int), .int .i64 (u : Int), .int .i64 rc, .int .u64 (rb : Int), .string pr, t] 32) = W0 at *
  go_wp2_with fail
  refine wp_region_held_drew (S := fun w' => Below W0.heap.size W0 w') (by kernel_rfl) (Below.trans HB1.out ⟨rfl, rfl, rfl, Nat.le_refl _, fun _ _ => rfl⟩) (fun hHeld => ?_)
  refine wpAnyH_take (i := 0) (v := .string ⟨(Pk.enc 3).toArray⟩) rfl (by kernel_rfl) (by kernel_rfl) (by kernel_rfl) (fun _ _ _ h => h) (Or.inl ⟨by kernel_rfl, fun w1 hSw => by clear hHeld; obtain ⟨c0, c1, c2, c3, c4, c5, c6, c7, c8, c9⟩ := HC.out _ hSw; clear hSw; go_simp⟩) hHeld ?_
  try simp only [Act.put]
  try simp only [List.getElem_toArray]
  try simp only [List.getElem_cons_succ]
  try simp only [List.getElem_cons_zero]
  try simp only [List.setIfInBounds_toArray]
  try simp only [List.set_cons_succ, List.set_cons_zero]
  refine wpAnyH_take (i := 1) (v := .pointer (some ⟨w.heap.size, 2, none⟩)) rfl (by kernel_rfl) (by kernel_rfl) (by kernel_rfl) (fun _ _ _ h => h) (Or.inl ⟨by kernel_rfl, fun w1 hSw => by clear hHeld; obtain ⟨c0, c1, c2, c3, c4, c5, c6, c7, c8, c9⟩ := HC.out _ hSw; clear hSw; go_simp⟩) hHeld ?_
  try simp only [Act.put]
  try simp only [List.getElem_toArray]
  try simp only [List.getElem_cons_succ]
  try simp only [List.getElem_cons_zero]
  try simp only [List.setIfInBounds_toArray]
  try simp only [List.set_cons_succ, List.set_cons_zero]
  refine wpAnyH_take (i := 2) (v := .int .i64 (x : Int)) rfl (by kernel_rfl) (by kernel_rfl) (by kernel_rfl) (fun _ _ _ h => h) (Or.inl ⟨by kernel_rfl, fun w1 hSw => by clear hHeld; obtain ⟨c0, c1, c2, c3, c4, c5, c6, c7, c8, c9⟩ := HC.out _ hSw; clear hSw; go_simp⟩) hHeld ?_
  try simp only [Act.put]
  try simp only [List.getElem_toArray]
  try simp only [List.getElem_cons_succ]
  try simp only [List.getElem_cons_zero]
  try simp only [List.setIfInBounds_toArray]
  try simp only [List.set_cons_succ, List.set_cons_zero]
  refine wpAnyH_take (i := 5) (v := .pointer (some ⟨w.heap.size, 3, none⟩)) rfl (by kernel_rfl) (by kernel_rfl) (by kernel_rfl) (fun _ _ _ h => h) (Or.inl ⟨by kernel_rfl, fun w1 hSw => by clear hHeld; obtain ⟨c0, c1, c2, c3, c4, c5, c6, c7, c8, c9⟩ := HC.out _ hSw; clear hSw; go_simp⟩) hHeld ?_
  try simp only [Act.put]
  try simp only [List.getElem_toArray]
  try simp only [List.getElem_cons_succ]
  try simp only [List.getElem_cons_zero]
  try simp only [List.setIfInBounds_toArray]
  try simp only [List.set_cons_succ, List.set_cons_zero]
  refine wpAnyH_take (i := 6) (v := .int .i64 (y : Int)) rfl (by kernel_rfl) (by kernel_rfl) (by kernel_rfl) (fun _ _ _ h => h) (Or.inl ⟨by kernel_rfl, fun w1 hSw => by clear hHeld; obtain ⟨c0, c1, c2, c3, c4, c5, c6, c7, c8, c9⟩ := HC.out _ hSw; clear hSw; go_simp⟩) hHeld ?_
  try simp only [Act.put]
  try simp only [List.getElem_toArray]
  try simp only [List.getElem_cons_succ]
  try simp only [List.getElem_cons_zero]
  try simp only [List.setIfInBounds_toArray]
  try simp only [List.set_cons_succ, List.set_cons_zero]
  refine wpAnyH_take (i := 9) (v := .pointer (some ⟨w.heap.size, 4, none⟩)) rfl (by kernel_rfl) (by kernel_rfl) (by kernel_rfl) (fun _ _ _ h => h) (Or.inl ⟨by kernel_rfl, fun w1 hSw => by clear hHeld; obtain ⟨c0, c1, c2, c3, c4, c5, c6, c7, c8, c9⟩ := HC.out _ hSw; clear hSw; go_simp⟩) hHeld ?_
  try simp only [Act.put]
  try simp only [List.getElem_toArray]
  try simp only [List.getElem_cons_succ]
  try simp only [List.getElem_cons_zero]
  try simp only [List.setIfInBounds_toArray]
  try simp only [List.set_cons_succ, List.set_cons_zero]
  refine wpAnyH_take (i := 10) (v := .int .i64 (z : Int)) rfl (by kernel_rfl) (by kernel_rfl) (by kernel_rfl) (fun _ _ _ h => h) (Or.inl ⟨by kernel_rfl, fun w1 hSw => by clear hHeld; obtain ⟨c0, c1, c2, c3, c4, c5, c6, c7, c8, c9⟩ := HC.out _ hSw; clear hSw; go_simp⟩) hHeld ?_
  try simp only [Act.put]
  try simp only [List.getElem_toArray]
  try simp only [List.getElem_cons_succ]
  try simp only [List.getElem_cons_zero]
  try simp only [List.setIfInBounds_toArray]
  try simp only [List.set_cons_succ, List.set_cons_zero]
  refine wpAnyH_take (i := 13) (v := .pointer (some ⟨w.heap.size, 5, none⟩)) rfl (by kernel_rfl) (by kernel_rfl) (by kernel_rfl) (fun _ _ _ h => h) (Or.inl ⟨by kernel_rfl, fun w1 hSw => by clear hHeld; obtain ⟨c0, c1, c2, c3, c4, c5, c6, c7, c8, c9⟩ := HC.out _ hSw; clear hSw; go_simp⟩) hHeld ?_
  try simp only [Act.put]
  try simp only [List.getElem_toArray]
  try simp only [List.getElem_cons_succ]
  try simp only [List.getElem_cons_zero]
  try simp only [List.setIfInBounds_toArray]
  try simp only [List.set_cons_succ, List.set_cons_zero]
  refine wpAnyH_take (i := 14) (v := .int .i64 (u : Int)) rfl (by kernel_rfl) (by kernel_rfl) (by kernel_rfl) (fun _ _ _ h => h) (Or.inl ⟨by kernel_rfl, fun w1 hSw => by clear hHeld; obtain ⟨c0, c1, c2, c3, c4, c5, c6, c7, c8, c9⟩ := HC.out _ hSw; clear hSw; go_simp⟩) hHeld ?_
  try simp only [Act.put]
  try simp only [List.getElem_toArray]
  try simp only [List.getElem_cons_succ]
  try simp only [List.getElem_cons_zero]
  try simp only [List.setIfInBounds_toArray]
  try simp only [List.set_cons_succ, List.set_cons_zero]
  refine wpAnyH_ready (rs := [3]) (by kernel_rfl) (by simp) ?_
  refine AllReadyH.cons rfl (fun K hK => ?_) AllReadyH.nil
  go_simp
  refine (dnum_any x (by omega) _).mono ?_
  rintro e w0 ⟨rfl, hB0⟩
  refine hK.out _ _ (Below.trans hHeld (hB0.mono hHeld.size)) (fun hHeld => ?_)
  clear hK K
  try simp only [Act.put]
  try simp only [List.getElem_toArray]
  try simp only [List.getElem_cons_succ]
  try simp only [List.getElem_cons_zero]
  try simp only [List.setIfInBounds_toArray]
  try simp only [List.set_cons_succ, List.set_cons_zero]
  refine wpAnyH_take (i := 4) (v := .string ⟨(A1).toArray⟩) rfl (by kernel_rfl) (by kernel_rfl) (by kernel_rfl) (fun _ _ _ h => h) (Or.inl ⟨by kernel_rfl, fun w1 hSw => by clear hHeld; obtain ⟨c0, c1, c2, c3, c4, c5, c6, c7, c8, c9⟩ := HC.out _ hSw; clear hSw; go_simp⟩) hHeld ?_
  try simp only [Act.put]
  try simp only [List.getElem_toArray]
  try simp only [List.getElem_cons_succ]
  try simp only [List.getElem_cons_zero]
  try simp only [List.setIfInBounds_toArray]
  try simp only [List.set_cons_succ, List.set_cons_zero]
  refine wpAnyH_ready (rs := [7]) (by kernel_rfl) (by simp) ?_
  refine AllReadyH.cons rfl (fun K hK => ?_) AllReadyH.nil
  go_simp
  refine (dnum_any y (by omega) _).mono ?_
  rintro e w1 ⟨rfl, hB1⟩
  refine hK.out _ _ (Below.trans hHeld (hB1.mono hHeld.size)) (fun hHeld => ?_)
  clear hK K
  try simp only [Act.put]
  try simp only [List.getElem_toArray]
  try simp only [List.getElem_cons_succ]
  try simp only [List.getElem_cons_zero]
  try simp only [List.setIfInBounds_toArray]
  try simp only [List.set_cons_succ, List.set_cons_zero]
  refine wpAnyH_take (i := 8) (v := .string ⟨(A2).toArray⟩) rfl (by kernel_rfl) (by kernel_rfl) (by kernel_rfl) (fun _ _ _ h => h) (Or.inl ⟨by kernel_rfl, fun w1 hSw => by clear hHeld; obtain ⟨c0, c1, c2, c3, c4, c5, c6, c7, c8, c9⟩ := HC.out _ hSw; clear hSw; go_simp⟩) hHeld ?_
  try simp only [Act.put]
  try simp only [List.getElem_toArray]
  try simp only [List.getElem_cons_succ]
  try simp only [List.getElem_cons_zero]
  try simp only [List.setIfInBounds_toArray]
  try simp only [List.set_cons_succ, List.set_cons_zero]
  refine wpAnyH_ready (rs := [11]) (by kernel_rfl) (by simp) ?_
  refine AllReadyH.cons rfl (fun K hK => ?_) AllReadyH.nil
  go_simp
  refine (dnum_any z (by omega) _).mono ?_
  rintro e w2 ⟨rfl, hB2⟩
  refine hK.out _ _ (Below.trans hHeld (hB2.mono hHeld.size)) (fun hHeld => ?_)
  clear hK K
  try simp only [Act.put]
  try simp only [List.getElem_toArray]
  try simp only [List.getElem_cons_succ]
  try simp only [List.getElem_cons_zero]
  try simp only [List.setIfInBounds_toArray]
  try simp only [List.set_cons_succ, List.set_cons_zero]
  refine wpAnyH_take (i := 12) (v := .string ⟨(A3).toArray⟩) rfl (by kernel_rfl) (by kernel_rfl) (by kernel_rfl) (fun _ _ _ h => h) (Or.inl ⟨by kernel_rfl, fun w1 hSw => by clear hHeld; obtain ⟨c0, c1, c2, c3, c4, c5, c6, c7, c8, c9⟩ := HC.out _ hSw; clear hSw; go_simp⟩) hHeld ?_
  try simp only [Act.put]
  try simp only [List.getElem_toArray]
  try simp only [List.getElem_cons_succ]
  try simp only [List.getElem_cons_zero]
  try simp only [List.setIfInBounds_toArray]
  try simp only [List.set_cons_succ, List.set_cons_zero]
  refine wpAnyH_ready (rs := [15]) (by kernel_rfl) (by simp) ?_
  refine AllReadyH.cons rfl (fun K hK => ?_) AllReadyH.nil
  go_simp
  refine (dnum_any u (by omega) _).mono ?_
  rintro e w3 ⟨rfl, hB3⟩
  refine hK.out _ _ (Below.trans hHeld (hB3.mono hHeld.size)) (fun hHeld => ?_)
  clear hK K
  try simp only [Act.put]
  try simp only [List.getElem_toArray]
  try simp only [List.getElem_cons_succ]
  try simp only [List.getElem_cons_zero]
  try simp only [List.setIfInBounds_toArray]
  try simp only [List.set_cons_succ, List.set_cons_zero]
  refine wpAnyH_take (i := 16) (v := .string ⟨(A4).toArray⟩) rfl (by kernel_rfl) (by kernel_rfl) (by kernel_rfl) (fun _ _ _ h => h) (Or.inl ⟨by kernel_rfl, fun w1 hSw => by clear hHeld; obtain ⟨c0, c1, c2, c3, c4, c5, c6, c7, c8, c9⟩ := HC.out _ hSw; clear hSw; go_simp⟩) hHeld ?_
  try simp only [Act.put]
  try simp only [List.getElem_toArray]
  try simp only [List.getElem_cons_succ]
  try simp only [List.getElem_cons_zero]
  try simp only [List.setIfInBounds_toArray]
  try simp only [List.set_cons_succ, List.set_cons_zero]
  refine wpAnyH_take (i := 17) (v := .string ⟨(A4).toArray⟩) rfl (by kernel_rfl) (by kernel_rfl) (by kernel_rfl) (fun _ _ _ h => h) (Or.inl ⟨by kernel_rfl, fun w1 hSw => by clear hHeld; obtain ⟨c0, c1, c2, c3, c4, c5, c6, c7, c8, c9⟩ := HC.out _ hSw; clear hSw; go_simp⟩) hHeld ?_
  try simp only [Act.put]
  try simp only [List.getElem_toArray]
  try simp only [List.getElem_cons_succ]
  try simp only [List.getElem_cons_zero]
  try simp only [List.setIfInBounds_toArray]
  try simp only [List.set_cons_succ, List.set_cons_zero]
  refine wpAnyH_done (by kernel_rfl) ?_ _
  have HBf := hide (HB0.out.trans (hHeld.mono HB0.out.size))
  clear hHeld
  go_wp2
  go_ret
  exact ⟨rfl, HBf.out⟩
set_option maxHeartbeats 4000000 in
set_option maxRecDepth 8000 in
theorem rput6_any {x y rb : Nat} {n jo sl li : Int} {pr : ByteArray} {tx : List ByteArray} (hx : x ≤ 1099511627776) (hy : y ≤ 7) (hrb : rb < 18446744073709551616) (t : Value) (w : World) : Calls Try.prog 27 #[.agg (chC ⟨6, n, jo, (x : Int), sl, li, (y : Int), rb, pr, tx⟩ t)] w fun e w' => e = .returned (.string ⟨(Pk.enc 6 ++ Pk.enc x ++ Pk.enc y ++ Pk.big8 rb).toArray⟩) ∧ Below w.heap.size w w' := by
  have HC : Hid (∀ V, Below (w.alloc (.cells (chC ⟨6, n, jo, (x : Int), sl, li, (y : Int), rb, pr, tx⟩ t) 32)).heap.size (w.alloc (.cells (chC ⟨6, n, jo, (x : Int), sl, li, (y : Int), rb, pr, tx⟩ t) 32)) V → _) := hide (fun V hV => (Ca.block (heap_alloc_new w (.cells (chC ⟨6, n, jo, (x : Int), sl, li, (y : Int), rb, pr, tx⟩ t) 32) : Ca _ w.heap.size ⟨6, n, jo, (x : Int), sl, li, (y : Int), rb, pr, tx⟩ t) (hV.block _ (by rw [World.size_alloc]; omega))).ten)
  have HB0 : Hid (Below w.heap.size w (w.alloc (.cells (chC ⟨6, n, jo, (x : Int), sl, li, (y : Int), rb, pr, tx⟩ t) 32))) := hide (below_alloc w _)
  have e6 := Pk.enc_ten (n := 6) (by decide)
  have ex := Pk.enc_ten (n := x) (by omega)
  have ey := Pk.enc_ten (n := y) (by omega)
  have eb : (Pk.big8 rb).length = 8 := rfl
  have HQb := hide (qbits_any rb hrb)
  obtain ⟨A1, hA1⟩ : ∃ A, A = Pk.enc 6 ++ Pk.enc x := ⟨_, rfl⟩
  have lA1 : A1.length ≤ 20 := by rw [hA1, List.length_append]; omega
  have addA1 : ∀ W, (Op.stringOp .add ⟨(Pk.enc 6).toArray⟩ ⟨(Pk.enc x).toArray⟩).run Try.prog W = .ok (.string ⟨(A1).toArray⟩) W := fun W => by rw [hA1]; exact addS (by omega) W
  obtain ⟨A2, hA2⟩ : ∃ A, A = A1 ++ Pk.enc y := ⟨_, rfl⟩
  have lA2 : A2.length ≤ 30 := by rw [hA2, List.length_append]; omega
  have addA2 : ∀ W, (Op.stringOp .add ⟨(A1).toArray⟩ ⟨(Pk.enc y).toArray⟩).run Try.prog W = .ok (.string ⟨(A2).toArray⟩) W := fun W => by rw [hA2]; exact addS (by omega) W
  obtain ⟨A3, hA3⟩ : ∃ A, A = A2 ++ Pk.big8 rb := ⟨_, rfl⟩
  have lA3 : A3.length ≤ 40 := by rw [hA3, List.length_append]; omega
  have addA3 : ∀ W, (Op.stringOp .add ⟨(A2).toArray⟩ ⟨(Pk.big8 rb).toArray⟩).run Try.prog W = .ok (.string ⟨(A3).toArray⟩) W := fun W => by rw [hA3]; exact addS (by omega) W
  rw [← hA1, ← hA2, ← hA3]
  clear hA1 hA2 hA3
  generalize Pk.big8 rb = G8 at *
  unfold chC at HC HB0 ⊢
  go_enter Try.func27, Try.ntmps27
  go_wp2_with fail
  refine (dnum_any 6 (by decide) _).mono ?_
  rintro e w1 ⟨rfl, hB1⟩
  have HB1 := hide hB1
  clear hB1
  obtain ⟨c0, c1, c2, c3, c4, c5, c6, c7, c8, c9⟩ := HC.out _ HB1.out
  generalize w.alloc (.cells #[.int .i64 6, .int .i64 n, .int .i64 jo, .int .i64 (x : Int), .int .i64 sl, .int .i64 li, .int .i64 (y : Int), .int .u64 (rb : Int), .string pr, t] 32) = W0 at *
  go_wp2_with fail
  refine wp_region_held_drew (S := fun w' => Below W0.heap.size W0 w') (by kernel_rfl) (Below.trans HB1.out ⟨rfl, rfl, rfl, Nat.le_refl _, fun _ _ => rfl⟩) (fun hHeld => ?_)
  refine wpAnyH_take (i := 0) (v := .string ⟨(Pk.enc 6).toArray⟩) rfl (by kernel_rfl) (by kernel_rfl) (by kernel_rfl) (fun _ _ _ h => h) (Or.inl ⟨by kernel_rfl, fun w1 hSw => by clear hHeld; obtain ⟨c0, c1, c2, c3, c4, c5, c6, c7, c8, c9⟩ := HC.out _ hSw; clear hSw; go_simp⟩) hHeld ?_
  try simp only [Act.put]
  try simp only [List.getElem_toArray]
  try simp only [List.getElem_cons_succ]
  try simp only [List.getElem_cons_zero]
  try simp only [List.setIfInBounds_toArray]
  try simp only [List.set_cons_succ, List.set_cons_zero]
  refine wpAnyH_take (i := 1) (v := .pointer (some ⟨w.heap.size, 3, none⟩)) rfl (by kernel_rfl) (by kernel_rfl) (by kernel_rfl) (fun _ _ _ h => h) (Or.inl ⟨by kernel_rfl, fun w1 hSw => by clear hHeld; obtain ⟨c0, c1, c2, c3, c4, c5, c6, c7, c8, c9⟩ := HC.out _ hSw; clear hSw; go_simp⟩) hHeld ?_
  try simp only [Act.put]
  try simp only [List.getElem_toArray]
  try simp only [List.getElem_cons_succ]
  try simp only [List.getElem_cons_zero]
  try simp only [List.setIfInBounds_toArray]
  try simp only [List.set_cons_succ, List.set_cons_zero]
  refine wpAnyH_take (i := 2) (v := .int .i64 (x : Int)) rfl (by kernel_rfl) (by kernel_rfl) (by kernel_rfl) (fun _ _ _ h => h) (Or.inl ⟨by kernel_rfl, fun w1 hSw => by clear hHeld; obtain ⟨c0, c1, c2, c3, c4, c5, c6, c7, c8, c9⟩ := HC.out _ hSw; clear hSw; go_simp⟩) hHeld ?_
  try simp only [Act.put]
  try simp only [List.getElem_toArray]
  try simp only [List.getElem_cons_succ]
  try simp only [List.getElem_cons_zero]
  try simp only [List.setIfInBounds_toArray]
  try simp only [List.set_cons_succ, List.set_cons_zero]
  refine wpAnyH_take (i := 5) (v := .pointer (some ⟨w.heap.size, 6, none⟩)) rfl (by kernel_rfl) (by kernel_rfl) (by kernel_rfl) (fun _ _ _ h => h) (Or.inl ⟨by kernel_rfl, fun w1 hSw => by clear hHeld; obtain ⟨c0, c1, c2, c3, c4, c5, c6, c7, c8, c9⟩ := HC.out _ hSw; clear hSw; go_simp⟩) hHeld ?_
  try simp only [Act.put]
  try simp only [List.getElem_toArray]
  try simp only [List.getElem_cons_succ]
  try simp only [List.getElem_cons_zero]
  try simp only [List.setIfInBounds_toArray]
  try simp only [List.set_cons_succ, List.set_cons_zero]
  refine wpAnyH_take (i := 6) (v := .pointer (some ⟨w.heap.size, 6, none⟩)) rfl (by kernel_rfl) (by kernel_rfl) (by kernel_rfl) (fun _ _ _ h => h) (Or.inl ⟨by kernel_rfl, fun w1 hSw => by clear hHeld; obtain ⟨c0, c1, c2, c3, c4, c5, c6, c7, c8, c9⟩ := HC.out _ hSw; clear hSw; go_simp⟩) hHeld ?_
  try simp only [Act.put]
  try simp only [List.getElem_toArray]
  try simp only [List.getElem_cons_succ]
  try simp only [List.getElem_cons_zero]
  try simp only [List.setIfInBounds_toArray]
  try simp only [List.set_cons_succ, List.set_cons_zero]
  refine wpAnyH_take (i := 7) (v := .int .i64 (y : Int)) rfl (by kernel_rfl) (by kernel_rfl) (by kernel_rfl) (fun _ _ _ h => h) (Or.inl ⟨by kernel_rfl, fun w1 hSw => by clear hHeld; obtain ⟨c0, c1, c2, c3, c4, c5, c6, c7, c8, c9⟩ := HC.out _ hSw; clear hSw; go_simp⟩) hHeld ?_
  try simp only [Act.put]
  try simp only [List.getElem_toArray]
  try simp only [List.getElem_cons_succ]
  try simp only [List.getElem_cons_zero]
  try simp only [List.setIfInBounds_toArray]
  try simp only [List.set_cons_succ, List.set_cons_zero]
  refine wpAnyH_take (i := 10) (v := .pointer (some ⟨w.heap.size, 6, none⟩)) rfl (by kernel_rfl) (by kernel_rfl) (by kernel_rfl) (fun _ _ _ h => h) (Or.inl ⟨by kernel_rfl, fun w1 hSw => by clear hHeld; obtain ⟨c0, c1, c2, c3, c4, c5, c6, c7, c8, c9⟩ := HC.out _ hSw; clear hSw; go_simp⟩) hHeld ?_
  try simp only [Act.put]
  try simp only [List.getElem_toArray]
  try simp only [List.getElem_cons_succ]
  try simp only [List.getElem_cons_zero]
  try simp only [List.setIfInBounds_toArray]
  try simp only [List.set_cons_succ, List.set_cons_zero]
  refine wpAnyH_take (i := 11) (v := .pointer (some ⟨w.heap.size, 7, none⟩)) rfl (by kernel_rfl) (by kernel_rfl) (by kernel_rfl) (fun _ _ _ h => h) (Or.inl ⟨by kernel_rfl, fun w1 hSw => by clear hHeld; obtain ⟨c0, c1, c2, c3, c4, c5, c6, c7, c8, c9⟩ := HC.out _ hSw; clear hSw; go_simp⟩) hHeld ?_
  try simp only [Act.put]
  try simp only [List.getElem_toArray]
  try simp only [List.getElem_cons_succ]
  try simp only [List.getElem_cons_zero]
  try simp only [List.setIfInBounds_toArray]
  try simp only [List.set_cons_succ, List.set_cons_zero]
  refine wpAnyH_take (i := 12) (v := .int .u64 (rb : Int)) rfl (by kernel_rfl) (by kernel_rfl) (by kernel_rfl) (fun _ _ _ h => h) (Or.inl ⟨by kernel_rfl, fun w1 hSw => by clear hHeld; obtain ⟨c0, c1, c2, c3, c4, c5, c6, c7, c8, c9⟩ := HC.out _ hSw; clear hSw; go_simp⟩) hHeld ?_
  try simp only [Act.put]
  try simp only [List.getElem_toArray]
  try simp only [List.getElem_cons_succ]
  try simp only [List.getElem_cons_zero]
  try simp only [List.setIfInBounds_toArray]
  try simp only [List.set_cons_succ, List.set_cons_zero]
  refine wpAnyH_ready (rs := [3]) (by kernel_rfl) (by simp) ?_
  refine AllReadyH.cons rfl (fun K hK => ?_) AllReadyH.nil
  go_simp
  refine (dnum_any x (by omega) _).mono ?_
  rintro e w0 ⟨rfl, hB0⟩
  refine hK.out _ _ (Below.trans hHeld (hB0.mono hHeld.size)) (fun hHeld => ?_)
  clear hK K
  try simp only [Act.put]
  try simp only [List.getElem_toArray]
  try simp only [List.getElem_cons_succ]
  try simp only [List.getElem_cons_zero]
  try simp only [List.setIfInBounds_toArray]
  try simp only [List.set_cons_succ, List.set_cons_zero]
  refine wpAnyH_take (i := 4) (v := .string ⟨(A1).toArray⟩) rfl (by kernel_rfl) (by kernel_rfl) (by kernel_rfl) (fun _ _ _ h => h) (Or.inl ⟨by kernel_rfl, fun w1 hSw => by clear hHeld; obtain ⟨c0, c1, c2, c3, c4, c5, c6, c7, c8, c9⟩ := HC.out _ hSw; clear hSw; go_simp⟩) hHeld ?_
  try simp only [Act.put]
  try simp only [List.getElem_toArray]
  try simp only [List.getElem_cons_succ]
  try simp only [List.getElem_cons_zero]
  try simp only [List.setIfInBounds_toArray]
  try simp only [List.set_cons_succ, List.set_cons_zero]
  refine wpAnyH_ready (rs := [8]) (by kernel_rfl) (by simp) ?_
  refine AllReadyH.cons rfl (fun K hK => ?_) AllReadyH.nil
  go_simp
  refine (dnum_any y (by omega) _).mono ?_
  rintro e w1 ⟨rfl, hB1⟩
  refine hK.out _ _ (Below.trans hHeld (hB1.mono hHeld.size)) (fun hHeld => ?_)
  clear hK K
  try simp only [Act.put]
  try simp only [List.getElem_toArray]
  try simp only [List.getElem_cons_succ]
  try simp only [List.getElem_cons_zero]
  try simp only [List.setIfInBounds_toArray]
  try simp only [List.set_cons_succ, List.set_cons_zero]
  refine wpAnyH_take (i := 9) (v := .string ⟨(A2).toArray⟩) rfl (by kernel_rfl) (by kernel_rfl) (by kernel_rfl) (fun _ _ _ h => h) (Or.inl ⟨by kernel_rfl, fun w1 hSw => by clear hHeld; obtain ⟨c0, c1, c2, c3, c4, c5, c6, c7, c8, c9⟩ := HC.out _ hSw; clear hSw; go_simp⟩) hHeld ?_
  try simp only [Act.put]
  try simp only [List.getElem_toArray]
  try simp only [List.getElem_cons_succ]
  try simp only [List.getElem_cons_zero]
  try simp only [List.setIfInBounds_toArray]
  try simp only [List.set_cons_succ, List.set_cons_zero]
  refine wpAnyH_ready (rs := [13]) (by kernel_rfl) (by simp) ?_
  refine AllReadyH.cons rfl (fun K hK => ?_) AllReadyH.nil
  go_simp
  refine (HQb.out _).mono ?_
  rintro e w2 ⟨rfl, hB2⟩
  refine hK.out _ _ (Below.trans hHeld (hB2.mono hHeld.size)) (fun hHeld => ?_)
  clear hK K
  try simp only [Act.put]
  try simp only [List.getElem_toArray]
  try simp only [List.getElem_cons_succ]
  try simp only [List.getElem_cons_zero]
  try simp only [List.setIfInBounds_toArray]
  try simp only [List.set_cons_succ, List.set_cons_zero]
  refine wpAnyH_take (i := 14) (v := .string ⟨(A3).toArray⟩) rfl (by kernel_rfl) (by kernel_rfl) (by kernel_rfl) (fun _ _ _ h => h) (Or.inl ⟨by kernel_rfl, fun w1 hSw => by clear hHeld; obtain ⟨c0, c1, c2, c3, c4, c5, c6, c7, c8, c9⟩ := HC.out _ hSw; clear hSw; go_simp⟩) hHeld ?_
  try simp only [Act.put]
  try simp only [List.getElem_toArray]
  try simp only [List.getElem_cons_succ]
  try simp only [List.getElem_cons_zero]
  try simp only [List.setIfInBounds_toArray]
  try simp only [List.set_cons_succ, List.set_cons_zero]
  refine wpAnyH_take (i := 15) (v := .string ⟨(A3).toArray⟩) rfl (by kernel_rfl) (by kernel_rfl) (by kernel_rfl) (fun _ _ _ h => h) (Or.inl ⟨by kernel_rfl, fun w1 hSw => by clear hHeld; obtain ⟨c0, c1, c2, c3, c4, c5, c6, c7, c8, c9⟩ := HC.out _ hSw; clear hSw; go_simp⟩) hHeld ?_
  try simp only [Act.put]
  try simp only [List.getElem_toArray]
  try simp only [List.getElem_cons_succ]
  try simp only [List.getElem_cons_zero]
  try simp only [List.setIfInBounds_toArray]
  try simp only [List.set_cons_succ, List.set_cons_zero]
  refine wpAnyH_done (by kernel_rfl) ?_ _
  have HBf := hide (HB0.out.trans (hHeld.mono HB0.out.size))
  clear hHeld
  go_wp2
  go_ret
  exact ⟨rfl, HBf.out⟩
theorem layT42 (l : List ByteArray) (h : ∀ t ∈ l, t.size ≤ 32) : (Rc.layT l).length ≤ l.length * 42 := by
  induction l with
  | nil => simp [Rc.layT]
  | cons a l ih =>
    have h1 := h a (by simp)
    have h2 := ih (fun t ht => h t (by simp [ht]))
    have h3 := Pk.enc_ten (n := a.size) (by omega)
    simp only [Rc.layT, List.flatMap_cons, List.length_append, List.length_cons, Array.length_toList, ByteArray.size_data] at h2 ⊢
    omega
theorem layTst {l : List ByteArray} {i : Nat} (h : i < l.length) : Rc.layT (l.take (i + 1)) = Rc.layT (l.take i) ++ (Pk.enc (l[i]!).size ++ (l[i]!).data.toList) := by
  rw [← List.take_append_getElem h, getElem!_pos l i h]; simp only [Rc.layT, List.flatMap_append, List.flatMap_cons, List.flatMap_nil, List.append_nil]
end Go.Proofs.Ytlgcimfbhjidgaa
end
