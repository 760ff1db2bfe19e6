import Derived.Test.YtonoogiadgjodaaSoH
import Derived.Test.YtonoogiadgjodaaSeH
namespace Go.Proofs.Ytonoogiadgjodaa
open Go.RowKit

section
variable {B : Nat} {w w' : World} {A : Ja} {j : Jt} {own : Int → Int} {N : Int}
theorem Inv.up2 (h : Inv own N j) (hN : N + 2 ≤ 4194304) : Inv own (N + 2) j := by
  rw [show N + 2 = N + 1 + 1 by omega]
  exact (h.up (by omega)).up (by omega)
set_option maxHeartbeats 1000000 in
set_option maxRecDepth 8000 in
theorem tableH_any (hI : Inv own N j) (hN : N + 2 ≤ 4194304) (h : Jm B w A j) (hB : B ≤ w.heap.size) {x : Sd} (q : Good own j x) (hk : x.m.k = 1) : Calls Try.prog 50 #[.pointer (some ⟨A.a, 0, none⟩), .agg #[.int .i64 x.m.k, .int .i64 x.m.se, .int .i64 x.m.nu, .int .i64 x.m.jo, .int .i64 x.m.ba, .int .i64 x.m.ix, .int .i64 x.m.co, .int .i64 x.m.rc, .int .u64 (x.m.rb : Int), .string x.m.tx, .string x.m.pr, .bool x.tb, .int .i64 x.li, .int .i64 x.ak, .int .i64 x.an]] w fun e w' => e = .returned (.tuple #[]) ∧ ∃ own' A' j', A'.a = A.a ∧ Inv own' (N + 2) j' ∧ Jm B w' A' j' ∧ Jv A A' w w' := by
  have HI := hide hI
  have HQ := hide q
  have bk : (x.m.k == 1) = true := by rw [hk]; rfl
  have HX : Hid (Sx (w.alloc (.cells #[.int .i64 x.m.k, .int .i64 x.m.se, .int .i64 x.m.nu, .int .i64 x.m.jo, .int .i64 x.m.ba, .int .i64 x.m.ix, .int .i64 x.m.co, .int .i64 x.m.rc, .int .u64 (x.m.rb : Int), .string x.m.tx, .string x.m.pr, .bool x.tb, .int .i64 x.li, .int .i64 x.ak, .int .i64 x.an] 103)) w.heap.size x) := hide (heap_alloc_new w _)
  have HM := hide (h.below (below_alloc w (.cells #[.int .i64 x.m.k, .int .i64 x.m.se, .int .i64 x.m.nu, .int .i64 x.m.jo, .int .i64 x.m.ba, .int .i64 x.m.ix, .int .i64 x.m.co, .int .i64 x.m.rc, .int .u64 (x.m.rb : Int), .string x.m.tx, .string x.m.pr, .bool x.tb, .int .i64 x.li, .int .i64 x.ak, .int .i64 x.an] 103)))
  have HJ : Hid (Jv A A w (w.alloc (.cells #[.int .i64 x.m.k, .int .i64 x.m.se, .int .i64 x.m.nu, .int .i64 x.m.jo, .int .i64 x.m.ba, .int .i64 x.m.ix, .int .i64 x.m.co, .int .i64 x.m.rc, .int .u64 (x.m.rb : Int), .string x.m.tx, .string x.m.pr, .bool x.tb, .int .i64 x.li, .int .i64 x.ak, .int .i64 x.an] 103))) := hide (Jv.of_below (below_alloc w _))
  have HBS : Hid (B ≤ (w.alloc (.cells #[.int .i64 x.m.k, .int .i64 x.m.se, .int .i64 x.m.nu, .int .i64 x.m.jo, .int .i64 x.m.ba, .int .i64 x.m.ix, .int .i64 x.m.co, .int .i64 x.m.rc, .int .u64 (x.m.rb : Int), .string x.m.tx, .string x.m.pr, .bool x.tb, .int .i64 x.li, .int .i64 x.ak, .int .i64 x.an] 103)).heap.size) := hide (by rw [World.size_alloc]; omega)
  have HXA : Hid (w.heap.size ≠ A.a) := hide (by have := h.lt; omega)
  have HXT : Hid (w.heap.size ≠ A.tg) := hide (by have := h.tm.gl; omega)
  have HWL : Hid (j.way.length ≤ 4194304) := hide (by have := hI.wl; have := hI.n1; omega)
  have q0 := hI.u0
  have q1 := Int.le_trans hI.u1 hI.n1
  clear h hI q hk hB
  go_enter Try.func50, Try.ntmps50
  go_wp2_with fail
  obtain ⟨X, hX⟩ : ∃ X, w.heap.size = X := ⟨_, rfl⟩
  rw [hX] at HX HXA HXT
  try rw [hX]
  clear hX
  generalize w.alloc (.cells #[.int .i64 x.m.k, .int .i64 x.m.se, .int .i64 x.m.nu, .int .i64 x.m.jo, .int .i64 x.m.ba, .int .i64 x.m.ix, .int .i64 x.m.co, .int .i64 x.m.rc, .int .u64 (x.m.rb : Int), .string x.m.tx, .string x.m.pr, .bool x.tb, .int .i64 x.li, .int .i64 x.ak, .int .i64 x.an] 103) = W at *
  have HCe : Hid (∀ V : World, (V.heap[A.a]? = W.heap[A.a]? ∧ V.heap[X]? = W.heap[X]?) → V.cell? ⟨A.a, 1, none⟩ = some (.pointer (some ⟨A.tb, 0, none⟩)) ∧ V.cell? ⟨X, 12, none⟩ = some (.int .i64 x.li)) := hide fun V hV => ⟨(World.cell?_of_block hV.1).trans HM.out.cells.2.1, by have := hV.2.trans HX.out; simp [World.cell?, this]⟩
  have HON : Hid (∀ V : World, Below W.drew.heap.size W.drew V → V.heap[A.a]? = W.heap[A.a]? ∧ V.heap[X]? = W.heap[X]?) := hide fun V hV => ⟨hV.block _ HM.out.lt, hV.block _ HX.out.lt⟩
  have htl := HM.out.tm.lt
  rcases Int.lt_trichotomy x.li j.D.li with hd | hd | hd
  · have HD := hide hd
    clear hd
    have HTh := hide (thello_any (show Tm 92 B W.drew A.tb A.tg A.tc [j.D] from HM.out.tm.drew) 0 x.li)
    rw [hello_old HI.out HQ.out HD.out] at HTh
    simp only [] at HTh
    go_wp2_with fail
    refine wp_region_held_drew (S := fun w' => w'.heap[A.a]? = W.heap[A.a]? ∧ w'.heap[X]? = W.heap[X]?) (by kernel_rfl) (⟨rfl, rfl⟩) (fun hHeld => ?_)
    refine wpAnyH_take (i := 0) (v := .pointer (some ⟨A.a, 0, none⟩)) rfl (by kernel_rfl) (by kernel_rfl) (by kernel_rfl) (fun _ _ _ h => h) (Or.inl ⟨by kernel_rfl, fun w1 hSw => by clear hHeld; obtain ⟨k1, kx⟩ := HCe.out _ hSw; go_simp⟩) hHeld ?_
    try simp only [Act.put]
    try simp only [List.getElem_toArray]
    try simp only [List.getElem_cons_succ]
    try simp only [List.getElem_cons_zero]
    try simp only [List.setIfInBounds_toArray]
    try simp only [List.set_cons_succ, List.set_cons_zero]
    refine wpAnyH_take (i := 1) (v := .pointer (some ⟨A.a, 0, none⟩)) rfl (by kernel_rfl) (by kernel_rfl) (by kernel_rfl) (fun _ _ _ h => h) (Or.inl ⟨by kernel_rfl, fun w1 hSw => by clear hHeld; obtain ⟨k1, kx⟩ := HCe.out _ hSw; go_simp⟩) hHeld ?_
    try simp only [Act.put]
    try simp only [List.getElem_toArray]
    try simp only [List.getElem_cons_succ]
    try simp only [List.getElem_cons_zero]
    try simp only [List.setIfInBounds_toArray]
    try simp only [List.set_cons_succ, List.set_cons_zero]
    refine wpAnyH_take (i := 2) (v := .pointer (some ⟨A.a, 1, none⟩)) rfl (by kernel_rfl) (by kernel_rfl) (by kernel_rfl) (fun _ _ _ h => h) (Or.inl ⟨by kernel_rfl, fun w1 hSw => by clear hHeld; obtain ⟨k1, kx⟩ := HCe.out _ hSw; go_simp⟩) hHeld ?_
    try simp only [Act.put]
    try simp only [List.getElem_toArray]
    try simp only [List.getElem_cons_succ]
    try simp only [List.getElem_cons_zero]
    try simp only [List.setIfInBounds_toArray]
    try simp only [List.set_cons_succ, List.set_cons_zero]
    refine wpAnyH_take (i := 3) (v := .pointer (some ⟨A.tb, 0, none⟩)) rfl (by kernel_rfl) (by kernel_rfl) (by kernel_rfl) (fun _ _ _ h => h) (Or.inl ⟨by kernel_rfl, fun w1 hSw => by clear hHeld; obtain ⟨k1, kx⟩ := HCe.out _ hSw; go_simp⟩) hHeld ?_
    try simp only [Act.put]
    try simp only [List.getElem_toArray]
    try simp only [List.getElem_cons_succ]
    try simp only [List.getElem_cons_zero]
    try simp only [List.setIfInBounds_toArray]
    try simp only [List.set_cons_succ, List.set_cons_zero]
    refine wpAnyH_take (i := 4) (v := .pointer (some ⟨X, 12, none⟩)) rfl (by kernel_rfl) (by kernel_rfl) (by kernel_rfl) (fun _ _ _ h => h) (Or.inl ⟨by kernel_rfl, fun w1 hSw => by clear hHeld; obtain ⟨k1, kx⟩ := HCe.out _ hSw; go_simp⟩) hHeld ?_
    try simp only [Act.put]
    try simp only [List.getElem_toArray]
    try simp only [List.getElem_cons_succ]
    try simp only [List.getElem_cons_zero]
    try simp only [List.setIfInBounds_toArray]
    try simp only [List.set_cons_succ, List.set_cons_zero]
    refine wpAnyH_take (i := 5) (v := .int .i64 x.li) rfl (by kernel_rfl) (by kernel_rfl) (by kernel_rfl) (fun _ _ _ h => h) (Or.inl ⟨by kernel_rfl, fun w1 hSw => by clear hHeld; obtain ⟨k1, kx⟩ := HCe.out _ hSw; go_simp⟩) hHeld ?_
    try simp only [Act.put]
    try simp only [List.getElem_toArray]
    try simp only [List.getElem_cons_succ]
    try simp only [List.getElem_cons_zero]
    try simp only [List.setIfInBounds_toArray]
    try simp only [List.set_cons_succ, List.set_cons_zero]
    refine wpAnyH_ready (rs := [6]) (by kernel_rfl) (by simp) ?_
    refine AllReadyH.cons rfl (fun K hK => ?_) AllReadyH.nil
    go_simp
    refine HTh.out.mono ?_
    rintro e V1 ⟨rfl, hb1⟩
    have HB1 := hide hb1
    clear hb1
    refine hK.out _ _ (HON.out _ HB1.out) (fun hHeld => ?_)
    clear hK K
    try simp only [Act.put]
    try simp only [List.getElem_toArray]
    try simp only [List.getElem_cons_succ]
    try simp only [List.getElem_cons_zero]
    try simp only [List.setIfInBounds_toArray]
    try simp only [List.set_cons_succ, List.set_cons_zero]
    refine wpAnyH_take (i := 7) (v := .tuple #[.int .i64 0, .int .i64 0]) rfl (by kernel_rfl) (by kernel_rfl) (by kernel_rfl) (fun _ _ _ h => h) (Or.inl ⟨by kernel_rfl, fun w1 hSw => by clear hHeld; obtain ⟨k1, kx⟩ := HCe.out _ hSw; go_simp⟩) hHeld ?_
    try simp only [Act.put]
    try simp only [List.getElem_toArray]
    try simp only [List.getElem_cons_succ]
    try simp only [List.getElem_cons_zero]
    try simp only [List.setIfInBounds_toArray]
    try simp only [List.set_cons_succ, List.set_cons_zero]
    refine wpAnyH_take (i := 8) (v := .int .i64 0) rfl (by kernel_rfl) (by kernel_rfl) (by kernel_rfl) (fun _ _ _ h => h) (Or.inl ⟨by kernel_rfl, fun w1 hSw => by clear hHeld; obtain ⟨k1, kx⟩ := HCe.out _ hSw; go_simp⟩) hHeld ?_
    try simp only [Act.put]
    try simp only [List.getElem_toArray]
    try simp only [List.getElem_cons_succ]
    try simp only [List.getElem_cons_zero]
    try simp only [List.setIfInBounds_toArray]
    try simp only [List.set_cons_succ, List.set_cons_zero]
    refine wpAnyH_take (i := 9) (v := .int .i64 0) rfl (by kernel_rfl) (by kernel_rfl) (by kernel_rfl) (fun _ _ _ h => h) (Or.inl ⟨by kernel_rfl, fun w1 hSw => by clear hHeld; obtain ⟨k1, kx⟩ := HCe.out _ hSw; go_simp⟩) hHeld ?_
    try simp only [Act.put]
    try simp only [List.getElem_toArray]
    try simp only [List.getElem_cons_succ]
    try simp only [List.getElem_cons_zero]
    try simp only [List.setIfInBounds_toArray]
    try simp only [List.set_cons_succ, List.set_cons_zero]
    refine wpAnyH_take (i := 10) (v := .int .i64 0) rfl (by kernel_rfl) (by kernel_rfl) (by kernel_rfl) (fun _ _ _ h => h) (Or.inl ⟨by kernel_rfl, fun w1 hSw => by clear hHeld; obtain ⟨k1, kx⟩ := HCe.out _ hSw; go_simp⟩) hHeld ?_
    try simp only [Act.put]
    try simp only [List.getElem_toArray]
    try simp only [List.getElem_cons_succ]
    try simp only [List.getElem_cons_zero]
    try simp only [List.setIfInBounds_toArray]
    try simp only [List.set_cons_succ, List.set_cons_zero]
    refine wpAnyH_take (i := 11) (v := .int .i64 0) rfl (by kernel_rfl) (by kernel_rfl) (by kernel_rfl) (fun _ _ _ h => h) (Or.inl ⟨by kernel_rfl, fun w1 hSw => by clear hHeld; obtain ⟨k1, kx⟩ := HCe.out _ hSw; go_simp⟩) hHeld ?_
    try simp only [Act.put]
    try simp only [List.getElem_toArray]
    try simp only [List.getElem_cons_succ]
    try simp only [List.getElem_cons_zero]
    try simp only [List.setIfInBounds_toArray]
    try simp only [List.set_cons_succ, List.set_cons_zero]
    refine wpAnyH_done (by kernel_rfl) ?_ _
    have hb1 : Below W.heap.size W V1 := ⟨HB1.out.os, HB1.out.tape, HB1.out.output, HB1.out.size, HB1.out.block⟩
    have HM1 := hide (HM.out.below hb1)
    have HX1 : Hid (Sx V1 X x) := hide (HX.out.below hb1)
    have HJ1 := hide (HJ.out.trans (Jv.of_below hb1))
    have hBS1 : B ≤ V1.heap.size := Nat.le_trans HBS.out hb1.size
    clear hHeld HTh HON HB1 HCe
    clear hb1
    go_wp2_with fail
    refine bodyPost_ret (results_none rfl _ _ _) rfl ?_
    exact ⟨rfl, own, A, j, rfl, HI.out.up2 hN, HM1.out, HJ1.out⟩
  · have HD := hide hd.symm
    clear hd
    have HTh := hide (thello_any (show Tm 92 B W.drew A.tb A.tg A.tc [j.D] from HM.out.tm.drew) 0 x.li)
    rw [hello_same HI.out HQ.out HD.out] at HTh
    simp only [] at HTh
    go_wp2_with fail
    refine wp_region_held_drew (S := fun w' => w'.heap[A.a]? = W.heap[A.a]? ∧ w'.heap[X]? = W.heap[X]?) (by kernel_rfl) (⟨rfl, rfl⟩) (fun hHeld => ?_)
    refine wpAnyH_take (i := 0) (v := .pointer (some ⟨A.a, 0, none⟩)) rfl (by kernel_rfl) (by kernel_rfl) (by kernel_rfl) (fun _ _ _ h => h) (Or.inl ⟨by kernel_rfl, fun w1 hSw => by clear hHeld; obtain ⟨k1, kx⟩ := HCe.out _ hSw; go_simp⟩) hHeld ?_
    try simp only [Act.put]
    try simp only [List.getElem_toArray]
    try simp only [List.getElem_cons_succ]
    try simp only [List.getElem_cons_zero]
    try simp only [List.setIfInBounds_toArray]
    try simp only [List.set_cons_succ, List.set_cons_zero]
    refine wpAnyH_take (i := 1) (v := .pointer (some ⟨A.a, 0, none⟩)) rfl (by kernel_rfl) (by kernel_rfl) (by kernel_rfl) (fun _ _ _ h => h) (Or.inl ⟨by kernel_rfl, fun w1 hSw => by clear hHeld; obtain ⟨k1, kx⟩ := HCe.out _ hSw; go_simp⟩) hHeld ?_
    try simp only [Act.put]
    try simp only [List.getElem_toArray]
    try simp only [List.getElem_cons_succ]
    try simp only [List.getElem_cons_zero]
    try simp only [List.setIfInBounds_toArray]
    try simp only [List.set_cons_succ, List.set_cons_zero]
    refine wpAnyH_take (i := 2) (v := .pointer (some ⟨A.a, 1, none⟩)) rfl (by kernel_rfl) (by kernel_rfl) (by kernel_rfl) (fun _ _ _ h => h) (Or.inl ⟨by kernel_rfl, fun w1 hSw => by clear hHeld; obtain ⟨k1, kx⟩ := HCe.out _ hSw; go_simp⟩) hHeld ?_
    try simp only [Act.put]
    try simp only [List.getElem_toArray]
    try simp only [List.getElem_cons_succ]
    try simp only [List.getElem_cons_zero]
    try simp only [List.setIfInBounds_toArray]
    try simp only [List.set_cons_succ, List.set_cons_zero]
    refine wpAnyH_take (i := 3) (v := .pointer (some ⟨A.tb, 0, none⟩)) rfl (by kernel_rfl) (by kernel_rfl) (by kernel_rfl) (fun _ _ _ h => h) (Or.inl ⟨by kernel_rfl, fun w1 hSw => by clear hHeld; obtain ⟨k1, kx⟩ := HCe.out _ hSw; go_simp⟩) hHeld ?_
    try simp only [Act.put]
    try simp only [List.getElem_toArray]
    try simp only [List.getElem_cons_succ]
    try simp only [List.getElem_cons_zero]
    try simp only [List.setIfInBounds_toArray]
    try simp only [List.set_cons_succ, List.set_cons_zero]
    refine wpAnyH_take (i := 4) (v := .pointer (some ⟨X, 12, none⟩)) rfl (by kernel_rfl) (by kernel_rfl) (by kernel_rfl) (fun _ _ _ h => h) (Or.inl ⟨by kernel_rfl, fun w1 hSw => by clear hHeld; obtain ⟨k1, kx⟩ := HCe.out _ hSw; go_simp⟩) hHeld ?_
    try simp only [Act.put]
    try simp only [List.getElem_toArray]
    try simp only [List.getElem_cons_succ]
    try simp only [List.getElem_cons_zero]
    try simp only [List.setIfInBounds_toArray]
    try simp only [List.set_cons_succ, List.set_cons_zero]
    refine wpAnyH_take (i := 5) (v := .int .i64 x.li) rfl (by kernel_rfl) (by kernel_rfl) (by kernel_rfl) (fun _ _ _ h => h) (Or.inl ⟨by kernel_rfl, fun w1 hSw => by clear hHeld; obtain ⟨k1, kx⟩ := HCe.out _ hSw; go_simp⟩) hHeld ?_
    try simp only [Act.put]
    try simp only [List.getElem_toArray]
    try simp only [List.getElem_cons_succ]
    try simp only [List.getElem_cons_zero]
    try simp only [List.setIfInBounds_toArray]
    try simp only [List.set_cons_succ, List.set_cons_zero]
    refine wpAnyH_ready (rs := [6]) (by kernel_rfl) (by simp) ?_
    refine AllReadyH.cons rfl (fun K hK => ?_) AllReadyH.nil
    go_simp
    refine HTh.out.mono ?_
    rintro e V1 ⟨rfl, hb1⟩
    have HB1 := hide hb1
    clear hb1
    refine hK.out _ _ (HON.out _ HB1.out) (fun hHeld => ?_)
    clear hK K
    try simp only [Act.put]
    try simp only [List.getElem_toArray]
    try simp only [List.getElem_cons_succ]
    try simp only [List.getElem_cons_zero]
    try simp only [List.setIfInBounds_toArray]
    try simp only [List.set_cons_succ, List.set_cons_zero]
    refine wpAnyH_take (i := 7) (v := .tuple #[.int .i64 1, .int .i64 j.D.se]) rfl (by kernel_rfl) (by kernel_rfl) (by kernel_rfl) (fun _ _ _ h => h) (Or.inl ⟨by kernel_rfl, fun w1 hSw => by clear hHeld; obtain ⟨k1, kx⟩ := HCe.out _ hSw; go_simp⟩) hHeld ?_
    try simp only [Act.put]
    try simp only [List.getElem_toArray]
    try simp only [List.getElem_cons_succ]
    try simp only [List.getElem_cons_zero]
    try simp only [List.setIfInBounds_toArray]
    try simp only [List.set_cons_succ, List.set_cons_zero]
    refine wpAnyH_take (i := 8) (v := .int .i64 1) rfl (by kernel_rfl) (by kernel_rfl) (by kernel_rfl) (fun _ _ _ h => h) (Or.inl ⟨by kernel_rfl, fun w1 hSw => by clear hHeld; obtain ⟨k1, kx⟩ := HCe.out _ hSw; go_simp⟩) hHeld ?_
    try simp only [Act.put]
    try simp only [List.getElem_toArray]
    try simp only [List.getElem_cons_succ]
    try simp only [List.getElem_cons_zero]
    try simp only [List.setIfInBounds_toArray]
    try simp only [List.set_cons_succ, List.set_cons_zero]
    refine wpAnyH_take (i := 9) (v := .int .i64 j.D.se) rfl (by kernel_rfl) (by kernel_rfl) (by kernel_rfl) (fun _ _ _ h => h) (Or.inl ⟨by kernel_rfl, fun w1 hSw => by clear hHeld; obtain ⟨k1, kx⟩ := HCe.out _ hSw; go_simp⟩) hHeld ?_
    try simp only [Act.put]
    try simp only [List.getElem_toArray]
    try simp only [List.getElem_cons_succ]
    try simp only [List.getElem_cons_zero]
    try simp only [List.setIfInBounds_toArray]
    try simp only [List.set_cons_succ, List.set_cons_zero]
    refine wpAnyH_take (i := 10) (v := .int .i64 1) rfl (by kernel_rfl) (by kernel_rfl) (by kernel_rfl) (fun _ _ _ h => h) (Or.inl ⟨by kernel_rfl, fun w1 hSw => by clear hHeld; obtain ⟨k1, kx⟩ := HCe.out _ hSw; go_simp⟩) hHeld ?_
    try simp only [Act.put]
    try simp only [List.getElem_toArray]
    try simp only [List.getElem_cons_succ]
    try simp only [List.getElem_cons_zero]
    try simp only [List.setIfInBounds_toArray]
    try simp only [List.set_cons_succ, List.set_cons_zero]
    refine wpAnyH_take (i := 11) (v := .int .i64 j.D.se) rfl (by kernel_rfl) (by kernel_rfl) (by kernel_rfl) (fun _ _ _ h => h) (Or.inl ⟨by kernel_rfl, fun w1 hSw => by clear hHeld; obtain ⟨k1, kx⟩ := HCe.out _ hSw; go_simp⟩) hHeld ?_
    try simp only [Act.put]
    try simp only [List.getElem_toArray]
    try simp only [List.getElem_cons_succ]
    try simp only [List.getElem_cons_zero]
    try simp only [List.setIfInBounds_toArray]
    try simp only [List.set_cons_succ, List.set_cons_zero]
    refine wpAnyH_done (by kernel_rfl) ?_ _
    have hb1 : Below W.heap.size W V1 := ⟨HB1.out.os, HB1.out.tape, HB1.out.output, HB1.out.size, HB1.out.block⟩
    have HM1 := hide (HM.out.below hb1)
    have HX1 : Hid (Sx V1 X x) := hide (HX.out.below hb1)
    have HJ1 := hide (HJ.out.trans (Jv.of_below hb1))
    have hBS1 : B ≤ V1.heap.size := Nat.le_trans HBS.out hb1.size
    clear hHeld HTh HON HB1 HCe
    clear hb1
    have x12 : V1.cell? ⟨X, 12, none⟩ = some (.int .i64 x.li) := by have := HX1.out; unfold Sx at this; simp [World.cell?, this]
    have HS := hide (say_any HM1.out hBS1 HWL.out (wel x j.D.se))
    have HF := hide ((HI.out.welO (by omega) HQ.out HD.out).up (by omega))
    simp only [wel, zS, e0] at HS HF
    rw [show ((0 : Nat) : Int) = 0 from rfl] at HS
    go_wp2_with fail
    refine HS.out.mono ?_
    rintro e V2 ⟨rfl, A', h1, h2, h3⟩
    have HP := hide (And.intro h1 (And.intro h2 (HJ1.out.trans h3)))
    clear h1 h2 h3 HS
    go_wp2_with fail
    refine bodyPost_ret (results_none rfl _ _ _) rfl ?_
    exact ⟨rfl, own, _, _, HP.out.1, by rw [show N + 2 = N + 1 + 1 by omega]; exact HF.out, HP.out.2.1, HP.out.2.2⟩
  · have HD := hide hd
    clear hd
    have HTh := hide (thello_any (show Tm 92 B W.drew A.tb A.tg A.tc [j.D] from HM.out.tm.drew) 0 x.li)
    rw [hello_new HI.out HQ.out HD.out] at HTh
    simp only [] at HTh
    go_wp2_with fail
    refine wp_region_held_drew (S := fun w' => w'.heap[A.a]? = W.heap[A.a]? ∧ w'.heap[X]? = W.heap[X]?) (by kernel_rfl) (⟨rfl, rfl⟩) (fun hHeld => ?_)
    refine wpAnyH_take (i := 0) (v := .pointer (some ⟨A.a, 0, none⟩)) rfl (by kernel_rfl) (by kernel_rfl) (by kernel_rfl) (fun _ _ _ h => h) (Or.inl ⟨by kernel_rfl, fun w1 hSw => by clear hHeld; obtain ⟨k1, kx⟩ := HCe.out _ hSw; go_simp⟩) hHeld ?_
    try simp only [Act.put]
    try simp only [List.getElem_toArray]
    try simp only [List.getElem_cons_succ]
    try simp only [List.getElem_cons_zero]
    try simp only [List.setIfInBounds_toArray]
    try simp only [List.set_cons_succ, List.set_cons_zero]
    refine wpAnyH_take (i := 1) (v := .pointer (some ⟨A.a, 0, none⟩)) rfl (by kernel_rfl) (by kernel_rfl) (by kernel_rfl) (fun _ _ _ h => h) (Or.inl ⟨by kernel_rfl, fun w1 hSw => by clear hHeld; obtain ⟨k1, kx⟩ := HCe.out _ hSw; go_simp⟩) hHeld ?_
    try simp only [Act.put]
    try simp only [List.getElem_toArray]
    try simp only [List.getElem_cons_succ]
    try simp only [List.getElem_cons_zero]
    try simp only [List.setIfInBounds_toArray]
    try simp only [List.set_cons_succ, List.set_cons_zero]
    refine wpAnyH_take (i := 2) (v := .pointer (some ⟨A.a, 1, none⟩)) rfl (by kernel_rfl) (by kernel_rfl) (by kernel_rfl) (fun _ _ _ h => h) (Or.inl ⟨by kernel_rfl, fun w1 hSw => by clear hHeld; obtain ⟨k1, kx⟩ := HCe.out _ hSw; go_simp⟩) hHeld ?_
    try simp only [Act.put]
    try simp only [List.getElem_toArray]
    try simp only [List.getElem_cons_succ]
    try simp only [List.getElem_cons_zero]
    try simp only [List.setIfInBounds_toArray]
    try simp only [List.set_cons_succ, List.set_cons_zero]
    refine wpAnyH_take (i := 3) (v := .pointer (some ⟨A.tb, 0, none⟩)) rfl (by kernel_rfl) (by kernel_rfl) (by kernel_rfl) (fun _ _ _ h => h) (Or.inl ⟨by kernel_rfl, fun w1 hSw => by clear hHeld; obtain ⟨k1, kx⟩ := HCe.out _ hSw; go_simp⟩) hHeld ?_
    try simp only [Act.put]
    try simp only [List.getElem_toArray]
    try simp only [List.getElem_cons_succ]
    try simp only [List.getElem_cons_zero]
    try simp only [List.setIfInBounds_toArray]
    try simp only [List.set_cons_succ, List.set_cons_zero]
    refine wpAnyH_take (i := 4) (v := .pointer (some ⟨X, 12, none⟩)) rfl (by kernel_rfl) (by kernel_rfl) (by kernel_rfl) (fun _ _ _ h => h) (Or.inl ⟨by kernel_rfl, fun w1 hSw => by clear hHeld; obtain ⟨k1, kx⟩ := HCe.out _ hSw; go_simp⟩) hHeld ?_
    try simp only [Act.put]
    try simp only [List.getElem_toArray]
    try simp only [List.getElem_cons_succ]
    try simp only [List.getElem_cons_zero]
    try simp only [List.setIfInBounds_toArray]
    try simp only [List.set_cons_succ, List.set_cons_zero]
    refine wpAnyH_take (i := 5) (v := .int .i64 x.li) rfl (by kernel_rfl) (by kernel_rfl) (by kernel_rfl) (fun _ _ _ h => h) (Or.inl ⟨by kernel_rfl, fun w1 hSw => by clear hHeld; obtain ⟨k1, kx⟩ := HCe.out _ hSw; go_simp⟩) hHeld ?_
    try simp only [Act.put]
    try simp only [List.getElem_toArray]
    try simp only [List.getElem_cons_succ]
    try simp only [List.getElem_cons_zero]
    try simp only [List.setIfInBounds_toArray]
    try simp only [List.set_cons_succ, List.set_cons_zero]
    refine wpAnyH_ready (rs := [6]) (by kernel_rfl) (by simp) ?_
    refine AllReadyH.cons rfl (fun K hK => ?_) AllReadyH.nil
    go_simp
    refine HTh.out.mono ?_
    rintro e V1 ⟨rfl, hb1⟩
    have HB1 := hide hb1
    clear hb1
    refine hK.out _ _ (HON.out _ HB1.out) (fun hHeld => ?_)
    clear hK K
    try simp only [Act.put]
    try simp only [List.getElem_toArray]
    try simp only [List.getElem_cons_succ]
    try simp only [List.getElem_cons_zero]
    try simp only [List.setIfInBounds_toArray]
    try simp only [List.set_cons_succ, List.set_cons_zero]
    refine wpAnyH_take (i := 7) (v := .tuple #[.int .i64 2, .int .i64 0]) rfl (by kernel_rfl) (by kernel_rfl) (by kernel_rfl) (fun _ _ _ h => h) (Or.inl ⟨by kernel_rfl, fun w1 hSw => by clear hHeld; obtain ⟨k1, kx⟩ := HCe.out _ hSw; go_simp⟩) hHeld ?_
    try simp only [Act.put]
    try simp only [List.getElem_toArray]
    try simp only [List.getElem_cons_succ]
    try simp only [List.getElem_cons_zero]
    try simp only [List.setIfInBounds_toArray]
    try simp only [List.set_cons_succ, List.set_cons_zero]
    refine wpAnyH_take (i := 8) (v := .int .i64 2) rfl (by kernel_rfl) (by kernel_rfl) (by kernel_rfl) (fun _ _ _ h => h) (Or.inl ⟨by kernel_rfl, fun w1 hSw => by clear hHeld; obtain ⟨k1, kx⟩ := HCe.out _ hSw; go_simp⟩) hHeld ?_
    try simp only [Act.put]
    try simp only [List.getElem_toArray]
    try simp only [List.getElem_cons_succ]
    try simp only [List.getElem_cons_zero]
    try simp only [List.setIfInBounds_toArray]
    try simp only [List.set_cons_succ, List.set_cons_zero]
    refine wpAnyH_take (i := 9) (v := .int .i64 0) rfl (by kernel_rfl) (by kernel_rfl) (by kernel_rfl) (fun _ _ _ h => h) (Or.inl ⟨by kernel_rfl, fun w1 hSw => by clear hHeld; obtain ⟨k1, kx⟩ := HCe.out _ hSw; go_simp⟩) hHeld ?_
    try simp only [Act.put]
    try simp only [List.getElem_toArray]
    try simp only [List.getElem_cons_succ]
    try simp only [List.getElem_cons_zero]
    try simp only [List.setIfInBounds_toArray]
    try simp only [List.set_cons_succ, List.set_cons_zero]
    refine wpAnyH_take (i := 10) (v := .int .i64 2) rfl (by kernel_rfl) (by kernel_rfl) (by kernel_rfl) (fun _ _ _ h => h) (Or.inl ⟨by kernel_rfl, fun w1 hSw => by clear hHeld; obtain ⟨k1, kx⟩ := HCe.out _ hSw; go_simp⟩) hHeld ?_
    try simp only [Act.put]
    try simp only [List.getElem_toArray]
    try simp only [List.getElem_cons_succ]
    try simp only [List.getElem_cons_zero]
    try simp only [List.setIfInBounds_toArray]
    try simp only [List.set_cons_succ, List.set_cons_zero]
    refine wpAnyH_take (i := 11) (v := .int .i64 0) rfl (by kernel_rfl) (by kernel_rfl) (by kernel_rfl) (fun _ _ _ h => h) (Or.inl ⟨by kernel_rfl, fun w1 hSw => by clear hHeld; obtain ⟨k1, kx⟩ := HCe.out _ hSw; go_simp⟩) hHeld ?_
    try simp only [Act.put]
    try simp only [List.getElem_toArray]
    try simp only [List.getElem_cons_succ]
    try simp only [List.getElem_cons_zero]
    try simp only [List.setIfInBounds_toArray]
    try simp only [List.set_cons_succ, List.set_cons_zero]
    refine wpAnyH_done (by kernel_rfl) ?_ _
    have hb1 : Below W.heap.size W V1 := ⟨HB1.out.os, HB1.out.tape, HB1.out.output, HB1.out.size, HB1.out.block⟩
    have HM1 := hide (HM.out.below hb1)
    have HX1 : Hid (Sx V1 X x) := hide (HX.out.below hb1)
    have HJ1 := hide (HJ.out.trans (Jv.of_below hb1))
    have hBS1 : B ≤ V1.heap.size := Nat.le_trans HBS.out hb1.size
    clear hHeld HTh HON HB1 HCe
    clear hb1
    have x12 : V1.cell? ⟨X, 12, none⟩ = some (.int .i64 x.li) := by have := HX1.out; unfold Sx at this; simp [World.cell?, this]
    have x3 : V1.cell? ⟨A.a, 3, none⟩ = some (.int .i64 j.used) := HM1.out.cells.2.2.2.1
    have z3 := HM1.out.z 3
    have hal := HM1.out.lt
    go_wp2_with fail
    have HT := hide (HM1.out.turn 3 (.int .i64 (j.used + 1)) (j' := { j with used := j.used + 1 }) (heap_set_self _ _ _ _ _ _ _ HM1.out.hj) rfl rfl rfl rfl)
    have HM2 := hide HT.out.1
    have HJ2 := hide (HJ1.out.trans HT.out.2)
    have HX2 : Hid (Sx (V1.setCell ⟨A.a, 3, none⟩ (.int .i64 (j.used + 1))) X x) := hide ((Below.heap_setCell _ _ _ X HXA.out).trans HX1.out)
    have hBS2 : B ≤ (V1.setCell ⟨A.a, 3, none⟩ (.int .i64 (j.used + 1))).heap.size := by rw [setCell_size]; exact hBS1
    clear HT x12 x3 z3 hal HM1 HX1 HJ1 hBS1 HM HX HJ HBS htl
    generalize V1.setCell ⟨A.a, 3, none⟩ (.int .i64 (j.used + 1)) = W at *
    have HM := HM2
    have HX := HX2
    have htl := HM.out.tm.lt
    have HCe : Hid (∀ V : World, (V.heap[A.a]? = W.heap[A.a]? ∧ V.heap[X]? = W.heap[X]?) → V.cell? ⟨A.a, 1, none⟩ = some (.pointer (some ⟨A.tb, 0, none⟩)) ∧ V.cell? ⟨X, 12, none⟩ = some (.int .i64 x.li)) := hide fun V hV => ⟨(World.cell?_of_block hV.1).trans HM.out.cells.2.1, by have := hV.2.trans HX.out; simp [World.cell?, this]⟩
    have HTo := hide (topen_any (show Tm 92 B W.drew A.tb A.tg A.tc [j.D] from HM.out.tm.drew) 0 x.li (j.used + 1))
    rw [open_new HI.out HQ.out HD.out] at HTo
    simp only [] at HTo
    have HOT : Hid (∀ V : World, On A.tg W.drew V → V.heap[A.a]? = W.heap[A.a]? ∧ V.heap[X]? = W.heap[X]?) := hide fun V hV => ⟨hV.block _ HM.out.lt (by obtain ⟨cg, hcg⟩ := own_blk HM.out.tm.row (k := A.tg) rfl; exact blk_ne HM.out.hj hcg (by decide)), hV.block _ HX.out.lt HXT.out⟩
    refine wp_region_held_drew (S := fun w' => w'.heap[A.a]? = W.heap[A.a]? ∧ w'.heap[X]? = W.heap[X]?) (by kernel_rfl) (⟨rfl, rfl⟩) (fun hHeld => ?_)
    refine wpAnyH_take (i := 0) (v := .pointer (some ⟨A.a, 0, none⟩)) rfl (by kernel_rfl) (by kernel_rfl) (by kernel_rfl) (fun _ _ _ h => h) (Or.inl ⟨by kernel_rfl, fun w1 hSw => by clear hHeld; obtain ⟨k1, kx⟩ := HCe.out _ hSw; go_simp⟩) hHeld ?_
    try simp only [Act.put]
    try simp only [List.getElem_toArray]
    try simp only [List.getElem_cons_succ]
    try simp only [List.getElem_cons_zero]
    try simp only [List.setIfInBounds_toArray]
    try simp only [List.set_cons_succ, List.set_cons_zero]
    refine wpAnyH_take (i := 1) (v := .pointer (some ⟨A.a, 0, none⟩)) rfl (by kernel_rfl) (by kernel_rfl) (by kernel_rfl) (fun _ _ _ h => h) (Or.inl ⟨by kernel_rfl, fun w1 hSw => by clear hHeld; obtain ⟨k1, kx⟩ := HCe.out _ hSw; go_simp⟩) hHeld ?_
    try simp only [Act.put]
    try simp only [List.getElem_toArray]
    try simp only [List.getElem_cons_succ]
    try simp only [List.getElem_cons_zero]
    try simp only [List.setIfInBounds_toArray]
    try simp only [List.set_cons_succ, List.set_cons_zero]
    refine wpAnyH_take (i := 2) (v := .pointer (some ⟨A.a, 1, none⟩)) rfl (by kernel_rfl) (by kernel_rfl) (by kernel_rfl) (fun _ _ _ h => h) (Or.inl ⟨by kernel_rfl, fun w1 hSw => by clear hHeld; obtain ⟨k1, kx⟩ := HCe.out _ hSw; go_simp⟩) hHeld ?_
    try simp only [Act.put]
    try simp only [List.getElem_toArray]
    try simp only [List.getElem_cons_succ]
    try simp only [List.getElem_cons_zero]
    try simp only [List.setIfInBounds_toArray]
    try simp only [List.set_cons_succ, List.set_cons_zero]
    refine wpAnyH_take (i := 3) (v := .pointer (some ⟨A.tb, 0, none⟩)) rfl (by kernel_rfl) (by kernel_rfl) (by kernel_rfl) (fun _ _ _ h => h) (Or.inl ⟨by kernel_rfl, fun w1 hSw => by clear hHeld; obtain ⟨k1, kx⟩ := HCe.out _ hSw; go_simp⟩) hHeld ?_
    try simp only [Act.put]
    try simp only [List.getElem_toArray]
    try simp only [List.getElem_cons_succ]
    try simp only [List.getElem_cons_zero]
    try simp only [List.setIfInBounds_toArray]
    try simp only [List.set_cons_succ, List.set_cons_zero]
    refine wpAnyH_take (i := 4) (v := .pointer (some ⟨X, 12, none⟩)) rfl (by kernel_rfl) (by kernel_rfl) (by kernel_rfl) (fun _ _ _ h => h) (Or.inl ⟨by kernel_rfl, fun w1 hSw => by clear hHeld; obtain ⟨k1, kx⟩ := HCe.out _ hSw; go_simp⟩) hHeld ?_
    try simp only [Act.put]
    try simp only [List.getElem_toArray]
    try simp only [List.getElem_cons_succ]
    try simp only [List.getElem_cons_zero]
    try simp only [List.setIfInBounds_toArray]
    try simp only [List.set_cons_succ, List.set_cons_zero]
    refine wpAnyH_take (i := 5) (v := .int .i64 x.li) rfl (by kernel_rfl) (by kernel_rfl) (by kernel_rfl) (fun _ _ _ h => h) (Or.inl ⟨by kernel_rfl, fun w1 hSw => by clear hHeld; obtain ⟨k1, kx⟩ := HCe.out _ hSw; go_simp⟩) hHeld ?_
    try simp only [Act.put]
    try simp only [List.getElem_toArray]
    try simp only [List.getElem_cons_succ]
    try simp only [List.getElem_cons_zero]
    try simp only [List.setIfInBounds_toArray]
    try simp only [List.set_cons_succ, List.set_cons_zero]
    refine wpAnyH_take (i := 6) (v := .int .i64 (j.used + 1)) rfl (by kernel_rfl) (by kernel_rfl) (by kernel_rfl) (fun _ _ _ h => h) (Or.inl ⟨by kernel_rfl, fun w1 hSw => by clear hHeld; obtain ⟨k1, kx⟩ := HCe.out _ hSw; go_simp⟩) hHeld ?_
    try simp only [Act.put]
    try simp only [List.getElem_toArray]
    try simp only [List.getElem_cons_succ]
    try simp only [List.getElem_cons_zero]
    try simp only [List.setIfInBounds_toArray]
    try simp only [List.set_cons_succ, List.set_cons_zero]
    refine wpAnyH_ready (rs := [7]) (by kernel_rfl) (by simp) ?_
    refine AllReadyH.cons rfl (fun K hK => ?_) AllReadyH.nil
    go_simp
    refine HTo.out.mono ?_
    rintro e V2 ⟨rfl, ht2, ho2⟩
    have HT2 := hide ht2
    have HO2 := hide ho2
    clear ht2 ho2
    refine hK.out _ _ (HOT.out _ HO2.out) (fun hHeld => ?_)
    clear hK K
    try simp only [Act.put]
    try simp only [List.getElem_toArray]
    try simp only [List.getElem_cons_succ]
    try simp only [List.getElem_cons_zero]
    try simp only [List.setIfInBounds_toArray]
    try simp only [List.set_cons_succ, List.set_cons_zero]
    refine wpAnyH_take (i := 8) (v := .bool false) rfl (by kernel_rfl) (by kernel_rfl) (by kernel_rfl) (fun _ _ _ h => h) (Or.inl ⟨by kernel_rfl, fun w1 hSw => by clear hHeld; obtain ⟨k1, kx⟩ := HCe.out _ hSw; go_simp⟩) hHeld ?_
    try simp only [Act.put]
    try simp only [List.getElem_toArray]
    try simp only [List.getElem_cons_succ]
    try simp only [List.getElem_cons_zero]
    try simp only [List.setIfInBounds_toArray]
    try simp only [List.set_cons_succ, List.set_cons_zero]
    refine wpAnyH_done (by kernel_rfl) ?_ _
    have ho2 : On A.tg W V2 := ⟨HO2.out.os, HO2.out.tape, HO2.out.output, HO2.out.size, HO2.out.block⟩
    have HM3 := hide (HM.out.onT HT2.out ho2)
    have HX3 : Hid (Sx V2 X x) := hide ((ho2.block _ HX.out.lt HXT.out).trans HX.out)
    have HJ3 := hide (HJ2.out.trans HM3.out.2)
    have hBS3 : B ≤ V2.heap.size := Nat.le_trans hBS2 ho2.size
    clear hHeld HTo HOT HT2 HO2 HCe ho2
    have x12 : V2.cell? ⟨X, 12, none⟩ = some (.int .i64 x.li) := by have := HX3.out; unfold Sx at this; simp [World.cell?, this]
    have HS := hide (say_any HM3.out.1 hBS3 HWL.out (wel x (j.used + 1)))
    have HF := hide (HI.out.welN hN HQ.out)
    simp only [wel, zS, e0] at HS HF
    rw [show ((0 : Nat) : Int) = 0 from rfl] at HS
    go_wp2_with fail
    refine HS.out.mono ?_
    rintro e V3 ⟨rfl, A', h1, h2, h3⟩
    have HP := hide (And.intro h1 (And.intro h2 (HJ3.out.trans h3)))
    clear h1 h2 h3 HS
    go_wp2_with fail
    refine bodyPost_ret (results_none rfl _ _ _) rfl ?_
    exact ⟨rfl, _, _, _, HP.out.1, HF.out, HP.out.2.1, HP.out.2.2⟩
end
end Go.Proofs.Ytonoogiadgjodaa
