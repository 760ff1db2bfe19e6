import Derived.Test.YtkfnedhllfdghaaGreatDoorMgAZ

section
namespace Go.Proofs.YtkfnedhllfdghaaGreatDoor.SE
set_option maxRecDepth 20000
open Go.RowKit

def Cl.ask (c : Cl) (m : Sm) : CR :=
  if m.k ≠ 2 ∧ m.k ≠ 3 ∧ m.k ≠ 4 then ⟨1, c⟩ else if c.m.k ≠ 0 then ⟨131, c⟩ else if c.se = 0 ∨ c.la = 1099511627776 then ⟨132, c⟩
  else ⟨0, { c with la := c.la + 1, m := { m with se := c.se, nu := c.la + 1 }, ti := 0 }⟩
theorem Cl.ask_ok {c : Cl} (h : c.ok) (m : Sm) : (c.ask m).c.ok := by
  unfold Cl.ask
  split
  · exact h
  · split
    · exact h
    · split
      · exact h
      · have h1 := h.l0; have h2 := h.l1
        exact ⟨h.r1, h.r2, Int.le_refl _, by have := h.r1; show (0 : Int) ≤ c.rs; omega, h.s0, h.s1, h.g0, h.g1, by show 0 ≤ c.la + 1; omega, by show c.la + 1 ≤ 1099511627776; omega, .inr ⟨by show m.k = 2 ∨ m.k = 3 ∨ m.k = 4; omega, by show 1 ≤ c.la + 1; omega⟩⟩
theorem Cb.drew {k : Nat} {w : World} {c : Cl} (h : Cb w k c) : Cb w.drew k c := h
theorem kinds (m : Sm) : (m.k ≠ 2 ∧ m.k ≠ 3 ∧ m.k ≠ 4) ∨ m.k = 2 ∨ m.k = 3 ∨ m.k = 4 := by omega
theorem Mx.set1 {w : World} {P : Nat} {m : Sm} (h : Mx w P m) (v : Int) : Mx (w.setCell ⟨P, 1, none⟩ (.int .i64 v)) P { m with se := v } := heap_set_self w P 1 _ _ _ _ h
theorem Mx.set2 {w : World} {P : Nat} {m : Sm} (h : Mx w P m) (v : Int) : Mx (w.setCell ⟨P, 2, none⟩ (.int .i64 v)) P { m with nu := v } := heap_set_self w P 2 _ _ _ _ h
theorem Mx.z {w : World} {P : Nat} {m : Sm} (h : Mx w P m) (k : Nat) : w.frozen? ⟨P, k, none⟩ = false := by unfold Mx at h; simp [World.frozen?, h]
theorem Mx.on {b k : Nat} {w w' : World} {c : Sm} (h : Mx w k c) (ho : On b w w') (hn : k ≠ b) : Mx w' k c := (ho.block k h.lt hn).trans h
theorem Cb.setO {b P : Nat} {w : World} {c : Cl} (h : Cb w b c) (hn : b ≠ P) (o : Nat) (v : Value) : Cb (w.setCell ⟨P, o, none⟩ v) b c := (Below.heap_setCell _ _ _ b hn).trans h
/-- one old block is turned, whatever is done to new ones -/
theorem On.setNew {b P : Nat} {w w' : World} (h : On b w w') (hP : w.heap.size ≤ P) (o : Nat) (v : Value) : On b w (w'.setCell ⟨P, o, none⟩ v) :=
  ⟨h.os, h.tape, h.output, by rw [setCell_size]; exact h.size, fun k hk hn => (Below.heap_setCell _ _ _ k (by show k ≠ P; omega)).trans (h.block k hk hn)⟩
set_option maxHeartbeats 2000000 in
set_option maxRecDepth 8000 in
theorem ask_no {w : World} {b : Nat} (m : Sm) (t0 : (m.k != 2) = true) (t1 : (m.k != 3) = true) (t2 : (m.k != 4) = true) :
    Calls Tryz.prog 92 #[.pointer (some ⟨b, 0, none⟩), .agg (smC m)] w fun e w' => e = .returned (.int .i64 1) ∧ Below w.heap.size w w' := by
  unfold smC
  go_enter Tryz.func92, Tryz.ntmps92
  go_wp2
  go_ret
  exact ⟨rfl, below_alloc w _⟩
set_option maxHeartbeats 2000000 in
set_option maxRecDepth 8000 in
theorem ask_busy2 {w : World} {b : Nat} {c : Cl} (h : Cb w b c) (m : Sm) (t0 : (m.k != 2) = false) (tb : (c.m.k != 0) = true) :
    Calls Tryz.prog 92 #[.pointer (some ⟨b, 0, none⟩), .agg (smC m)] w fun e w' => e = .returned (.int .i64 131) ∧ Below w.heap.size w w' := by
  unfold smC
  have HB := hide (busy_any (h.alloc (.cells #[.int .i64 m.k, .int .i64 m.se, .int .i64 m.nu, .int .i64 m.jo, .int .i64 m.ba, .int .i64 m.ix, .int .i64 m.co, .int .i64 m.rc, .int .u64 (m.rb : Int), .string m.tx, .string m.pr] 67)))
  rw [tb] at HB
  clear h
  go_enter Tryz.func92, Tryz.ntmps92
  go_wp2_with fail
  refine HB.out.mono ?_
  rintro e w1 ⟨rfl, rfl⟩
  go_wp2_with fail
  go_ret
  exact ⟨rfl, below_alloc w _⟩
set_option maxHeartbeats 2000000 in
set_option maxRecDepth 8000 in
theorem ask_none2s {w : World} {b : Nat} {c : Cl} (h : Cb w b c) (m : Sm) (t0 : (m.k != 2) = false) (tb : (c.m.k != 0) = false) (ts : (c.se == 0) = true) :
    Calls Tryz.prog 92 #[.pointer (some ⟨b, 0, none⟩), .agg (smC m)] w fun e w' => e = .returned (.int .i64 132) ∧ Below w.heap.size w w' := by
  unfold smC
  have HB := hide (busy_any (h.alloc (.cells #[.int .i64 m.k, .int .i64 m.se, .int .i64 m.nu, .int .i64 m.jo, .int .i64 m.ba, .int .i64 m.ix, .int .i64 m.co, .int .i64 m.rc, .int .u64 (m.rb : Int), .string m.tx, .string m.pr] 67)))
  rw [tb] at HB
  have hl := h.lt
  have c13 := h.c13
  have c15 := h.c15
  clear h
  go_enter Tryz.func92, Tryz.ntmps92
  go_wp2_with fail
  refine HB.out.mono ?_
  rintro e w1 ⟨rfl, rfl⟩
  go_wp2_with fail
  go_ret
  exact ⟨rfl, below_alloc w _⟩
set_option maxHeartbeats 2000000 in
set_option maxRecDepth 8000 in
theorem ask_none2l {w : World} {b : Nat} {c : Cl} (h : Cb w b c) (m : Sm) (t0 : (m.k != 2) = false) (tb : (c.m.k != 0) = false) (ts : (c.se == 0) = false) (tl : (c.la == 1099511627776) = true) :
    Calls Tryz.prog 92 #[.pointer (some ⟨b, 0, none⟩), .agg (smC m)] w fun e w' => e = .returned (.int .i64 132) ∧ Below w.heap.size w w' := by
  unfold smC
  have HB := hide (busy_any (h.alloc (.cells #[.int .i64 m.k, .int .i64 m.se, .int .i64 m.nu, .int .i64 m.jo, .int .i64 m.ba, .int .i64 m.ix, .int .i64 m.co, .int .i64 m.rc, .int .u64 (m.rb : Int), .string m.tx, .string m.pr] 67)))
  rw [tb] at HB
  have hl := h.lt
  have c13 := h.c13
  have c15 := h.c15
  clear h
  go_enter Tryz.func92, Tryz.ntmps92
  go_wp2_with fail
  refine HB.out.mono ?_
  rintro e w1 ⟨rfl, rfl⟩
  go_wp2_with fail
  go_ret
  exact ⟨rfl, below_alloc w _⟩
set_option maxHeartbeats 2000000 in
set_option maxRecDepth 8000 in
theorem ask_yes2 {w : World} {b : Nat} {c : Cl} (h : Cb w b c) (m : Sm) (t0 : (m.k != 2) = false) (tb : (c.m.k != 0) = false) (ts : (c.se == 0) = false) (tl : (c.la == 1099511627776) = false) (l0 : 0 ≤ c.la) (l1 : c.la < 1099511627776) :
    Calls Tryz.prog 92 #[.pointer (some ⟨b, 0, none⟩), .agg (smC m)] w fun e w' => e = .returned (.int .i64 0) ∧ Cb w' b { c with la := c.la + 1, m := { m with se := c.se, nu := c.la + 1 }, ti := 0 } ∧ On b w w' := by
  unfold smC
  have HB := hide (busy_any (h.alloc (.cells #[.int .i64 m.k, .int .i64 m.se, .int .i64 m.nu, .int .i64 m.jo, .int .i64 m.ba, .int .i64 m.ix, .int .i64 m.co, .int .i64 m.rc, .int .u64 (m.rb : Int), .string m.tx, .string m.pr] 67)))
  rw [tb] at HB
  have hl := h.lt
  have c13 := h.c13
  have c15 := h.c15
  have z15 := h.z 15
  have HH := hide ((h.la (c.la + 1)).alloc (.cells #[.int .i64 m.k, .int .i64 m.se, .int .i64 m.nu, .int .i64 m.jo, .int .i64 m.ba, .int .i64 m.ix, .int .i64 m.co, .int .i64 m.rc, .int .u64 (m.rb : Int), .string m.tx, .string m.pr] 67))
  have HO := hide (((On.refl b w).set 15 (.int .i64 (c.la + 1))).alloc (.cells #[.int .i64 m.k, .int .i64 m.se, .int .i64 m.nu, .int .i64 m.jo, .int .i64 m.ba, .int .i64 m.ix, .int .i64 m.co, .int .i64 m.rc, .int .u64 (m.rb : Int), .string m.tx, .string m.pr] 67))
  have HM : Hid (Mx ((w.setCell ⟨b, 15, none⟩ (.int .i64 (c.la + 1))).alloc (.cells #[.int .i64 m.k, .int .i64 m.se, .int .i64 m.nu, .int .i64 m.jo, .int .i64 m.ba, .int .i64 m.ix, .int .i64 m.co, .int .i64 m.rc, .int .u64 (m.rb : Int), .string m.tx, .string m.pr] 67)) w.heap.size m) := hide (by
    have := Mx.new (w.setCell ⟨b, 15, none⟩ (.int .i64 (c.la + 1))) m
    rw [setCell_size] at this
    exact this)
  clear h
  go_enter Tryz.func92, Tryz.ntmps92
  go_wp2_with fail
  refine HB.out.mono ?_
  rintro e w1 ⟨rfl, rfl⟩
  go_wp2_with fail
  obtain ⟨X, hX⟩ : ∃ X, w.heap.size = X := ⟨_, rfl⟩
  obtain ⟨W, hW⟩ : ∃ W, (w.setCell ⟨b, 15, none⟩ (.int .i64 (c.la + 1))).alloc (.cells #[.int .i64 m.k, .int .i64 m.se, .int .i64 m.nu, .int .i64 m.jo, .int .i64 m.ba, .int .i64 m.ix, .int .i64 m.co, .int .i64 m.rc, .int .u64 (m.rb : Int), .string m.tx, .string m.pr] 67) = W := ⟨_, rfl⟩
  rw [hW] at HH HO HM ⊢
  rw [hX] at HM ⊢
  have HNE : Hid (X ≠ b) := hide (by omega)
  have HXL : Hid (w.heap.size ≤ X) := hide (by omega)
  have d13 := HH.out.c13
  have d15 := HH.out.c15
  simp only at d13 d15
  obtain ⟨k0, k1, k2, k3, k4, k5, k6, k7, k8, k9, k10⟩ := HM.out.cells
  have y1 := HM.out.z 1
  have y2 := HM.out.z 2
  have e15 := (HH.out.setO (Ne.symm HNE.out) 1 (.int .i64 c.se)).c15
  simp only at e15
  clear hX hW c13 c15 z15 HB
  go_region
  all_goals
    have HM2 : Hid (Mx (((W.setCell ⟨X, 1, none⟩ (.int .i64 c.se)).setCell ⟨X, 2, none⟩ (.int .i64 (c.la + 1))).drew.drew) X { m with se := c.se, nu := c.la + 1 }) := hide ((HM.out.set1 c.se).set2 (c.la + 1))
    have HC2 : Hid (Cb (((W.setCell ⟨X, 1, none⟩ (.int .i64 c.se)).setCell ⟨X, 2, none⟩ (.int .i64 (c.la + 1))).drew.drew) b { c with la := c.la + 1 }) := hide (((HH.out.setO (Ne.symm HNE.out) 1 _).setO (Ne.symm HNE.out) 2 _))
    have HO3 : Hid (On b w (((W.setCell ⟨X, 1, none⟩ (.int .i64 c.se)).setCell ⟨X, 2, none⟩ (.int .i64 (c.la + 1))).drew.drew)) := hide (((HO.out.setNew HXL.out 1 _).setNew HXL.out 2 _).drew.drew)
    have HX := hide (begin_any HC2.out { m with se := c.se, nu := c.la + 1 })
    have HCe : Hid (∀ V, Mx V X { m with se := c.se, nu := c.la + 1 } → (V.cell? ⟨X, 0, none⟩ = some (.int .i64 m.k) ∧ V.cell? ⟨X, 1, none⟩ = some (.int .i64 c.se) ∧ V.cell? ⟨X, 2, none⟩ = some (.int .i64 (c.la + 1)) ∧ V.cell? ⟨X, 3, none⟩ = some (.int .i64 m.jo) ∧ V.cell? ⟨X, 4, none⟩ = some (.int .i64 m.ba) ∧ V.cell? ⟨X, 5, none⟩ = some (.int .i64 m.ix) ∧ V.cell? ⟨X, 6, none⟩ = some (.int .i64 m.co) ∧ V.cell? ⟨X, 7, none⟩ = some (.int .i64 m.rc) ∧ V.cell? ⟨X, 8, none⟩ = some (.int .u64 (m.rb : Int)) ∧ V.cell? ⟨X, 9, none⟩ = some (.string m.tx) ∧ V.cell? ⟨X, 10, none⟩ = some (.string m.pr))) := hide fun V hV => hV.cells
    clear HM HH HO d13 d15 k0 k1 k2 k3 k4 k5 k6 k7 k8 k9 k10 y1 y2 e15
    unfold smC at HX
    simp only at HX
    generalize (W.setCell ⟨X, 1, none⟩ (.int .i64 c.se)).setCell ⟨X, 2, none⟩ (.int .i64 (c.la + 1)) = W2 at *
    go_wp2_with fail
    refine wp_region_held_drew (S := fun w' => Mx w' X { m with se := c.se, nu := c.la + 1 }) (by kernel_rfl) (HM2.out) (fun hHeld => ?_)
    refine wpAnyH_take (i := 0) (v := .pointer (some ⟨b, 0, none⟩)) rfl (by kernel_rfl) (by kernel_rfl) (by kernel_rfl) (fun _ _ _ h => h) (Or.inl ⟨by kernel_rfl, fun w1 hSw => by clear hHeld; obtain ⟨k0, k1, k2, k3, k4, k5, k6, k7, k8, k9, k10⟩ := HCe.out _ hSw; go_simp⟩) hHeld ?_
    try simp only [Act.put]
    try simp only [List.getElem_toArray]
    try simp only [List.getElem_cons_succ]
    try simp only [List.getElem_cons_zero]
    try simp only [List.setIfInBounds_toArray]
    try simp only [List.set_cons_succ, List.set_cons_zero]
    refine wpAnyH_take (i := 1) (v := .pointer (some ⟨b, 0, none⟩)) rfl (by kernel_rfl) (by kernel_rfl) (by kernel_rfl) (fun _ _ _ h => h) (Or.inl ⟨by kernel_rfl, fun w1 hSw => by clear hHeld; obtain ⟨k0, k1, k2, k3, k4, k5, k6, k7, k8, k9, k10⟩ := HCe.out _ hSw; go_simp⟩) hHeld ?_
    try simp only [Act.put]
    try simp only [List.getElem_toArray]
    try simp only [List.getElem_cons_succ]
    try simp only [List.getElem_cons_zero]
    try simp only [List.setIfInBounds_toArray]
    try simp only [List.set_cons_succ, List.set_cons_zero]
    refine wpAnyH_take (i := 2) (v := .pointer (some ⟨b, 0, none⟩)) rfl (by kernel_rfl) (by kernel_rfl) (by kernel_rfl) (fun _ _ _ h => h) (Or.inl ⟨by kernel_rfl, fun w1 hSw => by clear hHeld; obtain ⟨k0, k1, k2, k3, k4, k5, k6, k7, k8, k9, k10⟩ := HCe.out _ hSw; go_simp⟩) hHeld ?_
    try simp only [Act.put]
    try simp only [List.getElem_toArray]
    try simp only [List.getElem_cons_succ]
    try simp only [List.getElem_cons_zero]
    try simp only [List.setIfInBounds_toArray]
    try simp only [List.set_cons_succ, List.set_cons_zero]
    refine wpAnyH_take (i := 3) (v := .agg #[.int .i64 m.k, .int .i64 c.se, .int .i64 (c.la + 1), .int .i64 m.jo, .int .i64 m.ba, .int .i64 m.ix, .int .i64 m.co, .int .i64 m.rc, .int .u64 (m.rb : Int), .string m.tx, .string m.pr]) rfl (by kernel_rfl) (by kernel_rfl) (by kernel_rfl) (fun _ _ _ h => h) (Or.inl ⟨by kernel_rfl, fun w1 hSw => by clear hHeld; obtain ⟨k0, k1, k2, k3, k4, k5, k6, k7, k8, k9, k10⟩ := HCe.out _ hSw; go_simp⟩) hHeld ?_
    try simp only [Act.put]
    try simp only [List.getElem_toArray]
    try simp only [List.getElem_cons_succ]
    try simp only [List.getElem_cons_zero]
    try simp only [List.setIfInBounds_toArray]
    try simp only [List.set_cons_succ, List.set_cons_zero]
    refine wpAnyH_ready (rs := [4]) (by kernel_rfl) (by simp) ?_
    refine AllReadyH.cons rfl (fun K hK => ?_) AllReadyH.nil
    go_simp
    refine HX.out.mono ?_
    rintro e V0 ⟨rfl, hc2, ho2⟩
    have HC2 := hide hc2
    have HO2 := hide ho2
    clear hc2 ho2
    refine hK.out _ _ (hHeld.on HO2.out HNE.out) (fun hHeld => ?_)
    clear hK K
    try simp only [Act.put]
    try simp only [List.getElem_toArray]
    try simp only [List.getElem_cons_succ]
    try simp only [List.getElem_cons_zero]
    try simp only [List.setIfInBounds_toArray]
    try simp only [List.set_cons_succ, List.set_cons_zero]
    refine wpAnyH_done (by kernel_rfl) ?_ _
    have HF := hide HC2.out
    have HG := hide (HO3.out.trans HO2.out)
    clear HC2 HO2 hHeld
    go_wp2_with fail
    go_ret
    exact ⟨rfl, HF.out, HG.out⟩
set_option maxHeartbeats 2000000 in
set_option maxRecDepth 8000 in
theorem ask_busy3 {w : World} {b : Nat} {c : Cl} (h : Cb w b c) (m : Sm) (t0 : (m.k != 2) = true) (t1 : (m.k != 3) = false) (tb : (c.m.k != 0) = true) :
    Calls Tryz.prog 92 #[.pointer (some ⟨b, 0, none⟩), .agg (smC m)] w fun e w' => e = .returned (.int .i64 131) ∧ Below w.heap.size w w' := by
  unfold smC
  have HB := hide (busy_any (h.alloc (.cells #[.int .i64 m.k, .int .i64 m.se, .int .i64 m.nu, .int .i64 m.jo, .int .i64 m.ba, .int .i64 m.ix, .int .i64 m.co, .int .i64 m.rc, .int .u64 (m.rb : Int), .string m.tx, .string m.pr] 67)))
  rw [tb] at HB
  clear h
  go_enter Tryz.func92, Tryz.ntmps92
  go_wp2_with fail
  refine HB.out.mono ?_
  rintro e w1 ⟨rfl, rfl⟩
  go_wp2_with fail
  go_ret
  exact ⟨rfl, below_alloc w _⟩
set_option maxHeartbeats 2000000 in
set_option maxRecDepth 8000 in
theorem ask_none3s {w : World} {b : Nat} {c : Cl} (h : Cb w b c) (m : Sm) (t0 : (m.k != 2) = true) (t1 : (m.k != 3) = false) (tb : (c.m.k != 0) = false) (ts : (c.se == 0) = true) :
    Calls Tryz.prog 92 #[.pointer (some ⟨b, 0, none⟩), .agg (smC m)] w fun e w' => e = .returned (.int .i64 132) ∧ Below w.heap.size w w' := by
  unfold smC
  have HB := hide (busy_any (h.alloc (.cells #[.int .i64 m.k, .int .i64 m.se, .int .i64 m.nu, .int .i64 m.jo, .int .i64 m.ba, .int .i64 m.ix, .int .i64 m.co, .int .i64 m.rc, .int .u64 (m.rb : Int), .string m.tx, .string m.pr] 67)))
  rw [tb] at HB
  have hl := h.lt
  have c13 := h.c13
  have c15 := h.c15
  clear h
  go_enter Tryz.func92, Tryz.ntmps92
  go_wp2_with fail
  refine HB.out.mono ?_
  rintro e w1 ⟨rfl, rfl⟩
  go_wp2_with fail
  go_ret
  exact ⟨rfl, below_alloc w _⟩
set_option maxHeartbeats 2000000 in
set_option maxRecDepth 8000 in
theorem ask_none3l {w : World} {b : Nat} {c : Cl} (h : Cb w b c) (m : Sm) (t0 : (m.k != 2) = true) (t1 : (m.k != 3) = false) (tb : (c.m.k != 0) = false) (ts : (c.se == 0) = false) (tl : (c.la == 1099511627776) = true) :
    Calls Tryz.prog 92 #[.pointer (some ⟨b, 0, none⟩), .agg (smC m)] w fun e w' => e = .returned (.int .i64 132) ∧ Below w.heap.size w w' := by
  unfold smC
  have HB := hide (busy_any (h.alloc (.cells #[.int .i64 m.k, .int .i64 m.se, .int .i64 m.nu, .int .i64 m.jo, .int .i64 m.ba, .int .i64 m.ix, .int .i64 m.co, .int .i64 m.rc, .int .u64 (m.rb : Int), .string m.tx, .string m.pr] 67)))
  rw [tb] at HB
  have hl := h.lt
  have c13 := h.c13
  have c15 := h.c15
  clear h
  go_enter Tryz.func92, Tryz.ntmps92
  go_wp2_with fail
  refine HB.out.mono ?_
  rintro e w1 ⟨rfl, rfl⟩
  go_wp2_with fail
  go_ret
  exact ⟨rfl, below_alloc w _⟩
set_option maxHeartbeats 2000000 in
set_option maxRecDepth 8000 in
theorem ask_yes3 {w : World} {b : Nat} {c : Cl} (h : Cb w b c) (m : Sm) (t0 : (m.k != 2) = true) (t1 : (m.k != 3) = false) (tb : (c.m.k != 0) = false) (ts : (c.se == 0) = false) (tl : (c.la == 1099511627776) = false) (l0 : 0 ≤ c.la) (l1 : c.la < 1099511627776) :
    Calls Tryz.prog 92 #[.pointer (some ⟨b, 0, none⟩), .agg (smC m)] w fun e w' => e = .returned (.int .i64 0) ∧ Cb w' b { c with la := c.la + 1, m := { m with se := c.se, nu := c.la + 1 }, ti := 0 } ∧ On b w w' := by
  unfold smC
  have HB := hide (busy_any (h.alloc (.cells #[.int .i64 m.k, .int .i64 m.se, .int .i64 m.nu, .int .i64 m.jo, .int .i64 m.ba, .int .i64 m.ix, .int .i64 m.co, .int .i64 m.rc, .int .u64 (m.rb : Int), .string m.tx, .string m.pr] 67)))
  rw [tb] at HB
  have hl := h.lt
  have c13 := h.c13
  have c15 := h.c15
  have z15 := h.z 15
  have HH := hide ((h.la (c.la + 1)).alloc (.cells #[.int .i64 m.k, .int .i64 m.se, .int .i64 m.nu, .int .i64 m.jo, .int .i64 m.ba, .int .i64 m.ix, .int .i64 m.co, .int .i64 m.rc, .int .u64 (m.rb : Int), .string m.tx, .string m.pr] 67))
  have HO := hide (((On.refl b w).set 15 (.int .i64 (c.la + 1))).alloc (.cells #[.int .i64 m.k, .int .i64 m.se, .int .i64 m.nu, .int .i64 m.jo, .int .i64 m.ba, .int .i64 m.ix, .int .i64 m.co, .int .i64 m.rc, .int .u64 (m.rb : Int), .string m.tx, .string m.pr] 67))
  have HM : Hid (Mx ((w.setCell ⟨b, 15, none⟩ (.int .i64 (c.la + 1))).alloc (.cells #[.int .i64 m.k, .int .i64 m.se, .int .i64 m.nu, .int .i64 m.jo, .int .i64 m.ba, .int .i64 m.ix, .int .i64 m.co, .int .i64 m.rc, .int .u64 (m.rb : Int), .string m.tx, .string m.pr] 67)) w.heap.size m) := hide (by
    have := Mx.new (w.setCell ⟨b, 15, none⟩ (.int .i64 (c.la + 1))) m
    rw [setCell_size] at this
    exact this)
  clear h
  go_enter Tryz.func92, Tryz.ntmps92
  go_wp2_with fail
  refine HB.out.mono ?_
  rintro e w1 ⟨rfl, rfl⟩
  go_wp2_with fail
  obtain ⟨X, hX⟩ : ∃ X, w.heap.size = X := ⟨_, rfl⟩
  obtain ⟨W, hW⟩ : ∃ W, (w.setCell ⟨b, 15, none⟩ (.int .i64 (c.la + 1))).alloc (.cells #[.int .i64 m.k, .int .i64 m.se, .int .i64 m.nu, .int .i64 m.jo, .int .i64 m.ba, .int .i64 m.ix, .int .i64 m.co, .int .i64 m.rc, .int .u64 (m.rb : Int), .string m.tx, .string m.pr] 67) = W := ⟨_, rfl⟩
  rw [hW] at HH HO HM ⊢
  rw [hX] at HM ⊢
  have HNE : Hid (X ≠ b) := hide (by omega)
  have HXL : Hid (w.heap.size ≤ X) := hide (by omega)
  have d13 := HH.out.c13
  have d15 := HH.out.c15
  simp only at d13 d15
  obtain ⟨k0, k1, k2, k3, k4, k5, k6, k7, k8, k9, k10⟩ := HM.out.cells
  have y1 := HM.out.z 1
  have y2 := HM.out.z 2
  have e15 := (HH.out.setO (Ne.symm HNE.out) 1 (.int .i64 c.se)).c15
  simp only at e15
  clear hX hW c13 c15 z15 HB
  go_region
  all_goals
    have HM2 : Hid (Mx (((W.setCell ⟨X, 1, none⟩ (.int .i64 c.se)).setCell ⟨X, 2, none⟩ (.int .i64 (c.la + 1))).drew.drew) X { m with se := c.se, nu := c.la + 1 }) := hide ((HM.out.set1 c.se).set2 (c.la + 1))
    have HC2 : Hid (Cb (((W.setCell ⟨X, 1, none⟩ (.int .i64 c.se)).setCell ⟨X, 2, none⟩ (.int .i64 (c.la + 1))).drew.drew) b { c with la := c.la + 1 }) := hide (((HH.out.setO (Ne.symm HNE.out) 1 _).setO (Ne.symm HNE.out) 2 _))
    have HO3 : Hid (On b w (((W.setCell ⟨X, 1, none⟩ (.int .i64 c.se)).setCell ⟨X, 2, none⟩ (.int .i64 (c.la + 1))).drew.drew)) := hide (((HO.out.setNew HXL.out 1 _).setNew HXL.out 2 _).drew.drew)
    have HX := hide (begin_any HC2.out { m with se := c.se, nu := c.la + 1 })
    have HCe : Hid (∀ V, Mx V X { m with se := c.se, nu := c.la + 1 } → (V.cell? ⟨X, 0, none⟩ = some (.int .i64 m.k) ∧ V.cell? ⟨X, 1, none⟩ = some (.int .i64 c.se) ∧ V.cell? ⟨X, 2, none⟩ = some (.int .i64 (c.la + 1)) ∧ V.cell? ⟨X, 3, none⟩ = some (.int .i64 m.jo) ∧ V.cell? ⟨X, 4, none⟩ = some (.int .i64 m.ba) ∧ V.cell? ⟨X, 5, none⟩ = some (.int .i64 m.ix) ∧ V.cell? ⟨X, 6, none⟩ = some (.int .i64 m.co) ∧ V.cell? ⟨X, 7, none⟩ = some (.int .i64 m.rc) ∧ V.cell? ⟨X, 8, none⟩ = some (.int .u64 (m.rb : Int)) ∧ V.cell? ⟨X, 9, none⟩ = some (.string m.tx) ∧ V.cell? ⟨X, 10, none⟩ = some (.string m.pr))) := hide fun V hV => hV.cells
    clear HM HH HO d13 d15 k0 k1 k2 k3 k4 k5 k6 k7 k8 k9 k10 y1 y2 e15
    unfold smC at HX
    simp only at HX
    generalize (W.setCell ⟨X, 1, none⟩ (.int .i64 c.se)).setCell ⟨X, 2, none⟩ (.int .i64 (c.la + 1)) = W2 at *
    go_wp2_with fail
    refine wp_region_held_drew (S := fun w' => Mx w' X { m with se := c.se, nu := c.la + 1 }) (by kernel_rfl) (HM2.out) (fun hHeld => ?_)
    refine wpAnyH_take (i := 0) (v := .pointer (some ⟨b, 0, none⟩)) rfl (by kernel_rfl) (by kernel_rfl) (by kernel_rfl) (fun _ _ _ h => h) (Or.inl ⟨by kernel_rfl, fun w1 hSw => by clear hHeld; obtain ⟨k0, k1, k2, k3, k4, k5, k6, k7, k8, k9, k10⟩ := HCe.out _ hSw; go_simp⟩) hHeld ?_
    try simp only [Act.put]
    try simp only [List.getElem_toArray]
    try simp only [List.getElem_cons_succ]
    try simp only [List.getElem_cons_zero]
    try simp only [List.setIfInBounds_toArray]
    try simp only [List.set_cons_succ, List.set_cons_zero]
    refine wpAnyH_take (i := 1) (v := .pointer (some ⟨b, 0, none⟩)) rfl (by kernel_rfl) (by kernel_rfl) (by kernel_rfl) (fun _ _ _ h => h) (Or.inl ⟨by kernel_rfl, fun w1 hSw => by clear hHeld; obtain ⟨k0, k1, k2, k3, k4, k5, k6, k7, k8, k9, k10⟩ := HCe.out _ hSw; go_simp⟩) hHeld ?_
    try simp only [Act.put]
    try simp only [List.getElem_toArray]
    try simp only [List.getElem_cons_succ]
    try simp only [List.getElem_cons_zero]
    try simp only [List.setIfInBounds_toArray]
    try simp only [List.set_cons_succ, List.set_cons_zero]
    refine wpAnyH_take (i := 2) (v := .pointer (some ⟨b, 0, none⟩)) rfl (by kernel_rfl) (by kernel_rfl) (by kernel_rfl) (fun _ _ _ h => h) (Or.inl ⟨by kernel_rfl, fun w1 hSw => by clear hHeld; obtain ⟨k0, k1, k2, k3, k4, k5, k6, k7, k8, k9, k10⟩ := HCe.out _ hSw; go_simp⟩) hHeld ?_
    try simp only [Act.put]
    try simp only [List.getElem_toArray]
    try simp only [List.getElem_cons_succ]
    try simp only [List.getElem_cons_zero]
    try simp only [List.setIfInBounds_toArray]
    try simp only [List.set_cons_succ, List.set_cons_zero]
    refine wpAnyH_take (i := 3) (v := .agg #[.int .i64 m.k, .int .i64 c.se, .int .i64 (c.la + 1), .int .i64 m.jo, .int .i64 m.ba, .int .i64 m.ix, .int .i64 m.co, .int .i64 m.rc, .int .u64 (m.rb : Int), .string m.tx, .string m.pr]) rfl (by kernel_rfl) (by kernel_rfl) (by kernel_rfl) (fun _ _ _ h => h) (Or.inl ⟨by kernel_rfl, fun w1 hSw => by clear hHeld; obtain ⟨k0, k1, k2, k3, k4, k5, k6, k7, k8, k9, k10⟩ := HCe.out _ hSw; go_simp⟩) hHeld ?_
    try simp only [Act.put]
    try simp only [List.getElem_toArray]
    try simp only [List.getElem_cons_succ]
    try simp only [List.getElem_cons_zero]
    try simp only [List.setIfInBounds_toArray]
    try simp only [List.set_cons_succ, List.set_cons_zero]
    refine wpAnyH_ready (rs := [4]) (by kernel_rfl) (by simp) ?_
    refine AllReadyH.cons rfl (fun K hK => ?_) AllReadyH.nil
    go_simp
    refine HX.out.mono ?_
    rintro e V0 ⟨rfl, hc2, ho2⟩
    have HC2 := hide hc2
    have HO2 := hide ho2
    clear hc2 ho2
    refine hK.out _ _ (hHeld.on HO2.out HNE.out) (fun hHeld => ?_)
    clear hK K
    try simp only [Act.put]
    try simp only [List.getElem_toArray]
    try simp only [List.getElem_cons_succ]
    try simp only [List.getElem_cons_zero]
    try simp only [List.setIfInBounds_toArray]
    try simp only [List.set_cons_succ, List.set_cons_zero]
    refine wpAnyH_done (by kernel_rfl) ?_ _
    have HF := hide HC2.out
    have HG := hide (HO3.out.trans HO2.out)
    clear HC2 HO2 hHeld
    go_wp2_with fail
    go_ret
    exact ⟨rfl, HF.out, HG.out⟩
set_option maxHeartbeats 2000000 in
set_option maxRecDepth 8000 in
theorem ask_busy4 {w : World} {b : Nat} {c : Cl} (h : Cb w b c) (m : Sm) (t0 : (m.k != 2) = true) (t1 : (m.k != 3) = true) (t2 : (m.k != 4) = false) (tb : (c.m.k != 0) = true) :
    Calls Tryz.prog 92 #[.pointer (some ⟨b, 0, none⟩), .agg (smC m)] w fun e w' => e = .returned (.int .i64 131) ∧ Below w.heap.size w w' := by
  unfold smC
  have HB := hide (busy_any (h.alloc (.cells #[.int .i64 m.k, .int .i64 m.se, .int .i64 m.nu, .int .i64 m.jo, .int .i64 m.ba, .int .i64 m.ix, .int .i64 m.co, .int .i64 m.rc, .int .u64 (m.rb : Int), .string m.tx, .string m.pr] 67)))
  rw [tb] at HB
  clear h
  go_enter Tryz.func92, Tryz.ntmps92
  go_wp2_with fail
  refine HB.out.mono ?_
  rintro e w1 ⟨rfl, rfl⟩
  go_wp2_with fail
  go_ret
  exact ⟨rfl, below_alloc w _⟩
set_option maxHeartbeats 2000000 in
set_option maxRecDepth 8000 in
theorem ask_none4s {w : World} {b : Nat} {c : Cl} (h : Cb w b c) (m : Sm) (t0 : (m.k != 2) = true) (t1 : (m.k != 3) = true) (t2 : (m.k != 4) = false) (tb : (c.m.k != 0) = false) (ts : (c.se == 0) = true) :
    Calls Tryz.prog 92 #[.pointer (some ⟨b, 0, none⟩), .agg (smC m)] w fun e w' => e = .returned (.int .i64 132) ∧ Below w.heap.size w w' := by
  unfold smC
  have HB := hide (busy_any (h.alloc (.cells #[.int .i64 m.k, .int .i64 m.se, .int .i64 m.nu, .int .i64 m.jo, .int .i64 m.ba, .int .i64 m.ix, .int .i64 m.co, .int .i64 m.rc, .int .u64 (m.rb : Int), .string m.tx, .string m.pr] 67)))
  rw [tb] at HB
  have hl := h.lt
  have c13 := h.c13
  have c15 := h.c15
  clear h
  go_enter Tryz.func92, Tryz.ntmps92
  go_wp2_with fail
  refine HB.out.mono ?_
  rintro e w1 ⟨rfl, rfl⟩
  go_wp2_with fail
  go_ret
  exact ⟨rfl, below_alloc w _⟩
set_option maxHeartbeats 2000000 in
set_option maxRecDepth 8000 in
theorem ask_none4l {w : World} {b : Nat} {c : Cl} (h : Cb w b c) (m : Sm) (t0 : (m.k != 2) = true) (t1 : (m.k != 3) = true) (t2 : (m.k != 4) = false) (tb : (c.m.k != 0) = false) (ts : (c.se == 0) = false) (tl : (c.la == 1099511627776) = true) :
    Calls Tryz.prog 92 #[.pointer (some ⟨b, 0, none⟩), .agg (smC m)] w fun e w' => e = .returned (.int .i64 132) ∧ Below w.heap.size w w' := by
  unfold smC
  have HB := hide (busy_any (h.alloc (.cells #[.int .i64 m.k, .int .i64 m.se, .int .i64 m.nu, .int .i64 m.jo, .int .i64 m.ba, .int .i64 m.ix, .int .i64 m.co, .int .i64 m.rc, .int .u64 (m.rb : Int), .string m.tx, .string m.pr] 67)))
  rw [tb] at HB
  have hl := h.lt
  have c13 := h.c13
  have c15 := h.c15
  clear h
  go_enter Tryz.func92, Tryz.ntmps92
  go_wp2_with fail
  refine HB.out.mono ?_
  rintro e w1 ⟨rfl, rfl⟩
  go_wp2_with fail
  go_ret
  exact ⟨rfl, below_alloc w _⟩
set_option maxHeartbeats 2000000 in
set_option maxRecDepth 8000 in
theorem ask_yes4 {w : World} {b : Nat} {c : Cl} (h : Cb w b c) (m : Sm) (t0 : (m.k != 2) = true) (t1 : (m.k != 3) = true) (t2 : (m.k != 4) = false) (tb : (c.m.k != 0) = false) (ts : (c.se == 0) = false) (tl : (c.la == 1099511627776) = false) (l0 : 0 ≤ c.la) (l1 : c.la < 1099511627776) :
    Calls Tryz.prog 92 #[.pointer (some ⟨b, 0, none⟩), .agg (smC m)] w fun e w' => e = .returned (.int .i64 0) ∧ Cb w' b { c with la := c.la + 1, m := { m with se := c.se, nu := c.la + 1 }, ti := 0 } ∧ On b w w' := by
  unfold smC
  have HB := hide (busy_any (h.alloc (.cells #[.int .i64 m.k, .int .i64 m.se, .int .i64 m.nu, .int .i64 m.jo, .int .i64 m.ba, .int .i64 m.ix, .int .i64 m.co, .int .i64 m.rc, .int .u64 (m.rb : Int), .string m.tx, .string m.pr] 67)))
  rw [tb] at HB
  have hl := h.lt
  have c13 := h.c13
  have c15 := h.c15
  have z15 := h.z 15
  have HH := hide ((h.la (c.la + 1)).alloc (.cells #[.int .i64 m.k, .int .i64 m.se, .int .i64 m.nu, .int .i64 m.jo, .int .i64 m.ba, .int .i64 m.ix, .int .i64 m.co, .int .i64 m.rc, .int .u64 (m.rb : Int), .string m.tx, .string m.pr] 67))
  have HO := hide (((On.refl b w).set 15 (.int .i64 (c.la + 1))).alloc (.cells #[.int .i64 m.k, .int .i64 m.se, .int .i64 m.nu, .int .i64 m.jo, .int .i64 m.ba, .int .i64 m.ix, .int .i64 m.co, .int .i64 m.rc, .int .u64 (m.rb : Int), .string m.tx, .string m.pr] 67))
  have HM : Hid (Mx ((w.setCell ⟨b, 15, none⟩ (.int .i64 (c.la + 1))).alloc (.cells #[.int .i64 m.k, .int .i64 m.se, .int .i64 m.nu, .int .i64 m.jo, .int .i64 m.ba, .int .i64 m.ix, .int .i64 m.co, .int .i64 m.rc, .int .u64 (m.rb : Int), .string m.tx, .string m.pr] 67)) w.heap.size m) := hide (by
    have := Mx.new (w.setCell ⟨b, 15, none⟩ (.int .i64 (c.la + 1))) m
    rw [setCell_size] at this
    exact this)
  clear h
  go_enter Tryz.func92, Tryz.ntmps92
  go_wp2_with fail
  refine HB.out.mono ?_
  rintro e w1 ⟨rfl, rfl⟩
  go_wp2_with fail
  obtain ⟨X, hX⟩ : ∃ X, w.heap.size = X := ⟨_, rfl⟩
  obtain ⟨W, hW⟩ : ∃ W, (w.setCell ⟨b, 15, none⟩ (.int .i64 (c.la + 1))).alloc (.cells #[.int .i64 m.k, .int .i64 m.se, .int .i64 m.nu, .int .i64 m.jo, .int .i64 m.ba, .int .i64 m.ix, .int .i64 m.co, .int .i64 m.rc, .int .u64 (m.rb : Int), .string m.tx, .string m.pr] 67) = W := ⟨_, rfl⟩
  rw [hW] at HH HO HM ⊢
  rw [hX] at HM ⊢
  have HNE : Hid (X ≠ b) := hide (by omega)
  have HXL : Hid (w.heap.size ≤ X) := hide (by omega)
  have d13 := HH.out.c13
  have d15 := HH.out.c15
  simp only at d13 d15
  obtain ⟨k0, k1, k2, k3, k4, k5, k6, k7, k8, k9, k10⟩ := HM.out.cells
  have y1 := HM.out.z 1
  have y2 := HM.out.z 2
  have e15 := (HH.out.setO (Ne.symm HNE.out) 1 (.int .i64 c.se)).c15
  simp only at e15
  clear hX hW c13 c15 z15 HB
  go_region
  all_goals
    have HM2 : Hid (Mx (((W.setCell ⟨X, 1, none⟩ (.int .i64 c.se)).setCell ⟨X, 2, none⟩ (.int .i64 (c.la + 1))).drew.drew) X { m with se := c.se, nu := c.la + 1 }) := hide ((HM.out.set1 c.se).set2 (c.la + 1))
    have HC2 : Hid (Cb (((W.setCell ⟨X, 1, none⟩ (.int .i64 c.se)).setCell ⟨X, 2, none⟩ (.int .i64 (c.la + 1))).drew.drew) b { c with la := c.la + 1 }) := hide (((HH.out.setO (Ne.symm HNE.out) 1 _).setO (Ne.symm HNE.out) 2 _))
    have HO3 : Hid (On b w (((W.setCell ⟨X, 1, none⟩ (.int .i64 c.se)).setCell ⟨X, 2, none⟩ (.int .i64 (c.la + 1))).drew.drew)) := hide (((HO.out.setNew HXL.out 1 _).setNew HXL.out 2 _).drew.drew)
    have HX := hide (begin_any HC2.out { m with se := c.se, nu := c.la + 1 })
    have HCe : Hid (∀ V, Mx V X { m with se := c.se, nu := c.la + 1 } → (V.cell? ⟨X, 0, none⟩ = some (.int .i64 m.k) ∧ V.cell? ⟨X, 1, none⟩ = some (.int .i64 c.se) ∧ V.cell? ⟨X, 2, none⟩ = some (.int .i64 (c.la + 1)) ∧ V.cell? ⟨X, 3, none⟩ = some (.int .i64 m.jo) ∧ V.cell? ⟨X, 4, none⟩ = some (.int .i64 m.ba) ∧ V.cell? ⟨X, 5, none⟩ = some (.int .i64 m.ix) ∧ V.cell? ⟨X, 6, none⟩ = some (.int .i64 m.co) ∧ V.cell? ⟨X, 7, none⟩ = some (.int .i64 m.rc) ∧ V.cell? ⟨X, 8, none⟩ = some (.int .u64 (m.rb : Int)) ∧ V.cell? ⟨X, 9, none⟩ = some (.string m.tx) ∧ V.cell? ⟨X, 10, none⟩ = some (.string m.pr))) := hide fun V hV => hV.cells
    clear HM HH HO d13 d15 k0 k1 k2 k3 k4 k5 k6 k7 k8 k9 k10 y1 y2 e15
    unfold smC at HX
    simp only at HX
    generalize (W.setCell ⟨X, 1, none⟩ (.int .i64 c.se)).setCell ⟨X, 2, none⟩ (.int .i64 (c.la + 1)) = W2 at *
    go_wp2_with fail
    refine wp_region_held_drew (S := fun w' => Mx w' X { m with se := c.se, nu := c.la + 1 }) (by kernel_rfl) (HM2.out) (fun hHeld => ?_)
    refine wpAnyH_take (i := 0) (v := .pointer (some ⟨b, 0, none⟩)) rfl (by kernel_rfl) (by kernel_rfl) (by kernel_rfl) (fun _ _ _ h => h) (Or.inl ⟨by kernel_rfl, fun w1 hSw => by clear hHeld; obtain ⟨k0, k1, k2, k3, k4, k5, k6, k7, k8, k9, k10⟩ := HCe.out _ hSw; go_simp⟩) hHeld ?_
    try simp only [Act.put]
    try simp only [List.getElem_toArray]
    try simp only [List.getElem_cons_succ]
    try simp only [List.getElem_cons_zero]
    try simp only [List.setIfInBounds_toArray]
    try simp only [List.set_cons_succ, List.set_cons_zero]
    refine wpAnyH_take (i := 1) (v := .pointer (some ⟨b, 0, none⟩)) rfl (by kernel_rfl) (by kernel_rfl) (by kernel_rfl) (fun _ _ _ h => h) (Or.inl ⟨by kernel_rfl, fun w1 hSw => by clear hHeld; obtain ⟨k0, k1, k2, k3, k4, k5, k6, k7, k8, k9, k10⟩ := HCe.out _ hSw; go_simp⟩) hHeld ?_
    try simp only [Act.put]
    try simp only [List.getElem_toArray]
    try simp only [List.getElem_cons_succ]
    try simp only [List.getElem_cons_zero]
    try simp only [List.setIfInBounds_toArray]
    try simp only [List.set_cons_succ, List.set_cons_zero]
    refine wpAnyH_take (i := 2) (v := .pointer (some ⟨b, 0, none⟩)) rfl (by kernel_rfl) (by kernel_rfl) (by kernel_rfl) (fun _ _ _ h => h) (Or.inl ⟨by kernel_rfl, fun w1 hSw => by clear hHeld; obtain ⟨k0, k1, k2, k3, k4, k5, k6, k7, k8, k9, k10⟩ := HCe.out _ hSw; go_simp⟩) hHeld ?_
    try simp only [Act.put]
    try simp only [List.getElem_toArray]
    try simp only [List.getElem_cons_succ]
    try simp only [List.getElem_cons_zero]
    try simp only [List.setIfInBounds_toArray]
    try simp only [List.set_cons_succ, List.set_cons_zero]
    refine wpAnyH_take (i := 3) (v := .agg #[.int .i64 m.k, .int .i64 c.se, .int .i64 (c.la + 1), .int .i64 m.jo, .int .i64 m.ba, .int .i64 m.ix, .int .i64 m.co, .int .i64 m.rc, .int .u64 (m.rb : Int), .string m.tx, .string m.pr]) rfl (by kernel_rfl) (by kernel_rfl) (by kernel_rfl) (fun _ _ _ h => h) (Or.inl ⟨by kernel_rfl, fun w1 hSw => by clear hHeld; obtain ⟨k0, k1, k2, k3, k4, k5, k6, k7, k8, k9, k10⟩ := HCe.out _ hSw; go_simp⟩) hHeld ?_
    try simp only [Act.put]
    try simp only [List.getElem_toArray]
    try simp only [List.getElem_cons_succ]
    try simp only [List.getElem_cons_zero]
    try simp only [List.setIfInBounds_toArray]
    try simp only [List.set_cons_succ, List.set_cons_zero]
    refine wpAnyH_ready (rs := [4]) (by kernel_rfl) (by simp) ?_
    refine AllReadyH.cons rfl (fun K hK => ?_) AllReadyH.nil
    go_simp
    refine HX.out.mono ?_
    rintro e V0 ⟨rfl, hc2, ho2⟩
    have HC2 := hide hc2
    have HO2 := hide ho2
    clear hc2 ho2
    refine hK.out _ _ (hHeld.on HO2.out HNE.out) (fun hHeld => ?_)
    clear hK K
    try simp only [Act.put]
    try simp only [List.getElem_toArray]
    try simp only [List.getElem_cons_succ]
    try simp only [List.getElem_cons_zero]
    try simp only [List.setIfInBounds_toArray]
    try simp only [List.set_cons_succ, List.set_cons_zero]
    refine wpAnyH_done (by kernel_rfl) ?_ _
    have HF := hide HC2.out
    have HG := hide (HO3.out.trans HO2.out)
    clear HC2 HO2 hHeld
    go_wp2_with fail
    go_ret
    exact ⟨rfl, HF.out, HG.out⟩
theorem ask_any {w : World} {b : Nat} {c : Cl} (hk : c.ok) (h : Cb w b c) (m : Sm) :
    Calls Tryz.prog 92 #[.pointer (some ⟨b, 0, none⟩), .agg (smC m)] w fun e w' => e = .returned (.int .i64 (c.ask m).e) ∧ Cb w' b (c.ask m).c ∧ On b w w' := by
  have l0 := hk.l0
  have l1 := hk.l1
  have low : ∀ {n : Int}, (Calls Tryz.prog 92 #[.pointer (some ⟨b, 0, none⟩), .agg (smC m)] w fun e w' => e = .returned (.int .i64 n) ∧ Below w.heap.size w w') → Calls Tryz.prog 92 #[.pointer (some ⟨b, 0, none⟩), .agg (smC m)] w fun e w' => e = .returned (.int .i64 n) ∧ Cb w' b c ∧ On b w w' := fun hh => hh.mono fun e w' ⟨h1, h2⟩ => ⟨h1, h.below h2, On.of_below h2⟩
  unfold Cl.ask
  by_cases h1 : m.k ≠ 2 ∧ m.k ≠ 3 ∧ m.k ≠ 4
  · rw [if_pos h1]
    exact low (ask_no m (by simpa using h1.1) (by simpa using h1.2.1) (by simpa using h1.2.2))
  rw [if_neg h1]
  have h3 : m.k = 2 ∨ m.k = 3 ∨ m.k = 4 := by omega
  by_cases hb : c.m.k ≠ 0
  · rw [if_pos hb]
    have tb : (c.m.k != 0) = true := by simpa using hb
    rcases h3 with e | e | e
    · exact low (ask_busy2 h m (by rw [e]; rfl) tb)
    · exact low (ask_busy3 h m (by rw [e]; rfl) (by rw [e]; rfl) tb)
    · exact low (ask_busy4 h m (by rw [e]; rfl) (by rw [e]; rfl) (by rw [e]; rfl) tb)
  rw [if_neg hb]
  have tb : (c.m.k != 0) = false := by simpa using hb
  by_cases hs : c.se = 0
  · rw [if_pos (.inl hs)]
    have ts : (c.se == 0) = true := by simpa using hs
    rcases h3 with e | e | e
    · exact low (ask_none2s h m (by rw [e]; rfl) tb ts)
    · exact low (ask_none3s h m (by rw [e]; rfl) (by rw [e]; rfl) tb ts)
    · exact low (ask_none4s h m (by rw [e]; rfl) (by rw [e]; rfl) (by rw [e]; rfl) tb ts)
  have ts : (c.se == 0) = false := by simpa using hs
  by_cases hm : c.la = 1099511627776
  · rw [if_pos (.inr hm)]
    have tl : (c.la == 1099511627776) = true := by simpa using hm
    rcases h3 with e | e | e
    · exact low (ask_none2l h m (by rw [e]; rfl) tb ts tl)
    · exact low (ask_none3l h m (by rw [e]; rfl) (by rw [e]; rfl) tb ts tl)
    · exact low (ask_none4l h m (by rw [e]; rfl) (by rw [e]; rfl) (by rw [e]; rfl) tb ts tl)
  have tl : (c.la == 1099511627776) = false := by simpa using hm
  rw [if_neg (by omega)]
  rcases h3 with e | e | e
  · exact ask_yes2 h m (by rw [e]; rfl) tb ts tl l0 (by omega)
  · exact ask_yes3 h m (by rw [e]; rfl) (by rw [e]; rfl) tb ts tl l0 (by omega)
  · exact ask_yes4 h m (by rw [e]; rfl) (by rw [e]; rfl) (by rw [e]; rfl) tb ts tl l0 (by omega)
end Go.Proofs.YtkfnedhllfdghaaGreatDoor.SE
end

section
namespace Go.Proofs.YtkfnedhllfdghaaGreatDoor.SE
set_option maxRecDepth 20000
open Go.RowKit

def Cl.hear (c : Cl) (m : Sm) : CR :=
  if c.mns m = 1 then ⟨1, { c with se := m.se, gr := m.se, la := 0, m := zS 0, ti := 0 }⟩
  else if c.mns m = 2 then ⟨2, { c with se := 0, m := zS 0, ti := 0 }⟩
  else if c.mns m = 3 then ⟨3, { c with m := zS 0, ti := 0 }⟩ else ⟨0, c⟩
theorem Cl.mns_1 {c : Cl} {m : Sm} (h : c.mns m = 1) : c.m.k = 1 ∧ m.k = 7 ∧ c.gr < m.se := by
  unfold Cl.mns at h
  split at h
  · assumption
  · split at h
    · cases h
    · split at h <;> cases h
theorem Cl.mns_or (c : Cl) (m : Sm) : c.mns m = 1 ∨ c.mns m = 2 ∨ c.mns m = 3 ∨ c.mns m = 0 := by
  unfold Cl.mns
  split
  · exact .inl rfl
  · split
    · exact .inr (.inl rfl)
    · split
      · exact .inr (.inr (.inl rfl))
      · exact .inr (.inr (.inr rfl))
theorem Cl.hear_ok {c : Cl} (h : c.ok) {m : Sm} (hm : m.se ≤ 9223372036854775807) : (c.hear m).c.ok := by
  have r0 : (0 : Int) ≤ c.rs := by have := h.r1; omega
  unfold Cl.hear
  split
  · have := (Cl.mns_1 (by assumption)).2.2
    have := h.g0
    exact ⟨h.r1, h.r2, Int.le_refl _, r0, by show 0 ≤ m.se; omega, hm, by show 0 ≤ m.se; omega, hm, Int.le_refl _, by show (0 : Int) ≤ _; decide, .inl ⟨.inl rfl, rfl⟩⟩
  · split
    · exact ⟨h.r1, h.r2, Int.le_refl _, r0, Int.le_refl _, by show (0 : Int) ≤ _; decide, h.g0, h.g1, h.l0, h.l1, .inl ⟨.inl rfl, rfl⟩⟩
    · split
      · exact ⟨h.r1, h.r2, Int.le_refl _, r0, h.s0, h.s1, h.g0, h.g1, h.l0, h.l1, .inl ⟨.inl rfl, rfl⟩⟩
      · exact h
set_option maxHeartbeats 2000000 in
set_option maxRecDepth 8000 in
theorem hear_any {w : World} {b : Nat} {c : Cl} (hk : c.ok) (h : Cb w b c) (m : Sm) :
    Calls Tryz.prog 147 #[.pointer (some ⟨b, 0, none⟩), .agg (smC m)] w fun e w' => e = .returned (.int .i64 (c.hear m).e) ∧ Cb w' b (c.hear m).c ∧ On b w w' := by
  have hl := h.lt
  have HMe := hide (means_any hk (h.alloc (.cells (smC m) 67)) m)
  have HC := hide (h.alloc (.cells (smC m) 67))
  have HM := hide (Mx.new w m)
  have HO := hide (below_alloc w (.cells (smC m) 67))
  have HNE : Hid (w.heap.size ≠ b) := hide (by omega)
  unfold Cl.hear
  unfold smC at HMe HC HM HO ⊢
  clear h hk
  rcases Cl.mns_or c m with hm | hm | hm | hm
  · rw [if_pos hm]
    rw [hm] at HMe
    clear hm
    go_enter Tryz.func147, Tryz.ntmps147
    go_wp2_with fail
    refine HMe.out.mono ?_
    rintro e W ⟨rfl, hB⟩
    have HC1 := hide (HC.out.below hB)
    have HM1 := hide (HM.out.below hB)
    have HB1 := hide (HO.out.trans (hB.mono HO.out.size))
    clear hB HMe HC HM HO
    obtain ⟨X, hX⟩ : ∃ X, w.heap.size = X := ⟨_, rfl⟩
    rw [hX] at HM1 HNE ⊢
    clear hX hl
    obtain ⟨k0, k1, k2, k3, k4, k5, k6, k7, k8, k9, k10⟩ := HM1.out.cells
    have c13 := HC1.out.c13
    have c14 := HC1.out.c14
    have c15 := HC1.out.c15
    have z13 := HC1.out.z 13
    have z14 := HC1.out.z 14
    have z15 := HC1.out.z 15
    have hne := HNE.out
    go_wp2_with fail
    go_region
    have HX := hide (end_any (c := { c with se := m.se, gr := m.se, la := 0 }) (show Cb ((((W.setCell ⟨b, 13, none⟩ (.int .i64 m.se)).setCell ⟨b, 14, none⟩ (.int .i64 m.se)).setCell ⟨b, 15, none⟩ (.int .i64 0)).drew) b _ from ((HC1.out.se m.se).gr m.se).la 0))
    have HO3 : Hid (On b w ((((W.setCell ⟨b, 13, none⟩ (.int .i64 m.se)).setCell ⟨b, 14, none⟩ (.int .i64 m.se)).setCell ⟨b, 15, none⟩ (.int .i64 0)).drew)) := hide (((((On.of_below HB1.out).set 13 _).set 14 _).set 15 _).drew)
    generalize ((W.setCell ⟨b, 13, none⟩ (.int .i64 m.se)).setCell ⟨b, 14, none⟩ (.int .i64 m.se)).setCell ⟨b, 15, none⟩ (.int .i64 0) = W1 at *
    clear HC1 HM1 HB1 k0 k1 k2 k3 k4 k5 k6 k7 k8 k9 k10 c13 c14 c15 z13 z14 z15
    go_wp2_with fail
    refine HX.out.mono ?_
    rintro e W2 ⟨rfl, h1, h2⟩
    have H1 := hide h1
    have H2 := hide (HO3.out.trans h2)
    clear h1 h2 HX
    go_wp2_with fail
    go_ret
    exact ⟨rfl, H1.out, H2.out⟩
  · rw [if_neg (by omega), if_pos hm]
    rw [hm] at HMe
    clear hm
    go_enter Tryz.func147, Tryz.ntmps147
    go_wp2_with fail
    refine HMe.out.mono ?_
    rintro e W ⟨rfl, hB⟩
    have HC1 := hide (HC.out.below hB)
    have HB1 := hide (HO.out.trans (hB.mono HO.out.size))
    have c13 := HC1.out.c13
    have z13 := HC1.out.z 13
    have HX := hide (end_any (HC1.out.se 0))
    clear hB HMe HC HM HO hl
    go_wp2_with fail
    refine HX.out.mono ?_
    rintro e W2 ⟨rfl, h1, h2⟩
    have H1 := hide h1
    have H2 := hide (((On.of_below HB1.out).set 13 (.int .i64 0)).trans h2)
    clear h1 h2 HX
    go_wp2_with fail
    go_ret
    exact ⟨rfl, H1.out, H2.out⟩
  · rw [if_neg (by omega), if_neg (by omega), if_pos hm]
    rw [hm] at HMe
    clear hm
    go_enter Tryz.func147, Tryz.ntmps147
    go_wp2_with fail
    refine HMe.out.mono ?_
    rintro e W ⟨rfl, hB⟩
    have HC1 := hide (HC.out.below hB)
    have HB1 := hide (HO.out.trans (hB.mono HO.out.size))
    have HX := hide (end_any HC1.out)
    clear hB HMe HC HM HO hl
    go_wp2_with fail
    refine HX.out.mono ?_
    rintro e W2 ⟨rfl, h1, h2⟩
    have H1 := hide h1
    have H2 := hide ((On.of_below HB1.out).trans h2)
    clear h1 h2 HX
    go_wp2_with fail
    go_ret
    exact ⟨rfl, H1.out, H2.out⟩
  · rw [if_neg (by omega), if_neg (by omega), if_neg (by omega)]
    rw [hm] at HMe
    clear hm
    go_enter Tryz.func147, Tryz.ntmps147
    go_wp2_with fail
    refine HMe.out.mono ?_
    rintro e W ⟨rfl, hB⟩
    have HC1 := hide (HC.out.below hB)
    have HB1 := hide (HO.out.trans (hB.mono HO.out.size))
    clear hB HMe HC HM HO hl
    go_wp2_with fail
    go_ret
    exact ⟨rfl, HC1.out, On.of_below HB1.out⟩
end Go.Proofs.YtkfnedhllfdghaaGreatDoor.SE
end
