import Derived.Test.YtonoogiadgjodaaSoLb
import Derived.Deep.DeepCutAuto
namespace Go.Proofs.Ytonoogiadgjodaa
open Go.RowKit

section
variable {B : Nat} {w w' : World} {A : Ja} {j : Jt} {own : Int → Int} {N : Int}
set_option maxHeartbeats 4000000 in
set_option maxRecDepth 8000 in
theorem does_2 (hI : Inv own N j) (hN : N + 3 ≤ 4194304) (h : Jm B w A j) (hB : B ≤ w.heap.size) (kd n : Int) (hx1 : kd ≠ 1) (hx3 : kd ≠ 3) (hx4 : kd ≠ 4) (hx5 : kd ≠ 5) (hx6 : kd ≠ 6) (hx7 : kd ≠ 7) : Calls Try.prog 20 #[.pointer (some ⟨A.a, 0, none⟩), .agg #[.int .i64 kd, .int .i64 n]] w (DoP B N A w) := by
  have HI := hide hI
  have HX : Hid (Yx (w.alloc (.cells #[.int .i64 kd, .int .i64 n] 70)) w.heap.size kd n) := hide (heap_alloc_new w _)
  have HM := hide (h.below (below_alloc w (.cells #[.int .i64 kd, .int .i64 n] 70)))
  have HJ : Hid (Jv A A w (w.alloc (.cells #[.int .i64 kd, .int .i64 n] 70))) := hide (Jv.of_below (below_alloc w _))
  have HBS : Hid (B ≤ w.heap.size) := hide hB
  have HXF : Hid (¬ A.foot w.heap.size) := hide fun e => by
    rcases e with e | e | e | e | e
    · have := h.lt; omega
    · have := h.cb.lt; omega
    · have := h.tm.gl; omega
    · have := (h.rw_.lt _ e).2; omega
    · have := (h.rd.lt _ e).2; omega
  have hwl : j.way.length ≤ 4194304 := by have := hI.wl; have := hI.n1; omega
  obtain ⟨ad, cap, hv⟩ := own_slice h.rw_
  have HV := hide hv
  clear h hI hB hv
  go_enter Try.func20, Try.ntmps20
  go_upto_region 2 with fail
  obtain ⟨Y, hY⟩ : ∃ Y, w.heap.size = Y := ⟨_, rfl⟩
  rw [hY] at HX HXF
  try rw [hY]
  clear hY
  generalize w.alloc (.cells #[.int .i64 kd, .int .i64 n] 70) = W at *
  have x5 : W.cell? ⟨A.a, 5, none⟩ = some (.slice ad j.way.length cap) := by rw [← HV.out]; exact HM.out.cells.2.2.2.2.2.1
  go_upto_if 15 with fail
  go_cut [4] (fun u4 wc => ∃ K : Nat, u4 = .int .i64 (K : Int) ∧ Hid (0 < j.way.length → K < j.way.length) ∧ Hid (Jm B wc A j) ∧ Hid (Yx wc Y kd n) ∧ Hid (Jv A A w wc))
  case first =>
    by_cases h0 : 0 < j.way.length
    · have hl0 : (0 : Int) < (j.way.length : Int) := by omega
      have hl1 : (j.way.length : Int) ≤ 4194304 := by omega
      have hne : ((j.way.length : Int) == 0) = false := by rw [beq_eq_false_iff_ne]; omega
      have hgt : decide ((0 : Int) < (j.way.length : Int)) = true := by rw [decide_eq_true_eq]; omega
      have hgt2 : ¬ (j.way.length : Int) ≤ 0 := by omega
      have hne2 : (j.way.length : Int) ≠ 0 := by omega
      have HCe : Hid (∀ V : World, (V.heap[A.a]? = W.heap[A.a]? ∧ V.heap[Y]? = W.heap[Y]?) → V.cell? ⟨A.a, 5, none⟩ = some (.slice ad j.way.length cap) ∧ V.cell? ⟨Y, 1, none⟩ = some (.int .i64 n)) := hide fun V hV => ⟨(World.cell?_of_block hV.1).trans x5, by have := hV.2.trans HX.out; simp [World.cell?, this]⟩
      have HT1 : Hid (n.tmod (j.way.length : Int) < (j.way.length : Int)) := hide (Int.tmod_lt_of_pos _ hl0)
      have HT2 : Hid (-(j.way.length : Int) < n.tmod (j.way.length : Int)) := hide (by have := Int.tmod_lt_of_pos (-n) hl0; rw [Int.neg_tmod] at this; omega)
      have hgt3 : decide (0 < j.way.length) = true := decide_eq_true h0
      have hz0 : ¬ j.way.length = 0 := by omega
      go_wp2_with fail
      refine wp_region_held_drew (S := fun w' => w'.heap[A.a]? = W.heap[A.a]? ∧ w'.heap[Y]? = W.heap[Y]?) (by kernel_rfl) (⟨rfl, rfl⟩) (fun hHeld => ?_)
      refine wpAnyH_take (i := 0) (v := .pointer (some ⟨Y, 1, none⟩)) rfl (by kernel_rfl) (by kernel_rfl) (by kernel_rfl) (fun _ _ _ h => h) (Or.inl ⟨by kernel_rfl, fun w1 hSw => by clear hHeld; obtain ⟨k5, ky⟩ := HCe.out _ hSw; go_simp⟩) hHeld ?_
      try simp only [Act.put]
      try simp only [List.getElem_toArray]
      try simp only [List.getElem_cons_succ]
      try simp only [List.getElem_cons_zero]
      try simp only [List.setIfInBounds_toArray]
      try simp only [List.set_cons_succ, List.set_cons_zero]
      refine wpAnyH_take (i := 1) (v := .int .i64 n) rfl (by kernel_rfl) (by kernel_rfl) (by kernel_rfl) (fun _ _ _ h => h) (Or.inl ⟨by kernel_rfl, fun w1 hSw => by clear hHeld; obtain ⟨k5, ky⟩ := HCe.out _ hSw; go_simp⟩) hHeld ?_
      try simp only [Act.put]
      try simp only [List.getElem_toArray]
      try simp only [List.getElem_cons_succ]
      try simp only [List.getElem_cons_zero]
      try simp only [List.setIfInBounds_toArray]
      try simp only [List.set_cons_succ, List.set_cons_zero]
      refine wpAnyH_take (i := 2) (v := .pointer (some ⟨A.a, 0, none⟩)) rfl (by kernel_rfl) (by kernel_rfl) (by kernel_rfl) (fun _ _ _ h => h) (Or.inl ⟨by kernel_rfl, fun w1 hSw => by clear hHeld; obtain ⟨k5, ky⟩ := HCe.out _ hSw; go_simp⟩) hHeld ?_
      try simp only [Act.put]
      try simp only [List.getElem_toArray]
      try simp only [List.getElem_cons_succ]
      try simp only [List.getElem_cons_zero]
      try simp only [List.setIfInBounds_toArray]
      try simp only [List.set_cons_succ, List.set_cons_zero]
      refine wpAnyH_take (i := 3) (v := .pointer (some ⟨A.a, 0, none⟩)) rfl (by kernel_rfl) (by kernel_rfl) (by kernel_rfl) (fun _ _ _ h => h) (Or.inl ⟨by kernel_rfl, fun w1 hSw => by clear hHeld; obtain ⟨k5, ky⟩ := HCe.out _ hSw; go_simp⟩) hHeld ?_
      try simp only [Act.put]
      try simp only [List.getElem_toArray]
      try simp only [List.getElem_cons_succ]
      try simp only [List.getElem_cons_zero]
      try simp only [List.setIfInBounds_toArray]
      try simp only [List.set_cons_succ, List.set_cons_zero]
      refine wpAnyH_take (i := 4) (v := .pointer (some ⟨A.a, 5, none⟩)) rfl (by kernel_rfl) (by kernel_rfl) (by kernel_rfl) (fun _ _ _ h => h) (Or.inl ⟨by kernel_rfl, fun w1 hSw => by clear hHeld; obtain ⟨k5, ky⟩ := HCe.out _ hSw; go_simp⟩) hHeld ?_
      try simp only [Act.put]
      try simp only [List.getElem_toArray]
      try simp only [List.getElem_cons_succ]
      try simp only [List.getElem_cons_zero]
      try simp only [List.setIfInBounds_toArray]
      try simp only [List.set_cons_succ, List.set_cons_zero]
      refine wpAnyH_take (i := 5) (v := .slice ad j.way.length cap) rfl (by kernel_rfl) (by kernel_rfl) (by kernel_rfl) (fun _ _ _ h => h) (Or.inl ⟨by kernel_rfl, fun w1 hSw => by clear hHeld; obtain ⟨k5, ky⟩ := HCe.out _ hSw; go_simp⟩) hHeld ?_
      try simp only [Act.put]
      try simp only [List.getElem_toArray]
      try simp only [List.getElem_cons_succ]
      try simp only [List.getElem_cons_zero]
      try simp only [List.setIfInBounds_toArray]
      try simp only [List.set_cons_succ, List.set_cons_zero]
      refine wpAnyH_take (i := 6) (v := .int .i64 (j.way.length : Int)) rfl (by kernel_rfl) (by kernel_rfl) (by kernel_rfl) (fun _ _ _ h => h) (Or.inl ⟨by kernel_rfl, fun w1 hSw => by clear hHeld; obtain ⟨k5, ky⟩ := HCe.out _ hSw; go_simp⟩) hHeld ?_
      try simp only [Act.put]
      try simp only [List.getElem_toArray]
      try simp only [List.getElem_cons_succ]
      try simp only [List.getElem_cons_zero]
      try simp only [List.setIfInBounds_toArray]
      try simp only [List.set_cons_succ, List.set_cons_zero]
      refine wpAnyH_take (i := 7) (v := .int .i64 (n.tmod (j.way.length : Int))) rfl (by kernel_rfl) (by kernel_rfl) (by kernel_rfl) (fun _ _ _ h => h) (Or.inl ⟨by kernel_rfl, fun w1 hSw => by clear hHeld; obtain ⟨k5, ky⟩ := HCe.out _ hSw; go_simp⟩) hHeld ?_
      try simp only [Act.put]
      try simp only [List.getElem_toArray]
      try simp only [List.getElem_cons_succ]
      try simp only [List.getElem_cons_zero]
      try simp only [List.setIfInBounds_toArray]
      try simp only [List.set_cons_succ, List.set_cons_zero]
      refine wpAnyH_take (i := 8) (v := .int .i64 (n.tmod (j.way.length : Int))) rfl (by kernel_rfl) (by kernel_rfl) (by kernel_rfl) (fun _ _ _ h => h) (Or.inl ⟨by kernel_rfl, fun w1 hSw => by clear hHeld; obtain ⟨k5, ky⟩ := HCe.out _ hSw; go_simp⟩) hHeld ?_
      try simp only [Act.put]
      try simp only [List.getElem_toArray]
      try simp only [List.getElem_cons_succ]
      try simp only [List.getElem_cons_zero]
      try simp only [List.setIfInBounds_toArray]
      try simp only [List.set_cons_succ, List.set_cons_zero]
      refine wpAnyH_done (by kernel_rfl) ?_ _
      have HM : Hid (Jm B W.drew A j) := hide (HM.out.below ⟨rfl, rfl, rfl, Nat.le_refl _, fun _ _ => rfl⟩)
      have HJ : Hid (Jv A A w W.drew) := hide ⟨HJ.out.os, HJ.out.tape, HJ.out.output, HJ.out.size, HJ.out.block, HJ.out.grow⟩
      have HX : Hid (Yx W.drew Y kd n) := HX
      have x5 : W.drew.cell? ⟨A.a, 5, none⟩ = some (.slice ad j.way.length cap) := x5
      clear hHeld HCe
      have t1 := HT1.out
      have t2 := HT2.out
      generalize n.tmod (j.way.length : Int) = T at *
      by_cases hneg : T < 0
      · have HQ : Hid (∃ K : Nat, T + (j.way.length : Int) = (K : Int) ∧ K < j.way.length) := hide ⟨(T + (j.way.length : Int)).toNat, by omega, by omega⟩
        go_wp2_with fail
        go_meet
        case rel => exact HQ.out.elim fun K hK => ⟨K, by rw [← hK.1], fun _ => hK.2, HM, HX, HJ⟩
      · have HQ : Hid (∃ K : Nat, T = (K : Int) ∧ K < j.way.length) := hide ⟨T.toNat, by omega, by omega⟩
        go_wp2_with fail
        go_meet
        case rel => exact HQ.out.elim fun K hK => ⟨K, by rw [← hK.1], fun _ => hK.2, HM, HX, HJ⟩
    · have hgt3 : decide (0 < j.way.length) = false := decide_eq_false h0
      go_wp2_with fail
      go_meet
      case rel => exact ⟨0, rfl, fun e => absurd e h0, HM, HX, HJ⟩
  case rest =>
    obtain ⟨K, rfl, HK, HM, HX, HJ⟩ := hcut
    have y0 : wc.cell? ⟨Y, 0, none⟩ = some (.int .i64 kd) := by have := HX.out; unfold Yx at this; simp [World.cell?, this]
    have y1 : wc.cell? ⟨Y, 1, none⟩ = some (.int .i64 n) := by have := HX.out; unfold Yx at this; simp [World.cell?, this]
    have x5 : wc.cell? ⟨A.a, 5, none⟩ = some (.slice ad j.way.length cap) := by rw [← HV.out]; exact HM.out.cells.2.2.2.2.2.1
    have hal := HM.out.lt
    have z0 := HM.out.z 0
    have z1 := HM.out.z 1
    have z2 := HM.out.z 2
    obtain ⟨a0, a1, a2, -⟩ := HM.out.cells
    have hBS : B ≤ wc.heap.size := Nat.le_trans HBS.out HJ.out.size
    by_cases h1 : kd = 1
    · exact absurd h1 hx1
    have n1 : (kd == 1) = false := by simpa using h1
    by_cases h6 : kd = 6
    · exact absurd h6 hx6
    have n6 : (kd == 6) = false := by simpa using h6
    by_cases h7 : kd = 7
    · exact absurd h7 hx7
    have n7 : (kd == 7) = false := by simpa using h7
    by_cases h2 : kd = 2
    · skip
      have b2 : (kd == 2) = true := by rw [h2]; rfl
      clear h1 h2 h6 h7
      have HTk := hide (tick_any HI.out.ok HM.out.cb)
      go_wp2_with fail
      refine HTk.out.mono ?_
      rintro e w1 ⟨rfl, hc, ho⟩
      have HM1 := hide (HM.out.onC hc ho)
      have HI1 := hide (HI.out.timer (Cl.tick_ok HI.out.ok) (Cl.tick_m j.c) (Cl.tick_s j.c).1 (Cl.tick_s j.c).2.1 (Cl.tick_s j.c).2.2)
      have HJ1 := hide (HJ.out.trans HM1.out.2)
      have hBS1 : B ≤ w1.heap.size := Nat.le_trans HBS.out HJ1.out.size
      obtain ⟨a0, a1, a2, -, a4, -⟩ := HM1.out.1.cells
      have hal := HM1.out.1.lt
      generalize j.c.tick = c1 at *
      clear hc ho HTk x5 y0 y1 z0 z1 z2 HM HJ hBS
      by_cases hdu : c1.m.k = 0 ∨ 0 < c1.ti
      · have hd : c1.due = ⟨zS 0, false, c1⟩ := by
          unfold Cl.due
          by_cases hk0 : c1.m.k = 0
          · rw [if_pos hk0]
          · rw [if_neg hk0, if_pos (by omega)]
        have HDu := hide (due_any HM1.out.1.cb)
        rw [hd] at HDu
        clear hd hdu
        go_wp2_with fail
        refine HDu.out.mono ?_
        rintro e w2 ⟨rfl, hc2, ho2⟩
        have HM2 := hide (HM1.out.1.onC (c' := c1) hc2 ho2)
        have HJ2 := hide (HJ1.out.trans HM2.out.2)
        simp only [smC, zS, e0] at HM2 HJ2 ⊢
        rw [show ((0 : Nat) : Int) = 0 from rfl]
        obtain ⟨a0, a1, -⟩ := HM2.out.1.cells
        have hal := HM2.out.1.lt
        clear hc2 ho2 HDu
        go_wp2_with fail
        go_end0
        exact ⟨rfl, own, A, _, rfl, HI1.out.ups (by omega) hN, HM2.out.1.below (below_alloc w2 _), HJ2.out.trans (Jv.of_below (below_alloc w2 _))⟩
      · have hd : c1.due = ⟨c1.m, true, { c1 with ti := c1.rs }⟩ := by
          unfold Cl.due
          rw [if_neg (by omega), if_neg (by omega)]
        have hk0 : c1.m.k ≠ 0 := by omega
        have HK0 := hide hk0
        have HDu := hide (due_any HM1.out.1.cb)
        rw [hd] at HDu
        have hok := Cl.due_ok HI1.out.ok
        rw [show ({ j with c := c1 } : Jt).c = c1 from rfl, hd] at hok
        have HI2 := hide (HI1.out.timer hok rfl rfl rfl rfl)
        clear hd hdu hk0 hok
        go_wp2_with fail
        refine HDu.out.mono ?_
        rintro e w2 ⟨rfl, hc2, ho2⟩
        have HM2 := hide (HM1.out.1.onC (c' := { c1 with ti := c1.rs }) hc2 ho2)
        have HJ2 := hide (HJ1.out.trans HM2.out.2)
        have hBS2 : B ≤ w2.heap.size := Nat.le_trans HBS.out HJ2.out.size
        have HMd := hide (HM2.out.1.below (below_alloc w2 (.cells #[.int .i64 c1.m.k, .int .i64 c1.m.se, .int .i64 c1.m.nu, .int .i64 c1.m.jo, .int .i64 c1.m.ba, .int .i64 c1.m.ix, .int .i64 c1.m.co, .int .i64 c1.m.rc, .int .u64 (c1.m.rb : Int), .string c1.m.tx, .string c1.m.pr] 36)))
        have HJd := hide (HJ2.out.trans (Jv.of_below (below_alloc w2 (.cells #[.int .i64 c1.m.k, .int .i64 c1.m.se, .int .i64 c1.m.nu, .int .i64 c1.m.jo, .int .i64 c1.m.ba, .int .i64 c1.m.ix, .int .i64 c1.m.co, .int .i64 c1.m.rc, .int .u64 (c1.m.rb : Int), .string c1.m.tx, .string c1.m.pr] 36))))
        have HXd : Hid ((w2.alloc (.cells #[.int .i64 c1.m.k, .int .i64 c1.m.se, .int .i64 c1.m.nu, .int .i64 c1.m.jo, .int .i64 c1.m.ba, .int .i64 c1.m.ix, .int .i64 c1.m.co, .int .i64 c1.m.rc, .int .u64 (c1.m.rb : Int), .string c1.m.tx, .string c1.m.pr] 36)).heap[w2.heap.size]? = some (.cells #[.int .i64 c1.m.k, .int .i64 c1.m.se, .int .i64 c1.m.nu, .int .i64 c1.m.jo, .int .i64 c1.m.ba, .int .i64 c1.m.ix, .int .i64 c1.m.co, .int .i64 c1.m.rc, .int .u64 (c1.m.rb : Int), .string c1.m.tx, .string c1.m.pr] 36 (0, 0))) := hide (heap_alloc_new w2 _)
        obtain ⟨X, hX⟩ : ∃ X, w2.heap.size = X := ⟨_, rfl⟩
        rw [hX] at HXd hBS2
        simp only [smC]
        clear hc2 ho2 HDu HM2 HJ2
        go_upto_region 13 with fail
        clear hX
        generalize w2.alloc (.cells #[.int .i64 c1.m.k, .int .i64 c1.m.se, .int .i64 c1.m.nu, .int .i64 c1.m.jo, .int .i64 c1.m.ba, .int .i64 c1.m.ix, .int .i64 c1.m.co, .int .i64 c1.m.rc, .int .u64 (c1.m.rb : Int), .string c1.m.tx, .string c1.m.pr] 36) = V at *
        have HMd : Hid (Jm B V.drew A _) := hide (HMd.out.below ⟨rfl, rfl, rfl, Nat.le_refl _, fun _ _ => rfl⟩)
        have HJd : Hid (Jv A A w V.drew) := hide ⟨HJd.out.os, HJd.out.tape, HJd.out.output, HJd.out.size, HJd.out.block, HJd.out.grow⟩
        have HXd : Hid (V.drew.heap[X]? = some (.cells #[.int .i64 c1.m.k, .int .i64 c1.m.se, .int .i64 c1.m.nu, .int .i64 c1.m.jo, .int .i64 c1.m.ba, .int .i64 c1.m.ix, .int .i64 c1.m.co, .int .i64 c1.m.rc, .int .u64 (c1.m.rb : Int), .string c1.m.tx, .string c1.m.pr] 36 (0, 0))) := HXd
        have HGo := hide (HI2.out.due HK0.out)
        have hXl := lt_of_block HXd.out
        have HSy := hide (say_any HMd.out (by omega) hwl ⟨c1.m, true, j.life, j.asked, 0⟩)
        have HS0 : Hid (V.drew.cell? ⟨A.a, 2, none⟩ = some (.int .i64 j.life) ∧ V.drew.cell? ⟨A.a, 4, none⟩ = some (.int .i64 j.asked) ∧ V.drew.heap[X]? = some (.cells #[.int .i64 c1.m.k, .int .i64 c1.m.se, .int .i64 c1.m.nu, .int .i64 c1.m.jo, .int .i64 c1.m.ba, .int .i64 c1.m.ix, .int .i64 c1.m.co, .int .i64 c1.m.rc, .int .u64 (c1.m.rb : Int), .string c1.m.tx, .string c1.m.pr] 36 (0, 0))) := hide ⟨HMd.out.cells.2.2.1, HMd.out.cells.2.2.2.2.1, HXd.out⟩
        have HSt : Hid (∀ V1 A', A'.a = A.a → Jm B V1 A' (Jt.say { j with c := { c1 with ti := c1.rs } } ⟨c1.m, true, j.life, j.asked, 0⟩) → Jv A A' V.drew V1 → V1.cell? ⟨A.a, 2, none⟩ = some (.int .i64 j.life) ∧ V1.cell? ⟨A.a, 4, none⟩ = some (.int .i64 j.asked) ∧ V1.heap[X]? = some (.cells #[.int .i64 c1.m.k, .int .i64 c1.m.se, .int .i64 c1.m.nu, .int .i64 c1.m.jo, .int .i64 c1.m.ba, .int .i64 c1.m.ix, .int .i64 c1.m.co, .int .i64 c1.m.rc, .int .u64 (c1.m.rb : Int), .string c1.m.tx, .string c1.m.pr] 36 (0, 0))) := hide fun V1 A' h1 h2 h3 => ⟨by rw [← h1]; exact h2.cells.2.2.1, by rw [← h1]; exact h2.cells.2.2.2.2.1, (h3.block X hXl (HMd.out.other HXd.out (by decide) (by decide) (by decide) (by decide) (by decide))).trans HXd.out⟩
        refine wp_region_held_drew (S := fun w' => w'.cell? ⟨A.a, 2, none⟩ = some (.int .i64 j.life) ∧ w'.cell? ⟨A.a, 4, none⟩ = some (.int .i64 j.asked) ∧ w'.heap[X]? = some (.cells #[.int .i64 c1.m.k, .int .i64 c1.m.se, .int .i64 c1.m.nu, .int .i64 c1.m.jo, .int .i64 c1.m.ba, .int .i64 c1.m.ix, .int .i64 c1.m.co, .int .i64 c1.m.rc, .int .u64 (c1.m.rb : Int), .string c1.m.tx, .string c1.m.pr] 36 (0, 0))) (by kernel_rfl) (HS0.out) (fun hHeld => ?_)
        refine wpAnyH_take (i := 0) (v := .pointer (some ⟨A.a, 0, none⟩)) rfl (by kernel_rfl) (by kernel_rfl) (by kernel_rfl) (fun _ _ _ h => h) (Or.inl ⟨by kernel_rfl, fun w1 hSw => by clear hHeld; obtain ⟨k2, k4, kx⟩ := hSw; obtain ⟨q0, q1, q2, q3, q4, q5, q6, q7, q8, q9, q10⟩ := msg_cells kx; go_simp⟩) hHeld ?_
        try simp only [Act.put]
        try simp only [List.getElem_toArray]
        try simp only [List.getElem_cons_succ]
        try simp only [List.getElem_cons_zero]
        try simp only [List.setIfInBounds_toArray]
        try simp only [List.set_cons_succ, List.set_cons_zero]
        refine wpAnyH_take (i := 1) (v := .agg #[.int .i64 c1.m.k, .int .i64 c1.m.se, .int .i64 c1.m.nu, .int .i64 c1.m.jo, .int .i64 c1.m.ba, .int .i64 c1.m.ix, .int .i64 c1.m.co, .int .i64 c1.m.rc, .int .u64 (c1.m.rb : Int), .string c1.m.tx, .string c1.m.pr]) rfl (by kernel_rfl) (by kernel_rfl) (by kernel_rfl) (fun _ _ _ h => h) (Or.inl ⟨by kernel_rfl, fun w1 hSw => by clear hHeld; obtain ⟨k2, k4, kx⟩ := hSw; obtain ⟨q0, q1, q2, q3, q4, q5, q6, q7, q8, q9, q10⟩ := msg_cells kx; go_simp⟩) hHeld ?_
        try simp only [Act.put]
        try simp only [List.getElem_toArray]
        try simp only [List.getElem_cons_succ]
        try simp only [List.getElem_cons_zero]
        try simp only [List.setIfInBounds_toArray]
        try simp only [List.set_cons_succ, List.set_cons_zero]
        refine wpAnyH_take (i := 2) (v := .pointer (some ⟨A.a, 0, none⟩)) rfl (by kernel_rfl) (by kernel_rfl) (by kernel_rfl) (fun _ _ _ h => h) (Or.inl ⟨by kernel_rfl, fun w1 hSw => by clear hHeld; obtain ⟨k2, k4, kx⟩ := hSw; obtain ⟨q0, q1, q2, q3, q4, q5, q6, q7, q8, q9, q10⟩ := msg_cells kx; go_simp⟩) hHeld ?_
        try simp only [Act.put]
        try simp only [List.getElem_toArray]
        try simp only [List.getElem_cons_succ]
        try simp only [List.getElem_cons_zero]
        try simp only [List.setIfInBounds_toArray]
        try simp only [List.set_cons_succ, List.set_cons_zero]
        refine wpAnyH_take (i := 3) (v := .pointer (some ⟨A.a, 0, none⟩)) rfl (by kernel_rfl) (by kernel_rfl) (by kernel_rfl) (fun _ _ _ h => h) (Or.inl ⟨by kernel_rfl, fun w1 hSw => by clear hHeld; obtain ⟨k2, k4, kx⟩ := hSw; obtain ⟨q0, q1, q2, q3, q4, q5, q6, q7, q8, q9, q10⟩ := msg_cells kx; go_simp⟩) hHeld ?_
        try simp only [Act.put]
        try simp only [List.getElem_toArray]
        try simp only [List.getElem_cons_succ]
        try simp only [List.getElem_cons_zero]
        try simp only [List.setIfInBounds_toArray]
        try simp only [List.set_cons_succ, List.set_cons_zero]
        refine wpAnyH_take (i := 4) (v := .pointer (some ⟨A.a, 2, none⟩)) rfl (by kernel_rfl) (by kernel_rfl) (by kernel_rfl) (fun _ _ _ h => h) (Or.inl ⟨by kernel_rfl, fun w1 hSw => by clear hHeld; obtain ⟨k2, k4, kx⟩ := hSw; obtain ⟨q0, q1, q2, q3, q4, q5, q6, q7, q8, q9, q10⟩ := msg_cells kx; go_simp⟩) hHeld ?_
        try simp only [Act.put]
        try simp only [List.getElem_toArray]
        try simp only [List.getElem_cons_succ]
        try simp only [List.getElem_cons_zero]
        try simp only [List.setIfInBounds_toArray]
        try simp only [List.set_cons_succ, List.set_cons_zero]
        refine wpAnyH_take (i := 5) (v := .int .i64 j.life) rfl (by kernel_rfl) (by kernel_rfl) (by kernel_rfl) (fun _ _ _ h => h) (Or.inl ⟨by kernel_rfl, fun w1 hSw => by clear hHeld; obtain ⟨k2, k4, kx⟩ := hSw; obtain ⟨q0, q1, q2, q3, q4, q5, q6, q7, q8, q9, q10⟩ := msg_cells kx; go_simp⟩) hHeld ?_
        try simp only [Act.put]
        try simp only [List.getElem_toArray]
        try simp only [List.getElem_cons_succ]
        try simp only [List.getElem_cons_zero]
        try simp only [List.setIfInBounds_toArray]
        try simp only [List.set_cons_succ, List.set_cons_zero]
        refine wpAnyH_take (i := 6) (v := .pointer (some ⟨A.a, 0, none⟩)) rfl (by kernel_rfl) (by kernel_rfl) (by kernel_rfl) (fun _ _ _ h => h) (Or.inl ⟨by kernel_rfl, fun w1 hSw => by clear hHeld; obtain ⟨k2, k4, kx⟩ := hSw; obtain ⟨q0, q1, q2, q3, q4, q5, q6, q7, q8, q9, q10⟩ := msg_cells kx; go_simp⟩) hHeld ?_
        try simp only [Act.put]
        try simp only [List.getElem_toArray]
        try simp only [List.getElem_cons_succ]
        try simp only [List.getElem_cons_zero]
        try simp only [List.setIfInBounds_toArray]
        try simp only [List.set_cons_succ, List.set_cons_zero]
        refine wpAnyH_take (i := 7) (v := .pointer (some ⟨A.a, 0, none⟩)) rfl (by kernel_rfl) (by kernel_rfl) (by kernel_rfl) (fun _ _ _ h => h) (Or.inl ⟨by kernel_rfl, fun w1 hSw => by clear hHeld; obtain ⟨k2, k4, kx⟩ := hSw; obtain ⟨q0, q1, q2, q3, q4, q5, q6, q7, q8, q9, q10⟩ := msg_cells kx; go_simp⟩) hHeld ?_
        try simp only [Act.put]
        try simp only [List.getElem_toArray]
        try simp only [List.getElem_cons_succ]
        try simp only [List.getElem_cons_zero]
        try simp only [List.setIfInBounds_toArray]
        try simp only [List.set_cons_succ, List.set_cons_zero]
        refine wpAnyH_take (i := 8) (v := .pointer (some ⟨A.a, 4, none⟩)) rfl (by kernel_rfl) (by kernel_rfl) (by kernel_rfl) (fun _ _ _ h => h) (Or.inl ⟨by kernel_rfl, fun w1 hSw => by clear hHeld; obtain ⟨k2, k4, kx⟩ := hSw; obtain ⟨q0, q1, q2, q3, q4, q5, q6, q7, q8, q9, q10⟩ := msg_cells kx; go_simp⟩) hHeld ?_
        try simp only [Act.put]
        try simp only [List.getElem_toArray]
        try simp only [List.getElem_cons_succ]
        try simp only [List.getElem_cons_zero]
        try simp only [List.setIfInBounds_toArray]
        try simp only [List.set_cons_succ, List.set_cons_zero]
        refine wpAnyH_take (i := 9) (v := .int .i64 j.asked) rfl (by kernel_rfl) (by kernel_rfl) (by kernel_rfl) (fun _ _ _ h => h) (Or.inl ⟨by kernel_rfl, fun w1 hSw => by clear hHeld; obtain ⟨k2, k4, kx⟩ := hSw; obtain ⟨q0, q1, q2, q3, q4, q5, q6, q7, q8, q9, q10⟩ := msg_cells kx; go_simp⟩) hHeld ?_
        try simp only [Act.put]
        try simp only [List.getElem_toArray]
        try simp only [List.getElem_cons_succ]
        try simp only [List.getElem_cons_zero]
        try simp only [List.setIfInBounds_toArray]
        try simp only [List.set_cons_succ, List.set_cons_zero]
        refine wpAnyH_take (i := 10) (v := .agg #[.int .i64 c1.m.k, .int .i64 c1.m.se, .int .i64 c1.m.nu, .int .i64 c1.m.jo, .int .i64 c1.m.ba, .int .i64 c1.m.ix, .int .i64 c1.m.co, .int .i64 c1.m.rc, .int .u64 (c1.m.rb : Int), .string c1.m.tx, .string c1.m.pr, .bool true, .int .i64 j.life, .int .i64 j.asked, .int .i64 0]) rfl (by kernel_rfl) (by kernel_rfl) (by kernel_rfl) (fun _ _ _ h => h) (Or.inl ⟨by kernel_rfl, fun w1 hSw => by clear hHeld; obtain ⟨k2, k4, kx⟩ := hSw; obtain ⟨q0, q1, q2, q3, q4, q5, q6, q7, q8, q9, q10⟩ := msg_cells kx; go_simp⟩) hHeld ?_
        try simp only [Act.put]
        try simp only [List.getElem_toArray]
        try simp only [List.getElem_cons_succ]
        try simp only [List.getElem_cons_zero]
        try simp only [List.setIfInBounds_toArray]
        try simp only [List.set_cons_succ, List.set_cons_zero]
        refine wpAnyH_ready (rs := [11]) (by kernel_rfl) (by simp) ?_
        refine AllReadyH.cons rfl (fun K hK => ?_) AllReadyH.nil
        go_simp
        refine HSy.out.mono ?_
        rintro e V1 ⟨rfl, A', h1, h2, h3⟩
        have HP := hide (And.intro h1 (And.intro h2 h3))
        have HS1 := hide (HSt.out V1 A' h1 h2 h3)
        clear h1 h2 h3
        refine hK.out _ _ (HS1.out) (fun hHeld => ?_)
        clear hK K
        try simp only [Act.put]
        try simp only [List.getElem_toArray]
        try simp only [List.getElem_cons_succ]
        try simp only [List.getElem_cons_zero]
        try simp only [List.setIfInBounds_toArray]
        try simp only [List.set_cons_succ, List.set_cons_zero]
        refine wpAnyH_done (by kernel_rfl) ?_ _
        have a0 : V1.cell? ⟨A.a, 0, none⟩ = some (.pointer (some ⟨A'.bc, 0, none⟩)) := by rw [← HP.out.1]; exact HP.out.2.1.cells.1
        have a1 : V1.cell? ⟨A.a, 1, none⟩ = some (.pointer (some ⟨A'.tb, 0, none⟩)) := by rw [← HP.out.1]; exact HP.out.2.1.cells.2.1
        clear hHeld
        go_wp2_with fail
        go_end0
        exact ⟨rfl, own, A', _, HP.out.1, (HI2.out.say (by omega) HGo.out).ups (by omega) hN, HP.out.2.1, HJd.out.trans HP.out.2.2⟩
    have n2 : (kd == 2) = false := by simpa using h2
    clear h1 h2 h6 h7
    by_cases h0 : 0 < j.way.length
    · have bt : decide (0 < j.way.length) = true := decide_eq_true h0
      have hKl := HK.out h0
      by_cases h5 : kd = 5
      · exact absurd h5 hx5
      · have n5 : (kd == 5) = false := by simpa using h5
        by_cases h34 : kd = 3 ∨ kd = 4
        · exact absurd h34 (fun h => h.elim hx3 hx4)
        · have n3 : (kd == 3) = false := by simpa using fun h => h34 (.inl h)
          have n4 : (kd == 4) = false := by simpa using fun h => h34 (.inr h)
          clear h34 h5
          go_wp2_with fail
          go_end0
          exact ⟨rfl, own, A, j, rfl, HI.out.ups (by omega) hN, HM.out, HJ.out⟩
    · have bt : decide (0 < j.way.length) = false := decide_eq_false h0
      by_cases h5 : kd = 5
      · exact absurd h5 hx5
      · have n5 : (kd == 5) = false := by simpa using h5
        by_cases h3 : kd = 3
        · exact absurd h3 hx3
        · have n3 : (kd == 3) = false := by simpa using h3
          by_cases h4 : kd = 4
          · exact absurd h4 hx4
          · have n4 : (kd == 4) = false := by simpa using h4
            clear h5 h3 h4
            go_wp2_with fail
            go_end0
            exact ⟨rfl, own, A, j, rfl, HI.out.ups (by omega) hN, HM.out, HJ.out⟩
end
end Go.Proofs.Ytonoogiadgjodaa
