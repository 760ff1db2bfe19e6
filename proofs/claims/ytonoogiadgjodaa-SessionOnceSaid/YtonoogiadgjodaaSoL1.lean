import Derived.Test.YtonoogiadgjodaaSoLb
import Derived.Deep.DeepCutAuto
namespace Go.Proofs.Ytonoogiadgjodaa
open Go.RowKit

section
variable {B : Nat} {w w' : World} {A : Ja} {j : Jt} {own : Int → Int} {N : Int}
set_option maxHeartbeats 4000000 in
set_option maxRecDepth 8000 in
theorem does_1 (hI : Inv own N j) (hN : N + 3 ≤ 4194304) (h : Jm B w A j) (hB : B ≤ w.heap.size) (kd n : Int) (hx2 : kd ≠ 2) (hx3 : kd ≠ 3) (hx4 : kd ≠ 4) (hx5 : kd ≠ 5) : Calls Try.prog 20 #[.pointer (some ⟨A.a, 0, none⟩), .agg #[.int .i64 kd, .int .i64 n]] w (DoP B N A w) := by
  have HI := hide hI
  have HX : Hid (Yx (w.alloc (.cells #[.int .i64 kd, .int .i64 n] 70)) w.heap.size kd n) := hide (heap_alloc_new w _)
  have HM := hide (h.below (below_alloc w (.cells #[.int .i64 kd, .int .i64 n] 70)))
  have HJ : Hid (Jv A A w (w.alloc (.cells #[.int .i64 kd, .int .i64 n] 70))) := hide (Jv.of_below (below_alloc w _))
  have HBS : Hid (B ≤ w.heap.size) := hide hB
  have HXF : Hid (¬ A.foot w.heap.size) := hide fun e => by
    rcases e with e | e | e | e | e
    · have := h.lt; omega
    · have := h.cb.lt; omega
    · have := h.tm.gl; omega
    · have := (h.rw_.lt _ e).2; omega
    · have := (h.rd.lt _ e).2; omega
  have hwl : j.way.length ≤ 4194304 := by have := hI.wl; have := hI.n1; omega
  obtain ⟨ad, cap, hv⟩ := own_slice h.rw_
  have HV := hide hv
  clear h hI hB hv
  go_enter Try.func20, Try.ntmps20
  go_upto_region 2 with fail
  obtain ⟨Y, hY⟩ : ∃ Y, w.heap.size = Y := ⟨_, rfl⟩
  rw [hY] at HX HXF
  try rw [hY]
  clear hY
  generalize w.alloc (.cells #[.int .i64 kd, .int .i64 n] 70) = W at *
  have x5 : W.cell? ⟨A.a, 5, none⟩ = some (.slice ad j.way.length cap) := by rw [← HV.out]; exact HM.out.cells.2.2.2.2.2.1
  go_upto_if 15 with fail
  go_cut [4] (fun u4 wc => ∃ K : Nat, u4 = .int .i64 (K : Int) ∧ Hid (0 < j.way.length → K < j.way.length) ∧ Hid (Jm B wc A j) ∧ Hid (Yx wc Y kd n) ∧ Hid (Jv A A w wc))
  case first =>
    by_cases h0 : 0 < j.way.length
    · have hl0 : (0 : Int) < (j.way.length : Int) := by omega
      have hl1 : (j.way.length : Int) ≤ 4194304 := by omega
      have hne : ((j.way.length : Int) == 0) = false := by rw [beq_eq_false_iff_ne]; omega
      have hgt : decide ((0 : Int) < (j.way.length : Int)) = true := by rw [decide_eq_true_eq]; omega
      have hgt2 : ¬ (j.way.length : Int) ≤ 0 := by omega
      have hne2 : (j.way.length : Int) ≠ 0 := by omega
      have HCe : Hid (∀ V : World, (V.heap[A.a]? = W.heap[A.a]? ∧ V.heap[Y]? = W.heap[Y]?) → V.cell? ⟨A.a, 5, none⟩ = some (.slice ad j.way.length cap) ∧ V.cell? ⟨Y, 1, none⟩ = some (.int .i64 n)) := hide fun V hV => ⟨(World.cell?_of_block hV.1).trans x5, by have := hV.2.trans HX.out; simp [World.cell?, this]⟩
      have HT1 : Hid (n.tmod (j.way.length : Int) < (j.way.length : Int)) := hide (Int.tmod_lt_of_pos _ hl0)
      have HT2 : Hid (-(j.way.length : Int) < n.tmod (j.way.length : Int)) := hide (by have := Int.tmod_lt_of_pos (-n) hl0; rw [Int.neg_tmod] at this; omega)
      have hgt3 : decide (0 < j.way.length) = true := decide_eq_true h0
      have hz0 : ¬ j.way.length = 0 := by omega
      go_wp2_with fail
      refine wp_region_held_drew (S := fun w' => w'.heap[A.a]? = W.heap[A.a]? ∧ w'.heap[Y]? = W.heap[Y]?) (by kernel_rfl) (⟨rfl, rfl⟩) (fun hHeld => ?_)
      refine wpAnyH_take (i := 0) (v := .pointer (some ⟨Y, 1, none⟩)) rfl (by kernel_rfl) (by kernel_rfl) (by kernel_rfl) (fun _ _ _ h => h) (Or.inl ⟨by kernel_rfl, fun w1 hSw => by clear hHeld; obtain ⟨k5, ky⟩ := HCe.out _ hSw; go_simp⟩) hHeld ?_
      try simp only [Act.put]
      try simp only [List.getElem_toArray]
      try simp only [List.getElem_cons_succ]
      try simp only [List.getElem_cons_zero]
      try simp only [List.setIfInBounds_toArray]
      try simp only [List.set_cons_succ, List.set_cons_zero]
      refine wpAnyH_take (i := 1) (v := .int .i64 n) rfl (by kernel_rfl) (by kernel_rfl) (by kernel_rfl) (fun _ _ _ h => h) (Or.inl ⟨by kernel_rfl, fun w1 hSw => by clear hHeld; obtain ⟨k5, ky⟩ := HCe.out _ hSw; go_simp⟩) hHeld ?_
      try simp only [Act.put]
      try simp only [List.getElem_toArray]
      try simp only [List.getElem_cons_succ]
      try simp only [List.getElem_cons_zero]
      try simp only [List.setIfInBounds_toArray]
      try simp only [List.set_cons_succ, List.set_cons_zero]
      refine wpAnyH_take (i := 2) (v := .pointer (some ⟨A.a, 0, none⟩)) rfl (by kernel_rfl) (by kernel_rfl) (by kernel_rfl) (fun _ _ _ h => h) (Or.inl ⟨by kernel_rfl, fun w1 hSw => by clear hHeld; obtain ⟨k5, ky⟩ := HCe.out _ hSw; go_simp⟩) hHeld ?_
      try simp only [Act.put]
      try simp only [List.getElem_toArray]
      try simp only [List.getElem_cons_succ]
      try simp only [List.getElem_cons_zero]
      try simp only [List.setIfInBounds_toArray]
      try simp only [List.set_cons_succ, List.set_cons_zero]
      refine wpAnyH_take (i := 3) (v := .pointer (some ⟨A.a, 0, none⟩)) rfl (by kernel_rfl) (by kernel_rfl) (by kernel_rfl) (fun _ _ _ h => h) (Or.inl ⟨by kernel_rfl, fun w1 hSw => by clear hHeld; obtain ⟨k5, ky⟩ := HCe.out _ hSw; go_simp⟩) hHeld ?_
      try simp only [Act.put]
      try simp only [List.getElem_toArray]
      try simp only [List.getElem_cons_succ]
      try simp only [List.getElem_cons_zero]
      try simp only [List.setIfInBounds_toArray]
      try simp only [List.set_cons_succ, List.set_cons_zero]
      refine wpAnyH_take (i := 4) (v := .pointer (some ⟨A.a, 5, none⟩)) rfl (by kernel_rfl) (by kernel_rfl) (by kernel_rfl) (fun _ _ _ h => h) (Or.inl ⟨by kernel_rfl, fun w1 hSw => by clear hHeld; obtain ⟨k5, ky⟩ := HCe.out _ hSw; go_simp⟩) hHeld ?_
      try simp only [Act.put]
      try simp only [List.getElem_toArray]
      try simp only [List.getElem_cons_succ]
      try simp only [List.getElem_cons_zero]
      try simp only [List.setIfInBounds_toArray]
      try simp only [List.set_cons_succ, List.set_cons_zero]
      refine wpAnyH_take (i := 5) (v := .slice ad j.way.length cap) rfl (by kernel_rfl) (by kernel_rfl) (by kernel_rfl) (fun _ _ _ h => h) (Or.inl ⟨by kernel_rfl, fun w1 hSw => by clear hHeld; obtain ⟨k5, ky⟩ := HCe.out _ hSw; go_simp⟩) hHeld ?_
      try simp only [Act.put]
      try simp only [List.getElem_toArray]
      try simp only [List.getElem_cons_succ]
      try simp only [List.getElem_cons_zero]
      try simp only [List.setIfInBounds_toArray]
      try simp only [List.set_cons_succ, List.set_cons_zero]
      refine wpAnyH_take (i := 6) (v := .int .i64 (j.way.length : Int)) rfl (by kernel_rfl) (by kernel_rfl) (by kernel_rfl) (fun _ _ _ h => h) (Or.inl ⟨by kernel_rfl, fun w1 hSw => by clear hHeld; obtain ⟨k5, ky⟩ := HCe.out _ hSw; go_simp⟩) hHeld ?_
      try simp only [Act.put]
      try simp only [List.getElem_toArray]
      try simp only [List.getElem_cons_succ]
      try simp only [List.getElem_cons_zero]
      try simp only [List.setIfInBounds_toArray]
      try simp only [List.set_cons_succ, List.set_cons_zero]
      refine wpAnyH_take (i := 7) (v := .int .i64 (n.tmod (j.way.length : Int))) rfl (by kernel_rfl) (by kernel_rfl) (by kernel_rfl) (fun _ _ _ h => h) (Or.inl ⟨by kernel_rfl, fun w1 hSw => by clear hHeld; obtain ⟨k5, ky⟩ := HCe.out _ hSw; go_simp⟩) hHeld ?_
      try simp only [Act.put]
      try simp only [List.getElem_toArray]
      try simp only [List.getElem_cons_succ]
      try simp only [List.getElem_cons_zero]
      try simp only [List.setIfInBounds_toArray]
      try simp only [List.set_cons_succ, List.set_cons_zero]
      refine wpAnyH_take (i := 8) (v := .int .i64 (n.tmod (j.way.length : Int))) rfl (by kernel_rfl) (by kernel_rfl) (by kernel_rfl) (fun _ _ _ h => h) (Or.inl ⟨by kernel_rfl, fun w1 hSw => by clear hHeld; obtain ⟨k5, ky⟩ := HCe.out _ hSw; go_simp⟩) hHeld ?_
      try simp only [Act.put]
      try simp only [List.getElem_toArray]
      try simp only [List.getElem_cons_succ]
      try simp only [List.getElem_cons_zero]
      try simp only [List.setIfInBounds_toArray]
      try simp only [List.set_cons_succ, List.set_cons_zero]
      refine wpAnyH_done (by kernel_rfl) ?_ _
      have HM : Hid (Jm B W.drew A j) := hide (HM.out.below ⟨rfl, rfl, rfl, Nat.le_refl _, fun _ _ => rfl⟩)
      have HJ : Hid (Jv A A w W.drew) := hide ⟨HJ.out.os, HJ.out.tape, HJ.out.output, HJ.out.size, HJ.out.block, HJ.out.grow⟩
      have HX : Hid (Yx W.drew Y kd n) := HX
      have x5 : W.drew.cell? ⟨A.a, 5, none⟩ = some (.slice ad j.way.length cap) := x5
      clear hHeld HCe
      have t1 := HT1.out
      have t2 := HT2.out
      generalize n.tmod (j.way.length : Int) = T at *
      by_cases hneg : T < 0
      · have HQ : Hid (∃ K : Nat, T + (j.way.length : Int) = (K : Int) ∧ K < j.way.length) := hide ⟨(T + (j.way.length : Int)).toNat, by omega, by omega⟩
        go_wp2_with fail
        go_meet
        case rel => exact HQ.out.elim fun K hK => ⟨K, by rw [← hK.1], fun _ => hK.2, HM, HX, HJ⟩
      · have HQ : Hid (∃ K : Nat, T = (K : Int) ∧ K < j.way.length) := hide ⟨T.toNat, by omega, by omega⟩
        go_wp2_with fail
        go_meet
        case rel => exact HQ.out.elim fun K hK => ⟨K, by rw [← hK.1], fun _ => hK.2, HM, HX, HJ⟩
    · have hgt3 : decide (0 < j.way.length) = false := decide_eq_false h0
      go_wp2_with fail
      go_meet
      case rel => exact ⟨0, rfl, fun e => absurd e h0, HM, HX, HJ⟩
  case rest =>
    obtain ⟨K, rfl, HK, HM, HX, HJ⟩ := hcut
    have y0 : wc.cell? ⟨Y, 0, none⟩ = some (.int .i64 kd) := by have := HX.out; unfold Yx at this; simp [World.cell?, this]
    have y1 : wc.cell? ⟨Y, 1, none⟩ = some (.int .i64 n) := by have := HX.out; unfold Yx at this; simp [World.cell?, this]
    have x5 : wc.cell? ⟨A.a, 5, none⟩ = some (.slice ad j.way.length cap) := by rw [← HV.out]; exact HM.out.cells.2.2.2.2.2.1
    have hal := HM.out.lt
    have z0 := HM.out.z 0
    have z1 := HM.out.z 1
    have z2 := HM.out.z 2
    obtain ⟨a0, a1, a2, -⟩ := HM.out.cells
    have hBS : B ≤ wc.heap.size := Nat.le_trans HBS.out HJ.out.size
    by_cases h1 : kd = 1
    · have b1 : (kd == 1) = true := by rw [h1]; rfl
      clear h1
      have HA := hide (asks_any HI.out (by omega) HM.out n)
      clear a0 a1 a2 z0 z1 z2
      go_wp2_with fail
      refine HA.out.mono ?_
      rintro e w1 ⟨rfl, j', h1, h2, h3⟩
      have HP := hide (And.intro h1 (And.intro h2 (HJ.out.trans h3)))
      clear h1 h2 h3 HA x5 y0 y1
      have a0 := HP.out.2.1.cells.1
      have a1 := HP.out.2.1.cells.2.1
      go_wp2_with fail
      go_end0
      exact ⟨rfl, own, A, j', rfl, HP.out.1.ups (by omega) hN, HP.out.2.1, HP.out.2.2⟩
    have n1 : (kd == 1) = false := by simpa using h1
    by_cases h6 : kd = 6
    · have b6 : (kd == 6) = true := by rw [h6]; rfl
      have b2 : (kd == 2) = false := by rw [h6]; rfl
      have b3 : (kd == 3) = false := by rw [h6]; rfl
      have b4 : (kd == 4) = false := by rw [h6]; rfl
      have b5 : (kd == 5) = false := by rw [h6]; rfl
      clear h6 h1
      have HA := hide (tnew_any wc 1)
      go_wp2_with fail
      refine HA.out.mono ?_
      rintro e w1 (⟨hx, -⟩ | ⟨nn, b, g, cp, hn1, -, -, rfl, ht, hb⟩)
      · omega
      obtain rfl : nn = 1 := by omega
      have HN := hide (HM.out.newT hBS hb (D' := dk0) ht)
      have hj1 := (hb.block _ HM.out.lt).trans HM.out.hj
      have q1 : w1.cell? ⟨A.a, 1, none⟩ = some (.pointer (some ⟨A.tb, 0, none⟩)) := by unfold World.cell?; rw [hj1]; rfl
      have q0 : w1.cell? ⟨A.a, 0, none⟩ = some (.pointer (some ⟨A.bc, 0, none⟩)) := by unfold World.cell?; rw [hj1]; rfl
      have qz : w1.frozen? ⟨A.a, 1, none⟩ = false := by simp [World.frozen?, hj1]
      have ql := lt_of_block hj1
      clear HA ht hb hj1 a0 a1 a2 z0 z1 z2 x5 y0 y1 hal
      go_wp2_with fail
      go_end0
      exact ⟨rfl, own, _, _, by rfl, HI.out.forget.ups (by omega) hN, HN.out.1, HJ.out.trans HN.out.2⟩
    have n6 : (kd == 6) = false := by simpa using h6
    by_cases h7 : kd = 7
    · have b7 : (kd == 7) = true := by rw [h7]; rfl
      have b2 : (kd == 2) = false := by rw [h7]; rfl
      have b3 : (kd == 3) = false := by rw [h7]; rfl
      have b4 : (kd == 4) = false := by rw [h7]; rfl
      have b5 : (kd == 5) = false := by rw [h7]; rfl
      clear h6 h1 h7
      have l0 := HI.out.f0
      have l1 := HI.out.f1
      have l2 := HI.out.n1
      have HT := hide (HM.out.turn 2 (.int .i64 (j.life + 1)) (j' := { j with life := j.life + 1 }) (heap_set_self _ _ _ _ _ _ _ HM.out.hj) rfl rfl rfl rfl)
      have hBS2 : B ≤ (wc.setCell ⟨A.a, 2, none⟩ (.int .i64 (j.life + 1))).heap.size := by rw [setCell_size]; exact hBS
      go_wp2_with fail
      generalize wc.setCell ⟨A.a, 2, none⟩ (.int .i64 (j.life + 1)) = V at *
      refine (cnew_any V (x := 2) (by decide)).mono ?_
      rintro e w1 (⟨hx, -⟩ | ⟨-, rfl, hc, hb⟩)
      · omega
      have HN := hide (HT.out.1.newC hBS2 hb hc (Nat.le_refl _))
      have hj1 := (hb.block _ HT.out.1.lt).trans HT.out.1.hj
      have q1 : w1.cell? ⟨A.a, 1, none⟩ = some (.pointer (some ⟨A.tb, 0, none⟩)) := by unfold World.cell?; rw [hj1]; rfl
      have q0 : w1.cell? ⟨A.a, 0, none⟩ = some (.pointer (some ⟨A.bc, 0, none⟩)) := by unfold World.cell?; rw [hj1]; rfl
      have qz : w1.frozen? ⟨A.a, 0, none⟩ = false := by simp [World.frozen?, hj1]
      have ql := lt_of_block hj1
      clear hc hb hj1 a0 a1 a2 z0 z1 z2 x5 y0 y1 hal
      go_wp2_with fail
      go_end0
      exact ⟨rfl, own, _, _, by rfl, (HI.out.born (by omega)).ups (by omega) hN, HN.out.1, HJ.out.trans (HT.out.2.trans HN.out.2)⟩
    have n7 : (kd == 7) = false := by simpa using h7
    by_cases h2 : kd = 2
    · exact absurd h2 hx2
    have n2 : (kd == 2) = false := by simpa using h2
    clear h1 h2 h6 h7
    by_cases h0 : 0 < j.way.length
    · have bt : decide (0 < j.way.length) = true := decide_eq_true h0
      have hKl := HK.out h0
      by_cases h5 : kd = 5
      · exact absurd h5 hx5
      · have n5 : (kd == 5) = false := by simpa using h5
        by_cases h34 : kd = 3 ∨ kd = 4
        · exact absurd h34 (fun h => h.elim hx3 hx4)
        · have n3 : (kd == 3) = false := by simpa using fun h => h34 (.inl h)
          have n4 : (kd == 4) = false := by simpa using fun h => h34 (.inr h)
          clear h34 h5
          go_wp2_with fail
          go_end0
          exact ⟨rfl, own, A, j, rfl, HI.out.ups (by omega) hN, HM.out, HJ.out⟩
    · have bt : decide (0 < j.way.length) = false := decide_eq_false h0
      by_cases h5 : kd = 5
      · exact absurd h5 hx5
      · have n5 : (kd == 5) = false := by simpa using h5
        by_cases h3 : kd = 3
        · exact absurd h3 hx3
        · have n3 : (kd == 3) = false := by simpa using h3
          by_cases h4 : kd = 4
          · exact absurd h4 hx4
          · have n4 : (kd == 4) = false := by simpa using h4
            clear h5 h3 h4
            go_wp2_with fail
            go_end0
            exact ⟨rfl, own, A, j, rfl, HI.out.ups (by omega) hN, HM.out, HJ.out⟩
end
end Go.Proofs.Ytonoogiadgjodaa
