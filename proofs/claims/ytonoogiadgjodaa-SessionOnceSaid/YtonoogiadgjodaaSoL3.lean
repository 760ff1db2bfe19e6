import Derived.Test.YtonoogiadgjodaaSoLb
import Derived.Deep.DeepCutAuto
namespace Go.Proofs.Ytonoogiadgjodaa
open Go.RowKit

section
variable {B : Nat} {w w' : World} {A : Ja} {j : Jt} {own : Int → Int} {N : Int}
set_option maxHeartbeats 4000000 in
set_option maxRecDepth 8000 in
theorem does_3 (hI : Inv own N j) (hN : N + 3 ≤ 4194304) (h : Jm B w A j) (hB : B ≤ w.heap.size) (kd n : Int) (hx1 : kd ≠ 1) (hx2 : kd ≠ 2) (hx4 : kd ≠ 4) (hx5 : kd ≠ 5) (hx6 : kd ≠ 6) (hx7 : kd ≠ 7) : Calls Try.prog 20 #[.pointer (some ⟨A.a, 0, none⟩), .agg #[.int .i64 kd, .int .i64 n]] w (DoP B N A w) := by
  have HI := hide hI
  have HX : Hid (Yx (w.alloc (.cells #[.int .i64 kd, .int .i64 n] 70)) w.heap.size kd n) := hide (heap_alloc_new w _)
  have HM := hide (h.below (below_alloc w (.cells #[.int .i64 kd, .int .i64 n] 70)))
  have HJ : Hid (Jv A A w (w.alloc (.cells #[.int .i64 kd, .int .i64 n] 70))) := hide (Jv.of_below (below_alloc w _))
  have HBS : Hid (B ≤ w.heap.size) := hide hB
  have HXF : Hid (¬ A.foot w.heap.size) := hide fun e => by
    rcases e with e | e | e | e | e
    · have := h.lt; omega
    · have := h.cb.lt; omega
    · have := h.tm.gl; omega
    · have := (h.rw_.lt _ e).2; omega
    · have := (h.rd.lt _ e).2; omega
  have hwl : j.way.length ≤ 4194304 := by have := hI.wl; have := hI.n1; omega
  obtain ⟨ad, cap, hv⟩ := own_slice h.rw_
  have HV := hide hv
  clear h hI hB hv
  go_enter Try.func20, Try.ntmps20
  go_upto_region 2 with fail
  obtain ⟨Y, hY⟩ : ∃ Y, w.heap.size = Y := ⟨_, rfl⟩
  rw [hY] at HX HXF
  try rw [hY]
  clear hY
  generalize w.alloc (.cells #[.int .i64 kd, .int .i64 n] 70) = W at *
  have x5 : W.cell? ⟨A.a, 5, none⟩ = some (.slice ad j.way.length cap) := by rw [← HV.out]; exact HM.out.cells.2.2.2.2.2.1
  go_upto_if 15 with fail
  go_cut [4] (fun u4 wc => ∃ K : Nat, u4 = .int .i64 (K : Int) ∧ Hid (0 < j.way.length → K < j.way.length) ∧ Hid (Jm B wc A j) ∧ Hid (Yx wc Y kd n) ∧ Hid (Jv A A w wc))
  case first =>
    by_cases h0 : 0 < j.way.length
    · have hl0 : (0 : Int) < (j.way.length : Int) := by omega
      have hl1 : (j.way.length : Int) ≤ 4194304 := by omega
      have hne : ((j.way.length : Int) == 0) = false := by rw [beq_eq_false_iff_ne]; omega
      have hgt : decide ((0 : Int) < (j.way.length : Int)) = true := by rw [decide_eq_true_eq]; omega
      have hgt2 : ¬ (j.way.length : Int) ≤ 0 := by omega
      have hne2 : (j.way.length : Int) ≠ 0 := by omega
      have HCe : Hid (∀ V : World, (V.heap[A.a]? = W.heap[A.a]? ∧ V.heap[Y]? = W.heap[Y]?) → V.cell? ⟨A.a, 5, none⟩ = some (.slice ad j.way.length cap) ∧ V.cell? ⟨Y, 1, none⟩ = some (.int .i64 n)) := hide fun V hV => ⟨(World.cell?_of_block hV.1).trans x5, by have := hV.2.trans HX.out; simp [World.cell?, this]⟩
      have HT1 : Hid (n.tmod (j.way.length : Int) < (j.way.length : Int)) := hide (Int.tmod_lt_of_pos _ hl0)
      have HT2 : Hid (-(j.way.length : Int) < n.tmod (j.way.length : Int)) := hide (by have := Int.tmod_lt_of_pos (-n) hl0; rw [Int.neg_tmod] at this; omega)
      have hgt3 : decide (0 < j.way.length) = true := decide_eq_true h0
      have hz0 : ¬ j.way.length = 0 := by omega
      go_wp2_with fail
      refine wp_region_held_drew (S := fun w' => w'.heap[A.a]? = W.heap[A.a]? ∧ w'.heap[Y]? = W.heap[Y]?) (by kernel_rfl) (⟨rfl, rfl⟩) (fun hHeld => ?_)
      refine wpAnyH_take (i := 0) (v := .pointer (some ⟨Y, 1, none⟩)) rfl (by kernel_rfl) (by kernel_rfl) (by kernel_rfl) (fun _ _ _ h => h) (Or.inl ⟨by kernel_rfl, fun w1 hSw => by clear hHeld; obtain ⟨k5, ky⟩ := HCe.out _ hSw; go_simp⟩) hHeld ?_
      try simp only [Act.put]
      try simp only [List.getElem_toArray]
      try simp only [List.getElem_cons_succ]
      try simp only [List.getElem_cons_zero]
      try simp only [List.setIfInBounds_toArray]
      try simp only [List.set_cons_succ, List.set_cons_zero]
      refine wpAnyH_take (i := 1) (v := .int .i64 n) rfl (by kernel_rfl) (by kernel_rfl) (by kernel_rfl) (fun _ _ _ h => h) (Or.inl ⟨by kernel_rfl, fun w1 hSw => by clear hHeld; obtain ⟨k5, ky⟩ := HCe.out _ hSw; go_simp⟩) hHeld ?_
      try simp only [Act.put]
      try simp only [List.getElem_toArray]
      try simp only [List.getElem_cons_succ]
      try simp only [List.getElem_cons_zero]
      try simp only [List.setIfInBounds_toArray]
      try simp only [List.set_cons_succ, List.set_cons_zero]
      refine wpAnyH_take (i := 2) (v := .pointer (some ⟨A.a, 0, none⟩)) rfl (by kernel_rfl) (by kernel_rfl) (by kernel_rfl) (fun _ _ _ h => h) (Or.inl ⟨by kernel_rfl, fun w1 hSw => by clear hHeld; obtain ⟨k5, ky⟩ := HCe.out _ hSw; go_simp⟩) hHeld ?_
      try simp only [Act.put]
      try simp only [List.getElem_toArray]
      try simp only [List.getElem_cons_succ]
      try simp only [List.getElem_cons_zero]
      try simp only [List.setIfInBounds_toArray]
      try simp only [List.set_cons_succ, List.set_cons_zero]
      refine wpAnyH_take (i := 3) (v := .pointer (some ⟨A.a, 0, none⟩)) rfl (by kernel_rfl) (by kernel_rfl) (by kernel_rfl) (fun _ _ _ h => h) (Or.inl ⟨by kernel_rfl, fun w1 hSw => by clear hHeld; obtain ⟨k5, ky⟩ := HCe.out _ hSw; go_simp⟩) hHeld ?_
      try simp only [Act.put]
      try simp only [List.getElem_toArray]
      try simp only [List.getElem_cons_succ]
      try simp only [List.getElem_cons_zero]
      try simp only [List.setIfInBounds_toArray]
      try simp only [List.set_cons_succ, List.set_cons_zero]
      refine wpAnyH_take (i := 4) (v := .pointer (some ⟨A.a, 5, none⟩)) rfl (by kernel_rfl) (by kernel_rfl) (by kernel_rfl) (fun _ _ _ h => h) (Or.inl ⟨by kernel_rfl, fun w1 hSw => by clear hHeld; obtain ⟨k5, ky⟩ := HCe.out _ hSw; go_simp⟩) hHeld ?_
      try simp only [Act.put]
      try simp only [List.getElem_toArray]
      try simp only [List.getElem_cons_succ]
      try simp only [List.getElem_cons_zero]
      try simp only [List.setIfInBounds_toArray]
      try simp only [List.set_cons_succ, List.set_cons_zero]
      refine wpAnyH_take (i := 5) (v := .slice ad j.way.length cap) rfl (by kernel_rfl) (by kernel_rfl) (by kernel_rfl) (fun _ _ _ h => h) (Or.inl ⟨by kernel_rfl, fun w1 hSw => by clear hHeld; obtain ⟨k5, ky⟩ := HCe.out _ hSw; go_simp⟩) hHeld ?_
      try simp only [Act.put]
      try simp only [List.getElem_toArray]
      try simp only [List.getElem_cons_succ]
      try simp only [List.getElem_cons_zero]
      try simp only [List.setIfInBounds_toArray]
      try simp only [List.set_cons_succ, List.set_cons_zero]
      refine wpAnyH_take (i := 6) (v := .int .i64 (j.way.length : Int)) rfl (by kernel_rfl) (by kernel_rfl) (by kernel_rfl) (fun _ _ _ h => h) (Or.inl ⟨by kernel_rfl, fun w1 hSw => by clear hHeld; obtain ⟨k5, ky⟩ := HCe.out _ hSw; go_simp⟩) hHeld ?_
      try simp only [Act.put]
      try simp only [List.getElem_toArray]
      try simp only [List.getElem_cons_succ]
      try simp only [List.getElem_cons_zero]
      try simp only [List.setIfInBounds_toArray]
      try simp only [List.set_cons_succ, List.set_cons_zero]
      refine wpAnyH_take (i := 7) (v := .int .i64 (n.tmod (j.way.length : Int))) rfl (by kernel_rfl) (by kernel_rfl) (by kernel_rfl) (fun _ _ _ h => h) (Or.inl ⟨by kernel_rfl, fun w1 hSw => by clear hHeld; obtain ⟨k5, ky⟩ := HCe.out _ hSw; go_simp⟩) hHeld ?_
      try simp only [Act.put]
      try simp only [List.getElem_toArray]
      try simp only [List.getElem_cons_succ]
      try simp only [List.getElem_cons_zero]
      try simp only [List.setIfInBounds_toArray]
      try simp only [List.set_cons_succ, List.set_cons_zero]
      refine wpAnyH_take (i := 8) (v := .int .i64 (n.tmod (j.way.length : Int))) rfl (by kernel_rfl) (by kernel_rfl) (by kernel_rfl) (fun _ _ _ h => h) (Or.inl ⟨by kernel_rfl, fun w1 hSw => by clear hHeld; obtain ⟨k5, ky⟩ := HCe.out _ hSw; go_simp⟩) hHeld ?_
      try simp only [Act.put]
      try simp only [List.getElem_toArray]
      try simp only [List.getElem_cons_succ]
      try simp only [List.getElem_cons_zero]
      try simp only [List.setIfInBounds_toArray]
      try simp only [List.set_cons_succ, List.set_cons_zero]
      refine wpAnyH_done (by kernel_rfl) ?_ _
      have HM : Hid (Jm B W.drew A j) := hide (HM.out.below ⟨rfl, rfl, rfl, Nat.le_refl _, fun _ _ => rfl⟩)
      have HJ : Hid (Jv A A w W.drew) := hide ⟨HJ.out.os, HJ.out.tape, HJ.out.output, HJ.out.size, HJ.out.block, HJ.out.grow⟩
      have HX : Hid (Yx W.drew Y kd n) := HX
      have x5 : W.drew.cell? ⟨A.a, 5, none⟩ = some (.slice ad j.way.length cap) := x5
      clear hHeld HCe
      have t1 := HT1.out
      have t2 := HT2.out
      generalize n.tmod (j.way.length : Int) = T at *
      by_cases hneg : T < 0
      · have HQ : Hid (∃ K : Nat, T + (j.way.length : Int) = (K : Int) ∧ K < j.way.length) := hide ⟨(T + (j.way.length : Int)).toNat, by omega, by omega⟩
        go_wp2_with fail
        go_meet
        case rel => exact HQ.out.elim fun K hK => ⟨K, by rw [← hK.1], fun _ => hK.2, HM, HX, HJ⟩
      · have HQ : Hid (∃ K : Nat, T = (K : Int) ∧ K < j.way.length) := hide ⟨T.toNat, by omega, by omega⟩
        go_wp2_with fail
        go_meet
        case rel => exact HQ.out.elim fun K hK => ⟨K, by rw [← hK.1], fun _ => hK.2, HM, HX, HJ⟩
    · have hgt3 : decide (0 < j.way.length) = false := decide_eq_false h0
      go_wp2_with fail
      go_meet
      case rel => exact ⟨0, rfl, fun e => absurd e h0, HM, HX, HJ⟩
  case rest =>
    obtain ⟨K, rfl, HK, HM, HX, HJ⟩ := hcut
    have y0 : wc.cell? ⟨Y, 0, none⟩ = some (.int .i64 kd) := by have := HX.out; unfold Yx at this; simp [World.cell?, this]
    have y1 : wc.cell? ⟨Y, 1, none⟩ = some (.int .i64 n) := by have := HX.out; unfold Yx at this; simp [World.cell?, this]
    have x5 : wc.cell? ⟨A.a, 5, none⟩ = some (.slice ad j.way.length cap) := by rw [← HV.out]; exact HM.out.cells.2.2.2.2.2.1
    have hal := HM.out.lt
    have z0 := HM.out.z 0
    have z1 := HM.out.z 1
    have z2 := HM.out.z 2
    obtain ⟨a0, a1, a2, -⟩ := HM.out.cells
    have hBS : B ≤ wc.heap.size := Nat.le_trans HBS.out HJ.out.size
    by_cases h1 : kd = 1
    · exact absurd h1 hx1
    have n1 : (kd == 1) = false := by simpa using h1
    by_cases h6 : kd = 6
    · exact absurd h6 hx6
    have n6 : (kd == 6) = false := by simpa using h6
    by_cases h7 : kd = 7
    · exact absurd h7 hx7
    have n7 : (kd == 7) = false := by simpa using h7
    by_cases h2 : kd = 2
    · exact absurd h2 hx2
    have n2 : (kd == 2) = false := by simpa using h2
    clear h1 h2 h6 h7
    by_cases h0 : 0 < j.way.length
    · have bt : decide (0 < j.way.length) = true := decide_eq_true h0
      have hKl := HK.out h0
      by_cases h5 : kd = 5
      · exact absurd h5 hx5
      · have n5 : (kd == 5) = false := by simpa using h5
        by_cases h34 : kd = 3 ∨ kd = 4
        · have b34 : ((kd == 3) || (kd == 4)) = true := by rcases h34 with h | h <;> rw [h] <;> rfl
          clear a0 a1 a2 z0 z1 z2 h5
          by_cases h3 : kd = 3
          · have b3 : (kd == 3) = true := by rw [h3]; rfl
            clear h34 b34 h3 x5
            obtain ⟨g, cp, hv2, hg, hncp⟩ : ∃ g cp, A.vw = .slice (some ⟨g, 0, none⟩) j.way.length cp ∧ g < wc.heap.size ∧ j.way.length ≤ cp := by
              rcases HM.out.rw_.2 with ⟨_, hh⟩ | ⟨g, cp, cur, k1, k2, k3, k4, _⟩
              · omega
              · exact ⟨g, cp, k1, lt_of_block k3, k4⟩
            have HO : Hid (wc.ownsRow B 103 15 (.slice (some ⟨g, 0, none⟩) j.way.length cp) j.way.length (scs j.way)) := hide (by rw [← hv2]; exact HM.out.rw_)
            have x5 : wc.cell? ⟨A.a, 5, none⟩ = some (.slice (some ⟨g, 0, none⟩) j.way.length cp) := by rw [← hv2]; exact HM.out.cells.2.2.2.2.2.1
            obtain ⟨x, hx⟩ : ∃ x, j.way[K] = x := ⟨_, rfl⟩
            have HQ : Hid (Good own j x) := hide (by rw [← hx]; exact HI.out.wy _ (List.getElem_mem hKl))
            have HC : Hid (∀ k v, k < 15 → x.cs[k]? = some v → wc.cell? ⟨g, K * 15 + k, none⟩ = some v) := hide fun k v hk hh => (HO.out.cellAt (K * 15 + k) (by omega)).trans (by rw [scs_get j.way K k hKl hk, hx]; exact hh)
            have v0 : wc.cell? ⟨g, K * 15, none⟩ = some (.int .i64 x.m.k) := HC.out 0 _ (by omega) rfl
            have v1 : wc.cell? ⟨g, K * 15 + 1, none⟩ = some (.int .i64 x.m.se) := HC.out 1 _ (by omega) rfl
            have v2 : wc.cell? ⟨g, K * 15 + 2, none⟩ = some (.int .i64 x.m.nu) := HC.out 2 _ (by omega) rfl
            have v3 : wc.cell? ⟨g, K * 15 + 3, none⟩ = some (.int .i64 x.m.jo) := HC.out 3 _ (by omega) rfl
            have v4 : wc.cell? ⟨g, K * 15 + 4, none⟩ = some (.int .i64 x.m.ba) := HC.out 4 _ (by omega) rfl
            have v5 : wc.cell? ⟨g, K * 15 + 5, none⟩ = some (.int .i64 x.m.ix) := HC.out 5 _ (by omega) rfl
            have v6 : wc.cell? ⟨g, K * 15 + 6, none⟩ = some (.int .i64 x.m.co) := HC.out 6 _ (by omega) rfl
            have v7 : wc.cell? ⟨g, K * 15 + 7, none⟩ = some (.int .i64 x.m.rc) := HC.out 7 _ (by omega) rfl
            have v8 : wc.cell? ⟨g, K * 15 + 8, none⟩ = some (.int .u64 (x.m.rb : Int)) := HC.out 8 _ (by omega) rfl
            have v9 : wc.cell? ⟨g, K * 15 + 9, none⟩ = some (.string x.m.tx) := HC.out 9 _ (by omega) rfl
            have v10 : wc.cell? ⟨g, K * 15 + 10, none⟩ = some (.string x.m.pr) := HC.out 10 _ (by omega) rfl
            have v11 : wc.cell? ⟨g, K * 15 + 11, none⟩ = some (.bool x.tb) := HC.out 11 _ (by omega) rfl
            have v12 : wc.cell? ⟨g, K * 15 + 12, none⟩ = some (.int .i64 x.li) := HC.out 12 _ (by omega) rfl
            have v13 : wc.cell? ⟨g, K * 15 + 13, none⟩ = some (.int .i64 x.ak) := HC.out 13 _ (by omega) rfl
            have v14 : wc.cell? ⟨g, K * 15 + 14, none⟩ = some (.int .i64 x.an) := HC.out 14 _ (by omega) rfl
            have hKi : (K : Int) < (j.way.length : Int) := by omega
            have hKc : K ≤ cp := by omega
            have hK4 : K ≤ 4194304 := by omega
            obtain ⟨iS, hiS, zS0, zS1, zS2⟩ := info_parts Try.infoSd
            have hs1 : (wc.alloc (.cells #[.int .i64 x.m.k, .int .i64 x.m.se, .int .i64 x.m.nu, .int .i64 x.m.jo, .int .i64 x.m.ba, .int .i64 x.m.ix, .int .i64 x.m.co, .int .i64 x.m.rc, .int .u64 (x.m.rb : Int), .string x.m.tx, .string x.m.pr, .bool x.tb, .int .i64 x.li, .int .i64 x.ak, .int .i64 x.an] 103)).heap.size = wc.heap.size + 1 := World.size_alloc wc _
            have HE2 : Hid (((wc.alloc (.cells #[.int .i64 x.m.k, .int .i64 x.m.se, .int .i64 x.m.nu, .int .i64 x.m.jo, .int .i64 x.m.ba, .int .i64 x.m.ix, .int .i64 x.m.co, .int .i64 x.m.rc, .int .u64 (x.m.rb : Int), .string x.m.tx, .string x.m.pr, .bool x.tb, .int .i64 x.li, .int .i64 x.ak, .int .i64 x.an] 103)).alloc (.cells #[] 103)).ownsRow (wc.heap.size + 1) 103 15 (.slice (some ⟨wc.heap.size + 1, 0, none⟩) 0 0) 0 (scs [])) := hide ⟨rfl, .inr ⟨wc.heap.size + 1, 0, #[], rfl, Nat.le_refl _, by have := heap_alloc_new (wc.alloc (.cells #[.int .i64 x.m.k, .int .i64 x.m.se, .int .i64 x.m.nu, .int .i64 x.m.jo, .int .i64 x.m.ba, .int .i64 x.m.ix, .int .i64 x.m.co, .int .i64 x.m.rc, .int .u64 (x.m.rb : Int), .string x.m.tx, .string x.m.pr, .bool x.tb, .int .i64 x.li, .int .i64 x.ak, .int .i64 x.an] 103)) (.cells #[] 103); rw [hs1] at this; exact this, Nat.le_refl _, Nat.zero_le _, rfl, rfl⟩⟩
            have HX2 : Hid (Sx ((wc.alloc (.cells #[.int .i64 x.m.k, .int .i64 x.m.se, .int .i64 x.m.nu, .int .i64 x.m.jo, .int .i64 x.m.ba, .int .i64 x.m.ix, .int .i64 x.m.co, .int .i64 x.m.rc, .int .u64 (x.m.rb : Int), .string x.m.tx, .string x.m.pr, .bool x.tb, .int .i64 x.li, .int .i64 x.ak, .int .i64 x.an] 103)).alloc (.cells #[] 103)) wc.heap.size x) := hide ((show Sx (wc.alloc (.cells #[.int .i64 x.m.k, .int .i64 x.m.se, .int .i64 x.m.nu, .int .i64 x.m.jo, .int .i64 x.m.ba, .int .i64 x.m.ix, .int .i64 x.m.co, .int .i64 x.m.rc, .int .u64 (x.m.rb : Int), .string x.m.tx, .string x.m.pr, .bool x.tb, .int .i64 x.li, .int .i64 x.ak, .int .i64 x.an] 103)) wc.heap.size x from heap_alloc_new wc _).below (below_alloc _ _))
            have HB2 : Hid (Below wc.heap.size wc ((wc.alloc (.cells #[.int .i64 x.m.k, .int .i64 x.m.se, .int .i64 x.m.nu, .int .i64 x.m.jo, .int .i64 x.m.ba, .int .i64 x.m.ix, .int .i64 x.m.co, .int .i64 x.m.rc, .int .u64 (x.m.rb : Int), .string x.m.tx, .string x.m.pr, .bool x.tb, .int .i64 x.li, .int .i64 x.ak, .int .i64 x.an] 103)).alloc (.cells #[] 103))) := hide ((below_alloc wc _).trans ((below_alloc (wc.alloc (.cells #[.int .i64 x.m.k, .int .i64 x.m.se, .int .i64 x.m.nu, .int .i64 x.m.jo, .int .i64 x.m.ba, .int .i64 x.m.ix, .int .i64 x.m.co, .int .i64 x.m.rc, .int .u64 (x.m.rb : Int), .string x.m.tx, .string x.m.pr, .bool x.tb, .int .i64 x.li, .int .i64 x.ak, .int .i64 x.an] 103)) _).mono (by rw [hs1]; omega)))
            have hs2 : wc.heap.size + 1 ≤ ((wc.alloc (.cells #[.int .i64 x.m.k, .int .i64 x.m.se, .int .i64 x.m.nu, .int .i64 x.m.jo, .int .i64 x.m.ba, .int .i64 x.m.ix, .int .i64 x.m.co, .int .i64 x.m.rc, .int .u64 (x.m.rb : Int), .string x.m.tx, .string x.m.pr, .bool x.tb, .int .i64 x.li, .int .i64 x.ak, .int .i64 x.an] 103)).alloc (.cells #[] 103)).heap.size := by rw [World.size_alloc, hs1]; omega
            have HNt : Hid (∀ V, Below wc.heap.size wc V → ∀ i u, (scs (j.way.take K))[i]? = some u → V.cell? ((⟨g, 0, none⟩ : Addr).add i) = some u) := hide fun V hV i u hu => by
              have hi := (List.getElem?_eq_some_iff.1 hu).1
              rw [scs_len, List.length_take] at hi
              rw [Addr.add_lit, Nat.zero_add]
              exact (World.cell?_of_block (a := ⟨g, i, none⟩) (hV.block g hg)).trans ((HO.out.cellAt i (by omega)).trans (by rw [← hu]; exact scs_take j.way K i (by omega) (by omega)))
            have HNd : Hid (∀ V, Below wc.heap.size wc V → ∀ i u, (scs (j.way.drop (K + 1)))[i]? = some u → V.cell? ((⟨g, (K + 1) * 15, none⟩ : Addr).add i) = some u) := hide fun V hV i u hu => by
              have hi := (List.getElem?_eq_some_iff.1 hu).1
              rw [scs_len, List.length_drop] at hi
              rw [Addr.add_lit]
              exact (World.cell?_of_block (a := ⟨g, (K + 1) * 15 + i, none⟩) (hV.block g hg)).trans ((HO.out.cellAt ((K + 1) * 15 + i) (by omega)).trans (by rw [← hu]; exact scs_drop j.way (K + 1) i (by omega)))
            obtain ⟨X, hX⟩ : ∃ X, wc.heap.size = X := ⟨_, rfl⟩
            rw [hX] at HE2 HX2 HB2 hs2
            have hgX : g < X := by omega
            have haX : A.a < X := by omega
            have hYX : Y < X := by have := lt_of_block HX.out; omega
            have HLt : Hid ((j.way.take K).length = K) := hide (by rw [List.length_take]; omega)
            go_upto_region 19 with (at_builtin; refine wpList_append_own _ rfl (.tmp 116) (.tmp 122) 64 rfl (X + 1) 103 iS (.agg #[.int .i64 0, .int .i64 0, .int .i64 0, .int .i64 0, .int .i64 0, .int .i64 0, .int .i64 0, .int .i64 0, .int .u64 0, .string ByteArray.empty, .string ByteArray.empty, .bool false, .int .i64 0, .int .i64 0, .int .i64 0]) 15 136 Try.underlying64 hiS zS0 zS1 zS2 rfl (by decide) (.slice (some ⟨X + 1, 0, none⟩) 0 0) 0 (scs []) rfl HE2.out ⟨g, 0, none⟩ K cp (scs (j.way.take K)) rfl (by rw [scs_len, HLt.out]) (HNt.out _ (by rw [hX]; exact HB2.out)) (scs_one _) (by unfold maxLen; omega) (by omega) hs2 ?_; intro v3 w3 hown3 hgr3 _; obtain ⟨ho3, hb3⟩ := cut1 hs2 hown3 hgr3; obtain ⟨ad3, cap3, rfl⟩ := own_slice ho3; have HO3 := hide ho3; have HSl : Hid True := hide trivial; have HB3 := hide hb3; have hs3 : X + 1 ≤ w3.heap.size := Nat.le_trans hs2 hb3.size; have HBw3 : Hid (Below wc.heap.size wc w3) := hide (by rw [hX]; exact HB2.out.trans (hb3.mono (by omega))); have y5 : w3.cell? ⟨A.a, 5, none⟩ = some (.slice (some ⟨g, 0, none⟩) j.way.length cp) := ((World.cell?_of_block (HBw3.out.block _ HM.out.lt)).trans x5); clear hown3 hgr3 ho3 hb3)
            have hK1 : K + 1 ≤ j.way.length := by omega
            obtain ⟨Wn, hWn⟩ : ∃ Wn, j.way.take K ++ j.way.drop (K + 1) = Wn := ⟨_, rfl⟩
            have HWn := hide hWn
            clear hWn
            have hK1i : (K : Int) + 1 ≤ (j.way.length : Int) := by omega
            go_cut [] (fun wV => Hid (∃ v4 : Value, Jm B wV { A with vw := v4 } { j with way := Wn } ∧ Jv A { A with vw := v4 } wc wV ∧ Sx wV X x ∧ Yx wV Y kd n ∧ ¬ Ja.foot { A with vw := v4 } X))
            case first =>
              by_cases hcp : cp = K + 1
              · subst hcp
                have HNil : Hid (j.way.drop (K + 1) = []) := hide (List.drop_eq_nil_of_le hncp)
                go_wp2_with (at_builtin; refine wpList_append_own _ rfl (.tmp 125) (.tmp 132) 64 rfl (X + 1) 103 iS (.agg #[.int .i64 0, .int .i64 0, .int .i64 0, .int .i64 0, .int .i64 0, .int .i64 0, .int .i64 0, .int .i64 0, .int .u64 0, .string ByteArray.empty, .string ByteArray.empty, .bool false, .int .i64 0, .int .i64 0, .int .i64 0]) 15 136 Try.underlying64 hiS zS0 zS1 zS2 rfl (by decide) (.slice ad3 K cap3) K (scs (j.way.take K)) rfl HO3.out ⟨g, 0, none⟩ 0 0 (scs (j.way.drop (K + 1))) rfl (by rw [HNil.out]; rfl) (fun i u hu => by rw [HNil.out] at hu; simp [scs] at hu) (scs_one _) (by unfold maxLen; omega) (by omega) hs3 ?_; intro v4 w4 hown4 hgr4 _; obtain ⟨ho4, hb4⟩ := cut2 HLt.out HO3.out HB3.out (by rw [HNil.out]; rfl) hown4 hgr4 hs3; rw [HWn.out] at ho4; obtain ⟨ad4, cap4, rfl⟩ := own_slice ho4; have HF := hide (cut3 HM.out hBS hX HB2.out hs2 HX2.out HX.out hb4 ho4); have y6 : w4.cell? ⟨A.a, 5, none⟩ = some (.slice (some ⟨g, 0, none⟩) j.way.length (K + 1)) := ((World.cell?_of_block HF.out.2.2.2.2.2.2.2).trans x5); have y7 : w4.frozen? ⟨A.a, 5, none⟩ = false := ((World.frozen?_of_block HF.out.2.2.2.2.2.2.2).trans (HM.out.z 5)); clear hown4 hgr4 ho4 hb4)
                go_meet
                case rel => exact hide ⟨_, HF.out.1, HF.out.2.1, HF.out.2.2.1, HF.out.2.2.2.1, HF.out.2.2.2.2.1⟩
              · have hcp2 : ¬ cp = K + 1 := hcp
                go_wp2_with (at_builtin; refine wpList_append_own _ rfl (.tmp 125) (.tmp 132) 64 rfl (X + 1) 103 iS (.agg #[.int .i64 0, .int .i64 0, .int .i64 0, .int .i64 0, .int .i64 0, .int .i64 0, .int .i64 0, .int .i64 0, .int .u64 0, .string ByteArray.empty, .string ByteArray.empty, .bool false, .int .i64 0, .int .i64 0, .int .i64 0]) 15 136 Try.underlying64 hiS zS0 zS1 zS2 rfl (by decide) (.slice ad3 K cap3) K (scs (j.way.take K)) rfl HO3.out ⟨g, (K + 1) * 15, none⟩ (j.way.length - (K + 1)) (cp - (K + 1)) (scs (j.way.drop (K + 1))) rfl (by rw [scs_len, List.length_drop]) (HNd.out _ HBw3.out) (scs_one _) (by unfold maxLen; omega) (by omega) hs3 ?_; intro v4 w4 hown4 hgr4 _; obtain ⟨ho4, hb4⟩ := cut2 HLt.out HO3.out HB3.out (by rw [List.length_drop]) hown4 hgr4 hs3; rw [HWn.out] at ho4; obtain ⟨ad4, cap4, rfl⟩ := own_slice ho4; have HF := hide (cut3 HM.out hBS hX HB2.out hs2 HX2.out HX.out hb4 ho4); have y6 : w4.cell? ⟨A.a, 5, none⟩ = some (.slice (some ⟨g, 0, none⟩) j.way.length cp) := ((World.cell?_of_block HF.out.2.2.2.2.2.2.2).trans x5); have y7 : w4.frozen? ⟨A.a, 5, none⟩ = false := ((World.frozen?_of_block HF.out.2.2.2.2.2.2.2).trans (HM.out.z 5)); clear hown4 hgr4 ho4 hb4)
                go_meet
                case rel => exact hide ⟨_, HF.out.1, HF.out.2.1, HF.out.2.2.1, HF.out.2.2.2.1, HF.out.2.2.2.2.1⟩
            case rest =>
              obtain ⟨v4, k1, k2, k3, k4, k5⟩ := hcut.out
              have HMV := hide k1
              have HJV := hide (HJ.out.trans k2)
              have HXV := hide k3
              have HYV := hide k4
              have HFX := hide k5
              have HI1 := hide (HI.out.cut (W := Wn) (by rw [← HWn.out, List.length_append, List.length_take, List.length_drop]; omega) (fun y hy => by rw [← HWn.out] at hy; rcases List.mem_append.1 hy with hy | hy; exact List.mem_of_mem_take hy; exact List.mem_of_mem_drop hy))
              have HQ1 := hide (HQ.out.cut Wn)
              have y0 : wc.cell? ⟨Y, 0, none⟩ = some (.int .i64 kd) := by have := HYV.out; unfold Yx at this; simp [World.cell?, this]
              have a0 : wc.cell? ⟨A.a, 0, none⟩ = some (.pointer (some ⟨A.bc, 0, none⟩)) := HMV.out.cells.1
              have a1 : wc.cell? ⟨A.a, 1, none⟩ = some (.pointer (some ⟨A.tb, 0, none⟩)) := HMV.out.cells.2.1
              have a2 : wc.cell? ⟨A.a, 2, none⟩ = some (.int .i64 j.life) := HMV.out.cells.2.2.1
              have hBV : B ≤ wc.heap.size := Nat.le_trans HBS.out HJV.out.size
              have hXl := HXV.out.lt
              have hYl := lt_of_block HYV.out
              have hal := HMV.out.lt
              obtain ⟨u0, u1, u2, u3, u4, u5, u6, u7, u8, u9, u10, u11, u12, u13, u14⟩ := HXV.out.cells
              clear hcut k1 k2 k3 k4 k5 hncp hKc hgX haX hYX y5 hs1 hs2 hs3 hX HE2 HX2 HB2 HNt HNd HO3 HB3 HBw3 HLt HC HO hKi hK1 hK1i HQ HSl hx hv2 x5
              cases htb : x.tb with
              | true =>
                rw [htb] at u11
                have HTab := hide (table_any HI1.out (by omega) HMV.out hBV HQ1.out htb)
                rw [htb] at HTab
                clear htb
                go_wp2_with fail
                refine HTab.out.mono ?_
                rintro e w6 ⟨rfl, own', A', j', k1, k2, k3, k4⟩
                have HP := hide (And.intro k1 (And.intro k2 (And.intro k3 (HJV.out.trans k4))))
                have q0 : w6.cell? ⟨Y, 0, none⟩ = some (.int .i64 kd) := (World.cell?_of_block (k4.block Y hYl (HMV.out.other HYV.out (by decide) (by decide) (by decide) (by decide) (by decide)))).trans y0
                have q11 : w6.cell? ⟨X, 11, none⟩ = some (.bool true) := (World.cell?_of_block (k4.block X hXl HFX.out)).trans u11
                have q12 : w6.cell? ⟨X, 12, none⟩ = some (.int .i64 x.li) := (World.cell?_of_block (k4.block X hXl HFX.out)).trans u12
                have b0 : w6.cell? ⟨A.a, 0, none⟩ = some (.pointer (some ⟨A'.bc, 0, none⟩)) := by have := k3.cells.1; rw [k1] at this; exact this
                have b1 : w6.cell? ⟨A.a, 1, none⟩ = some (.pointer (some ⟨A'.tb, 0, none⟩)) := by have := k3.cells.2.1; rw [k1] at this; exact this
                have b2 : w6.cell? ⟨A.a, 2, none⟩ = some (.int .i64 j'.life) := by have := k3.cells.2.2.1; rw [k1] at this; exact this
                clear k1 k2 k3 k4 HTab u0 u1 u2 u3 u4 u5 u6 u7 u8 u9 u10 u11 u12 u13 u14 a0 a1 a2 y0 hal hXl hYl
                go_wp2_with fail
                go_quiet (fail)
                go_wp2_with fail
                go_end0
                exact ⟨rfl, own', A', j', HP.out.1, HP.out.2.1.ups (by omega) hN, HP.out.2.2.1.below (below_drewN (Below.refl _ w6) nq), HP.out.2.2.2.trans (Jv.of_below (below_drewN (Below.refl _ w6) nq))⟩
              | false =>
                rw [htb] at u11
                by_cases hli : x.li = j.life
                · have HCal : Hid (∀ n, Calls Try.prog 51 #[.pointer (some ⟨A.a, 0, none⟩), .agg #[.int .i64 x.m.k, .int .i64 x.m.se, .int .i64 x.m.nu, .int .i64 x.m.jo, .int .i64 x.m.ba, .int .i64 x.m.ix, .int .i64 x.m.co, .int .i64 x.m.rc, .int .u64 (x.m.rb : Int), .string x.m.tx, .string x.m.pr, .bool false, .int .i64 x.li, .int .i64 x.ak, .int .i64 x.an]] (wc.drewN n) fun e w' => e = .returned (.tuple #[]) ∧ ∃ j', Inv own N j' ∧ Jm B w' { A with vw := v4 } j' ∧ Jv { A with vw := v4 } { A with vw := v4 } (wc.drewN n) w') := hide fun n => by
                    have := caller_any HI1.out (HMV.out.below (below_drewN (Below.refl _ wc) n)) HQ1.out htb hli
                    rw [htb] at this
                    exact this
                  have el : (x.li == j.life) = true := by simpa using hli
                  clear htb hli
                  go_wp2_with fail
                  go_quiet (fail)
                  go_wp2_with fail
                  refine (HCal.out _).mono ?_
                  rintro e w6 ⟨rfl, j', k2, k3, k4⟩
                  have HP := hide (And.intro k2 (And.intro k3 ((HJV.out.trans (Jv.of_below (below_drewN (Below.refl _ wc) nq))).trans k4)))
                  have b0 : w6.cell? ⟨A.a, 0, none⟩ = some (.pointer (some ⟨A.bc, 0, none⟩)) := k3.cells.1
                  have b1 : w6.cell? ⟨A.a, 1, none⟩ = some (.pointer (some ⟨A.tb, 0, none⟩)) := k3.cells.2.1
                  clear k2 k3 k4 HCal u0 u1 u2 u3 u4 u5 u6 u7 u8 u9 u10 u11 u12 u13 u14 a0 a1 a2 y0 hal hXl hYl
                  go_wp2_with fail
                  go_end0
                  exact ⟨rfl, own, _, j', by rfl, HP.out.1.ups (by omega) hN, HP.out.2.1, HP.out.2.2⟩
                · have el : (x.li == j.life) = false := by simpa using hli
                  clear htb hli u0 u1 u2 u3 u4 u5 u6 u7 u8 u9 u10 u13 u14
                  go_wp2_with fail
                  go_quiet (fail)
                  go_wp2_with fail
                  go_end0
                  exact ⟨rfl, own, _, _, by rfl, HI1.out.ups (by omega) hN, HMV.out.below (below_drewN (Below.refl _ wc) nq), HJV.out.trans (Jv.of_below (below_drewN (Below.refl _ wc) nq))⟩
          · exact absurd (h34.resolve_left h3) hx4
        · have n3 : (kd == 3) = false := by simpa using fun h => h34 (.inl h)
          have n4 : (kd == 4) = false := by simpa using fun h => h34 (.inr h)
          clear h34 h5
          go_wp2_with fail
          go_end0
          exact ⟨rfl, own, A, j, rfl, HI.out.ups (by omega) hN, HM.out, HJ.out⟩
    · have bt : decide (0 < j.way.length) = false := decide_eq_false h0
      by_cases h5 : kd = 5
      · exact absurd h5 hx5
      · have n5 : (kd == 5) = false := by simpa using h5
        by_cases h3 : kd = 3
        · have b3 : (kd == 3) = true := by rw [h3]; rfl
          clear h5 h3
          go_wp2_with fail
          go_end0
          exact ⟨rfl, own, A, j, rfl, HI.out.ups (by omega) hN, HM.out, HJ.out⟩
        · have n3 : (kd == 3) = false := by simpa using h3
          by_cases h4 : kd = 4
          · exact absurd h4 hx4
          · have n4 : (kd == 4) = false := by simpa using h4
            clear h5 h3 h4
            go_wp2_with fail
            go_end0
            exact ⟨rfl, own, A, j, rfl, HI.out.ups (by omega) hN, HM.out, HJ.out⟩
end
end Go.Proofs.Ytonoogiadgjodaa
