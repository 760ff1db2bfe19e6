import Derived.Test.YtepondcflkledaaGreatMgBI

section
namespace Go.Proofs.YtepondcflkledaaGreat.S
set_option maxRecDepth 20000
open Go.RowKit
open Rc (Ch)
open Q (Rr rr0 Qm Ft Mv)

theorem tl_inj {a b : ByteArray} (h : a.toList = b.toList) : a = b := by
  rw [ByteArray.toList_eq, ByteArray.toList_eq] at h
  exact Go.WideShapes.bytes_inj h
theorem list_eq_at {l m : List ByteArray} (h : l.length = m.length) (he : ∀ j, j < l.length → l[j]! = m[j]!) : l = m := by
  apply List.ext_getElem h
  intro i h1 h2
  have := he i h1
  rwa [getElem!_pos l i h1, getElem!_pos m i h2] at this
set_option maxHeartbeats 1000000 in
theorem texts_same {w : World} {u v : Value} {l m : List ByteArray} (hu : Tx w u l) (hv : Tx w v m) (hl : l.length ≤ 64) :
    Calls Tryz.prog 66 #[u, v] w fun e w' => e = .returned (.bool (decide (l = m))) ∧ Below w.heap.size w w' := by
  obtain ⟨p, cap, rfl, h1⟩ := hu
  obtain ⟨q, cq, rfl, h2⟩ := hv
  have H1 := hide h1
  have H2 := hide h2
  generalize hDD : decide (l = m) = DD
  clear h1 h2
  by_cases hlen : l.length = m.length
  case neg =>
    have bl : ((l.length : Int) != (m.length : Int)) = true := by simp; omega
    have HF : Hid (DD = false) := hide (by rw [← hDD]; exact decide_eq_false fun h => hlen (by rw [h]))
    clear hDD
    go_enter Tryz.func66, Tryz.ntmps66
    go_wp2
    go_ret
    exact ⟨by rw [HF.out]; rfl, Below.refl _ _⟩
  have bl : ((l.length : Int) != (m.length : Int)) = false := by simp; omega
  have HDD := hide hDD
  have HLn := hide hlen
  clear hDD
  go_enter Tryz.func66, Tryz.ntmps66
  go_wp2
  go_loopw [5] (fun u wr => ∃ i n : Nat, u = .int .i64 (i : Int) ∧ i ≤ l.length ∧ wr = w.drewN n ∧ Hid (∀ j, j < i → l[j]! = m[j]!)) (fun u _ => (l.length - (intOf u).toNat))
  case atStart => exact ⟨0, 0, rfl, Nat.zero_le _, rfl, hide (fun j hj => absurd hj (Nat.not_lt_zero _))⟩
  case round =>
    obtain ⟨i, n, rfl, hi, rfl, HJ⟩ := hrel
    by_cases hil : i < l.length
    · obtain ⟨b1, o1, rfl, hl1, hc1⟩ := H1.out (by omega)
      obtain ⟨b2, o2, rfl, hl2, hc2⟩ := H2.out (by omega)
      have c0 := hc1 i hil
      have c1 := hc2 i (by omega)
      have him : (i : Int) < (m.length : Int) := by omega
      clear hc1 hc2 H1 H2
      by_cases he : l[i]! = m[i]!
      · have HJ2 : Hid (∀ j, j < i + 1 → l[j]! = m[j]!) := hide fun j hj => by
          rcases Nat.lt_succ_iff_lt_or_eq.mp hj with h | h
          · exact HJ.out j h
          · rw [h]; exact he
        rw [← he] at c1
        generalize l[i]! = s at c0 c1
        clear he HJ
        go_wp2
        go_quiet (fail)
        go_wp2
        exact ⟨⟨i + 1, _, by go_num, by omega, rfl, HJ2⟩, by simp [intOf]; omega⟩
      · have HF : Hid (DD = false) := hide (by rw [← HDD.out]; exact decide_eq_false fun h => he (by rw [h]))
        have hbn : (l[i]!.toList == m[i]!.toList) = false := beq_eq_false_iff_ne.2 fun h => he (tl_inj h)
        have hbn' : ¬ l[i]!.toList = m[i]!.toList := fun h => he (tl_inj h)
        generalize l[i]! = s at *
        generalize m[i]! = s' at *
        clear he HJ HDD
        go_wp2
        go_quiet (fail)
        go_wp2
        go_ret
        exact ⟨by rw [HF.out]; rfl, below_drewN (below_drewN (Below.refl _ _) _) _⟩
    · obtain rfl : i = l.length := by omega
      have hki : ¬ ((l.length : Int) < (l.length : Int)) := by omega
      have HF : Hid (DD = true) := hide (by rw [← HDD.out]; exact decide_eq_true (list_eq_at HLn.out HJ.out))
      clear HJ HDD
      go_wp2
      go_ret
      exact ⟨by rw [HF.out]; rfl, below_drewN (Below.refl _ _) _⟩
set_option maxHeartbeats 1000000 in
set_option maxRecDepth 8000 in
theorem place_same {w : World} {r q : Rr} {P O : Pp} {t u : Value} (ht : Tx w t P.lg) (hu : Tx w u O.lg) (hl : P.lg.length ≤ 64) :
    Calls Tryz.prog 36 #[.agg (plC r P.pr t), .agg (plC q O.pr u)] w fun e w' => e = .returned (.bool (decide (r = q ∧ P = O))) ∧ Below w.heap.size w w' := by
  have heq : ∀ W : World, (binOp .eql 82 (.agg #[.int .i64 r.job, .int .i64 r.st, .int .i64 r.att, .int .i64 r.bdg, .int .i64 r.node, .int .i64 r.life, .int .i64 r.code, .int .u64 r.bits]) (.agg #[.int .i64 q.job, .int .i64 q.st, .int .i64 q.att, .int .i64 q.bdg, .int .i64 q.node, .int .i64 q.life, .int .i64 q.code, .int .u64 q.bits])).run Tryz.prog W = .ok (.bool (decide (r = q))) W := fun W => Q.eqlR_any r q W
  obtain ⟨pr, lg⟩ := P
  obtain ⟨pr', lg'⟩ := O
  simp only at ht hu hl ⊢
  obtain ⟨p, cap, rfl, _⟩ := id ht
  obtain ⟨o, co, rfl, _⟩ := id hu
  have hb1 := below_alloc w (.cells (plC r pr (.slice p lg.length cap)) 84)
  have HB : Hid (Below w.heap.size w ((w.alloc (.cells (plC r pr (.slice p lg.length cap)) 84)).alloc (.cells (plC q pr' (.slice o lg'.length co)) 84))) := hide (hb1.alloc hb1.size _)
  have HT := hide (texts_same (ht.below HB.out (Nat.le_refl _)) (hu.below HB.out (Nat.le_refl _)) hl)
  simp only [plC] at HB HT ⊢
  generalize hDD : decide (r = q ∧ (⟨pr, lg⟩ : Pp) = ⟨pr', lg'⟩) = DD
  have HDD := hide hDD
  clear ht hu hb1 hDD
  by_cases h1 : r = q
  case neg =>
    rw [decide_eq_false h1] at heq
    have HF : Hid (DD = false) := hide (by rw [← HDD.out]; exact decide_eq_false fun h => h1 h.1)
    clear HDD h1
    go_enter Tryz.func36, Tryz.ntmps36
    go_wp2_with fail
    go_ret
    exact ⟨by rw [HF.out]; rfl, HB.out⟩
  rw [decide_eq_true h1] at heq
  by_cases h2 : pr = pr'
  case neg =>
    have HF : Hid (DD = false) := hide (by rw [← HDD.out]; exact decide_eq_false fun h => h2 (congrArg Pp.pr h.2))
    have hbn : (pr.toList == pr'.toList) = false := beq_eq_false_iff_ne.2 fun h => h2 (tl_inj h)
    have hbn' : ¬ pr.toList = pr'.toList := fun h => h2 (tl_inj h)
    clear HDD h1 h2
    go_enter Tryz.func36, Tryz.ntmps36
    go_wp2_with fail
    go_ret
    exact ⟨by rw [HF.out]; rfl, HB.out⟩
  subst h2
  have HF : Hid (decide (lg = lg') = DD) := hide (by
    rw [← HDD.out]
    exact decide_eq_decide.mpr ⟨fun h => ⟨h1, by rw [h]⟩, fun h => congrArg Pp.lg h.2⟩)
  rw [HF.out] at HT
  clear HDD h1 HF
  go_enter Tryz.func36, Tryz.ntmps36
  go_wp2_with fail
  refine HT.out.mono ?_
  rintro e w1 ⟨rfl, hb⟩
  have HF := hide (HB.out.trans (hb.mono HB.out.size))
  clear hb HT
  go_wp2_with fail
  go_ret
  exact ⟨rfl, HF.out⟩
theorem jps_eq {s t : Sx} (hn : s.L.length = t.L.length) (h : ∀ i, i < s.L.length → s.L.getD i rr0 = t.L.getD i rr0 ∧ s.pa i = t.pa i) : jps s = jps t := by
  unfold jps
  rw [← hn]
  exact List.map_congr_left fun i hi => by have := h i (List.mem_range.1 hi); rw [this.1, this.2]
theorem jps_at {s t : Sx} (h : jps s = jps t) {i : Nat} (hi : i < s.L.length) : s.L.getD i rr0 = t.L.getD i rr0 ∧ s.pa i = t.pa i := by
  have hn : s.L.length = t.L.length := by rw [← jps_len s, ← jps_len t, h]
  have h5 := congrArg (fun l => l[i]?) h
  unfold jps at h5
  simp only [List.getElem?_map] at h5
  rw [List.getElem?_range hi, List.getElem?_range (by omega)] at h5
  simp only [Option.map_some, Option.some.injEq, Prod.mk.injEq] at h5
  exact h5
set_option maxHeartbeats 1000000 in
set_option maxRecDepth 20000 in
theorem view_same {A B : Nat} {w : World} {v1 v2 : Value} {J1 J2 : List Jb} {m : Int} {s t : Sx} (h1 : Jr A w v1 J1) (h2 : Jr B w v2 J2) (hW : Wf m s) (hX : Wf m t) (hn1 : J1.length = s.L.length) (hn2 : J2.length = t.L.length) (hv1 : Jv s J1 s.L.length) (hv2 : Jv t J2 t.L.length) :
    Calls Tryz.prog 14 #[.agg #[.int .i64 s.res, v1], .agg #[.int .i64 t.res, v2]] w fun e w' => e = .returned (.bool (decide (s.res = t.res ∧ jps s = jps t))) ∧ Below w.heap.size w w' := by
  have HJ1 := hide h1
  have HJ2 := hide h2
  have HV1' := hide hv1
  have HV2' := hide hv2
  have HW := hide hW
  have hl8 := hW.ok.len
  have hl9 := hX.ok.len
  obtain ⟨pa1, k1, e1⟩ := own_slice h1.row
  obtain ⟨pa2, k2, e2⟩ := own_slice h2.row
  rw [hn1] at e1
  rw [hn2] at e2
  subst e1
  subst e2
  generalize hDD : decide (s.res = t.res ∧ jps s = jps t) = DD
  have HDD := hide hDD
  obtain ⟨N, hN⟩ : ∃ N, s.L.length = N := ⟨_, rfl⟩
  obtain ⟨M, hM⟩ : ∃ M, t.L.length = M := ⟨_, rfl⟩
  have HN1 := hide hn1
  have HN2 := hide hn2
  have HNN := hide hN
  have HMM := hide hM
  rw [hN] at HV1' HN1 hl8 HJ1 ⊢
  rw [hM] at HV2' HN2 hl9 HJ2 ⊢
  have hs1 := World.size_alloc w (.cells #[.int .i64 s.res, .slice pa1 N k1] 45)
  have hn1' := heap_alloc_new w (.cells #[.int .i64 s.res, .slice pa1 N k1] 45)
  have hb2 := below_alloc (w.alloc (.cells #[.int .i64 s.res, .slice pa1 N k1] 45)) (.cells #[.int .i64 t.res, .slice pa2 M k2] 45)
  have hn2' := heap_alloc_new (w.alloc (.cells #[.int .i64 s.res, .slice pa1 N k1] 45)) (.cells #[.int .i64 t.res, .slice pa2 M k2] 45)
  rw [hs1] at hn2'
  have HX1 := hide ((hb2.block _ (lt_of_block hn1')).trans hn1')
  have HX2 := hide hn2'
  have HB0 : Hid (Below w.heap.size w ((w.alloc (.cells #[.int .i64 s.res, .slice pa1 N k1] 45)).alloc (.cells #[.int .i64 t.res, .slice pa2 M k2] 45))) := hide ((below_alloc w _).alloc (by omega) _)
  clear h1 h2 hW hX hv1 hv2 hn1 hn2 hN hM hs1 hn1' hb2 hn2' hDD
  by_cases hr : s.res = t.res
  case neg =>
    have HF : Hid (DD = false) := hide (by rw [← HDD.out]; exact decide_eq_false fun h => hr h.1)
    have b1 : decide (s.res = t.res) = false := decide_eq_false hr
    have b2 : (s.res != t.res) = true := by simpa using hr
    clear HDD hr HJ1 HJ2 HV1' HV2' HW
    go_enter Tryz.func14, Tryz.ntmps14
    go_wp2_with fail
    go_ret
    exact ⟨by rw [HF.out]; rfl, HB0.out⟩
  have HRe := hide hr
  have b1 : decide (s.res = t.res) = true := decide_eq_true hr
  have b2 : (s.res != t.res) = false := by simpa using hr
  by_cases hNM : N = M
  case neg =>
    have HF : Hid (DD = false) := hide (by rw [← HDD.out]; exact decide_eq_false fun h => hNM (by rw [← HNN.out, ← HMM.out, ← jps_len s, ← jps_len t, h.2]))
    have bl : ((N : Int) != (M : Int)) = true := by simp; omega
    clear HDD hr hNM HJ1 HJ2 HV1' HV2' HW
    go_enter Tryz.func14, Tryz.ntmps14
    go_wp2_with fail
    go_ret
    exact ⟨by rw [HF.out]; rfl, HB0.out⟩
  subst hNM
  clear hr
  go_enter Tryz.func14, Tryz.ntmps14
  go_wp2_with fail
  generalize (w.alloc _).alloc _ = W0 at *
  go_loopw [5] (fun u wr => ∃ i : Nat, u = .int .i64 (i : Int) ∧ i ≤ N ∧ Hid (∀ j, j < i → s.L.getD j rr0 = t.L.getD j rr0 ∧ s.pa j = t.pa j) ∧ Hid (Below w.heap.size w wr) ∧ Hid (wr.heap[w.heap.size]? = some (.cells #[.int .i64 s.res, .slice pa1 N k1] 45 (0, 0))) ∧ Hid (wr.heap[w.heap.size + 1]? = some (.cells #[.int .i64 t.res, .slice pa2 N k2] 45 (0, 0)))) (fun u _ => N - (intOf u).toNat)
  case atStart => exact ⟨0, rfl, Nat.zero_le _, hide (fun j hj => absurd hj (Nat.not_lt_zero _)), HB0, HX1, HX2⟩
  case round =>
    clear HB0 HX1 HX2
    obtain ⟨i, rfl, hi, HEq, HBr, HV1, HV2⟩ := hrel
    have u1 : wr.cell? ⟨w.heap.size, 1, none⟩ = some (.slice pa1 N k1) := by simp [World.cell?, HV1.out]
    by_cases hil : i < N
    · rcases HJ1.out.row.2 with ⟨e1, e2⟩ | ⟨g1, cap1, cur1, e1, _, hgc1, _⟩
      · have := HN1.out; omega
      rcases HJ2.out.row.2 with ⟨e3, e4⟩ | ⟨g2, cap2, cur2, e3, _, hgc2, _⟩
      · have := HN2.out; omega
      simp only [Value.slice.injEq] at e1 e3
      obtain ⟨rfl, -, rfl⟩ := e1
      obtain ⟨rfl, -, rfl⟩ := e3
      have hg1 := lt_of_block hgc1
      have hg2 := lt_of_block hgc2
      obtain ⟨t1, ht1⟩ := HV1'.out i hil
      obtain ⟨t2, ht2⟩ := HV2'.out i hil
      have hi1 : i < J1.length := by have := HN1.out; omega
      have hi2 : i < J2.length := by have := HN2.out; omega
      rw [List.getElem?_eq_getElem hi1, Option.some.injEq] at ht1
      rw [List.getElem?_eq_getElem hi2, Option.some.injEq] at ht2
      have hpp := HW.out.pp i
      have hm1 := HJ1.out.lg J1[i] (List.getElem_mem hi1)
      have hm2 := HJ2.out.lg J2[i] (List.getElem_mem hi2)
      have hc1 : ∀ k u, k < 10 → (J1[i]).cs[k]? = some u → w.cell? ⟨g1, i * 10 + k, none⟩ = some u := fun k u hk hu => by
        have h3 := HJ1.out.row.cells (g := g1) rfl (i * 10 + k) u (by rw [jcs_get J1 i k hi1 hk]; exact hu)
        rw [Addr.add_lit, Nat.zero_add] at h3
        exact h3
      have hc2 : ∀ k u, k < 10 → (J2[i]).cs[k]? = some u → w.cell? ⟨g2, i * 10 + k, none⟩ = some u := fun k u hk hu => by
        have h3 := HJ2.out.row.cells (g := g2) rfl (i * 10 + k) u (by rw [jcs_get J2 i k hi2 hk]; exact hu)
        rw [Addr.add_lit, Nat.zero_add] at h3
        exact h3
      rw [ht1] at hc1 hm1
      rw [ht2] at hc2 hm2
      generalize hrr1 : s.L.getD i rr0 = r1 at *
      generalize hrr2 : t.L.getD i rr0 = r2 at *
      obtain ⟨P1, hP1⟩ : ∃ P1, s.pa i = P1 := ⟨_, rfl⟩
      obtain ⟨P2, hP2⟩ : ∃ P2, t.pa i = P2 := ⟨_, rfl⟩
      rw [hP1] at hc1 hm1 hpp
      rw [hP2] at hc2 hm2
      obtain ⟨D, hD⟩ : ∃ D, decide (r1 = r2 ∧ P1 = P2) = D := ⟨_, rfl⟩
      have HDe : Hid (D = true → s.L.getD i rr0 = t.L.getD i rr0 ∧ s.pa i = t.pa i) := hide fun h => by rw [hrr1, hrr2, hP1, hP2]; rw [h] at hD; exact of_decide_eq_true hD
      have HDn : Hid (D = false → DD = false) := hide fun h => by
        rw [h] at hD
        rw [← HDD.out]
        refine decide_eq_false fun h6 => of_decide_eq_false hD ?_
        have h7 := jps_at h6.2 (i := i) (by rw [HNN.out]; exact hil)
        rw [hrr1, hrr2, hP1, hP2] at h7
        exact h7
      have HPl : Hid (∀ V, Below w.heap.size w V → Calls Tryz.prog 36 #[.agg (plC r1 P1.pr t1), .agg (plC r2 P2.pr t2)] V fun e w' => e = .returned (.bool D) ∧ Below V.heap.size V w') := hide fun V hV => by
        have h9 := place_same (w := V) (r := r1) (q := r2) (P := P1) (O := P2) (t := t1) (u := t2) ((tx_own hm1).below hV (Nat.le_refl _)) ((tx_own hm2).below hV (Nat.le_refl _)) (by have := hpp.2.1; omega)
        rw [hD] at h9
        exact h9
      obtain ⟨pr1, lg1⟩ := P1
      obtain ⟨pr2, lg2⟩ := P2
      simp only at hm1 hm2 hpp
      obtain ⟨p1, c1, rfl⟩ := own_slice hm1
      obtain ⟨p2, c2, rfl⟩ := own_slice hm2
      have HP := HPl
      simp only [plC] at HP
      generalize lg1.length = n1 at *
      generalize lg2.length = n2 at *
      have hii : (i : Int) < (N : Int) := by omega
      have HCe : Hid (∀ w' : World, (fun w' => Below w.heap.size w w' ∧ w'.heap[w.heap.size]? = some (.cells #[.int .i64 s.res, .slice (some ⟨g1, 0, none⟩) N k1] 45 (0, 0)) ∧ w'.heap[w.heap.size + 1]? = some (.cells #[.int .i64 t.res, .slice (some ⟨g2, 0, none⟩) N k2] 45 (0, 0))) w' → w'.cell? ⟨w.heap.size, 1, none⟩ = some (.slice (some ⟨g1, 0, none⟩) N k1) ∧ w'.cell? ⟨w.heap.size + 1, 1, none⟩ = some (.slice (some ⟨g2, 0, none⟩) N k2) ∧ w'.cell? ⟨g1, i * 10, none⟩ = some (.int .i64 r1.job) ∧ w'.cell? ⟨g1, i * 10 + 1, none⟩ = some (.int .i64 r1.st) ∧ w'.cell? ⟨g1, i * 10 + 2, none⟩ = some (.int .i64 r1.att) ∧ w'.cell? ⟨g1, i * 10 + 3, none⟩ = some (.int .i64 r1.bdg) ∧ w'.cell? ⟨g1, i * 10 + 4, none⟩ = some (.int .i64 r1.node) ∧ w'.cell? ⟨g1, i * 10 + 5, none⟩ = some (.int .i64 r1.life) ∧ w'.cell? ⟨g1, i * 10 + 6, none⟩ = some (.int .i64 r1.code) ∧ w'.cell? ⟨g1, i * 10 + 7, none⟩ = some (.int .u64 r1.bits) ∧ w'.cell? ⟨g1, i * 10 + 8, none⟩ = some (.string pr1) ∧ w'.cell? ⟨g1, i * 10 + 9, none⟩ = some (.slice p1 n1 c1) ∧ w'.cell? ⟨g2, i * 10, none⟩ = some (.int .i64 r2.job) ∧ w'.cell? ⟨g2, i * 10 + 1, none⟩ = some (.int .i64 r2.st) ∧ w'.cell? ⟨g2, i * 10 + 2, none⟩ = some (.int .i64 r2.att) ∧ w'.cell? ⟨g2, i * 10 + 3, none⟩ = some (.int .i64 r2.bdg) ∧ w'.cell? ⟨g2, i * 10 + 4, none⟩ = some (.int .i64 r2.node) ∧ w'.cell? ⟨g2, i * 10 + 5, none⟩ = some (.int .i64 r2.life) ∧ w'.cell? ⟨g2, i * 10 + 6, none⟩ = some (.int .i64 r2.code) ∧ w'.cell? ⟨g2, i * 10 + 7, none⟩ = some (.int .u64 r2.bits) ∧ w'.cell? ⟨g2, i * 10 + 8, none⟩ = some (.string pr2) ∧ w'.cell? ⟨g2, i * 10 + 9, none⟩ = some (.slice p2 n2 c2)) := hide fun w' hw => ⟨by simp [World.cell?, hw.2.1], by simp [World.cell?, hw.2.2], (hw.1.cell (p := ⟨g1, i * 10, none⟩) hg1).trans (hc1 0 _ (by decide) rfl), (hw.1.cell (p := ⟨g1, i * 10 + 1, none⟩) hg1).trans (hc1 1 _ (by decide) rfl), (hw.1.cell (p := ⟨g1, i * 10 + 2, none⟩) hg1).trans (hc1 2 _ (by decide) rfl), (hw.1.cell (p := ⟨g1, i * 10 + 3, none⟩) hg1).trans (hc1 3 _ (by decide) rfl), (hw.1.cell (p := ⟨g1, i * 10 + 4, none⟩) hg1).trans (hc1 4 _ (by decide) rfl), (hw.1.cell (p := ⟨g1, i * 10 + 5, none⟩) hg1).trans (hc1 5 _ (by decide) rfl), (hw.1.cell (p := ⟨g1, i * 10 + 6, none⟩) hg1).trans (hc1 6 _ (by decide) rfl), (hw.1.cell (p := ⟨g1, i * 10 + 7, none⟩) hg1).trans (hc1 7 _ (by decide) rfl), (hw.1.cell (p := ⟨g1, i * 10 + 8, none⟩) hg1).trans (hc1 8 _ (by decide) rfl), (hw.1.cell (p := ⟨g1, i * 10 + 9, none⟩) hg1).trans (hc1 9 _ (by decide) rfl), (hw.1.cell (p := ⟨g2, i * 10, none⟩) hg2).trans (hc2 0 _ (by decide) rfl), (hw.1.cell (p := ⟨g2, i * 10 + 1, none⟩) hg2).trans (hc2 1 _ (by decide) rfl), (hw.1.cell (p := ⟨g2, i * 10 + 2, none⟩) hg2).trans (hc2 2 _ (by decide) rfl), (hw.1.cell (p := ⟨g2, i * 10 + 3, none⟩) hg2).trans (hc2 3 _ (by decide) rfl), (hw.1.cell (p := ⟨g2, i * 10 + 4, none⟩) hg2).trans (hc2 4 _ (by decide) rfl), (hw.1.cell (p := ⟨g2, i * 10 + 5, none⟩) hg2).trans (hc2 5 _ (by decide) rfl), (hw.1.cell (p := ⟨g2, i * 10 + 6, none⟩) hg2).trans (hc2 6 _ (by decide) rfl), (hw.1.cell (p := ⟨g2, i * 10 + 7, none⟩) hg2).trans (hc2 7 _ (by decide) rfl), (hw.1.cell (p := ⟨g2, i * 10 + 8, none⟩) hg2).trans (hc2 8 _ (by decide) rfl), (hw.1.cell (p := ⟨g2, i * 10 + 9, none⟩) hg2).trans (hc2 9 _ (by decide) rfl)⟩
      clear hc1 hc2 hm1 hm2 ht1 ht2 hgc1 hgc2 hpp HPl hrr1 hrr2 hP1 hP2 hD
      go_upto_region 6 with fail
      refine wp_region_held_drew (S := fun w' => Below w.heap.size w w' ∧ w'.heap[w.heap.size]? = some (.cells #[.int .i64 s.res, .slice (some ⟨g1, 0, none⟩) N k1] 45 (0, 0)) ∧ w'.heap[w.heap.size + 1]? = some (.cells #[.int .i64 t.res, .slice (some ⟨g2, 0, none⟩) N k2] 45 (0, 0))) (by kernel_rfl) (⟨HBr.out.drew, HV1.out, HV2.out⟩) (fun hHeld => ?_)
      refine wpAnyH_take (i := 0) (v := .pointer (some ⟨w.heap.size, 1, none⟩)) rfl (by kernel_rfl) (by kernel_rfl) (by kernel_rfl) (fun _ _ _ h => h) (Or.inl ⟨by kernel_rfl, fun w1 hSw => by clear hHeld; obtain ⟨f0, f1, f2, f3, f4, f5, f6, f7, f8, f9, f10, f11, f12, f13, f14, f15, f16, f17, f18, f19, f20, f21⟩ := HCe.out _ hSw; go_simp⟩) hHeld ?_
      try simp only [Act.put]
      try simp only [List.getElem_toArray]
      try simp only [List.getElem_cons_succ]
      try simp only [List.getElem_cons_zero]
      try simp only [List.setIfInBounds_toArray]
      try simp only [List.set_cons_succ, List.set_cons_zero]
      refine wpAnyH_take (i := 1) (v := .slice (some ⟨g1, 0, none⟩) N k1) rfl (by kernel_rfl) (by kernel_rfl) (by kernel_rfl) (fun _ _ _ h => h) (Or.inl ⟨by kernel_rfl, fun w1 hSw => by clear hHeld; obtain ⟨f0, f1, f2, f3, f4, f5, f6, f7, f8, f9, f10, f11, f12, f13, f14, f15, f16, f17, f18, f19, f20, f21⟩ := HCe.out _ hSw; go_simp⟩) hHeld ?_
      try simp only [Act.put]
      try simp only [List.getElem_toArray]
      try simp only [List.getElem_cons_succ]
      try simp only [List.getElem_cons_zero]
      try simp only [List.setIfInBounds_toArray]
      try simp only [List.set_cons_succ, List.set_cons_zero]
      refine wpAnyH_take (i := 2) (v := .int .i64 (i : Int)) rfl (by kernel_rfl) (by kernel_rfl) (by kernel_rfl) (fun _ _ _ h => h) (Or.inl ⟨by kernel_rfl, fun w1 hSw => by clear hHeld; obtain ⟨f0, f1, f2, f3, f4, f5, f6, f7, f8, f9, f10, f11, f12, f13, f14, f15, f16, f17, f18, f19, f20, f21⟩ := HCe.out _ hSw; go_simp⟩) hHeld ?_
      try simp only [Act.put]
      try simp only [List.getElem_toArray]
      try simp only [List.getElem_cons_succ]
      try simp only [List.getElem_cons_zero]
      try simp only [List.setIfInBounds_toArray]
      try simp only [List.set_cons_succ, List.set_cons_zero]
      refine wpAnyH_take (i := 3) (v := .pointer (some ⟨g1, i * 10, none⟩)) rfl (by kernel_rfl) (by kernel_rfl) (by kernel_rfl) (fun _ _ _ h => h) (Or.inl ⟨by kernel_rfl, fun w1 hSw => by clear hHeld; obtain ⟨f0, f1, f2, f3, f4, f5, f6, f7, f8, f9, f10, f11, f12, f13, f14, f15, f16, f17, f18, f19, f20, f21⟩ := HCe.out _ hSw; go_simp⟩) hHeld ?_
      try simp only [Act.put]
      try simp only [List.getElem_toArray]
      try simp only [List.getElem_cons_succ]
      try simp only [List.getElem_cons_zero]
      try simp only [List.setIfInBounds_toArray]
      try simp only [List.set_cons_succ, List.set_cons_zero]
      refine wpAnyH_take (i := 4) (v := .agg #[.int .i64 r1.job, .int .i64 r1.st, .int .i64 r1.att, .int .i64 r1.bdg, .int .i64 r1.node, .int .i64 r1.life, .int .i64 r1.code, .int .u64 r1.bits, .string pr1, .slice p1 n1 c1]) rfl (by kernel_rfl) (by kernel_rfl) (by kernel_rfl) (fun _ _ _ h => h) (Or.inl ⟨by kernel_rfl, fun w1 hSw => by clear hHeld; obtain ⟨f0, f1, f2, f3, f4, f5, f6, f7, f8, f9, f10, f11, f12, f13, f14, f15, f16, f17, f18, f19, f20, f21⟩ := HCe.out _ hSw; go_simp⟩) hHeld ?_
      try simp only [Act.put]
      try simp only [List.getElem_toArray]
      try simp only [List.getElem_cons_succ]
      try simp only [List.getElem_cons_zero]
      try simp only [List.setIfInBounds_toArray]
      try simp only [List.set_cons_succ, List.set_cons_zero]
      refine wpAnyH_take (i := 5) (v := .pointer (some ⟨w.heap.size + 1, 1, none⟩)) rfl (by kernel_rfl) (by kernel_rfl) (by kernel_rfl) (fun _ _ _ h => h) (Or.inl ⟨by kernel_rfl, fun w1 hSw => by clear hHeld; obtain ⟨f0, f1, f2, f3, f4, f5, f6, f7, f8, f9, f10, f11, f12, f13, f14, f15, f16, f17, f18, f19, f20, f21⟩ := HCe.out _ hSw; go_simp⟩) hHeld ?_
      try simp only [Act.put]
      try simp only [List.getElem_toArray]
      try simp only [List.getElem_cons_succ]
      try simp only [List.getElem_cons_zero]
      try simp only [List.setIfInBounds_toArray]
      try simp only [List.set_cons_succ, List.set_cons_zero]
      refine wpAnyH_take (i := 6) (v := .slice (some ⟨g2, 0, none⟩) N k2) rfl (by kernel_rfl) (by kernel_rfl) (by kernel_rfl) (fun _ _ _ h => h) (Or.inl ⟨by kernel_rfl, fun w1 hSw => by clear hHeld; obtain ⟨f0, f1, f2, f3, f4, f5, f6, f7, f8, f9, f10, f11, f12, f13, f14, f15, f16, f17, f18, f19, f20, f21⟩ := HCe.out _ hSw; go_simp⟩) hHeld ?_
      try simp only [Act.put]
      try simp only [List.getElem_toArray]
      try simp only [List.getElem_cons_succ]
      try simp only [List.getElem_cons_zero]
      try simp only [List.setIfInBounds_toArray]
      try simp only [List.set_cons_succ, List.set_cons_zero]
      refine wpAnyH_take (i := 7) (v := .int .i64 (i : Int)) rfl (by kernel_rfl) (by kernel_rfl) (by kernel_rfl) (fun _ _ _ h => h) (Or.inl ⟨by kernel_rfl, fun w1 hSw => by clear hHeld; obtain ⟨f0, f1, f2, f3, f4, f5, f6, f7, f8, f9, f10, f11, f12, f13, f14, f15, f16, f17, f18, f19, f20, f21⟩ := HCe.out _ hSw; go_simp⟩) hHeld ?_
      try simp only [Act.put]
      try simp only [List.getElem_toArray]
      try simp only [List.getElem_cons_succ]
      try simp only [List.getElem_cons_zero]
      try simp only [List.setIfInBounds_toArray]
      try simp only [List.set_cons_succ, List.set_cons_zero]
      refine wpAnyH_take (i := 8) (v := .pointer (some ⟨g2, i * 10, none⟩)) rfl (by kernel_rfl) (by kernel_rfl) (by kernel_rfl) (fun _ _ _ h => h) (Or.inl ⟨by kernel_rfl, fun w1 hSw => by clear hHeld; obtain ⟨f0, f1, f2, f3, f4, f5, f6, f7, f8, f9, f10, f11, f12, f13, f14, f15, f16, f17, f18, f19, f20, f21⟩ := HCe.out _ hSw; go_simp⟩) hHeld ?_
      try simp only [Act.put]
      try simp only [List.getElem_toArray]
      try simp only [List.getElem_cons_succ]
      try simp only [List.getElem_cons_zero]
      try simp only [List.setIfInBounds_toArray]
      try simp only [List.set_cons_succ, List.set_cons_zero]
      refine wpAnyH_take (i := 9) (v := .agg #[.int .i64 r2.job, .int .i64 r2.st, .int .i64 r2.att, .int .i64 r2.bdg, .int .i64 r2.node, .int .i64 r2.life, .int .i64 r2.code, .int .u64 r2.bits, .string pr2, .slice p2 n2 c2]) rfl (by kernel_rfl) (by kernel_rfl) (by kernel_rfl) (fun _ _ _ h => h) (Or.inl ⟨by kernel_rfl, fun w1 hSw => by clear hHeld; obtain ⟨f0, f1, f2, f3, f4, f5, f6, f7, f8, f9, f10, f11, f12, f13, f14, f15, f16, f17, f18, f19, f20, f21⟩ := HCe.out _ hSw; go_simp⟩) hHeld ?_
      try simp only [Act.put]
      try simp only [List.getElem_toArray]
      try simp only [List.getElem_cons_succ]
      try simp only [List.getElem_cons_zero]
      try simp only [List.setIfInBounds_toArray]
      try simp only [List.set_cons_succ, List.set_cons_zero]
      refine wpAnyH_ready (rs := [10]) (by kernel_rfl) (by simp) ?_
      refine AllReadyH.cons rfl (fun K hK => ?_) AllReadyH.nil
      go_simp
      refine (HP.out _ hHeld.1).mono ?_
      rintro e V1 ⟨rfl, hb⟩
      have HS1 := hide (⟨hHeld.1.trans (hb.mono hHeld.1.size), (hb.block _ (lt_of_block hHeld.2.1)).trans hHeld.2.1, (hb.block _ (lt_of_block hHeld.2.2)).trans hHeld.2.2⟩ : _ ∧ _ ∧ _)
      clear hb
      refine hK.out _ _ (HS1.out) (fun hHeld => ?_)
      clear hK K
      try simp only [Act.put]
      try simp only [List.getElem_toArray]
      try simp only [List.getElem_cons_succ]
      try simp only [List.getElem_cons_zero]
      try simp only [List.setIfInBounds_toArray]
      try simp only [List.set_cons_succ, List.set_cons_zero]
      refine wpAnyH_take (i := 11) (v := .bool D) rfl (by kernel_rfl) (by kernel_rfl) (by kernel_rfl) (fun _ _ _ h => h) (Or.inl ⟨by kernel_rfl, fun w1 hSw => by clear hHeld; obtain ⟨f0, f1, f2, f3, f4, f5, f6, f7, f8, f9, f10, f11, f12, f13, f14, f15, f16, f17, f18, f19, f20, f21⟩ := HCe.out _ hSw; go_simp⟩) hHeld ?_
      try simp only [Act.put]
      try simp only [List.getElem_toArray]
      try simp only [List.getElem_cons_succ]
      try simp only [List.getElem_cons_zero]
      try simp only [List.setIfInBounds_toArray]
      try simp only [List.set_cons_succ, List.set_cons_zero]
      refine wpAnyH_done (by kernel_rfl) ?_ _
      have HBf := hide HS1.out.1
      have HV1f := hide HS1.out.2.1
      have HV2f := hide HS1.out.2.2
      clear HS1 hHeld HP HCe HBr HV1 HV2
      cases D with
      | true =>
        have HEq2 : Hid (∀ j, j < i + 1 → s.L.getD j rr0 = t.L.getD j rr0 ∧ s.pa j = t.pa j) := hide fun j hj => by
          rcases Nat.lt_succ_iff_lt_or_eq.mp hj with h | h
          · exact HEq.out j h
          · rw [h]; exact HDe.out rfl
        go_wp2_with fail
        go_roundw
        case rel => exact ⟨i + 1, by go_num, by omega, HEq2, HBf, HV1f, HV2f⟩
        case measure => simp only [intOf]; omega
      | false =>
        have HF : Hid (DD = false) := hide (HDn.out rfl)
        clear HDn HDe HDD
        go_wp2_with fail
        go_ret
        exact ⟨by rw [HF.out]; rfl, HBf.out⟩
    · obtain rfl : i = N := by omega
      have hii : ¬ ((i : Int) < (i : Int)) := by omega
      have HF : Hid (DD = true) := hide (by rw [← HDD.out]; exact decide_eq_true ⟨HRe.out, jps_eq (by rw [HNN.out, HMM.out]) (by rw [HNN.out]; exact HEq.out)⟩)
      clear HJ1 HJ2 HV1' HV2' HW HDD HEq
      go_wp2_with fail
      go_ret
      exact ⟨by rw [HF.out]; rfl, HBr.out⟩
/-- the same to see, the same -/
theorem see_eq {m : Int} {s t : Sx} (hs : Wf m s) (ht : Wf m t) (zs : Pz s) (zt : Pz t) : (s.res = t.res ∧ jps s = jps t) ↔ bys s = bys t := by
  constructor
  · rintro ⟨h1, h2⟩
    have hn : s.L.length = t.L.length := by rw [← jps_len s, ← jps_len t, h2]
    unfold bys
    rw [sbs_jps, sbs_jps, h1, h2, hn]
  · intro h
    have := bys_inj hs ht zs zt h
    rw [this]
    exact ⟨rfl, rfl⟩
end Go.Proofs.YtepondcflkledaaGreat.S
end
