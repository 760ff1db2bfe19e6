import Derived.Test.YthnmjjlbocofbaaQuV
namespace Go.Proofs.Ythnmjjlbocofbaa
open Go.RowKit

theorem opF_bd {m : Int} (m1 : 1 ≤ m) (m8 : m ≤ 8) (i : Nat) (a : Int × Int) (r : Rr) (ha : 0 ≤ a.1 ∧ a.1 ≤ i ∧ 0 ≤ a.2 ∧ a.2 ≤ 8 * i) (h0 : 0 ≤ r.att) (h1 : r.att ≤ m) : 0 ≤ (opF m a r).1 ∧ (opF m a r).1 ≤ (i + 1 : Nat) ∧ 0 ≤ (opF m a r).2 ∧ (opF m a r).2 ≤ 8 * (i + 1 : Nat) := by
  unfold opF
  split
  · show 0 ≤ a.1 + 1 ∧ a.1 + 1 ≤ _ ∧ 0 ≤ a.2 + m - r.att ∧ a.2 + m - r.att ≤ _
    omega
  · omega
/-- what Find finds of a row's badge -/
theorem Ok.fnd_at {m : Int} {L : List Rr} (h : Ok m L) (k : Nat) (hk : k < L.length) : (0 < (L[k]).bdg ∧ fnd (L[k]).bdg L = L[k] ∧ (!decide (L[k] = rr0)) = true) ∨ ((L[k]).bdg = 0 ∧ fnd 0 L = rr0) := by
  have hz : ∀ i (hi : i < L.length), (L[i]).bdg = 0 → ¬ 0 < (L[i]).att := fun i hi e => by
    rcases h.bd i hi with ⟨a, _⟩ | ⟨_, a, _⟩ <;> omega
  have hb := h.bdg k hk
  by_cases h0 : 0 < (L[k]).bdg
  · left
    have ha : 0 < (L[k]).att := by
      rcases h.bd k hk with ⟨_, a⟩ | ⟨a, _, _⟩
      · omega
      · have := h.att k hk; omega
    refine ⟨h0, ?_, ?_⟩
    · rcases fnd_or (L[k]).bdg L with ⟨_, a⟩ | ⟨j, hj, a, b, c⟩
      · exact absurd ⟨ha, rfl⟩ (a k hk)
      · have := h.uni k j hk hj h0 c.symm
        subst this
        exact a
    · rw [decide_eq_false fun e => by rw [e] at h0; exact absurd h0 (by decide)]; rfl
  · right
    refine ⟨by omega, ?_⟩
    rcases fnd_or 0 L with ⟨a, _⟩ | ⟨j, hj, _, b, c⟩
    · exact a
    · exact absurd b (hz j hj c)
theorem Ok.fnd_0 {m : Int} {L : List Rr} (h : Ok m L) : fnd 0 L = rr0 := by
  rcases fnd_or 0 L with ⟨a, _⟩ | ⟨j, hj, _, b, c⟩
  · exact a
  · rcases h.bd j hj with ⟨a, _⟩ | ⟨_, a, _⟩ <;> omega
set_option maxHeartbeats 8000000 in
set_option maxRecDepth 8000 in
theorem queueFinds_walk {w : World} {x : Int} (_ : -9223372036854775808 ≤ x ∧ x ≤ 9223372036854775807) {ad : Option Addr} {ab ao cap : Nat} {Q : List Rr} (hQ : Rs w ad ab ao Q) (hQl : Q.length ≤ 2199023255488) (_ : ∀ i (h : i < Q.length), -9223372036854775808 ≤ (Q[i]).job ∧ (Q[i]).job ≤ 9223372036854775807) :
    Calls Try.prog 7 #[.int .i64 x, .slice ad Q.length cap] w fun e w' => e = .returned (.bool true) ∧ Below w.heap.size w w' := by
  have HN := hide (qnew_any w x)
  have HS := hide hQ
  have hg := guardR
  clear hQ
  go_enter Try.func7, Try.ntmps7
  go_wp2_with fail
  refine HN.out.mono ?_
  rintro e w1 (⟨h, rfl, hB1⟩ | ⟨b, v, hk, rfl, hq, hB1⟩)
  · have HB1 := hide hB1
    clear HN h hB1
    go_wp2_with fail
    refine (fixed_any _).mono ?_
    rintro e w2 ⟨rfl, hB2⟩
    go_wp2_with fail
    go_ret
    exact ⟨rfl, HB1.out.trans (hB2.mono HB1.out.size)⟩
  have HQ : Hid (Qt w b v x [] w1) := hide ⟨hq, hB1⟩
  have HK := hide hk
  have m1 := hk.m1
  have m8 := hk.m8
  clear HN hk hq hB1
  go_wp2_with fail
  go_loopw [7] (fun s wr => ∃ (i : Nat) (v : Value) (L : List Rr), i ≤ Q.length ∧ s = .int .i64 (i : Int) ∧ Hid (Ok x L) ∧ Hid (Qt w b v x L wr)) (fun s _ => Q.length - (intOf s).toNat)
  case atStart => exact ⟨0, v, [], Nat.zero_le _, rfl, HK, HQ⟩
  case round =>
    clear HK HQ
    obtain ⟨i, v, L, hi, rfl, HK, HQ⟩ := hrel
    by_cases hiq : i < Q.length
    · have hii : (i : Int) < (Q.length : Int) := by omega
      have hat := HS.out.at_ (by omega)
      subst hat
      have hS := HS.out.below HQ.out.bel
      obtain ⟨c0, c1, c2, c3, c4, c5, c6, c7⟩ := hS.eight hiq
      have hlt := hS.lt (by omega)
      clear hS
      generalize Q[i] = o at *
      go_wp2_with fail
      refine (does_any HQ.out.q HK.out o).mono ?_
      rintro e w3 ⟨rfl, v3, hq3, hm3⟩
      have HQ3 := hide (HQ.out.mv hq3 hm3)
      have HK3 := hide (HK.out.does o)
      generalize dsL x L o = M at *
      generalize dsB L o = B at *
      clear hq3 hm3 HQ c0 c1 c2 c3 c4 c5 c6 c7 HK
      have hM8 := HK3.out.len
      go_wp2_with fail
      refine (qrows_any HQ3.out.q hM8).mono ?_
      rintro e w4 ⟨rfl, ho4, hB4⟩
      have HQ4 := hide (HQ3.out.below hB4)
      have HT4 := hide (Rs.own0 ho4)
      obtain ⟨G, hG⟩ : ∃ G, w3.heap.size = G := ⟨_, rfl⟩
      rw [hG] at HT4 ⊢
      clear ho4 hB4 hG HQ3
      go_wp2_with fail
      go_loopw [9, 10, 11, 12] (fun a c d s wq => ∃ (k : Nat) (p : Int × Int), k ≤ M.length ∧ a = .int .i64 ((M.take k).foldl hdF 0) ∧ c = .int .i64 p.1 ∧ d = .int .i64 p.2 ∧ s = .int .i64 (k : Int) ∧ (0 ≤ p.1 ∧ p.1 ≤ k ∧ 0 ≤ p.2 ∧ p.2 ≤ 8 * k) ∧ Hid (p = (M.take k).foldl (opF x) (0, 0)) ∧ Hid (Qt w b v3 x M wq ∧ Rs wq (some ⟨G, 0, none⟩) G 0 M)) (fun _ _ _ s _ => M.length - (intOf s).toNat)
      case atStart => exact ⟨0, (0, 0), Nat.zero_le _, rfl, rfl, rfl, rfl, by simp, hide rfl, hide ⟨HQ4.out, HT4.out⟩⟩
      case round =>
        clear HQ4 HT4
        obtain ⟨k, p, hk, rfl, rfl, rfl, rfl, hp, HP, HX⟩ := hrel
        by_cases hkk : k < M.length
        · have hkI : (k : Int) < (M.length : Int) := by omega
          have hRow := fun V (h : Qm 73 w.heap.size V b v3 x M) => qrow_any h hM8 ((k : Int) + 1)
          rw [rowR_at hkk, show rowB M ((k : Int) + 1) = true from decide_eq_true (by omega)] at hRow
          have HRow := hide hRow
          have hbd := opF_bd m1 m8 k p M[k] hp (HK3.out.att k hkk).1 (HK3.out.att k hkk).2
          have ha := HK3.out.att k hkk
          have HJ := hide (HK3.out.job k hkk)
          have HF1 : Hid ((M.take (k + 1)).foldl hdF 0 = hdF ((M.take k).foldl hdF 0) M[k]) := hide (fold_take hdF 0 M k hkk)
          have HF2 : Hid ((M.take (k + 1)).foldl (opF x) (0, 0) = opF x p M[k]) := by rw [HP.out]; exact hide (fold_take (opF x) (0, 0) M k hkk)
          have HC := hide (fun V (hV : Rs V (some ⟨G, 0, none⟩) G 0 M) => hV.eight0 hkk)
          have HFn := hide (HK3.out.fnd_at k hkk)
          have HFi := hide (fun V (h : Qm 73 w.heap.size V b v3 x M) => qfind_any h hM8 (M[k]).bdg)
          clear hRow HP
          generalize (M.take k).foldl hdF 0 = hh at *
          have hn := neqR_any M[k] M[k]
          rw [decide_eq_true rfl] at hn
          generalize M[k] = r at *
          go_wp2_with fail
          refine (HRow.out _ HX.out.1.q).mono ?_
          rintro e w5 ⟨rfl, hB5⟩
          have HX5 : Hid (Qt w b v3 x M (w5.alloc r.obj) ∧ Rs (w5.alloc r.obj) (some ⟨G, 0, none⟩) G 0 M) := hide ⟨(HX.out.1.below hB5).alloc _, (HX.out.2.below hB5).below (below_alloc _ _)⟩
          have HY5 : Hid (Bx (w5.alloc r.obj) w5.heap.size r) := hide (heap_alloc_new w5 _)
          have HW5 := hide (HX.out.2.below hB5)
          clear hB5 HX HRow
          obtain ⟨c0, c1, c2, c3, c4, c5, c6, c7⟩ := HC.out _ HW5.out
          have hGl := HW5.out.lt (by omega)
          go_wp2_with fail
          generalize w5.alloc r.obj = W5 at *
          obtain ⟨Z, hZ⟩ : ∃ Z, w5.heap.size = Z := ⟨_, rfl⟩
          rw [hZ] at HY5 ⊢
          clear hZ c0 c1 c2 c3 c4 c5 c6 c7 HW5 hGl
          refine (HFi.out _ HX5.out.1.q).mono ?_
          rintro e w6 ⟨rfl, hB6⟩
          have HX6 : Hid (Qt w b v3 x M (w6.alloc (fnd r.bdg M).obj) ∧ Rs (w6.alloc (fnd r.bdg M).obj) (some ⟨G, 0, none⟩) G 0 M) := hide ⟨(HX5.out.1.below hB6).alloc _, (HX5.out.2.below hB6).below (below_alloc _ _)⟩
          have HW6 := hide (HX5.out.2.below hB6)
          have hy6 : Bx w6 Z r := HY5.out.keep (hB6.block _ HY5.out.lt)
          clear hB6 HX5 HY5 HFi
          rcases HFn.out with ⟨g1, g2, g3⟩ | ⟨g1, g2⟩
          · rw [g2] at HX6 ⊢
            rw [g3]
            clear g2 g3
            obtain ⟨c0, c1, c2, c3, c4, c5, c6, c7⟩ := HC.out _ HW6.out
            obtain ⟨d0, d1, d2, d3, d4, d5, d6, d7⟩ := hy6.cells
            have hGl := HW6.out.lt (by omega)
            have hZl := hy6.lt
            clear HW6 hy6 HFn
            have jb : (r.job != (k : Int) + 1) = false := by rw [HJ.out]; simp
            go_upto_region 15 with fail
            go_quiet (fail)
            by_cases s1 : r.st = 1
            · have t1 : (r.st == 1) = true := by simpa using s1
              have HO : Hid (opF x p r = (p.1 + 1, p.2 + x - r.att)) := if_pos (.inl s1)
              rw [HO.out] at HF2 hbd
              simp only at hbd
              by_cases s0 : hh = 0
              · have t0 : (hh == 0) = true := by simpa using s0
                have HH : Hid (hdF hh r = r.job) := if_pos ⟨s0, s1⟩
                rw [HH.out, HJ.out] at HF1
                clear s0 s1
                go_wp2_with fail
                go_roundw
                case rel => exact ⟨k + 1, _, by omega, by rw [HF1.out], rfl, by show Value.int .i64 _ = Value.int .i64 (p.2 + x - r.att); congr 1; omega, by go_num, hbd, hide HF2.out.symm, hide ⟨⟨HX6.out.1.q.drewN _, below_drewN HX6.out.1.bel _⟩, HX6.out.2.drewN _⟩⟩
                case measure => simp only [intOf]; omega
              · have t0 : (hh == 0) = false := by simpa using s0
                have HH : Hid (hdF hh r = hh) := if_neg fun e => s0 e.1
                rw [HH.out] at HF1
                clear s0 s1
                go_wp2_with fail
                go_roundw
                case rel => exact ⟨k + 1, _, by omega, by rw [HF1.out], rfl, by show Value.int .i64 _ = Value.int .i64 (p.2 + x - r.att); congr 1; omega, by go_num, hbd, hide HF2.out.symm, hide ⟨⟨HX6.out.1.q.drewN _, below_drewN HX6.out.1.bel _⟩, HX6.out.2.drewN _⟩⟩
                case measure => simp only [intOf]; omega
            · have t1 : (r.st == 1) = false := by simpa using s1
              have HH : Hid (hdF hh r = hh) := if_neg fun e => s1 e.2
              rw [HH.out] at HF1
              by_cases s2 : r.st = 2
              · have t2 : (r.st == 2) = true := by simpa using s2
                have HO : Hid (opF x p r = (p.1 + 1, p.2 + x - r.att)) := if_pos (.inr s2)
                rw [HO.out] at HF2 hbd
                simp only at hbd
                clear s1 s2
                go_wp2_with fail
                go_roundw
                case rel => exact ⟨k + 1, _, by omega, by rw [HF1.out], rfl, by show Value.int .i64 _ = Value.int .i64 (p.2 + x - r.att); congr 1; omega, by go_num, hbd, hide HF2.out.symm, hide ⟨⟨HX6.out.1.q.drewN _, below_drewN HX6.out.1.bel _⟩, HX6.out.2.drewN _⟩⟩
                case measure => simp only [intOf]; omega
              · have t2 : (r.st == 2) = false := by simpa using s2
                have HO : Hid (opF x p r = p) := if_neg (by rintro (e | e); exact s1 e; exact s2 e)
                rw [HO.out] at HF2 hbd
                clear s1 s2
                go_wp2_with fail
                go_roundw
                case rel => exact ⟨k + 1, _, by omega, by rw [HF1.out], rfl, rfl, by go_num, hbd, hide HF2.out.symm, hide ⟨⟨HX6.out.1.q.drewN _, below_drewN HX6.out.1.bel _⟩, HX6.out.2.drewN _⟩⟩
                case measure => simp only [intOf]; omega
          · have g3 : fnd r.bdg M = rr0 := by rw [g1]; exact g2
            rw [g3] at HX6 ⊢
            rw [show (!decide (rr0 = rr0)) = false by decide]
            have b0 : decide (0 < r.bdg) = false := by simp; omega
            clear g1 g2 g3
            obtain ⟨c0, c1, c2, c3, c4, c5, c6, c7⟩ := HC.out _ HW6.out
            obtain ⟨d0, d1, d2, d3, d4, d5, d6, d7⟩ := hy6.cells
            have hGl := HW6.out.lt (by omega)
            have hZl := hy6.lt
            clear HW6 hy6 HFn
            have jb : (r.job != (k : Int) + 1) = false := by rw [HJ.out]; simp
            go_upto_region 15 with fail
            go_quiet (fail)
            by_cases s1 : r.st = 1
            · have t1 : (r.st == 1) = true := by simpa using s1
              have HO : Hid (opF x p r = (p.1 + 1, p.2 + x - r.att)) := if_pos (.inl s1)
              rw [HO.out] at HF2 hbd
              simp only at hbd
              by_cases s0 : hh = 0
              · have t0 : (hh == 0) = true := by simpa using s0
                have HH : Hid (hdF hh r = r.job) := if_pos ⟨s0, s1⟩
                rw [HH.out, HJ.out] at HF1
                clear s0 s1
                go_wp2_with fail
                go_roundw
                case rel => exact ⟨k + 1, _, by omega, by rw [HF1.out], rfl, by show Value.int .i64 _ = Value.int .i64 (p.2 + x - r.att); congr 1; omega, by go_num, hbd, hide HF2.out.symm, hide ⟨⟨HX6.out.1.q.drewN _, below_drewN HX6.out.1.bel _⟩, HX6.out.2.drewN _⟩⟩
                case measure => simp only [intOf]; omega
              · have t0 : (hh == 0) = false := by simpa using s0
                have HH : Hid (hdF hh r = hh) := if_neg fun e => s0 e.1
                rw [HH.out] at HF1
                clear s0 s1
                go_wp2_with fail
                go_roundw
                case rel => exact ⟨k + 1, _, by omega, by rw [HF1.out], rfl, by show Value.int .i64 _ = Value.int .i64 (p.2 + x - r.att); congr 1; omega, by go_num, hbd, hide HF2.out.symm, hide ⟨⟨HX6.out.1.q.drewN _, below_drewN HX6.out.1.bel _⟩, HX6.out.2.drewN _⟩⟩
                case measure => simp only [intOf]; omega
            · have t1 : (r.st == 1) = false := by simpa using s1
              have HH : Hid (hdF hh r = hh) := if_neg fun e => s1 e.2
              rw [HH.out] at HF1
              by_cases s2 : r.st = 2
              · have t2 : (r.st == 2) = true := by simpa using s2
                have HO : Hid (opF x p r = (p.1 + 1, p.2 + x - r.att)) := if_pos (.inr s2)
                rw [HO.out] at HF2 hbd
                simp only at hbd
                clear s1 s2
                go_wp2_with fail
                go_roundw
                case rel => exact ⟨k + 1, _, by omega, by rw [HF1.out], rfl, by show Value.int .i64 _ = Value.int .i64 (p.2 + x - r.att); congr 1; omega, by go_num, hbd, hide HF2.out.symm, hide ⟨⟨HX6.out.1.q.drewN _, below_drewN HX6.out.1.bel _⟩, HX6.out.2.drewN _⟩⟩
                case measure => simp only [intOf]; omega
              · have t2 : (r.st == 2) = false := by simpa using s2
                have HO : Hid (opF x p r = p) := if_neg (by rintro (e | e); exact s1 e; exact s2 e)
                rw [HO.out] at HF2 hbd
                clear s1 s2
                go_wp2_with fail
                go_roundw
                case rel => exact ⟨k + 1, _, by omega, by rw [HF1.out], rfl, rfl, by go_num, hbd, hide HF2.out.symm, hide ⟨⟨HX6.out.1.q.drewN _, below_drewN HX6.out.1.bel _⟩, HX6.out.2.drewN _⟩⟩
                case measure => simp only [intOf]; omega
        · have hkI : ¬ (k : Int) < (M.length : Int) := by omega
          obtain rfl : k = M.length := by omega
          rw [List.take_length] at HP ⊢
          have HP2 : Hid (opn x M = p) := hide HP.out.symm
          obtain ⟨hh, hhe⟩ : ∃ hh, M.foldl hdF 0 = hh := ⟨_, rfl⟩
          have HH2 : Hid (hd M = hh) := hide hhe
          rw [hhe]
          clear hhe HP hkk
          have b1 : (p.1 != p.1) = false := by simp
          have b2 : (p.2 != p.2) = false := by simp
          have b3 : (hh != hh) = false := by simp
          go_wp2_with fail
          refine (qopen_any HX.out.1.q HK3.out).mono ?_
          rintro e w5 ⟨rfl, hB5⟩
          rw [HP2.out]
          have HQ5 := hide (HX.out.1.below hB5)
          clear hB5 HX HP2
          go_wp2_with fail
          refine (qrow_any HQ5.out.q hM8 ((M.length : Int) + 1)).mono ?_
          rintro e w6 ⟨rfl, hB6⟩
          rw [show rowB M ((M.length : Int) + 1) = false from decide_eq_false (by omega)]
          have HQ6 := hide ((HQ5.out.below hB6).alloc (rowR M ((M.length : Int) + 1)).obj)
          generalize rowR M ((M.length : Int) + 1) = r6 at *
          clear hB6 HQ5
          go_wp2_with fail
          generalize w6.alloc r6.obj = W6 at *
          refine (qrow_any HQ6.out.q hM8 0).mono ?_
          rintro e w7 ⟨rfl, hB7⟩
          rw [show rowB M 0 = false from decide_eq_false (by omega)]
          have HQ7 := hide ((HQ6.out.below hB7).alloc (rowR M 0).obj)
          generalize rowR M 0 = r7 at *
          clear hB7 HQ6
          go_wp2_with fail
          generalize w7.alloc r7.obj = W7 at *
          refine (qfind_any HQ7.out.q hM8 0).mono ?_
          rintro e w8 ⟨rfl, hB8⟩
          rw [HK3.out.fnd_0, show (!decide (rr0 = rr0)) = false by decide]
          have HQ8 := hide ((HQ7.out.below hB8).alloc rr0.obj)
          clear hB8 HQ7
          go_wp2_with fail
          refine (qhead_any HQ8.out.q hM8).mono ?_
          rintro e w9 ⟨rfl, hB9⟩
          rw [HH2.out]
          have HQ9 := hide (HQ8.out.below hB9)
          clear hB9 HQ8
          go_wp2_with fail
          go_roundw
          case rel => exact ⟨i + 1, v3, M, by omega, by go_num, HK3, HQ9⟩
          case measure => simp only [intOf]; omega
    · have hii : ¬ (i : Int) < (Q.length : Int) := by omega
      have HB := hide HQ.out.bel
      clear HQ HK
      go_wp2_with fail
      refine (fixed_any _).mono ?_
      rintro e w6 ⟨rfl, hB6⟩
      go_wp2_with fail
      go_ret
      exact ⟨rfl, HB.out.trans (hB6.mono HB.out.size)⟩
end Go.Proofs.Ythnmjjlbocofbaa
