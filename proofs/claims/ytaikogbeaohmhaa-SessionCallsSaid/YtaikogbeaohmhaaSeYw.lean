import Derived.Test.YtaikogbeaohmhaaSeY
namespace Go.Proofs.Ytaikogbeaohmhaa
open Go.RowKit

theorem sixteen_new (w : World) (c : Cl) (l : Int) {k : Nat} (h : w.heap[k]? = some (.cells #[.int .i64 c.rs, .int .i64 c.se, .int .i64 l, .int .i64 c.ti, .int .i64 c.gr, .int .i64 c.m.k, .int .i64 c.m.se, .int .i64 c.m.nu, .int .i64 c.m.jo, .int .i64 c.m.ba, .int .i64 c.m.ix, .int .i64 c.m.co, .int .i64 c.m.rc, .int .u64 (c.m.rb : Int), .string c.m.tx, .string c.m.pr] 38 (0, 0))) : ∀ j u, (xC c l)[j]? = some u → w.cell? ((⟨k, 0, none⟩ : Addr).add j) = some u := World.news_of_block (cs := #[.int .i64 c.rs, .int .i64 c.se, .int .i64 l, .int .i64 c.ti, .int .i64 c.gr, .int .i64 c.m.k, .int .i64 c.m.se, .int .i64 c.m.nu, .int .i64 c.m.jo, .int .i64 c.m.ba, .int .i64 c.m.ix, .int .i64 c.m.co, .int .i64 c.m.rc, .int .u64 (c.m.rb : Int), .string c.m.tx, .string c.m.pr]) (t := 38) (fr := (0, 0)) h
set_option maxHeartbeats 8000000 in
set_option maxRecDepth 8000 in
theorem sessionCalls_walk {w : World} {x : Int} (hx : -9223372036854775808 ≤ x ∧ x ≤ 9223372036854775807) {ad : Option Addr} {ab ao cap : Nat} {Q : List Oc} (hQ : Sr Oc.cs 13 w ad ab ao Q) (hQl : Q.length ≤ 1172812402926) (hQb : ∀ i (h : i < Q.length), I6 (Q[i]).on ∧ I6 (Q[i]).m.se ∧ I6 (Q[i]).m.nu) :
    Calls Try.prog 3 #[.int .i64 x, .slice ad Q.length cap] w fun e w' => e = .returned (.bool true) ∧ Below w.heap.size w w' := by
  have HQ := hide hQ
  have HQB := hide hQb
  have HXx := hide hx
  clear hQ hQb hx
  go_enter Try.func3, Try.ntmps3
  go_wp2_with fail
  refine (cnew_any w HXx.out).mono ?_
  rintro e w1 (⟨hno, rfl, hw⟩ | ⟨hyes, rfl, hC1, hB1⟩)
  · subst hw
    go_wp2_with fail
    refine (xnew_any _ HXx.out).mono ?_
    rintro e w2 (⟨_, rfl, hw⟩ | ⟨hyes, _⟩)
    rotate_left
    · exact absurd hyes hno
    subst hw
    go_wp2_with fail
    refine (awake_any _).mono ?_
    rintro e w3 ⟨rfl, hB3⟩
    go_wp2_with fail
    go_ret
    exact ⟨rfl, hB3⟩
  obtain ⟨bc, hbc⟩ : ∃ bc, w.heap.size = bc := ⟨_, rfl⟩
  rw [show Value.pointer (some ⟨w.heap.size, 0, none⟩) = Value.pointer (some ⟨bc, 0, none⟩) by rw [hbc]]
  rw [hbc] at hC1
  have HL : Hid (w.heap.size ≤ bc) := hide (by omega)
  have HC := hide hC1
  have HB := hide hB1
  clear hbc hC1 hB1
  go_wp2_with fail
  refine (xnew_any _ HXx.out).mono ?_
  rintro e w2 (⟨hno, _⟩ | ⟨_, rfl, hw⟩)
  · exact absurd hyes hno
  have HE : Hid (w2.heap[w1.heap.size]? = some (.cells #[.int .i64 x, .int .i64 0, .int .i64 0, .int .i64 0, .int .i64 0, .int .i64 0, .int .i64 0, .int .i64 0, .int .i64 0, .int .i64 0, .int .i64 0, .int .i64 0, .int .i64 0, .int .u64 0, .string ⟨#[]⟩, .string ⟨#[]⟩] 38 (0, 0))) := hide (by rw [hw]; exact heap_alloc_new w1 _)
  have hb2 : Below w1.heap.size w1 w2 := by rw [hw]; exact below_alloc w1 _
  have HC := hide (HC.out.below hb2)
  have HB := hide (HB.out.trans (hb2.mono HB.out.size))
  obtain ⟨Y, hY⟩ : ∃ Y, w1.heap.size = Y := ⟨_, rfl⟩
  rw [hY] at HE
  rw [show Value.pointer (some ⟨w1.heap.size, 0, none⟩) = Value.pointer (some ⟨Y, 0, none⟩) by rw [hY]]
  clear hw hb2 hY
  go_wp2_with fail
  refine (awake_any _).mono ?_
  rintro e w3 ⟨rfl, hB3⟩
  have HE := hide ((hB3.block Y (lt_of_block HE.out)).trans HE.out)
  have HC := hide (HC.out.below hB3)
  have HB := hide (HB.out.trans (hB3.mono HB.out.size))
  clear hB3
  have hbs := HB.out.size
  have HLK : Hid (Lk (newC x) 0) := hide ⟨newC_ok hyes.1 hyes.2, Int.le_refl _, by decide, fun h => absurd rfl h⟩
  have HST : Hid (Mm w.heap.size ((w3.alloc (.cells #[.pointer (some ⟨bc, 0, none⟩)] 23)).alloc (.cells #[.int .i64 x, .int .i64 0, .int .i64 0, .int .i64 0, .int .i64 0, .int .i64 0, .int .i64 0, .int .i64 0, .int .i64 0, .int .i64 0, .int .i64 0, .int .i64 0, .int .i64 0, .int .u64 0, .string ⟨#[]⟩, .string ⟨#[]⟩] 38)) (.slice (some ⟨w3.heap.size, 0, none⟩) 1 1) (.slice (some ⟨w3.heap.size + 1, 0, none⟩) 1 1) [⟨bc, newC x, 0⟩] ∧ Below w.heap.size w ((w3.alloc (.cells #[.pointer (some ⟨bc, 0, none⟩)] 23)).alloc (.cells #[.int .i64 x, .int .i64 0, .int .i64 0, .int .i64 0, .int .i64 0, .int .i64 0, .int .i64 0, .int .i64 0, .int .i64 0, .int .i64 0, .int .i64 0, .int .i64 0, .int .i64 0, .int .u64 0, .string ⟨#[]⟩, .string ⟨#[]⟩] 38))) := hide (by
    have s1 := World.size_alloc w3 (.cells #[.pointer (some ⟨bc, 0, none⟩)] 23)
    have o1 := (World.ownsRow_lit (base := w.heap.size) (e := 23) (size := 1) w3 #[.pointer (some ⟨bc, 0, none⟩)] 1 hbs (by decide) rfl).alloc (.cells #[.int .i64 x, .int .i64 0, .int .i64 0, .int .i64 0, .int .i64 0, .int .i64 0, .int .i64 0, .int .i64 0, .int .i64 0, .int .i64 0, .int .i64 0, .int .i64 0, .int .i64 0, .int .u64 0, .string ⟨#[]⟩, .string ⟨#[]⟩] 38)
    have o2 := World.ownsRow_lit (base := w.heap.size) (e := 38) (size := 16) (w3.alloc (.cells #[.pointer (some ⟨bc, 0, none⟩)] 23)) #[.int .i64 x, .int .i64 0, .int .i64 0, .int .i64 0, .int .i64 0, .int .i64 0, .int .i64 0, .int .i64 0, .int .i64 0, .int .i64 0, .int .i64 0, .int .i64 0, .int .i64 0, .int .u64 0, .string ⟨#[]⟩, .string ⟨#[]⟩] 1 (by omega) (by decide) rfl
    rw [s1] at o2
    refine ⟨⟨o1, o2, ⟨fun i s hs => ?_, fun i s hs => ?_, fun i s hs => ?_, fun i j s t hs ht hij => ?_⟩⟩, (HB.out.alloc hbs _).alloc (by omega) _⟩
    · match i, hs with
      | 0, hs => injection hs with hs; subst hs; exact HLK.out
    · match i, hs with
      | 0, hs => injection hs with hs; subst hs; exact (HC.out.alloc _).alloc _
    · match i, hs with
      | 0, hs => injection hs with hs; subst hs; exact HL.out
    · match i, j, hs, ht with
      | 0, 0, _, _ => exact absurd rfl hij)
  have y0 : w3.cell? ⟨Y, 0, none⟩ = some (.int .i64 x) := by have := HE.out; simp [World.cell?, this]
  have y1 : w3.cell? ⟨Y, 1, none⟩ = some (.int .i64 0) := by have := HE.out; simp [World.cell?, this]
  have y2 : w3.cell? ⟨Y, 2, none⟩ = some (.int .i64 0) := by have := HE.out; simp [World.cell?, this]
  have y3 : w3.cell? ⟨Y, 3, none⟩ = some (.int .i64 0) := by have := HE.out; simp [World.cell?, this]
  have y4 : w3.cell? ⟨Y, 4, none⟩ = some (.int .i64 0) := by have := HE.out; simp [World.cell?, this]
  have y5 : w3.cell? ⟨Y, 5, none⟩ = some (.int .i64 0) := by have := HE.out; simp [World.cell?, this]
  have y6 : w3.cell? ⟨Y, 6, none⟩ = some (.int .i64 0) := by have := HE.out; simp [World.cell?, this]
  have y7 : w3.cell? ⟨Y, 7, none⟩ = some (.int .i64 0) := by have := HE.out; simp [World.cell?, this]
  have y8 : w3.cell? ⟨Y, 8, none⟩ = some (.int .i64 0) := by have := HE.out; simp [World.cell?, this]
  have y9 : w3.cell? ⟨Y, 9, none⟩ = some (.int .i64 0) := by have := HE.out; simp [World.cell?, this]
  have y10 : w3.cell? ⟨Y, 10, none⟩ = some (.int .i64 0) := by have := HE.out; simp [World.cell?, this]
  have y11 : w3.cell? ⟨Y, 11, none⟩ = some (.int .i64 0) := by have := HE.out; simp [World.cell?, this]
  have y12 : w3.cell? ⟨Y, 12, none⟩ = some (.int .i64 0) := by have := HE.out; simp [World.cell?, this]
  have y13 : w3.cell? ⟨Y, 13, none⟩ = some (.int .u64 0) := by have := HE.out; simp [World.cell?, this]
  have y14 : w3.cell? ⟨Y, 14, none⟩ = some (.string ⟨#[]⟩) := by have := HE.out; simp [World.cell?, this]
  have y15 : w3.cell? ⟨Y, 15, none⟩ = some (.string ⟨#[]⟩) := by have := HE.out; simp [World.cell?, this]
  have hyl := lt_of_block HE.out
  clear HC HB hbs HLK HE
  go_wp2_with fail
  clear y0 y1 y2 y3 y4 y5 y6 y7 y8 y9 y10 y11 y12 y13 y14 y15 hyl
  obtain ⟨B, hB⟩ : ∃ B, w.heap.size = B := ⟨_, rfl⟩
  have HBe := hide hB
  rw [hB] at HST
  clear hB hyes
  generalize newC x = cc0 at *
  go_loopw [9, 10, 11] (fun u t s wr => ∃ (gl cl gm cm i : Nat) (L : List Pc), u = .slice (some ⟨gl, 0, none⟩) L.length cl ∧ t = .slice (some ⟨gm, 0, none⟩) L.length cm ∧ s = .int .i64 (i : Int) ∧ i ≤ Q.length ∧ 1 ≤ L.length ∧ L.length ≤ i + 1 ∧ Hid (Mm B wr (.slice (some ⟨gl, 0, none⟩) L.length cl) (.slice (some ⟨gm, 0, none⟩) L.length cm) L) ∧ Hid (Below B w wr)) (fun _ _ s _ => Q.length - (intOf s).toNat)
  case atStart => exact ⟨_, _, _, _, 0, [⟨bc, cc0, 0⟩], rfl, rfl, rfl, Nat.zero_le _, Nat.le_refl _, Nat.le_refl _, hide HST.out.1, hide HST.out.2⟩
  case round =>
    clear HST
    obtain ⟨gl, cl, gm, cm, i, L, rfl, rfl, rfl, hi, hL1, hL2, HM, HB⟩ := hrel
    have hBr : B ≤ wr.heap.size := by have := HB.out.size; rw [HBe.out] at this; exact this
    by_cases hiq : i < Q.length
    · have hii : (i : Int) < (Q.length : Int) := by omega
      have hat := HQ.out.at_ (by omega)
      subst hat
      have hR := HQ.out.below (by decide) Oc.cs0 (show Below w.heap.size w wr by rw [HBe.out]; exact HB.out)
      obtain ⟨q0, q1, q2, q3, q4, q5, q6, q7, q8, q9, q10, q11, q12⟩ := hR.thirteen hiq
      have habB : ab < B := by rw [← HBe.out]; exact HQ.out.lt (by omega) (by decide) Oc.cs0
      have HBO := hide (HQB.out i hiq)
      clear hR
      generalize Q[i] = q at *
      have hbo := HBO.out.1
      unfold I6 at hbo
      have ht1 : q.on.tmod (L.length : Int) < (L.length : Int) := Int.tmod_lt_of_pos _ (by omega)
      have ht2 : -(L.length : Int) < q.on.tmod (L.length : Int) := Int.lt_tmod_of_pos _ (by omega)
      have hz : (L.length : Int) ≠ 0 := by omega
      have hz1 : (L.length : Int) ≠ -1 := by omega
      obtain ⟨t, ht⟩ : ∃ t, q.on.tmod (L.length : Int) = t := ⟨_, rfl⟩
      rw [ht] at ht1 ht2

      by_cases h0 : t < 0
      · skip
        have b0 : decide (t < 0) = true := decide_eq_true h0
        obtain ⟨p, hp⟩ : ∃ p : Nat, t + (L.length : Int) = (p : Int) := ⟨(t + (L.length : Int)).toNat, by omega⟩
        have hpl : p < L.length := by omega
        have hpI : (p : Int) < (L.length : Int) := by omega
        obtain ⟨s, hs⟩ : ∃ s, L[p]? = some s := ⟨_, List.getElem?_eq_getElem hpl⟩
        have HS := hide hs
        have m0 := HM.out.cl hs
        have HCb := hide (HM.out.kc.cb p s hs)
        have HLk := hide (HM.out.kc.ok p s hs)
        clear hs
        by_cases hk5 : q.k = 6
        · have e5 : (q.k == 6) = true := by simpa using hk5
          clear hk5
          go_wp2_with fail
          refine (cclone_any HCb.out).mono ?_
          rintro e w3 ⟨rfl, hC3, hB3⟩
          have HM3 := hide (HM.out.below hB3)
          have HB3 := hide (HB.out.trans (hB3.mono hBr))
          have HNB : Hid (∀ (i : Nat) (s : Pc), L[i]? = some s → s.b ≠ wr.heap.size) := hide fun i s hs => Nat.ne_of_lt (HM.out.kc.cb i s hs).lt
          have h23 := hB3.size
          have HLB := hide hBr
          obtain ⟨b', hb'⟩ : ∃ b', wr.heap.size = b' := ⟨_, rfl⟩
          rw [show (Value.pointer (some ⟨wr.heap.size, 0, none⟩)) = Value.pointer (some ⟨b', 0, none⟩) by rw [hb']]
          rw [hb'] at hC3 HNB HLB h23
          have HC3 := hide hC3
          have hBb : B ≤ b' := HLB.out
          clear hC3 hB3 m0 q0 q1 q2 q3 q4 q5 q6 q7 q8 q9 q10 q11 q12 HM HB hb' hBr
          obtain ⟨iB, hiB, zB0, zB1, zB2⟩ := info_parts Try.infoPC
          obtain ⟨iX, hiX, zX0, zX1, zX2⟩ := info_parts Try.infoXC
          go_upto_region 17 with (at_builtin; refine wpList_append_lies _ rfl _ _ 31 rfl B 23 iB (.pointer none) 1 8 Try.underlying31 hiB zB0 zB1 zB2 rfl (by decide) (.slice (some ⟨gl, 0, none⟩) L.length cl) L.length (pcs L) rfl (HM3.out.rl.alloc _) ⟨w3.heap.size, 0, none⟩ 1 1 [.pointer (some ⟨b', 0, none⟩)] rfl rfl (one_new _ _ _) (by intro u hu; simp at hu; subst hu; rfl) (by decide) (by unfold maxLen; omega) (by omega) (by rw [World.size_alloc]; omega) _ rfl ?_; intro g4 cap4 w4 hown4 hgrow4 hat4 _)
          have HRL := hide hown4
          have HRM := hide (own_other HM3.out.rm HM3.out.rl (by decide) (grown_block hgrow4))
          have HKC := hide (HM3.out.kc.grown HM3.out.rl (by decide) (grown_block hgrow4))
          have HC4 : Hid (Cb w4 b' s.c) := hide ((grown_block hgrow4 _ HC3.out.lt fun e2 => by obtain ⟨ds, hds⟩ := own_blk HM3.out.rl e2; exact blk_ne hds HC3.out (by decide) rfl).trans HC3.out)
          have HB4 := hide (below_grow HB3.out (by omega) hgrow4 (fun k hk => (HM3.out.rl.lt k hk).1))
          have hs4 : w3.heap.size ≤ w4.heap.size := by have := hgrow4.size; rw [World.size_alloc] at this; omega
          clear hown4 hgrow4 hat4 HM3 HB3 HC3
          have hxb := own_xb HRM.out HS.out
          have f0 := hxb.f0
          have f1 := hxb.f1
          have f2 := hxb.f2
          have f3 := hxb.f3
          have f4 := hxb.f4
          have f5 := hxb.f5
          have f6 := hxb.f6
          have f7 := hxb.f7
          have f8 := hxb.f8
          have f9 := hxb.f9
          have f10 := hxb.f10
          have f11 := hxb.f11
          have f12 := hxb.f12
          have f13 := hxb.f13
          have f14 := hxb.f14
          have f15 := hxb.f15
          have hgl := hxb.lt
          have HNEW : Hid ((w4.alloc (.cells #[.int .i64 s.c.rs, .int .i64 s.c.se, .int .i64 s.l, .int .i64 s.c.ti, .int .i64 s.c.gr, .int .i64 s.c.m.k, .int .i64 s.c.m.se, .int .i64 s.c.m.nu, .int .i64 s.c.m.jo, .int .i64 s.c.m.ba, .int .i64 s.c.m.ix, .int .i64 s.c.m.co, .int .i64 s.c.m.rc, .int .u64 (s.c.m.rb : Int), .string s.c.m.tx, .string s.c.m.pr] 38)).heap[w4.heap.size]? = some (.cells #[.int .i64 s.c.rs, .int .i64 s.c.se, .int .i64 s.l, .int .i64 s.c.ti, .int .i64 s.c.gr, .int .i64 s.c.m.k, .int .i64 s.c.m.se, .int .i64 s.c.m.nu, .int .i64 s.c.m.jo, .int .i64 s.c.m.ba, .int .i64 s.c.m.ix, .int .i64 s.c.m.co, .int .i64 s.c.m.rc, .int .u64 (s.c.m.rb : Int), .string s.c.m.tx, .string s.c.m.pr] 38 (0, 0))) := hide (heap_alloc_new _ _)
          clear hxb
          go_upto_region 18 with (at_builtin; refine wpList_append_own_wide _ rfl _ _ 39 rfl B 38 iX (.agg (xC (newC 0) 0).toArray) 16 144 Try.underlying39 hiX zX0 zX1 zX2 rfl (by decide) (.slice (some ⟨gm, 0, none⟩) L.length cm) L.length (xcs L) rfl (HRM.out.alloc _) ⟨w4.heap.size, 0, none⟩ 1 1 (xC s.c s.l) rfl (xC_len _ _) (sixteen_new _ s.c s.l HNEW.out) (xC_one _ _) (by unfold maxLen; omega) (by omega) (by rw [World.size_alloc]; omega) ?_; intro v6 w6 hown6 hgrow6 hnil6; obtain ⟨g6, cap6, rfl⟩ : ∃ g6 cap6, v6 = .slice (some ⟨g6, 0, none⟩) (L.length + 1) cap6 := (by rcases own_form hown6 with ⟨_, h0⟩ | ⟨a, c, h, _⟩; (· omega); (· exact ⟨a, c, h⟩)))
          have HM6 : Hid (Mm B w6 (.slice (some ⟨g4, 0, none⟩) (L.length + 1) cap4) (.slice (some ⟨g6, 0, none⟩) (L.length + 1) cap6) (L ++ [⟨b', s.c, s.l⟩])) := hide (by
            refine ⟨?_, ?_, ?_⟩
            · rw [List.length_append]
              show w6.ownsRow B 23 1 (.slice (some ⟨g4, 0, none⟩) (L.length + 1) cap4) (L.length + 1) (pcs (L ++ [⟨b', s.c, s.l⟩]))
              rw [show pcs (L ++ [⟨b', s.c, s.l⟩]) = pcs L ++ [.pointer (some ⟨b', 0, none⟩)] by unfold pcs; simp]
              exact own_other HRL.out HRM.out (by decide) (grown_block hgrow6)
            · rw [List.length_append, xcs_append]
              show w6.ownsRow B 38 16 (.slice (some ⟨g6, 0, none⟩) (L.length + 1) cap6) (L.length + 1) (xcs L ++ (xC s.c s.l ++ []))
              rw [List.append_nil]
              exact hown6
            · exact (HKC.out.grown HRM.out (by decide) (grown_block hgrow6)).push HLk.out ((grown_block hgrow6 _ HC4.out.lt fun e2 => by obtain ⟨ds, hds⟩ := own_blk HRM.out e2; exact blk_ne hds HC4.out (by decide) rfl).trans HC4.out) hBb HNB.out)
          have HB6 := hide (below_grow HB4.out (by omega) hgrow6 (fun k hk => (HRM.out.lt k hk).1))
          have m6 : w6.cell? ⟨g4, L.length, none⟩ = some (.pointer (some ⟨b', 0, none⟩)) := by
            have e1 := HM6.out.rl.cells (g := g4) rfl L.length (.pointer (some ⟨b', 0, none⟩)) (by unfold pcs; rw [List.getElem?_map, List.getElem?_append_right (Nat.le_refl _), Nat.sub_self]; rfl)
            rw [Addr.add_lit, Nat.zero_add] at e1
            exact e1
          clear hown6 hgrow6 hnil6 HRL HRM HKC HC4 HB4 HNEW f0 f1 f2 f3 f4 f5 f6 f7 f8 f9 f10 f11 f12 f13 f14 f15
          have hLL : ((L.length : Int) + 1 - 1) = (L.length : Int) := by omega
          go_wp2_with fail
          go_roundw
          case rel => exact ⟨g4, cap4, g6, cap6, i + 1, L ++ [⟨b', s.c, s.l⟩], by rw [List.length_append]; rfl, by rw [List.length_append]; rfl, by go_num, by omega, by rw [List.length_append]; simp, by rw [List.length_append, List.length_singleton]; omega, by rw [List.length_append]; exact HM6, HB6⟩
          case measure => simp only [intOf]; omega
        · have e5 : (q.k == 6) = false := by simpa using hk5
          clear hk5
          go_wp2_with fail
          have HCe : Hid (∀ V : World, (V.heap[gl]? = wr.heap[gl]? ∧ V.heap[ab]? = wr.heap[ab]?) → V.cell? ⟨gl, p, none⟩ = some (.pointer (some ⟨s.b, 0, none⟩)) ∧ V.cell? ⟨ab, ao + i * 13, none⟩ = some (.int .i64 q.k) ∧ V.cell? ⟨ab, ao + i * 13 + 1, none⟩ = some (.int .i64 q.on) ∧ V.cell? ⟨ab, ao + i * 13 + 2, none⟩ = some (.int .i64 q.m.k) ∧ V.cell? ⟨ab, ao + i * 13 + 3, none⟩ = some (.int .i64 q.m.se) ∧ V.cell? ⟨ab, ao + i * 13 + 4, none⟩ = some (.int .i64 q.m.nu) ∧ V.cell? ⟨ab, ao + i * 13 + 5, none⟩ = some (.int .i64 q.m.jo) ∧ V.cell? ⟨ab, ao + i * 13 + 6, none⟩ = some (.int .i64 q.m.ba) ∧ V.cell? ⟨ab, ao + i * 13 + 7, none⟩ = some (.int .i64 q.m.ix) ∧ V.cell? ⟨ab, ao + i * 13 + 8, none⟩ = some (.int .i64 q.m.co) ∧ V.cell? ⟨ab, ao + i * 13 + 9, none⟩ = some (.int .i64 q.m.rc) ∧ V.cell? ⟨ab, ao + i * 13 + 10, none⟩ = some (.int .u64 (q.m.rb : Int)) ∧ V.cell? ⟨ab, ao + i * 13 + 11, none⟩ = some (.string q.m.tx) ∧ V.cell? ⟨ab, ao + i * 13 + 12, none⟩ = some (.string q.m.pr)) := hide fun V hV => by
            have h1 : ∀ j, V.cell? ⟨gl, j, none⟩ = wr.cell? ⟨gl, j, none⟩ := fun _ => World.cell?_of_block hV.1
            have h3 : ∀ j, V.cell? ⟨ab, j, none⟩ = wr.cell? ⟨ab, j, none⟩ := fun _ => World.cell?_of_block hV.2
            exact ⟨(h1 _).trans m0, (h3 _).trans q0, (h3 _).trans q1, (h3 _).trans q2, (h3 _).trans q3, (h3 _).trans q4, (h3 _).trans q5, (h3 _).trans q6, (h3 _).trans q7, (h3 _).trans q8, (h3 _).trans q9, (h3 _).trans q10, (h3 _).trans q11, (h3 _).trans q12⟩
          have HXb := hide (own_xb HM.out.rm HS.out)
          have HCd : Hid (Cb wr.drew s.b s.c) := hide HCb.out.drew
          have HXd : Hid (Xb wr.drew gm (p * 16) (xC s.c s.l)) := hide (HXb.out.keep rfl)
          have HBk : Hid (∀ V : World, Mc s.b gm (p * 16) wr.drew V → V.heap[gl]? = wr.heap[gl]? ∧ V.heap[ab]? = wr.heap[ab]?) := hide fun V hV => by
            obtain ⟨cl1, hcl1⟩ := own_blk HM.out.rl (k := gl) rfl
            obtain ⟨cm1, hcm1⟩ := own_blk HM.out.rm (k := gm) rfl
            have h1 := HM.out.kc.lo p s HS.out
            have h2 := (HM.out.rm.lt gm rfl).1
            exact ⟨hV.block gl (lt_of_block hcl1) (blk_ne hcl1 HCb.out (by decide)) (blk_ne hcl1 hcm1 (by decide)), hV.block ab (show ab < wr.heap.size by omega) (by omega) (by omega)⟩
          clear q0 q1 q2 q3 q4 q5 q6 q7 q8 q9 q10 q11 q12 m0
          refine wp_region_held_drew (S := fun w' => w'.heap[gl]? = wr.heap[gl]? ∧ w'.heap[ab]? = wr.heap[ab]?) (by kernel_rfl) (⟨rfl, rfl⟩) (fun hHeld => ?_)
          refine wpAnyH_take (i := 0) (v := .slice (some ⟨gl, 0, none⟩) L.length cl) rfl (by kernel_rfl) (by kernel_rfl) (by kernel_rfl) (fun _ _ _ h => h) (Or.inl ⟨by kernel_rfl, fun w1 hSw => by clear hHeld; obtain ⟨k, k0, k1, k2, k3, k4, k5, k6, k7, k8, k9, k10, k11, k12⟩ := HCe.out _ hSw; go_simp⟩) hHeld ?_
          try simp only [Act.put]
          try simp only [List.getElem_toArray]
          try simp only [List.getElem_cons_succ]
          try simp only [List.getElem_cons_zero]
          try simp only [List.setIfInBounds_toArray]
          try simp only [List.set_cons_succ, List.set_cons_zero]
          refine wpAnyH_take (i := 1) (v := .int .i64 (p : Int)) rfl (by kernel_rfl) (by kernel_rfl) (by kernel_rfl) (fun _ _ _ h => h) (Or.inl ⟨by kernel_rfl, fun w1 hSw => by clear hHeld; obtain ⟨k, k0, k1, k2, k3, k4, k5, k6, k7, k8, k9, k10, k11, k12⟩ := HCe.out _ hSw; go_simp⟩) hHeld ?_
          try simp only [Act.put]
          try simp only [List.getElem_toArray]
          try simp only [List.getElem_cons_succ]
          try simp only [List.getElem_cons_zero]
          try simp only [List.setIfInBounds_toArray]
          try simp only [List.set_cons_succ, List.set_cons_zero]
          refine wpAnyH_take (i := 2) (v := .pointer (some ⟨gl, p, none⟩)) rfl (by kernel_rfl) (by kernel_rfl) (by kernel_rfl) (fun _ _ _ h => h) (Or.inl ⟨by kernel_rfl, fun w1 hSw => by clear hHeld; obtain ⟨k, k0, k1, k2, k3, k4, k5, k6, k7, k8, k9, k10, k11, k12⟩ := HCe.out _ hSw; go_simp⟩) hHeld ?_
          try simp only [Act.put]
          try simp only [List.getElem_toArray]
          try simp only [List.getElem_cons_succ]
          try simp only [List.getElem_cons_zero]
          try simp only [List.setIfInBounds_toArray]
          try simp only [List.set_cons_succ, List.set_cons_zero]
          refine wpAnyH_take (i := 3) (v := .pointer (some ⟨s.b, 0, none⟩)) rfl (by kernel_rfl) (by kernel_rfl) (by kernel_rfl) (fun _ _ _ h => h) (Or.inl ⟨by kernel_rfl, fun w1 hSw => by clear hHeld; obtain ⟨k, k0, k1, k2, k3, k4, k5, k6, k7, k8, k9, k10, k11, k12⟩ := HCe.out _ hSw; go_simp⟩) hHeld ?_
          try simp only [Act.put]
          try simp only [List.getElem_toArray]
          try simp only [List.getElem_cons_succ]
          try simp only [List.getElem_cons_zero]
          try simp only [List.setIfInBounds_toArray]
          try simp only [List.set_cons_succ, List.set_cons_zero]
          refine wpAnyH_take (i := 4) (v := .slice (some ⟨gm, 0, none⟩) L.length cm) rfl (by kernel_rfl) (by kernel_rfl) (by kernel_rfl) (fun _ _ _ h => h) (Or.inl ⟨by kernel_rfl, fun w1 hSw => by clear hHeld; obtain ⟨k, k0, k1, k2, k3, k4, k5, k6, k7, k8, k9, k10, k11, k12⟩ := HCe.out _ hSw; go_simp⟩) hHeld ?_
          try simp only [Act.put]
          try simp only [List.getElem_toArray]
          try simp only [List.getElem_cons_succ]
          try simp only [List.getElem_cons_zero]
          try simp only [List.setIfInBounds_toArray]
          try simp only [List.set_cons_succ, List.set_cons_zero]
          refine wpAnyH_take (i := 5) (v := .int .i64 (p : Int)) rfl (by kernel_rfl) (by kernel_rfl) (by kernel_rfl) (fun _ _ _ h => h) (Or.inl ⟨by kernel_rfl, fun w1 hSw => by clear hHeld; obtain ⟨k, k0, k1, k2, k3, k4, k5, k6, k7, k8, k9, k10, k11, k12⟩ := HCe.out _ hSw; go_simp⟩) hHeld ?_
          try simp only [Act.put]
          try simp only [List.getElem_toArray]
          try simp only [List.getElem_cons_succ]
          try simp only [List.getElem_cons_zero]
          try simp only [List.setIfInBounds_toArray]
          try simp only [List.set_cons_succ, List.set_cons_zero]
          refine wpAnyH_take (i := 6) (v := .pointer (some ⟨gm, p * 16, none⟩)) rfl (by kernel_rfl) (by kernel_rfl) (by kernel_rfl) (fun _ _ _ h => h) (Or.inl ⟨by kernel_rfl, fun w1 hSw => by clear hHeld; obtain ⟨k, k0, k1, k2, k3, k4, k5, k6, k7, k8, k9, k10, k11, k12⟩ := HCe.out _ hSw; go_simp⟩) hHeld ?_
          try simp only [Act.put]
          try simp only [List.getElem_toArray]
          try simp only [List.getElem_cons_succ]
          try simp only [List.getElem_cons_zero]
          try simp only [List.setIfInBounds_toArray]
          try simp only [List.set_cons_succ, List.set_cons_zero]
          refine wpAnyH_take (i := 7) (v := .slice (some ⟨ab, ao, none⟩) Q.length cap) rfl (by kernel_rfl) (by kernel_rfl) (by kernel_rfl) (fun _ _ _ h => h) (Or.inl ⟨by kernel_rfl, fun w1 hSw => by clear hHeld; obtain ⟨k, k0, k1, k2, k3, k4, k5, k6, k7, k8, k9, k10, k11, k12⟩ := HCe.out _ hSw; go_simp⟩) hHeld ?_
          try simp only [Act.put]
          try simp only [List.getElem_toArray]
          try simp only [List.getElem_cons_succ]
          try simp only [List.getElem_cons_zero]
          try simp only [List.setIfInBounds_toArray]
          try simp only [List.set_cons_succ, List.set_cons_zero]
          refine wpAnyH_take (i := 8) (v := .int .i64 (i : Int)) rfl (by kernel_rfl) (by kernel_rfl) (by kernel_rfl) (fun _ _ _ h => h) (Or.inl ⟨by kernel_rfl, fun w1 hSw => by clear hHeld; obtain ⟨k, k0, k1, k2, k3, k4, k5, k6, k7, k8, k9, k10, k11, k12⟩ := HCe.out _ hSw; go_simp⟩) hHeld ?_
          try simp only [Act.put]
          try simp only [List.getElem_toArray]
          try simp only [List.getElem_cons_succ]
          try simp only [List.getElem_cons_zero]
          try simp only [List.setIfInBounds_toArray]
          try simp only [List.set_cons_succ, List.set_cons_zero]
          refine wpAnyH_take (i := 9) (v := .pointer (some ⟨ab, ao + i * 13, none⟩)) rfl (by kernel_rfl) (by kernel_rfl) (by kernel_rfl) (fun _ _ _ h => h) (Or.inl ⟨by kernel_rfl, fun w1 hSw => by clear hHeld; obtain ⟨k, k0, k1, k2, k3, k4, k5, k6, k7, k8, k9, k10, k11, k12⟩ := HCe.out _ hSw; go_simp⟩) hHeld ?_
          try simp only [Act.put]
          try simp only [List.getElem_toArray]
          try simp only [List.getElem_cons_succ]
          try simp only [List.getElem_cons_zero]
          try simp only [List.setIfInBounds_toArray]
          try simp only [List.set_cons_succ, List.set_cons_zero]
          refine wpAnyH_take (i := 10) (v := .agg #[.int .i64 q.k, .int .i64 q.on, .int .i64 q.m.k, .int .i64 q.m.se, .int .i64 q.m.nu, .int .i64 q.m.jo, .int .i64 q.m.ba, .int .i64 q.m.ix, .int .i64 q.m.co, .int .i64 q.m.rc, .int .u64 (q.m.rb : Int), .string q.m.tx, .string q.m.pr]) rfl (by kernel_rfl) (by kernel_rfl) (by kernel_rfl) (fun _ _ _ h => h) (Or.inl ⟨by kernel_rfl, fun w1 hSw => by clear hHeld; obtain ⟨k, k0, k1, k2, k3, k4, k5, k6, k7, k8, k9, k10, k11, k12⟩ := HCe.out _ hSw; go_simp⟩) hHeld ?_
          try simp only [Act.put]
          try simp only [List.getElem_toArray]
          try simp only [List.getElem_cons_succ]
          try simp only [List.getElem_cons_zero]
          try simp only [List.setIfInBounds_toArray]
          try simp only [List.set_cons_succ, List.set_cons_zero]
          refine wpAnyH_ready (rs := [11]) (by kernel_rfl) (by simp) ?_
          refine AllReadyH.cons rfl (fun K hK => ?_) AllReadyH.nil
          go_simp
          refine (cdoes_any HCd.out HXd.out HLk.out q).mono ?_
          rintro e V1 ⟨rfl, hc1, hx1, hm1⟩
          have HC1 := hide hc1
          have HX1 := hide hx1
          have HM1 := hide hm1
          clear hc1 hx1 hm1
          refine hK.out _ _ (HBk.out _ HM1.out) (fun hHeld => ?_)
          clear hK K
          try simp only [Act.put]
          try simp only [List.getElem_toArray]
          try simp only [List.getElem_cons_succ]
          try simp only [List.getElem_cons_zero]
          try simp only [List.setIfInBounds_toArray]
          try simp only [List.set_cons_succ, List.set_cons_zero]
          refine wpAnyH_take (i := 12) (v := .bool false) rfl (by kernel_rfl) (by kernel_rfl) (by kernel_rfl) (fun _ _ _ h => h) (Or.inl ⟨by kernel_rfl, fun w1 hSw => by clear hHeld; obtain ⟨k, k0, k1, k2, k3, k4, k5, k6, k7, k8, k9, k10, k11, k12⟩ := HCe.out _ hSw; go_simp⟩) hHeld ?_
          try simp only [Act.put]
          try simp only [List.getElem_toArray]
          try simp only [List.getElem_cons_succ]
          try simp only [List.getElem_cons_zero]
          try simp only [List.setIfInBounds_toArray]
          try simp only [List.set_cons_succ, List.set_cons_zero]
          refine wpAnyH_take (i := 13) (v := .bool false) rfl (by kernel_rfl) (by kernel_rfl) (by kernel_rfl) (fun _ _ _ h => h) (Or.inl ⟨by kernel_rfl, fun w1 hSw => by clear hHeld; obtain ⟨k, k0, k1, k2, k3, k4, k5, k6, k7, k8, k9, k10, k11, k12⟩ := HCe.out _ hSw; go_simp⟩) hHeld ?_
          try simp only [Act.put]
          try simp only [List.getElem_toArray]
          try simp only [List.getElem_cons_succ]
          try simp only [List.getElem_cons_zero]
          try simp only [List.setIfInBounds_toArray]
          try simp only [List.set_cons_succ, List.set_cons_zero]
          refine wpAnyH_take (i := 14) (v := .slice (some ⟨gl, 0, none⟩) L.length cl) rfl (by kernel_rfl) (by kernel_rfl) (by kernel_rfl) (fun _ _ _ h => h) (Or.inl ⟨by kernel_rfl, fun w1 hSw => by clear hHeld; obtain ⟨k, k0, k1, k2, k3, k4, k5, k6, k7, k8, k9, k10, k11, k12⟩ := HCe.out _ hSw; go_simp⟩) hHeld ?_
          try simp only [Act.put]
          try simp only [List.getElem_toArray]
          try simp only [List.getElem_cons_succ]
          try simp only [List.getElem_cons_zero]
          try simp only [List.setIfInBounds_toArray]
          try simp only [List.set_cons_succ, List.set_cons_zero]
          refine wpAnyH_take (i := 15) (v := .int .i64 (p : Int)) rfl (by kernel_rfl) (by kernel_rfl) (by kernel_rfl) (fun _ _ _ h => h) (Or.inl ⟨by kernel_rfl, fun w1 hSw => by clear hHeld; obtain ⟨k, k0, k1, k2, k3, k4, k5, k6, k7, k8, k9, k10, k11, k12⟩ := HCe.out _ hSw; go_simp⟩) hHeld ?_
          try simp only [Act.put]
          try simp only [List.getElem_toArray]
          try simp only [List.getElem_cons_succ]
          try simp only [List.getElem_cons_zero]
          try simp only [List.setIfInBounds_toArray]
          try simp only [List.set_cons_succ, List.set_cons_zero]
          refine wpAnyH_take (i := 16) (v := .pointer (some ⟨gl, p, none⟩)) rfl (by kernel_rfl) (by kernel_rfl) (by kernel_rfl) (fun _ _ _ h => h) (Or.inl ⟨by kernel_rfl, fun w1 hSw => by clear hHeld; obtain ⟨k, k0, k1, k2, k3, k4, k5, k6, k7, k8, k9, k10, k11, k12⟩ := HCe.out _ hSw; go_simp⟩) hHeld ?_
          try simp only [Act.put]
          try simp only [List.getElem_toArray]
          try simp only [List.getElem_cons_succ]
          try simp only [List.getElem_cons_zero]
          try simp only [List.setIfInBounds_toArray]
          try simp only [List.set_cons_succ, List.set_cons_zero]
          refine wpAnyH_take (i := 17) (v := .pointer (some ⟨s.b, 0, none⟩)) rfl (by kernel_rfl) (by kernel_rfl) (by kernel_rfl) (fun _ _ _ h => h) (Or.inl ⟨by kernel_rfl, fun w1 hSw => by clear hHeld; obtain ⟨k, k0, k1, k2, k3, k4, k5, k6, k7, k8, k9, k10, k11, k12⟩ := HCe.out _ hSw; go_simp⟩) hHeld ?_
          try simp only [Act.put]
          try simp only [List.getElem_toArray]
          try simp only [List.getElem_cons_succ]
          try simp only [List.getElem_cons_zero]
          try simp only [List.setIfInBounds_toArray]
          try simp only [List.set_cons_succ, List.set_cons_zero]
          refine wpAnyH_take (i := 18) (v := .slice (some ⟨gm, 0, none⟩) L.length cm) rfl (by kernel_rfl) (by kernel_rfl) (by kernel_rfl) (fun _ _ _ h => h) (Or.inl ⟨by kernel_rfl, fun w1 hSw => by clear hHeld; obtain ⟨k, k0, k1, k2, k3, k4, k5, k6, k7, k8, k9, k10, k11, k12⟩ := HCe.out _ hSw; go_simp⟩) hHeld ?_
          try simp only [Act.put]
          try simp only [List.getElem_toArray]
          try simp only [List.getElem_cons_succ]
          try simp only [List.getElem_cons_zero]
          try simp only [List.setIfInBounds_toArray]
          try simp only [List.set_cons_succ, List.set_cons_zero]
          refine wpAnyH_take (i := 19) (v := .int .i64 (p : Int)) rfl (by kernel_rfl) (by kernel_rfl) (by kernel_rfl) (fun _ _ _ h => h) (Or.inl ⟨by kernel_rfl, fun w1 hSw => by clear hHeld; obtain ⟨k, k0, k1, k2, k3, k4, k5, k6, k7, k8, k9, k10, k11, k12⟩ := HCe.out _ hSw; go_simp⟩) hHeld ?_
          try simp only [Act.put]
          try simp only [List.getElem_toArray]
          try simp only [List.getElem_cons_succ]
          try simp only [List.getElem_cons_zero]
          try simp only [List.setIfInBounds_toArray]
          try simp only [List.set_cons_succ, List.set_cons_zero]
          refine wpAnyH_take (i := 20) (v := .pointer (some ⟨gm, p * 16, none⟩)) rfl (by kernel_rfl) (by kernel_rfl) (by kernel_rfl) (fun _ _ _ h => h) (Or.inl ⟨by kernel_rfl, fun w1 hSw => by clear hHeld; obtain ⟨k, k0, k1, k2, k3, k4, k5, k6, k7, k8, k9, k10, k11, k12⟩ := HCe.out _ hSw; go_simp⟩) hHeld ?_
          try simp only [Act.put]
          try simp only [List.getElem_toArray]
          try simp only [List.getElem_cons_succ]
          try simp only [List.getElem_cons_zero]
          try simp only [List.setIfInBounds_toArray]
          try simp only [List.set_cons_succ, List.set_cons_zero]
          refine wpAnyH_ready (rs := [21]) (by kernel_rfl) (by simp) ?_
          refine AllReadyH.cons rfl (fun K hK => ?_) AllReadyH.nil
          go_simp
          refine (stands_any HC1.out HX1.out).mono ?_
          rintro e V2 ⟨rfl, nn, rfl⟩
          refine hK.out _ _ (HBk.out V1 HM1.out) (fun hHeld => ?_)
          clear hK K
          try simp only [Act.put]
          try simp only [List.getElem_toArray]
          try simp only [List.getElem_cons_succ]
          try simp only [List.getElem_cons_zero]
          try simp only [List.setIfInBounds_toArray]
          try simp only [List.set_cons_succ, List.set_cons_zero]
          refine wpAnyH_take (i := 22) (v := .bool false) rfl (by kernel_rfl) (by kernel_rfl) (by kernel_rfl) (fun _ _ _ h => h) (Or.inl ⟨by kernel_rfl, fun w1 hSw => by clear hHeld; obtain ⟨k, k0, k1, k2, k3, k4, k5, k6, k7, k8, k9, k10, k11, k12⟩ := HCe.out _ hSw; go_simp⟩) hHeld ?_
          try simp only [Act.put]
          try simp only [List.getElem_toArray]
          try simp only [List.getElem_cons_succ]
          try simp only [List.getElem_cons_zero]
          try simp only [List.setIfInBounds_toArray]
          try simp only [List.set_cons_succ, List.set_cons_zero]
          refine wpAnyH_take (i := 23) (v := .bool false) rfl (by kernel_rfl) (by kernel_rfl) (by kernel_rfl) (fun _ _ _ h => h) (Or.inl ⟨by kernel_rfl, fun w1 hSw => by clear hHeld; obtain ⟨k, k0, k1, k2, k3, k4, k5, k6, k7, k8, k9, k10, k11, k12⟩ := HCe.out _ hSw; go_simp⟩) hHeld ?_
          try simp only [Act.put]
          try simp only [List.getElem_toArray]
          try simp only [List.getElem_cons_succ]
          try simp only [List.getElem_cons_zero]
          try simp only [List.setIfInBounds_toArray]
          try simp only [List.set_cons_succ, List.set_cons_zero]
          refine wpAnyH_done (by kernel_rfl) ?_ _
          have hmc : Mc s.b gm (p * 16) wr (V1.drewN nn) := ⟨HM1.out.os, HM1.out.tape, HM1.out.output, HM1.out.size, HM1.out.block, HM1.out.row⟩
          have HM6 := hide (HM.out.step HS.out (s.c.does q) (lDoes s.c q s.l) (HLk.out.does q HBO.out.2.1.2) (HC1.out.drewN nn) (HX1.out.drewN nn) hmc)
          have HB6 : Hid (Below B w (V1.drewN nn)) := hide (HB.out.trans (hmc.below (HM.out.kc.lo p s HS.out) (HM.out.rm.lt gm rfl).1 hBr))
          clear HC1 HX1 HM1 hHeld HBk HCe HCd HXd HM HB HXb hmc
          generalize V1.drewN nn = V2 at *
          go_wp2_with fail
          go_roundw
          case rel => exact ⟨gl, cl, gm, cm, i + 1, L.set p ⟨s.b, s.c.does q, lDoes s.c q s.l⟩, by rw [List.length_set], by rw [List.length_set], by go_num, by omega, by rw [List.length_set]; exact hL1, by rw [List.length_set]; omega, by rw [List.length_set]; exact HM6, HB6⟩
          case measure => simp only [intOf]; omega
      · skip
        obtain ⟨p, hp⟩ : ∃ p : Nat, t = (p : Int) := ⟨t.toNat, by omega⟩
        subst hp
        have b0 : decide ((p : Int) < 0) = false := decide_eq_false h0
        have hpl : p < L.length := by omega
        have hpI : (p : Int) < (L.length : Int) := by omega
        obtain ⟨s, hs⟩ : ∃ s, L[p]? = some s := ⟨_, List.getElem?_eq_getElem hpl⟩
        have HS := hide hs
        have m0 := HM.out.cl hs
        have HCb := hide (HM.out.kc.cb p s hs)
        have HLk := hide (HM.out.kc.ok p s hs)
        clear hs
        by_cases hk5 : q.k = 6
        · have e5 : (q.k == 6) = true := by simpa using hk5
          clear hk5
          go_wp2_with fail
          refine (cclone_any HCb.out).mono ?_
          rintro e w3 ⟨rfl, hC3, hB3⟩
          have HM3 := hide (HM.out.below hB3)
          have HB3 := hide (HB.out.trans (hB3.mono hBr))
          have HNB : Hid (∀ (i : Nat) (s : Pc), L[i]? = some s → s.b ≠ wr.heap.size) := hide fun i s hs => Nat.ne_of_lt (HM.out.kc.cb i s hs).lt
          have h23 := hB3.size
          have HLB := hide hBr
          obtain ⟨b', hb'⟩ : ∃ b', wr.heap.size = b' := ⟨_, rfl⟩
          rw [show (Value.pointer (some ⟨wr.heap.size, 0, none⟩)) = Value.pointer (some ⟨b', 0, none⟩) by rw [hb']]
          rw [hb'] at hC3 HNB HLB h23
          have HC3 := hide hC3
          have hBb : B ≤ b' := HLB.out
          clear hC3 hB3 m0 q0 q1 q2 q3 q4 q5 q6 q7 q8 q9 q10 q11 q12 HM HB hb' hBr
          obtain ⟨iB, hiB, zB0, zB1, zB2⟩ := info_parts Try.infoPC
          obtain ⟨iX, hiX, zX0, zX1, zX2⟩ := info_parts Try.infoXC
          go_upto_region 17 with (at_builtin; refine wpList_append_lies _ rfl _ _ 31 rfl B 23 iB (.pointer none) 1 8 Try.underlying31 hiB zB0 zB1 zB2 rfl (by decide) (.slice (some ⟨gl, 0, none⟩) L.length cl) L.length (pcs L) rfl (HM3.out.rl.alloc _) ⟨w3.heap.size, 0, none⟩ 1 1 [.pointer (some ⟨b', 0, none⟩)] rfl rfl (one_new _ _ _) (by intro u hu; simp at hu; subst hu; rfl) (by decide) (by unfold maxLen; omega) (by omega) (by rw [World.size_alloc]; omega) _ rfl ?_; intro g4 cap4 w4 hown4 hgrow4 hat4 _)
          have HRL := hide hown4
          have HRM := hide (own_other HM3.out.rm HM3.out.rl (by decide) (grown_block hgrow4))
          have HKC := hide (HM3.out.kc.grown HM3.out.rl (by decide) (grown_block hgrow4))
          have HC4 : Hid (Cb w4 b' s.c) := hide ((grown_block hgrow4 _ HC3.out.lt fun e2 => by obtain ⟨ds, hds⟩ := own_blk HM3.out.rl e2; exact blk_ne hds HC3.out (by decide) rfl).trans HC3.out)
          have HB4 := hide (below_grow HB3.out (by omega) hgrow4 (fun k hk => (HM3.out.rl.lt k hk).1))
          have hs4 : w3.heap.size ≤ w4.heap.size := by have := hgrow4.size; rw [World.size_alloc] at this; omega
          clear hown4 hgrow4 hat4 HM3 HB3 HC3
          have hxb := own_xb HRM.out HS.out
          have f0 := hxb.f0
          have f1 := hxb.f1
          have f2 := hxb.f2
          have f3 := hxb.f3
          have f4 := hxb.f4
          have f5 := hxb.f5
          have f6 := hxb.f6
          have f7 := hxb.f7
          have f8 := hxb.f8
          have f9 := hxb.f9
          have f10 := hxb.f10
          have f11 := hxb.f11
          have f12 := hxb.f12
          have f13 := hxb.f13
          have f14 := hxb.f14
          have f15 := hxb.f15
          have hgl := hxb.lt
          have HNEW : Hid ((w4.alloc (.cells #[.int .i64 s.c.rs, .int .i64 s.c.se, .int .i64 s.l, .int .i64 s.c.ti, .int .i64 s.c.gr, .int .i64 s.c.m.k, .int .i64 s.c.m.se, .int .i64 s.c.m.nu, .int .i64 s.c.m.jo, .int .i64 s.c.m.ba, .int .i64 s.c.m.ix, .int .i64 s.c.m.co, .int .i64 s.c.m.rc, .int .u64 (s.c.m.rb : Int), .string s.c.m.tx, .string s.c.m.pr] 38)).heap[w4.heap.size]? = some (.cells #[.int .i64 s.c.rs, .int .i64 s.c.se, .int .i64 s.l, .int .i64 s.c.ti, .int .i64 s.c.gr, .int .i64 s.c.m.k, .int .i64 s.c.m.se, .int .i64 s.c.m.nu, .int .i64 s.c.m.jo, .int .i64 s.c.m.ba, .int .i64 s.c.m.ix, .int .i64 s.c.m.co, .int .i64 s.c.m.rc, .int .u64 (s.c.m.rb : Int), .string s.c.m.tx, .string s.c.m.pr] 38 (0, 0))) := hide (heap_alloc_new _ _)
          clear hxb
          go_upto_region 18 with (at_builtin; refine wpList_append_own_wide _ rfl _ _ 39 rfl B 38 iX (.agg (xC (newC 0) 0).toArray) 16 144 Try.underlying39 hiX zX0 zX1 zX2 rfl (by decide) (.slice (some ⟨gm, 0, none⟩) L.length cm) L.length (xcs L) rfl (HRM.out.alloc _) ⟨w4.heap.size, 0, none⟩ 1 1 (xC s.c s.l) rfl (xC_len _ _) (sixteen_new _ s.c s.l HNEW.out) (xC_one _ _) (by unfold maxLen; omega) (by omega) (by rw [World.size_alloc]; omega) ?_; intro v6 w6 hown6 hgrow6 hnil6; obtain ⟨g6, cap6, rfl⟩ : ∃ g6 cap6, v6 = .slice (some ⟨g6, 0, none⟩) (L.length + 1) cap6 := (by rcases own_form hown6 with ⟨_, h0⟩ | ⟨a, c, h, _⟩; (· omega); (· exact ⟨a, c, h⟩)))
          have HM6 : Hid (Mm B w6 (.slice (some ⟨g4, 0, none⟩) (L.length + 1) cap4) (.slice (some ⟨g6, 0, none⟩) (L.length + 1) cap6) (L ++ [⟨b', s.c, s.l⟩])) := hide (by
            refine ⟨?_, ?_, ?_⟩
            · rw [List.length_append]
              show w6.ownsRow B 23 1 (.slice (some ⟨g4, 0, none⟩) (L.length + 1) cap4) (L.length + 1) (pcs (L ++ [⟨b', s.c, s.l⟩]))
              rw [show pcs (L ++ [⟨b', s.c, s.l⟩]) = pcs L ++ [.pointer (some ⟨b', 0, none⟩)] by unfold pcs; simp]
              exact own_other HRL.out HRM.out (by decide) (grown_block hgrow6)
            · rw [List.length_append, xcs_append]
              show w6.ownsRow B 38 16 (.slice (some ⟨g6, 0, none⟩) (L.length + 1) cap6) (L.length + 1) (xcs L ++ (xC s.c s.l ++ []))
              rw [List.append_nil]
              exact hown6
            · exact (HKC.out.grown HRM.out (by decide) (grown_block hgrow6)).push HLk.out ((grown_block hgrow6 _ HC4.out.lt fun e2 => by obtain ⟨ds, hds⟩ := own_blk HRM.out e2; exact blk_ne hds HC4.out (by decide) rfl).trans HC4.out) hBb HNB.out)
          have HB6 := hide (below_grow HB4.out (by omega) hgrow6 (fun k hk => (HRM.out.lt k hk).1))
          have m6 : w6.cell? ⟨g4, L.length, none⟩ = some (.pointer (some ⟨b', 0, none⟩)) := by
            have e1 := HM6.out.rl.cells (g := g4) rfl L.length (.pointer (some ⟨b', 0, none⟩)) (by unfold pcs; rw [List.getElem?_map, List.getElem?_append_right (Nat.le_refl _), Nat.sub_self]; rfl)
            rw [Addr.add_lit, Nat.zero_add] at e1
            exact e1
          clear hown6 hgrow6 hnil6 HRL HRM HKC HC4 HB4 HNEW f0 f1 f2 f3 f4 f5 f6 f7 f8 f9 f10 f11 f12 f13 f14 f15
          have hLL : ((L.length : Int) + 1 - 1) = (L.length : Int) := by omega
          go_wp2_with fail
          go_roundw
          case rel => exact ⟨g4, cap4, g6, cap6, i + 1, L ++ [⟨b', s.c, s.l⟩], by rw [List.length_append]; rfl, by rw [List.length_append]; rfl, by go_num, by omega, by rw [List.length_append]; simp, by rw [List.length_append, List.length_singleton]; omega, by rw [List.length_append]; exact HM6, HB6⟩
          case measure => simp only [intOf]; omega
        · have e5 : (q.k == 6) = false := by simpa using hk5
          clear hk5
          go_wp2_with fail
          have HCe : Hid (∀ V : World, (V.heap[gl]? = wr.heap[gl]? ∧ V.heap[ab]? = wr.heap[ab]?) → V.cell? ⟨gl, p, none⟩ = some (.pointer (some ⟨s.b, 0, none⟩)) ∧ V.cell? ⟨ab, ao + i * 13, none⟩ = some (.int .i64 q.k) ∧ V.cell? ⟨ab, ao + i * 13 + 1, none⟩ = some (.int .i64 q.on) ∧ V.cell? ⟨ab, ao + i * 13 + 2, none⟩ = some (.int .i64 q.m.k) ∧ V.cell? ⟨ab, ao + i * 13 + 3, none⟩ = some (.int .i64 q.m.se) ∧ V.cell? ⟨ab, ao + i * 13 + 4, none⟩ = some (.int .i64 q.m.nu) ∧ V.cell? ⟨ab, ao + i * 13 + 5, none⟩ = some (.int .i64 q.m.jo) ∧ V.cell? ⟨ab, ao + i * 13 + 6, none⟩ = some (.int .i64 q.m.ba) ∧ V.cell? ⟨ab, ao + i * 13 + 7, none⟩ = some (.int .i64 q.m.ix) ∧ V.cell? ⟨ab, ao + i * 13 + 8, none⟩ = some (.int .i64 q.m.co) ∧ V.cell? ⟨ab, ao + i * 13 + 9, none⟩ = some (.int .i64 q.m.rc) ∧ V.cell? ⟨ab, ao + i * 13 + 10, none⟩ = some (.int .u64 (q.m.rb : Int)) ∧ V.cell? ⟨ab, ao + i * 13 + 11, none⟩ = some (.string q.m.tx) ∧ V.cell? ⟨ab, ao + i * 13 + 12, none⟩ = some (.string q.m.pr)) := hide fun V hV => by
            have h1 : ∀ j, V.cell? ⟨gl, j, none⟩ = wr.cell? ⟨gl, j, none⟩ := fun _ => World.cell?_of_block hV.1
            have h3 : ∀ j, V.cell? ⟨ab, j, none⟩ = wr.cell? ⟨ab, j, none⟩ := fun _ => World.cell?_of_block hV.2
            exact ⟨(h1 _).trans m0, (h3 _).trans q0, (h3 _).trans q1, (h3 _).trans q2, (h3 _).trans q3, (h3 _).trans q4, (h3 _).trans q5, (h3 _).trans q6, (h3 _).trans q7, (h3 _).trans q8, (h3 _).trans q9, (h3 _).trans q10, (h3 _).trans q11, (h3 _).trans q12⟩
          have HXb := hide (own_xb HM.out.rm HS.out)
          have HCd : Hid (Cb wr.drew s.b s.c) := hide HCb.out.drew
          have HXd : Hid (Xb wr.drew gm (p * 16) (xC s.c s.l)) := hide (HXb.out.keep rfl)
          have HBk : Hid (∀ V : World, Mc s.b gm (p * 16) wr.drew V → V.heap[gl]? = wr.heap[gl]? ∧ V.heap[ab]? = wr.heap[ab]?) := hide fun V hV => by
            obtain ⟨cl1, hcl1⟩ := own_blk HM.out.rl (k := gl) rfl
            obtain ⟨cm1, hcm1⟩ := own_blk HM.out.rm (k := gm) rfl
            have h1 := HM.out.kc.lo p s HS.out
            have h2 := (HM.out.rm.lt gm rfl).1
            exact ⟨hV.block gl (lt_of_block hcl1) (blk_ne hcl1 HCb.out (by decide)) (blk_ne hcl1 hcm1 (by decide)), hV.block ab (show ab < wr.heap.size by omega) (by omega) (by omega)⟩
          clear q0 q1 q2 q3 q4 q5 q6 q7 q8 q9 q10 q11 q12 m0
          refine wp_region_held_drew (S := fun w' => w'.heap[gl]? = wr.heap[gl]? ∧ w'.heap[ab]? = wr.heap[ab]?) (by kernel_rfl) (⟨rfl, rfl⟩) (fun hHeld => ?_)
          refine wpAnyH_take (i := 0) (v := .slice (some ⟨gl, 0, none⟩) L.length cl) rfl (by kernel_rfl) (by kernel_rfl) (by kernel_rfl) (fun _ _ _ h => h) (Or.inl ⟨by kernel_rfl, fun w1 hSw => by clear hHeld; obtain ⟨k, k0, k1, k2, k3, k4, k5, k6, k7, k8, k9, k10, k11, k12⟩ := HCe.out _ hSw; go_simp⟩) hHeld ?_
          try simp only [Act.put]
          try simp only [List.getElem_toArray]
          try simp only [List.getElem_cons_succ]
          try simp only [List.getElem_cons_zero]
          try simp only [List.setIfInBounds_toArray]
          try simp only [List.set_cons_succ, List.set_cons_zero]
          refine wpAnyH_take (i := 1) (v := .int .i64 (p : Int)) rfl (by kernel_rfl) (by kernel_rfl) (by kernel_rfl) (fun _ _ _ h => h) (Or.inl ⟨by kernel_rfl, fun w1 hSw => by clear hHeld; obtain ⟨k, k0, k1, k2, k3, k4, k5, k6, k7, k8, k9, k10, k11, k12⟩ := HCe.out _ hSw; go_simp⟩) hHeld ?_
          try simp only [Act.put]
          try simp only [List.getElem_toArray]
          try simp only [List.getElem_cons_succ]
          try simp only [List.getElem_cons_zero]
          try simp only [List.setIfInBounds_toArray]
          try simp only [List.set_cons_succ, List.set_cons_zero]
          refine wpAnyH_take (i := 2) (v := .pointer (some ⟨gl, p, none⟩)) rfl (by kernel_rfl) (by kernel_rfl) (by kernel_rfl) (fun _ _ _ h => h) (Or.inl ⟨by kernel_rfl, fun w1 hSw => by clear hHeld; obtain ⟨k, k0, k1, k2, k3, k4, k5, k6, k7, k8, k9, k10, k11, k12⟩ := HCe.out _ hSw; go_simp⟩) hHeld ?_
          try simp only [Act.put]
          try simp only [List.getElem_toArray]
          try simp only [List.getElem_cons_succ]
          try simp only [List.getElem_cons_zero]
          try simp only [List.setIfInBounds_toArray]
          try simp only [List.set_cons_succ, List.set_cons_zero]
          refine wpAnyH_take (i := 3) (v := .pointer (some ⟨s.b, 0, none⟩)) rfl (by kernel_rfl) (by kernel_rfl) (by kernel_rfl) (fun _ _ _ h => h) (Or.inl ⟨by kernel_rfl, fun w1 hSw => by clear hHeld; obtain ⟨k, k0, k1, k2, k3, k4, k5, k6, k7, k8, k9, k10, k11, k12⟩ := HCe.out _ hSw; go_simp⟩) hHeld ?_
          try simp only [Act.put]
          try simp only [List.getElem_toArray]
          try simp only [List.getElem_cons_succ]
          try simp only [List.getElem_cons_zero]
          try simp only [List.setIfInBounds_toArray]
          try simp only [List.set_cons_succ, List.set_cons_zero]
          refine wpAnyH_take (i := 4) (v := .slice (some ⟨gm, 0, none⟩) L.length cm) rfl (by kernel_rfl) (by kernel_rfl) (by kernel_rfl) (fun _ _ _ h => h) (Or.inl ⟨by kernel_rfl, fun w1 hSw => by clear hHeld; obtain ⟨k, k0, k1, k2, k3, k4, k5, k6, k7, k8, k9, k10, k11, k12⟩ := HCe.out _ hSw; go_simp⟩) hHeld ?_
          try simp only [Act.put]
          try simp only [List.getElem_toArray]
          try simp only [List.getElem_cons_succ]
          try simp only [List.getElem_cons_zero]
          try simp only [List.setIfInBounds_toArray]
          try simp only [List.set_cons_succ, List.set_cons_zero]
          refine wpAnyH_take (i := 5) (v := .int .i64 (p : Int)) rfl (by kernel_rfl) (by kernel_rfl) (by kernel_rfl) (fun _ _ _ h => h) (Or.inl ⟨by kernel_rfl, fun w1 hSw => by clear hHeld; obtain ⟨k, k0, k1, k2, k3, k4, k5, k6, k7, k8, k9, k10, k11, k12⟩ := HCe.out _ hSw; go_simp⟩) hHeld ?_
          try simp only [Act.put]
          try simp only [List.getElem_toArray]
          try simp only [List.getElem_cons_succ]
          try simp only [List.getElem_cons_zero]
          try simp only [List.setIfInBounds_toArray]
          try simp only [List.set_cons_succ, List.set_cons_zero]
          refine wpAnyH_take (i := 6) (v := .pointer (some ⟨gm, p * 16, none⟩)) rfl (by kernel_rfl) (by kernel_rfl) (by kernel_rfl) (fun _ _ _ h => h) (Or.inl ⟨by kernel_rfl, fun w1 hSw => by clear hHeld; obtain ⟨k, k0, k1, k2, k3, k4, k5, k6, k7, k8, k9, k10, k11, k12⟩ := HCe.out _ hSw; go_simp⟩) hHeld ?_
          try simp only [Act.put]
          try simp only [List.getElem_toArray]
          try simp only [List.getElem_cons_succ]
          try simp only [List.getElem_cons_zero]
          try simp only [List.setIfInBounds_toArray]
          try simp only [List.set_cons_succ, List.set_cons_zero]
          refine wpAnyH_take (i := 7) (v := .slice (some ⟨ab, ao, none⟩) Q.length cap) rfl (by kernel_rfl) (by kernel_rfl) (by kernel_rfl) (fun _ _ _ h => h) (Or.inl ⟨by kernel_rfl, fun w1 hSw => by clear hHeld; obtain ⟨k, k0, k1, k2, k3, k4, k5, k6, k7, k8, k9, k10, k11, k12⟩ := HCe.out _ hSw; go_simp⟩) hHeld ?_
          try simp only [Act.put]
          try simp only [List.getElem_toArray]
          try simp only [List.getElem_cons_succ]
          try simp only [List.getElem_cons_zero]
          try simp only [List.setIfInBounds_toArray]
          try simp only [List.set_cons_succ, List.set_cons_zero]
          refine wpAnyH_take (i := 8) (v := .int .i64 (i : Int)) rfl (by kernel_rfl) (by kernel_rfl) (by kernel_rfl) (fun _ _ _ h => h) (Or.inl ⟨by kernel_rfl, fun w1 hSw => by clear hHeld; obtain ⟨k, k0, k1, k2, k3, k4, k5, k6, k7, k8, k9, k10, k11, k12⟩ := HCe.out _ hSw; go_simp⟩) hHeld ?_
          try simp only [Act.put]
          try simp only [List.getElem_toArray]
          try simp only [List.getElem_cons_succ]
          try simp only [List.getElem_cons_zero]
          try simp only [List.setIfInBounds_toArray]
          try simp only [List.set_cons_succ, List.set_cons_zero]
          refine wpAnyH_take (i := 9) (v := .pointer (some ⟨ab, ao + i * 13, none⟩)) rfl (by kernel_rfl) (by kernel_rfl) (by kernel_rfl) (fun _ _ _ h => h) (Or.inl ⟨by kernel_rfl, fun w1 hSw => by clear hHeld; obtain ⟨k, k0, k1, k2, k3, k4, k5, k6, k7, k8, k9, k10, k11, k12⟩ := HCe.out _ hSw; go_simp⟩) hHeld ?_
          try simp only [Act.put]
          try simp only [List.getElem_toArray]
          try simp only [List.getElem_cons_succ]
          try simp only [List.getElem_cons_zero]
          try simp only [List.setIfInBounds_toArray]
          try simp only [List.set_cons_succ, List.set_cons_zero]
          refine wpAnyH_take (i := 10) (v := .agg #[.int .i64 q.k, .int .i64 q.on, .int .i64 q.m.k, .int .i64 q.m.se, .int .i64 q.m.nu, .int .i64 q.m.jo, .int .i64 q.m.ba, .int .i64 q.m.ix, .int .i64 q.m.co, .int .i64 q.m.rc, .int .u64 (q.m.rb : Int), .string q.m.tx, .string q.m.pr]) rfl (by kernel_rfl) (by kernel_rfl) (by kernel_rfl) (fun _ _ _ h => h) (Or.inl ⟨by kernel_rfl, fun w1 hSw => by clear hHeld; obtain ⟨k, k0, k1, k2, k3, k4, k5, k6, k7, k8, k9, k10, k11, k12⟩ := HCe.out _ hSw; go_simp⟩) hHeld ?_
          try simp only [Act.put]
          try simp only [List.getElem_toArray]
          try simp only [List.getElem_cons_succ]
          try simp only [List.getElem_cons_zero]
          try simp only [List.setIfInBounds_toArray]
          try simp only [List.set_cons_succ, List.set_cons_zero]
          refine wpAnyH_ready (rs := [11]) (by kernel_rfl) (by simp) ?_
          refine AllReadyH.cons rfl (fun K hK => ?_) AllReadyH.nil
          go_simp
          refine (cdoes_any HCd.out HXd.out HLk.out q).mono ?_
          rintro e V1 ⟨rfl, hc1, hx1, hm1⟩
          have HC1 := hide hc1
          have HX1 := hide hx1
          have HM1 := hide hm1
          clear hc1 hx1 hm1
          refine hK.out _ _ (HBk.out _ HM1.out) (fun hHeld => ?_)
          clear hK K
          try simp only [Act.put]
          try simp only [List.getElem_toArray]
          try simp only [List.getElem_cons_succ]
          try simp only [List.getElem_cons_zero]
          try simp only [List.setIfInBounds_toArray]
          try simp only [List.set_cons_succ, List.set_cons_zero]
          refine wpAnyH_take (i := 12) (v := .bool false) rfl (by kernel_rfl) (by kernel_rfl) (by kernel_rfl) (fun _ _ _ h => h) (Or.inl ⟨by kernel_rfl, fun w1 hSw => by clear hHeld; obtain ⟨k, k0, k1, k2, k3, k4, k5, k6, k7, k8, k9, k10, k11, k12⟩ := HCe.out _ hSw; go_simp⟩) hHeld ?_
          try simp only [Act.put]
          try simp only [List.getElem_toArray]
          try simp only [List.getElem_cons_succ]
          try simp only [List.getElem_cons_zero]
          try simp only [List.setIfInBounds_toArray]
          try simp only [List.set_cons_succ, List.set_cons_zero]
          refine wpAnyH_take (i := 13) (v := .bool false) rfl (by kernel_rfl) (by kernel_rfl) (by kernel_rfl) (fun _ _ _ h => h) (Or.inl ⟨by kernel_rfl, fun w1 hSw => by clear hHeld; obtain ⟨k, k0, k1, k2, k3, k4, k5, k6, k7, k8, k9, k10, k11, k12⟩ := HCe.out _ hSw; go_simp⟩) hHeld ?_
          try simp only [Act.put]
          try simp only [List.getElem_toArray]
          try simp only [List.getElem_cons_succ]
          try simp only [List.getElem_cons_zero]
          try simp only [List.setIfInBounds_toArray]
          try simp only [List.set_cons_succ, List.set_cons_zero]
          refine wpAnyH_take (i := 14) (v := .slice (some ⟨gl, 0, none⟩) L.length cl) rfl (by kernel_rfl) (by kernel_rfl) (by kernel_rfl) (fun _ _ _ h => h) (Or.inl ⟨by kernel_rfl, fun w1 hSw => by clear hHeld; obtain ⟨k, k0, k1, k2, k3, k4, k5, k6, k7, k8, k9, k10, k11, k12⟩ := HCe.out _ hSw; go_simp⟩) hHeld ?_
          try simp only [Act.put]
          try simp only [List.getElem_toArray]
          try simp only [List.getElem_cons_succ]
          try simp only [List.getElem_cons_zero]
          try simp only [List.setIfInBounds_toArray]
          try simp only [List.set_cons_succ, List.set_cons_zero]
          refine wpAnyH_take (i := 15) (v := .int .i64 (p : Int)) rfl (by kernel_rfl) (by kernel_rfl) (by kernel_rfl) (fun _ _ _ h => h) (Or.inl ⟨by kernel_rfl, fun w1 hSw => by clear hHeld; obtain ⟨k, k0, k1, k2, k3, k4, k5, k6, k7, k8, k9, k10, k11, k12⟩ := HCe.out _ hSw; go_simp⟩) hHeld ?_
          try simp only [Act.put]
          try simp only [List.getElem_toArray]
          try simp only [List.getElem_cons_succ]
          try simp only [List.getElem_cons_zero]
          try simp only [List.setIfInBounds_toArray]
          try simp only [List.set_cons_succ, List.set_cons_zero]
          refine wpAnyH_take (i := 16) (v := .pointer (some ⟨gl, p, none⟩)) rfl (by kernel_rfl) (by kernel_rfl) (by kernel_rfl) (fun _ _ _ h => h) (Or.inl ⟨by kernel_rfl, fun w1 hSw => by clear hHeld; obtain ⟨k, k0, k1, k2, k3, k4, k5, k6, k7, k8, k9, k10, k11, k12⟩ := HCe.out _ hSw; go_simp⟩) hHeld ?_
          try simp only [Act.put]
          try simp only [List.getElem_toArray]
          try simp only [List.getElem_cons_succ]
          try simp only [List.getElem_cons_zero]
          try simp only [List.setIfInBounds_toArray]
          try simp only [List.set_cons_succ, List.set_cons_zero]
          refine wpAnyH_take (i := 17) (v := .pointer (some ⟨s.b, 0, none⟩)) rfl (by kernel_rfl) (by kernel_rfl) (by kernel_rfl) (fun _ _ _ h => h) (Or.inl ⟨by kernel_rfl, fun w1 hSw => by clear hHeld; obtain ⟨k, k0, k1, k2, k3, k4, k5, k6, k7, k8, k9, k10, k11, k12⟩ := HCe.out _ hSw; go_simp⟩) hHeld ?_
          try simp only [Act.put]
          try simp only [List.getElem_toArray]
          try simp only [List.getElem_cons_succ]
          try simp only [List.getElem_cons_zero]
          try simp only [List.setIfInBounds_toArray]
          try simp only [List.set_cons_succ, List.set_cons_zero]
          refine wpAnyH_take (i := 18) (v := .slice (some ⟨gm, 0, none⟩) L.length cm) rfl (by kernel_rfl) (by kernel_rfl) (by kernel_rfl) (fun _ _ _ h => h) (Or.inl ⟨by kernel_rfl, fun w1 hSw => by clear hHeld; obtain ⟨k, k0, k1, k2, k3, k4, k5, k6, k7, k8, k9, k10, k11, k12⟩ := HCe.out _ hSw; go_simp⟩) hHeld ?_
          try simp only [Act.put]
          try simp only [List.getElem_toArray]
          try simp only [List.getElem_cons_succ]
          try simp only [List.getElem_cons_zero]
          try simp only [List.setIfInBounds_toArray]
          try simp only [List.set_cons_succ, List.set_cons_zero]
          refine wpAnyH_take (i := 19) (v := .int .i64 (p : Int)) rfl (by kernel_rfl) (by kernel_rfl) (by kernel_rfl) (fun _ _ _ h => h) (Or.inl ⟨by kernel_rfl, fun w1 hSw => by clear hHeld; obtain ⟨k, k0, k1, k2, k3, k4, k5, k6, k7, k8, k9, k10, k11, k12⟩ := HCe.out _ hSw; go_simp⟩) hHeld ?_
          try simp only [Act.put]
          try simp only [List.getElem_toArray]
          try simp only [List.getElem_cons_succ]
          try simp only [List.getElem_cons_zero]
          try simp only [List.setIfInBounds_toArray]
          try simp only [List.set_cons_succ, List.set_cons_zero]
          refine wpAnyH_take (i := 20) (v := .pointer (some ⟨gm, p * 16, none⟩)) rfl (by kernel_rfl) (by kernel_rfl) (by kernel_rfl) (fun _ _ _ h => h) (Or.inl ⟨by kernel_rfl, fun w1 hSw => by clear hHeld; obtain ⟨k, k0, k1, k2, k3, k4, k5, k6, k7, k8, k9, k10, k11, k12⟩ := HCe.out _ hSw; go_simp⟩) hHeld ?_
          try simp only [Act.put]
          try simp only [List.getElem_toArray]
          try simp only [List.getElem_cons_succ]
          try simp only [List.getElem_cons_zero]
          try simp only [List.setIfInBounds_toArray]
          try simp only [List.set_cons_succ, List.set_cons_zero]
          refine wpAnyH_ready (rs := [21]) (by kernel_rfl) (by simp) ?_
          refine AllReadyH.cons rfl (fun K hK => ?_) AllReadyH.nil
          go_simp
          refine (stands_any HC1.out HX1.out).mono ?_
          rintro e V2 ⟨rfl, nn, rfl⟩
          refine hK.out _ _ (HBk.out V1 HM1.out) (fun hHeld => ?_)
          clear hK K
          try simp only [Act.put]
          try simp only [List.getElem_toArray]
          try simp only [List.getElem_cons_succ]
          try simp only [List.getElem_cons_zero]
          try simp only [List.setIfInBounds_toArray]
          try simp only [List.set_cons_succ, List.set_cons_zero]
          refine wpAnyH_take (i := 22) (v := .bool false) rfl (by kernel_rfl) (by kernel_rfl) (by kernel_rfl) (fun _ _ _ h => h) (Or.inl ⟨by kernel_rfl, fun w1 hSw => by clear hHeld; obtain ⟨k, k0, k1, k2, k3, k4, k5, k6, k7, k8, k9, k10, k11, k12⟩ := HCe.out _ hSw; go_simp⟩) hHeld ?_
          try simp only [Act.put]
          try simp only [List.getElem_toArray]
          try simp only [List.getElem_cons_succ]
          try simp only [List.getElem_cons_zero]
          try simp only [List.setIfInBounds_toArray]
          try simp only [List.set_cons_succ, List.set_cons_zero]
          refine wpAnyH_take (i := 23) (v := .bool false) rfl (by kernel_rfl) (by kernel_rfl) (by kernel_rfl) (fun _ _ _ h => h) (Or.inl ⟨by kernel_rfl, fun w1 hSw => by clear hHeld; obtain ⟨k, k0, k1, k2, k3, k4, k5, k6, k7, k8, k9, k10, k11, k12⟩ := HCe.out _ hSw; go_simp⟩) hHeld ?_
          try simp only [Act.put]
          try simp only [List.getElem_toArray]
          try simp only [List.getElem_cons_succ]
          try simp only [List.getElem_cons_zero]
          try simp only [List.setIfInBounds_toArray]
          try simp only [List.set_cons_succ, List.set_cons_zero]
          refine wpAnyH_done (by kernel_rfl) ?_ _
          have hmc : Mc s.b gm (p * 16) wr (V1.drewN nn) := ⟨HM1.out.os, HM1.out.tape, HM1.out.output, HM1.out.size, HM1.out.block, HM1.out.row⟩
          have HM6 := hide (HM.out.step HS.out (s.c.does q) (lDoes s.c q s.l) (HLk.out.does q HBO.out.2.1.2) (HC1.out.drewN nn) (HX1.out.drewN nn) hmc)
          have HB6 : Hid (Below B w (V1.drewN nn)) := hide (HB.out.trans (hmc.below (HM.out.kc.lo p s HS.out) (HM.out.rm.lt gm rfl).1 hBr))
          clear HC1 HX1 HM1 hHeld HBk HCe HCd HXd HM HB HXb hmc
          generalize V1.drewN nn = V2 at *
          go_wp2_with fail
          go_roundw
          case rel => exact ⟨gl, cl, gm, cm, i + 1, L.set p ⟨s.b, s.c.does q, lDoes s.c q s.l⟩, by rw [List.length_set], by rw [List.length_set], by go_num, by omega, by rw [List.length_set]; exact hL1, by rw [List.length_set]; omega, by rw [List.length_set]; exact HM6, HB6⟩
          case measure => simp only [intOf]; omega
    · have hii : ¬ (i : Int) < (Q.length : Int) := by omega
      go_wp2_with fail
      go_loopw [13] (fun u wx => ∃ j : Nat, u = .int .i64 (j : Int) ∧ j ≤ L.length ∧ Hid (Mm B wx (.slice (some ⟨gl, 0, none⟩) L.length cl) (.slice (some ⟨gm, 0, none⟩) L.length cm) L) ∧ Hid (Below B w wx)) (fun u _ => L.length - (intOf u).toNat)
      case atStart => exact ⟨0, rfl, Nat.zero_le _, HM, HB⟩
      case round =>
        clear HM HB
        obtain ⟨p, rfl, hj, HM, HB⟩ := hrel
        by_cases hp : p < L.length
        · have hpI : (p : Int) < (L.length : Int) := by omega
          obtain ⟨s, hs⟩ : ∃ s, L[p]? = some s := ⟨_, List.getElem?_eq_getElem hp⟩
          have m0 := HM.out.cl hs
          have HCb := hide (HM.out.kc.cb p s hs)
          have HXb := hide (own_xb HM.out.rm hs)
          clear hs
          go_wp2_with fail
          have HCe : Hid (∀ V : World, V.heap[gl]? = wr.heap[gl]? → V.cell? ⟨gl, p, none⟩ = some (.pointer (some ⟨s.b, 0, none⟩))) := hide fun V hV => (World.cell?_of_block hV).trans m0
          have HCd : Hid (Cb wr.drew s.b s.c) := hide HCb.out.drew
          have HXd : Hid (Xb wr.drew gm (p * 16) (xC s.c s.l)) := hide (HXb.out.keep rfl)
          clear m0
          refine wp_region_held_drew (S := fun w' => w'.heap[gl]? = wr.heap[gl]?) (by kernel_rfl) (rfl) (fun hHeld => ?_)
          refine wpAnyH_take (i := 0) (v := .slice (some ⟨gl, 0, none⟩) L.length cl) rfl (by kernel_rfl) (by kernel_rfl) (by kernel_rfl) (fun _ _ _ h => h) (Or.inl ⟨by kernel_rfl, fun w1 hSw => by clear hHeld; have k0 := HCe.out _ hSw; go_simp⟩) hHeld ?_
          try simp only [Act.put]
          try simp only [List.getElem_toArray]
          try simp only [List.getElem_cons_succ]
          try simp only [List.getElem_cons_zero]
          try simp only [List.setIfInBounds_toArray]
          try simp only [List.set_cons_succ, List.set_cons_zero]
          refine wpAnyH_take (i := 1) (v := .int .i64 (p : Int)) rfl (by kernel_rfl) (by kernel_rfl) (by kernel_rfl) (fun _ _ _ h => h) (Or.inl ⟨by kernel_rfl, fun w1 hSw => by clear hHeld; have k0 := HCe.out _ hSw; go_simp⟩) hHeld ?_
          try simp only [Act.put]
          try simp only [List.getElem_toArray]
          try simp only [List.getElem_cons_succ]
          try simp only [List.getElem_cons_zero]
          try simp only [List.setIfInBounds_toArray]
          try simp only [List.set_cons_succ, List.set_cons_zero]
          refine wpAnyH_take (i := 2) (v := .pointer (some ⟨gl, p, none⟩)) rfl (by kernel_rfl) (by kernel_rfl) (by kernel_rfl) (fun _ _ _ h => h) (Or.inl ⟨by kernel_rfl, fun w1 hSw => by clear hHeld; have k0 := HCe.out _ hSw; go_simp⟩) hHeld ?_
          try simp only [Act.put]
          try simp only [List.getElem_toArray]
          try simp only [List.getElem_cons_succ]
          try simp only [List.getElem_cons_zero]
          try simp only [List.setIfInBounds_toArray]
          try simp only [List.set_cons_succ, List.set_cons_zero]
          refine wpAnyH_take (i := 3) (v := .pointer (some ⟨s.b, 0, none⟩)) rfl (by kernel_rfl) (by kernel_rfl) (by kernel_rfl) (fun _ _ _ h => h) (Or.inl ⟨by kernel_rfl, fun w1 hSw => by clear hHeld; have k0 := HCe.out _ hSw; go_simp⟩) hHeld ?_
          try simp only [Act.put]
          try simp only [List.getElem_toArray]
          try simp only [List.getElem_cons_succ]
          try simp only [List.getElem_cons_zero]
          try simp only [List.setIfInBounds_toArray]
          try simp only [List.set_cons_succ, List.set_cons_zero]
          refine wpAnyH_take (i := 4) (v := .slice (some ⟨gm, 0, none⟩) L.length cm) rfl (by kernel_rfl) (by kernel_rfl) (by kernel_rfl) (fun _ _ _ h => h) (Or.inl ⟨by kernel_rfl, fun w1 hSw => by clear hHeld; have k0 := HCe.out _ hSw; go_simp⟩) hHeld ?_
          try simp only [Act.put]
          try simp only [List.getElem_toArray]
          try simp only [List.getElem_cons_succ]
          try simp only [List.getElem_cons_zero]
          try simp only [List.setIfInBounds_toArray]
          try simp only [List.set_cons_succ, List.set_cons_zero]
          refine wpAnyH_take (i := 5) (v := .int .i64 (p : Int)) rfl (by kernel_rfl) (by kernel_rfl) (by kernel_rfl) (fun _ _ _ h => h) (Or.inl ⟨by kernel_rfl, fun w1 hSw => by clear hHeld; have k0 := HCe.out _ hSw; go_simp⟩) hHeld ?_
          try simp only [Act.put]
          try simp only [List.getElem_toArray]
          try simp only [List.getElem_cons_succ]
          try simp only [List.getElem_cons_zero]
          try simp only [List.setIfInBounds_toArray]
          try simp only [List.set_cons_succ, List.set_cons_zero]
          refine wpAnyH_take (i := 6) (v := .pointer (some ⟨gm, p * 16, none⟩)) rfl (by kernel_rfl) (by kernel_rfl) (by kernel_rfl) (fun _ _ _ h => h) (Or.inl ⟨by kernel_rfl, fun w1 hSw => by clear hHeld; have k0 := HCe.out _ hSw; go_simp⟩) hHeld ?_
          try simp only [Act.put]
          try simp only [List.getElem_toArray]
          try simp only [List.getElem_cons_succ]
          try simp only [List.getElem_cons_zero]
          try simp only [List.setIfInBounds_toArray]
          try simp only [List.set_cons_succ, List.set_cons_zero]
          refine wpAnyH_ready (rs := [7]) (by kernel_rfl) (by simp) ?_
          refine AllReadyH.cons rfl (fun K hK => ?_) AllReadyH.nil
          go_simp
          refine (stands_any HCd.out HXd.out).mono ?_
          rintro e V1 ⟨rfl, nn, rfl⟩
          refine hK.out _ _ (rfl) (fun hHeld => ?_)
          clear hK K
          try simp only [Act.put]
          try simp only [List.getElem_toArray]
          try simp only [List.getElem_cons_succ]
          try simp only [List.getElem_cons_zero]
          try simp only [List.setIfInBounds_toArray]
          try simp only [List.set_cons_succ, List.set_cons_zero]
          refine wpAnyH_take (i := 8) (v := .bool false) rfl (by kernel_rfl) (by kernel_rfl) (by kernel_rfl) (fun _ _ _ h => h) (Or.inl ⟨by kernel_rfl, fun w1 hSw => by clear hHeld; have k0 := HCe.out _ hSw; go_simp⟩) hHeld ?_
          try simp only [Act.put]
          try simp only [List.getElem_toArray]
          try simp only [List.getElem_cons_succ]
          try simp only [List.getElem_cons_zero]
          try simp only [List.setIfInBounds_toArray]
          try simp only [List.set_cons_succ, List.set_cons_zero]
          refine wpAnyH_done (by kernel_rfl) ?_ _
          have HB6 : Hid (Below B w (wr.drew.drewN nn)) := hide ⟨HB.out.os, HB.out.tape, HB.out.output, HB.out.size, HB.out.block⟩
          have HM6 : Hid (Mm B (wr.drew.drewN nn) (.slice (some ⟨gl, 0, none⟩) L.length cl) (.slice (some ⟨gm, 0, none⟩) L.length cm) L) := hide (HM.out.below ⟨rfl, rfl, rfl, Nat.le_refl _, fun _ _ => rfl⟩)
          clear hHeld HCb HXb HM HB
          generalize wr.drew.drewN nn = V2 at *
          go_wp2_with fail
          go_roundw
          case rel => exact ⟨p + 1, by go_num, by omega, HM6, HB6⟩
          case measure => simp only [intOf]; omega
        · have hpI : ¬ (p : Int) < (L.length : Int) := by omega
          clear HM
          go_wp2_with fail
          go_ret
          exact ⟨rfl, by rw [HBe.out]; exact HB.out⟩
end Go.Proofs.Ytaikogbeaohmhaa
