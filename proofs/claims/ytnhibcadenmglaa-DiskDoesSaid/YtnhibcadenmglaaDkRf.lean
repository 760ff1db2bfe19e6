import Derived.Test.YtnhibcadenmglaaDkRe
import Derived.Test.YtnhibcadenmglaaDkQ
namespace Go.Proofs.Ytnhibcadenmglaa
open Go.RowKit

theorem Try.infoP : (Try.prog.info? 32).map (fun i => (i.zero, i.size, i.bytes)) = some (some (.agg #[.pointer none, .pointer none]), 2, 16) := by kernel_rfl
section
variable {B : Nat} {w w' : World} {L : List St} {N g cap : Nat}
theorem Mem.cells (h : Mem B w (.slice (some ⟨g, 0, none⟩) L.length cap) L N) {i : Nat} {x : St} (hx : L[i]? = some x) : w.cell? ⟨g, i * 2, none⟩ = some (.pointer (some ⟨x.b, 0, none⟩)) ∧ w.cell? ⟨g, i * 2 + 1, none⟩ = some (.pointer (some ⟨x.c, 0, none⟩)) := by
  obtain ⟨hi, rfl⟩ := List.getElem?_eq_some_iff.1 hx
  obtain ⟨h1, h2⟩ := pcs_get L i hi
  have e1 := h.row.cells (g := g) rfl _ _ h1
  have e2 := h.row.cells (g := g) rfl _ _ h2
  rw [Addr.add_lit, Nat.zero_add] at e1 e2
  exact ⟨e1, e2⟩
theorem Left.mv {b c : Nat} {F G : Nat → Prop} {d : DS} (h : Left B w w' b c F G d) : ∃ F', Mv (Tn F c) (Tn F' c) w w' := by obtain ⟨_, F', _, _, _, h, _⟩ := h; exact ⟨F', h⟩
end

set_option maxHeartbeats 2000000 in
set_option maxRecDepth 8000 in
theorem played_any {B : Nat} {w : World} {b c : Nat} {F G : Nat → Prop} {d : DS} {ad3 : Option Addr} {ab3 ao3 cap3 : Nat} {Q : List OpV} (h : Pr B w b c F G d d) (hN : d.R.length ≤ 0) (h3 : Ro w ad3 ab3 ao3 Q) (hab : 0 < Q.length → ab3 < B) (hQ : Q.length ≤ 5864062014634) :
    Calls Try.prog 11 #[.agg #[.pointer (some ⟨b, 0, none⟩), .pointer (some ⟨c, 0, none⟩)], .slice ad3 Q.length cap3] w fun e w' => e = .returned (.bool true) ∧ Below B w w' := by
  obtain ⟨iP, hiP, zP0, zP1, zP2⟩ := info_parts Try.infoP
  have hBw : B ≤ w.heap.size := by have := h.hr.low; have := h.hr.lt; omega
  obtain ⟨W1, hW1⟩ : ∃ W1, w.alloc (.cells #[.pointer (some ⟨b, 0, none⟩), .pointer (some ⟨c, 0, none⟩)] 32) = W1 := ⟨_, rfl⟩
  have hb1 : Below w.heap.size w W1 := by rw [← hW1]; exact (Below.refl _ w).alloc (Nat.le_refl _) _
  have hs1 : W1.heap.size = w.heap.size + 1 := by rw [← hW1]; exact World.size_alloc _ _
  have START : Hid (Mem B (W1.alloc (.cells #[.pointer (some ⟨b, 0, none⟩), .pointer (some ⟨c, 0, none⟩)] 32)) (.slice (some ⟨W1.heap.size, 0, none⟩) 1 1) [⟨b, c, F, G, d⟩] 0) := by
    refine Mem.one ((h.below hb1).below ((Below.refl _ W1).alloc (Nat.le_refl _) _)) ?_ ?_ hN
    · exact World.ownsRow_lit (base := B) (e := 32) (size := 2) W1 #[.pointer (some ⟨b, 0, none⟩), .pointer (some ⟨c, 0, none⟩)] 1 (by omega) (by unfold maxLen; omega) rfl
    · exact ⟨fun hf => absurd (h.hd.ftlt _ hf).2 (by omega), fun e => absurd h.hr.lt (by omega), fun hg => absurd (h.hr.glt _ hg).2 (by omega)⟩
  have STB : Hid (Below B w (W1.alloc (.cells #[.pointer (some ⟨b, 0, none⟩), .pointer (some ⟨c, 0, none⟩)] 32))) := (below_up hb1 hBw).alloc (by omega) _
  have p0 : W1.cell? ⟨w.heap.size, 0, none⟩ = some (.pointer (some ⟨b, 0, none⟩)) := by have := heap_alloc_new w (.cells #[.pointer (some ⟨b, 0, none⟩), .pointer (some ⟨c, 0, none⟩)] 32); rw [hW1] at this; simp [World.cell?, this]
  have p1 : W1.cell? ⟨w.heap.size, 1, none⟩ = some (.pointer (some ⟨c, 0, none⟩)) := by have := heap_alloc_new w (.cells #[.pointer (some ⟨b, 0, none⟩), .pointer (some ⟨c, 0, none⟩)] 32); rw [hW1] at this; simp [World.cell?, this]
  have KR : Hid (∀ w2, Below B w w2 → Ro w2 ad3 ab3 ao3 Q) := fun w2 hb => h3.keep (fun h0 => hb.block _ (hab h0))
  have HS1 := hide hs1
  clear h hb1 h3 hN hs1
  go_enter Try.func11, Try.ntmps11
  go_upto_region 2 with fail
  clear hW1 p0 p1
  go_wp2_with fail
  go_loopw [5, 6] (fun u t wr => ∃ (g cap i : Nat) (L : List St), u = .slice (some ⟨g, 0, none⟩) L.length cap ∧ t = .int .i64 (i : Int) ∧ i ≤ Q.length ∧ 1 ≤ L.length ∧ L.length ≤ 8 ∧ Hid (Mem B wr (.slice (some ⟨g, 0, none⟩) L.length cap) L i) ∧ Hid (Below B w wr)) (fun _ t _ => (Q.length - (intOf t).toNat))
  case atStart => exact ⟨_, _, 0, [⟨b, c, F, G, d⟩], rfl, rfl, Nat.zero_le _, Nat.le_refl _, (by decide : 1 ≤ 8), START, STB⟩
  case round =>
    clear START STB HS1
    obtain ⟨g, cap, i, L, rfl, rfl, hi, hL1, hL8, HM, HB⟩ := hrel
    by_cases hil : i < Q.length
    · have O := KR.out wr HB.out
      have ea := O.at_ (by omega)
      have g0 := O.on i hil
      have hbo := O.bo i hil
      have hba := O.ba i hil
      have KO : Hid (∀ w2, Below B w w2 → w2.cell? ⟨ab3, ao3 + i * 5, none⟩ = some (.int .i64 Q[i].on) ∧ w2.cell? ⟨ab3, ao3 + i * 5 + 1, none⟩ = some (.int .i64 Q[i].k) ∧ w2.cell? ⟨ab3, ao3 + i * 5 + 2, none⟩ = some (.int .i64 Q[i].a) ∧ w2.cell? ⟨ab3, ao3 + i * 5 + 3, none⟩ = some (.int .i64 Q[i].b) ∧ w2.cell? ⟨ab3, ao3 + i * 5 + 4, none⟩ = some (.string Q[i].s)) := fun w2 hb => ⟨(KR.out w2 hb).on i hil, (KR.out w2 hb).k i hil, (KR.out w2 hb).a i hil, (KR.out w2 hb).b i hil, (KR.out w2 hb).s i hil⟩
      have habB := hab (by omega)
      subst ea
      generalize Q[i] = q at *
      obtain ⟨x0, x1, x2, x3, x4⟩ := q
      simp only at g0 hbo hba KO
      clear O
      have hBr : B ≤ wr.heap.size := Nat.le_trans hBw HB.out.size
      go_wp2_with fail
      refine (place_any (m := L.length) (by omega) (by omega) hbo).mono ?_
      rintro e wr' ⟨p, hpL, rfl, e1⟩
      have e1' := e1.symm
      subst e1'
      clear e1 g0
      obtain ⟨x, hx⟩ : ∃ x, L[p]? = some x := ⟨_, List.getElem?_eq_getElem hpL⟩
      obtain ⟨m0, m1⟩ := HM.out.cells hx
      have hpI : (p : Int) < (L.length : Int) := by omega
      obtain ⟨bx, hbx⟩ : ∃ o, Obj.cells #[.pointer (some ⟨x.b, 0, none⟩), .pointer (some ⟨x.c, 0, none⟩)] 32 (0, 0) = o := ⟨_, rfl⟩
      have HMx := hide ((HM.out.below ((Below.refl _ wr).alloc (Nat.le_refl _) bx)).drew)
      have HBx := hide (HB.out.alloc hBr bx)
      have KB : Hid (∀ w2 : World, w2.heap[wr.heap.size]? = some bx → w2.cell? ⟨wr.heap.size, 0, none⟩ = some (.pointer (some ⟨x.b, 0, none⟩)) ∧ w2.cell? ⟨wr.heap.size, 1, none⟩ = some (.pointer (some ⟨x.c, 0, none⟩))) := fun w2 e => by rw [← hbx] at e; exact ⟨by simp [World.cell?, e], by simp [World.cell?, e]⟩
      have HBN := hide (heap_alloc_new wr bx)
      have HXS := hide (World.size_alloc wr bx)
      have HX := hide hx
      have HOB := hide hbx
      have hpx := HMx.out.each p x hx
      have HLW := hide (tn_low (HM.out.each p x hx))
      have HAN := hide (answers_any hpx x0 x1 x2 x3 x4 hba (by have := HM.out.few p x hx; omega))
      clear hx hbx hpx
      go_upto_region 6 with fail
      rw [HOB.out]
      clear m0 m1
      obtain ⟨s0, s1, s2, s3, s4⟩ := KO.out _ HBx.out
      obtain ⟨q0, q1⟩ := KB.out _ HBN.out
      generalize wr.alloc bx = W2 at *
      have KA : Hid (∀ w5, Left B W2.drew w5 x.b x.c x.F x.G x.d → w5.heap[wr.heap.size]? = some bx ∧ Below B w w5) := fun w5 hl => by
        obtain ⟨F', hm⟩ := hl.mv
        have hsz := HXS.out
        refine ⟨(hm.block _ (by show wr.heap.size < W2.heap.size; omega) (fun ht => absurd (HLW.out _ ht).2 (by omega))).trans HBN.out, HBx.out.trans (below_drew (hm.below (B := B) (by show B ≤ W2.heap.size; omega) (fun k hk => (HLW.out k hk).1)))⟩
      go_region_held3 (fun w' => w'.cell? ⟨wr.heap.size, 0, none⟩ = some (.pointer (some ⟨x.b, 0, none⟩)) ∧ w'.cell? ⟨wr.heap.size, 1, none⟩ = some (.pointer (some ⟨x.c, 0, none⟩)) ∧ w'.cell? ⟨ab3, ao3 + i * 5, none⟩ = some (.int .i64 x0) ∧ w'.cell? ⟨ab3, ao3 + i * 5 + 1, none⟩ = some (.int .i64 x1) ∧ w'.cell? ⟨ab3, ao3 + i * 5 + 2, none⟩ = some (.int .i64 x2) ∧ w'.cell? ⟨ab3, ao3 + i * 5 + 3, none⟩ = some (.int .i64 x3) ∧ w'.cell? ⟨ab3, ao3 + i * 5 + 4, none⟩ = some (.string x4)) (go_keep) (first
        | (go_at_call 31; refine HAN.out.mono ?_; rintro e w5 ⟨rfl, hl5⟩; have HL5 := hide hl5; obtain ⟨e5, b5⟩ := KA.out w5 hl5; have HE5 := hide e5; have HB5 := hide b5; obtain ⟨z0, z1⟩ := KB.out w5 e5; obtain ⟨y0, y1, y2, y3, y4⟩ := KO.out w5 b5; clear hl5 e5 b5))
      obtain ⟨y, hyb, hyc, hM5, hy5⟩ := HMx.out.step HX.out HL5.out
      have HM5 := hide hM5
      have HY5 := hide hy5
      have HLL : Hid ((L.set p y).length = L.length) := List.length_set
      have hpy := hide (hM5.each p y hy5)
      clear hM5 hy5 s0 s1 s2 s3 s4 q0 q1 HAN KA HMx HBx HM HB HL5
      by_cases hk : x1 = 7
      · subst hk
        by_cases h8 : L.length < 8
        · have d8 : decide ((L.length : Int) < 8) = true := by simp; omega
          have HCL := hide (clone_any hpy.out.hd (by have := HM5.out.few p y HY5.out; omega))
          rw [hyb] at HCL
          go_wp2_with fail
          refine HCL.out.mono ?_
          rintro e w6 ⟨b', F', rfl, hD6, hb6⟩
          have HD6 := hide hD6
          have HB6 := hide hb6
          have e6 := (hb6.block _ (lt_of_block HE5.out)).trans HE5.out
          have HE6 := hide e6
          have HCP := hide (rcopy_any (hpy.out.below hb6).hr)
          rw [hyc] at HCP
          clear hD6 hb6 HCL z0 z1 y0 y1 y2 y3 y4 e6
          obtain ⟨z0, z1⟩ := KB.out w6 HE6.out
          go_wp2_with fail
          refine HCP.out.mono ?_
          rintro e w7 ⟨rfl, hR7, hb7⟩
          have HR7 : Hid (Rk B w7 w6.heap.size y.G y.d) := hR7
          have HB7 := hide hb7
          have hrow7 := own_keep (own_keep HM5.out.row (w' := w6) (fun k hk => HB6.out.block k (HM5.out.row.lt k hk).2)) (w' := w7) (fun k hk => hb7.block k (by have := (HM5.out.row.lt k hk).2; have := HB6.out.size; omega))
          have HROW := hide hrow7
          have hlen8 : (L.set p y).length < 8 := by rw [HLL.out]; exact h8
          have HS7 : Hid (B ≤ w7.heap.size) := show _ ≤ _ by have := HB5.out.size; have := HB6.out.size; have := hb7.size; omega
          clear hR7 hb7 hrow7 z0 z1 HCP
          go_upto_region 4 with (at_builtin; refine wpList_append_lies _ rfl _ _ 67 rfl B 32 iP (.agg #[.pointer none, .pointer none]) 2 16 Try.underlying67 hiP zP0 zP1 zP2 rfl (by decide) (.slice (some ⟨g, 0, none⟩) L.length cap) (L.set p y).length (pcs (L.set p y)) rfl (HROW.out.alloc _) ⟨w7.heap.size, 0, none⟩ 1 1 [.pointer (some ⟨b', 0, none⟩), .pointer (some ⟨w6.heap.size, 0, none⟩)] rfl rfl (two_new _ _ _ _) (by intro u hu; simp at hu; rcases hu with rfl | rfl <;> rfl) (by decide) (by unfold maxLen; omega) (by omega) (by rw [World.size_alloc]; have := HS7.out; omega) _ rfl ?_; intro g9 cap9 w9 hown9 hgrow9 hat9 _)
          have hP := HM5.out.push HY5.out HD6.out HB6.out HR7.out rfl HB7.out hown9 hgrow9 (hat9.elim (fun e => .inl (by rw [e]; rfl)) (fun e => .inr (fun k hk => by simp only [Value.ownBlock] at hk; injection hk with hk; rw [← hk, e, World.size_alloc]; omega)))
          have HP1 := hide hP.1
          have HP2 := hide (HB5.out.trans hP.2)
          clear hP hown9 hgrow9 hat9
          go_wp2_with fail
          refine ⟨⟨g9, cap9, i + 1, L.set p y ++ [⟨b', w6.heap.size, F', y.G, y.d⟩], by rw [List.length_append, HLL.out]; rfl, by go_num, by omega, by rw [List.length_append]; simp, by rw [List.length_append, List.length_singleton]; omega, ?_, HP2⟩, by simp [intOf]; omega⟩
          rw [List.length_append]; exact HP1
        · have d8 : decide ((L.length : Int) < 8) = false := by simp; omega
          go_wp2_with fail
          refine ⟨⟨g, cap, i + 1, L.set p y, by rw [HLL.out], by go_num, by omega, by rw [HLL.out]; exact hL1, by rw [HLL.out]; exact hL8, ?_, HB5⟩, by simp [intOf]; omega⟩
          rw [HLL.out]; exact HM5
      · have d7 : (x1 == 7) = false := by simpa using hk
        go_wp2_with fail
        refine ⟨⟨g, cap, i + 1, L.set p y, by rw [HLL.out], by go_num, by omega, by rw [HLL.out]; exact hL1, by rw [HLL.out]; exact hL8, ?_, HB5⟩, by simp [intOf]; omega⟩
        rw [HLL.out]; exact HM5
    · have ei : Q.length = i := by omega
      subst ei
      clear hi hil
      go_wp2_with fail
      go_loopw [10] (fun u wx => ∃ j : Nat, u = .int .i64 (j : Int) ∧ j ≤ L.length ∧ Hid (Mem B wx (.slice (some ⟨g, 0, none⟩) L.length cap) L Q.length) ∧ Hid (Below B w wx)) (fun u _ => (L.length - (intOf u).toNat))
      case atStart => exact ⟨0, rfl, Nat.zero_le _, HM, HB⟩
      case round =>
        clear HM HB
        obtain ⟨j, rfl, hj, HM, HB⟩ := hrel
        by_cases hjl : j < L.length
        · obtain ⟨x, hx⟩ : ∃ x, L[j]? = some x := ⟨_, List.getElem?_eq_getElem hjl⟩
          have HX := hide hx
          have hpx := HM.out.each j x hx
          have hfew := HM.out.few j x hx
          obtain ⟨m0, m1⟩ := HM.out.cells hx
          obtain ⟨adS, cS, abS, adR, cR, abR, r0, r1, r4, hrs, hrr, hv, _⟩ := hpx.hr.cells
          have HV := hide hv
          have HRS := hide hrs
          have HRR := hide hrr
          have hSl := hpx.hd.ok.s1
          have HPX := hide hpx
          have KM : Hid (∀ w5, Below wr.heap.size wr w5 → (w5.cell? ⟨g, j * 2, none⟩ = some (.pointer (some ⟨x.b, 0, none⟩)) ∧ w5.cell? ⟨g, j * 2 + 1, none⟩ = some (.pointer (some ⟨x.c, 0, none⟩))) ∧ w5.cell? ⟨x.c, 0, none⟩ = some (.slice adS x.d.S.length cS) ∧ w5.cell? ⟨x.c, 1, none⟩ = some (.slice adR x.d.R.length cR) ∧ w5.cell? ⟨x.c, 4, none⟩ = some (.bool x.d.dead)) := fun w5 hb => ⟨(HM.out.below hb).cells HX.out, (HV.out.below hb).c0, (HV.out.below hb).c1, (HV.out.below hb).c4⟩
          have HDD := hide (dead_any hpx.hd.drew)
          have HRW := hide (raw_rw hpx.hd.drew (by omega))
          have hjI : (j : Int) < (L.length : Int) := by omega
          have hBr : B ≤ wr.heap.size := Nat.le_trans hBw HB.out.size
          clear hx hpx hv hrs hrr
          go_wp2_with fail
          first | (go_region_held3 (fun w' => w'.cell? ⟨g, j * 2, none⟩ = some (.pointer (some ⟨x.b, 0, none⟩)) ∧ w'.cell? ⟨g, j * 2 + 1, none⟩ = some (.pointer (some ⟨x.c, 0, none⟩)) ∧ w'.cell? ⟨x.c, 0, none⟩ = some (.slice adS x.d.S.length cS) ∧ w'.cell? ⟨x.c, 1, none⟩ = some (.slice adR x.d.R.length cR) ∧ w'.cell? ⟨x.c, 4, none⟩ = some (.bool x.d.dead)) (go_keep) (first
            | (go_at_call 23; refine HDD.out.mono ?_; rintro e w4 ⟨rfl, rfl⟩)
            | (go_at_call 21; refine HRW.out.mono ?_; rintro e w5 ⟨ad5, cap5, ab5, rfl, hr5, _, hb5⟩; have HR5 := hide hr5; have HB5 := hide (below_drew hb5); obtain ⟨⟨a0, a1⟩, a2, a3, a4⟩ := KM.out w5 (below_drew hb5); clear hr5 hb5)
            | (go_at_call 18; refine (sameRaw_b (l := x.d.R) HR5.out (HRR.out.below HB5.out) (by omega)).mono ?_; rintro e w6 ⟨rfl, hb6⟩; have HB6 := hide (HB5.out.trans (below_up hb6 HB5.out.size)); obtain ⟨⟨c0, c1⟩, c2, c3, c4⟩ := KM.out w6 HB6.out; clear hb6)
            | (go_at_call 22; refine (sectors_rs (HPX.out.hd.below HB6.out)).mono ?_; rintro e w7 ⟨ad7, cap7, ab7, rfl, hr7, _, hb7⟩; have HR7 := hide hr7; have HB7 := hide (HB6.out.trans (below_up hb7 HB6.out.size)); obtain ⟨⟨d0, d1⟩, d2, d3, d4⟩ := KM.out w7 HB7.out; clear hr7 hb7)
            | (go_at_call 15; refine (same_b (l := x.d.S) HR7.out (HRS.out.below HB7.out) (by omega)).mono ?_; rintro e w8 ⟨rfl, hb8⟩; have HB8 := hide (HB7.out.trans (below_up hb8 HB7.out.size)); obtain ⟨⟨f0, f1⟩, f2, f3, f4⟩ := KM.out w8 HB8.out; clear hb8))) | fail
          have HM8 := hide (HM.out.below HB8.out)
          have HBB8 := hide (HB.out.trans (below_up HB8.out hBr))
          go_wp2_with fail
          exact ⟨⟨j + 1, by go_num, by omega, HM8, HBB8⟩, by simp [intOf]; omega⟩
        · have ej : L.length = j := by omega
          subst ej
          go_wp2_with fail
          go_ret
          exact ⟨rfl, HB.out⟩
end Go.Proofs.Ytnhibcadenmglaa
