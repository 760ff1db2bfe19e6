import Derived.Test.YthjngodkpldpfaaGreatDoorMgBP
import Derived.Test.YthjngodkpldpfaaGreatDoorMgBK
import Derived.Deep.DeepCutAuto
import Derived.Deep.CutBlock
import Derived.Deep.LoopGhost
import Derived.Deep.AppendLies

section
namespace Go.Proofs.YthjngodkpldpfaaGreatDoor
open Go.RowKit Go.Shelf

/-- a call of a script -/
structure OpT where
  kd : Int
  on : Int
  n : Int
deriving Inhabited
/-- a slice of calls that came in -/
structure Ot (w : World) (u : Value) (Q : List OpT) : Prop where
  form : ∃ ad cap, u = .slice ad Q.length cap ∧ (0 < Q.length → ∃ b off, ad = some ⟨b, off, none⟩ ∧ b < w.heap.size ∧ ∀ j, j < Q.length → w.cell? ⟨b, off + j * 3, none⟩ = some (.int .i64 (Q[j]!).kd) ∧ w.cell? ⟨b, off + j * 3 + 1, none⟩ = some (.int .i64 (Q[j]!).on) ∧ w.cell? ⟨b, off + j * 3 + 2, none⟩ = some (.int .i64 (Q[j]!).n))
  len : Q.length ≤ 5864062014634
  bd : ∀ j, j < Q.length → (-9223372036854775808 ≤ (Q[j]!).on ∧ (Q[j]!).on ≤ 9223372036854775807) ∧ (Q[j]!).n ≤ 9223372036854775807
theorem vs_one {w : World} {B fuel : Nat} {m : Mc} {v : Value} {xs : List In} (h : m.L8) (hc : Cdn w v xs B) : (m.vs v fuel).toArray.all (·.oneCell') = true := by
  obtain ⟨r0, r1, r2, r3, r4, r5, r6, r7, s0, s1, s2, s3, s4, s5, s6, s7, p0, p1, p2, p3, p4, p5, p6, p7, hm⟩ := h.cut
  obtain ⟨_, _, _, rfl, _⟩ := hc
  rw [hm]
  simp [Mc.vs, Value.oneCell']
set_option maxRecDepth 20000 in
set_option maxHeartbeats 8000000 in
theorem interpSteps_walk (fuel : Int) (xs : List In) (hx : ∀ x ∈ xs, x.Fits) (v : Value) (Q : List OpT) (qv : Value) (w : World) (h : Cd w v xs) (hQ : Ot w qv Q) (hT : Tbs w) :
    Calls Tryz.prog 3 #[.agg #[.int .i64 fuel, v], qv] w fun e w' => e = .returned (.bool true) ∧ Below w.heap.size w w' := by
  have HCd := hide h
  have HT := hide hT
  have HX := hide hx
  have hQl := hQ.len
  have HQB := hide hQ.bd
  obtain ⟨ad, qcap, rfl, hQ1⟩ := hQ.form
  have HQ := hide hQ1
  clear hQ hQ1
  by_cases hE : (Pg.checkE fuel xs).1 = 0
  · obtain ⟨f, rfl, hp⟩ := pok_of hx hE
    have hc := check_zz hp hE
    have HP := hide hp
    have HC := hide hc
    have hf1 := hp.f1
    have hf2 := hp.f2
    have hl1 := hp.l1
    have hl2 := hp.l2
    obtain ⟨p, cap, rfl, -⟩ := h
    clear hE hp hc hx hT
    go_enter Tryz.func3, Tryz.ntmps3
    go_wp2_with fail
    refine (new_ok HX.out (HCd.out.below (below_one w _) (Nat.le_refl _)) HC.out (by omega) hl2).mono ?_
    rintro e w1 ⟨B, v1, rfl, hmb, hcd, hB, hb1⟩
    simp only [World.size_alloc] at hB
    have hB' : w.heap.size ≤ B := by omega
    have HB1 : Hid (Below w.heap.size w w1) := (below_one w _).trans (hb1.mono (by simp))
    have hpw : w1.heap[w.heap.size]? = some (.cells #[.int .i64 (f : Int), .slice p xs.length cap] 24 (0, 0)) := (hb1.block w.heap.size (by simp)).trans (heap_alloc_new w _)
    have p0 : w1.cell? ⟨w.heap.size, 0, none⟩ = some (.int .i64 (f : Int)) := cell_of_block hpw rfl
    have p1 : w1.cell? ⟨w.heap.size, 1, none⟩ = some (.slice p xs.length cap) := cell_of_block hpw rfl
    have HM1 := hide hmb
    have HC1 := hide hcd
    clear hb1 hpw hmb hcd
    go_wp2_with fail
    refine (rnew_at HX.out (HCd.out.below HB1.out (Nat.le_refl _)) HC.out (by omega) hl2).mono ?_
    rintro e w2 ⟨C, v2, rfl, hd2, hC, hb2, hv2⟩
    have HB2 := hide (HB1.out.trans (hb2.mono HB1.out.size))
    have HB12 := hide hb2
    have HD2 := hide hd2
    have HV2 := hide hv2
    clear hb2 p0 p1 hd2 hv2
    go_wp2_with fail
    refine (iawake_true _ (HT.out.below HB2.out)).mono ?_
    rintro e w3 ⟨rfl, hb3⟩
    have HB23 := hide hb3
    have HB3 := hide (HB2.out.trans (hb3.mono HB2.out.size))
    clear hb3
    go_wp2_with fail
    have HGL : Hid (((w3.alloc (.cells #[.pointer (some ⟨B, 0, none⟩)] 26)).alloc (.cells #[.pointer (some ⟨C, 0, none⟩)] 30)).heap[w3.heap.size]? = some (.cells #[.pointer (some ⟨B, 0, none⟩)] 26 (0, 0))) := (heap_alloc_old _ _ (by rw [World.size_alloc]; omega)).trans (heap_alloc_new w3 _)
    have HGA : Hid (((w3.alloc (.cells #[.pointer (some ⟨B, 0, none⟩)] 26)).alloc (.cells #[.pointer (some ⟨C, 0, none⟩)] 30)).heap[w3.heap.size + 1]? = some (.cells #[.pointer (some ⟨C, 0, none⟩)] 30 (0, 0))) := by
      have := heap_alloc_new (w3.alloc (.cells #[.pointer (some ⟨B, 0, none⟩)] 26)) (.cells #[.pointer (some ⟨C, 0, none⟩)] 30)
      rw [World.size_alloc] at this
      exact this
    have HL2 : Hid (Below w.heap.size w ((w3.alloc (.cells #[.pointer (some ⟨B, 0, none⟩)] 26)).alloc (.cells #[.pointer (some ⟨C, 0, none⟩)] 30))) := bl_trans HB3.out (bl_trans (below_one w3 _) (below_one _ _))
    have hs12 := HB12.out.size
    have hs23 := HB23.out.size
    have hs01 := HB1.out.size
    have hCl := HD2.out.b.lt
    have hBl := HM1.out.lt
    have HM2 : Hid (MemT w.heap.size w1.heap.size w3.heap.size ((w3.alloc (.cells #[.pointer (some ⟨B, 0, none⟩)] 26)).alloc (.cells #[.pointer (some ⟨C, 0, none⟩)] 30)) w3.heap.size 1 (w3.heap.size + 1) 1 1 v1 v2 xs f [⟨B, C, Im.m0, .slice none 0 0, .slice none 0 0⟩]) := by
      have hbA : Below w1.heap.size w1 ((w3.alloc (.cells #[.pointer (some ⟨B, 0, none⟩)] 26)).alloc (.cells #[.pointer (some ⟨C, 0, none⟩)] 30)) := bl_trans HB12.out (bl_trans HB23.out (bl_trans (below_one w3 _) (below_one _ _)))
      have hbB : Below w2.heap.size w2 ((w3.alloc (.cells #[.pointer (some ⟨B, 0, none⟩)] 26)).alloc (.cells #[.pointer (some ⟨C, 0, none⟩)] 30)) := bl_trans HB23.out (bl_trans (below_one w3 _) (below_one _ _))
      obtain ⟨cb, coff, ccap, hcv, hcb, hcn, hcc⟩ := HC1.out
      obtain ⟨eb, eoff, ecap, hev, heb, _⟩ := HD2.out.c
      refine memT_start ⟨HM1.out.below hbA hBl, HD2.out.below hbB, HC1.out.grown (grown_below hbA _), m0_ok xs.length f hl1 hf1, fun e => ?_, hB', hC⟩ ⟨hs01, by omega⟩ (fun g e => ?_) (fun g e => ?_) HGL.out HGA.out (Nat.le_refl _) (by omega)
      · have := HV2.out B e; omega
      · rw [hcv] at e; simp only [Value.ownBlock] at e; injection e with e; omega
      · rw [hev] at e; simp only [Value.ownBlock] at e; injection e with e; omega
    clear HGL HGA HB12 HB23 HM1 HC1 HD2 HV2 HB1 HB2

    generalize ((w3.alloc (.cells #[.pointer (some ⟨B, 0, none⟩)] 26)).alloc (.cells #[.pointer (some ⟨C, 0, none⟩)] 30)) = W0 at *
    go_loopg [9, 10, 11] Q.length (fun gk u9 u10 u11 wr => ∃ (i gl cl ga ca n : Nat) (S : List Tw), Hid (gk + i = Q.length) ∧ u9 = .slice (some ⟨gl, 0, none⟩) n cl ∧ u10 = .slice (some ⟨ga, 0, none⟩) n ca ∧ u11 = .int .i64 (i : Int) ∧ i ≤ Q.length ∧ n ≤ i + 1 ∧ 0 < n ∧ Hid (MemT w.heap.size w1.heap.size w3.heap.size wr gl cl ga ca n v1 v2 xs f S) ∧ Hid (Below w.heap.size w wr))
    case atStart => exact ⟨0, _, _, _, _, 1, _, (by show Q.length + 0 = Q.length; rfl), rfl, rfl, rfl, Nat.zero_le _, Nat.le_refl _, Nat.le_refl _, HM2, HL2⟩
    case round =>
      obtain ⟨i, gl, cl, ga, ca, n, S, HK, rfl, rfl, rfl, hil, hni, hn0, HM, HL⟩ := hrel
      clear HM2 HL2
      by_cases hi : i < Q.length
      · obtain ⟨qb, qo, rfl, hqb, hqc⟩ := HQ.out (by omega)
        have hi3 : (i : Int) < (Q.length : Int) := by omega
        obtain ⟨r0, r1, r2⟩ := hqc i hi
        have o0 := (HL.out.cell (p := ⟨qb, qo + i * 3, none⟩) hqb).trans r0
        have o1 := (HL.out.cell (p := ⟨qb, qo + i * 3 + 1, none⟩) hqb).trans r1
        have o2 := (HL.out.cell (p := ⟨qb, qo + i * 3 + 2, none⟩) hqb).trans r2
        have hbd := HQB.out i hi
        clear r0 r1 r2 hqc
        generalize Q[i]! = q at *
        obtain ⟨kd, on, mo⟩ := q
        simp only at o0 o1 o2 hbd
        have ht1 : on.tmod (n : Int) < (n : Int) := Int.tmod_lt_of_pos _ (by omega)
        have ht2 : -(n : Int) < on.tmod (n : Int) := Int.lt_tmod_of_pos _ (by omega)
        have hqbl : qb < wr.heap.size := by have := HL.out.size; omega
        go_upto_if 60 with fail
        generalize on.tmod (n : Int) = t at *
        go_cut [12] (fun u12 wc => ∃ k : Nat, u12 = .int .i64 (k : Int) ∧ k < n ∧ wc = wr)
        case first =>
          by_cases h0 : t < 0
          · go_wp2_with fail
            go_meet
            case rel => exact ⟨(t + (n : Int)).toNat, by congr 1; omega, by omega, rfl⟩
          · go_wp2_with fail
            go_meet
            case rel => exact ⟨t.toNat, by congr 1; omega, by omega, rfl⟩
        case rest =>
          obtain ⟨k, rfl, hkn, hwc⟩ := hcut
          subst hwc
          obtain ⟨x, hx⟩ : ∃ x, S[k]? = some x := ⟨_, List.getElem?_eq_getElem (by rw [HM.out.len]; exact hkn)⟩
          have HX := hide hx
          have hxm := hide (List.mem_of_getElem? hx)
          have m0 := (HM.out.ptr hx).1
          have m1 := (HM.out.ptr hx).2
          have hkI : (k : Int) < (n : Int) := by omega
          clear hx ht1 ht2
          by_cases hk1 : (kd == 1) = true
          · have HR := hide (runs_any (HM.out.drew.s.each x hxm.out).m (HM.out.drew.s.each x hxm.out).c (HT.out.env (bl_trans HL.out (bd_drew wc 1)) (HM.out.s.each x hxm.out).b) (HM.out.drew.s.each x hxm.out).d (HM.out.s.each x hxm.out).k HP.out.good (by omega) (by omega) (HM.out.s.each x hxm.out).nx mo hbd.2)
            go_wp2_with fail
            go_region_held3 (fun w' => w'.cell? ⟨gl, k, none⟩ = some (.pointer (some ⟨x.B, 0, none⟩)) ∧ w'.cell? ⟨ga, k, none⟩ = some (.pointer (some ⟨x.B', 0, none⟩)) ∧ w'.cell? ⟨qb, qo + i * 3 + 2, none⟩ = some (.int .i64 mo)) (go_keep) (first
              | (go_at_call 12; refine HR.out.mono ?_; rintro e wz ⟨rfl, hpp⟩; obtain ⟨S4, y, hy, e1, e2, hM4, hb4⟩ := HM.out.drew.step HX.out hpp (itr_ok (HM.out.s.each x hxm.out).k HP.out.good mo.toNat) HL.out.size; have y0 := e1 ▸ (hM4.ptr hy).1; have y1 := e2 ▸ (hM4.ptr hy).2; have y2 := (hb4.cell (p := ⟨qb, qo + i * 3 + 2, none⟩) hqb).trans o2; have HMz := hide hM4; have HXz := hide hy; have HLz := hide (HL.out.trans (below_undrew hb4)); clear hpp hy hM4 hb4))
            clear HR HM HL HX hxm m0 m1 y0 y1 y2
            have hyz := hide (List.mem_of_getElem? HXz.out)
            have c0 : wz.cell? ⟨gl, k, none⟩ = some (.pointer (some ⟨x.B, 0, none⟩)) := e1 ▸ (HMz.out.ptr HXz.out).1
            have c1 : wz.cell? ⟨ga, k, none⟩ = some (.pointer (some ⟨x.B', 0, none⟩)) := e2 ▸ (HMz.out.ptr HXz.out).2
            have hm9 : Mb wz.drew x.B y.m v1 f := e1 ▸ ((HMz.out.drew).s.each _ hyz.out).m
            have hd9 : Dm wz.drew x.B' y.m v2 y.nv y.pv xs f := e2 ▸ ((HMz.out.drew).s.each _ hyz.out).d
            have HSA := hide (same_any hm9 hd9)
            have HE1 := hide e1
            have HE2 := hide e2
            clear o0 o1 o2 hm9 hd9 e1 e2
            go_wp2_with fail
            go_region_held3 (fun w' => w'.cell? ⟨gl, k, none⟩ = some (.pointer (some ⟨x.B, 0, none⟩)) ∧ w'.cell? ⟨ga, k, none⟩ = some (.pointer (some ⟨x.B', 0, none⟩))) (go_keep) (first
              | (go_at_call 16; refine HSA.out.mono ?_; rintro e w9 ⟨rfl, hb9⟩; have HM9 := hide (HMz.out.drew.below hb9); have HL9 := hide (bl_trans HLz.out (below_undrew hb9)); have d0 : w9.cell? ⟨gl, k, none⟩ = some (.pointer (some ⟨x.B, 0, none⟩)) := HE1.out ▸ (HM9.out.ptr HXz.out).1; have d1 : w9.cell? ⟨ga, k, none⟩ = some (.pointer (some ⟨x.B', 0, none⟩)) := HE2.out ▸ (HM9.out.ptr HXz.out).2; clear hb9))
            go_wp2_with fail
            go_roundg (gk - 1)
            case measure => have := HK.out; omega
            case rel => exact ⟨i + 1, gl, cl, ga, ca, n, S4, (by show gk - 1 + (i + 1) = Q.length; have := HK.out; omega), rfl, rfl, by go_num, by omega, by omega, by omega, HM9, HL9⟩
          · have hk1' : (kd == 1) = false := by simpa using hk1
            by_cases hk2 : (kd == 2) = true
            · have HMC := hide (mclone_any (HM.out.s.each x hxm.out).m (vs_one (HM.out.s.each x hxm.out).m.l8 (HM.out.s.each x hxm.out).c))
              obtain ⟨i0, hi0, hz0, hz1, hz2⟩ := info_parts infoPM
              obtain ⟨j0, hj0, hy0, hy1, hy2⟩ := info_parts infoPR
              clear o2
              go_wp2_with fail
              refine HMC.out.mono ?_
              rintro e w5 ⟨rfl, hM5, hb5⟩
              have HB5 := hide hb5
              have HM5 := hide hM5
              have HMX := hide (HM.out.below hb5)
              have hs5 := hb5.size
              have hgl := HM.out.gl_lt
              have hLs := HL.out.size
              have hnQ : n ≤ 5864062014635 := by omega
              clear hb5 hM5 m0 m1 o0 o1
              go_wp2_with (at_builtin; refine wpList_append_lies _ rfl _ _ 34 rfl w3.heap.size 26 i0 (.pointer none) 1 8 Tryz.underlying34 hi0 hz0 hz1 hz2 rfl (by decide) (.slice (some ⟨gl, 0, none⟩) n cl) n (ptrL S) rfl (HMX.out.lrow.alloc _) ⟨w5.heap.size, 0, none⟩ 1 1 [.pointer (some ⟨wc.heap.size, 0, none⟩)] rfl rfl (World.news_of_block (cs := #[.pointer (some ⟨wc.heap.size, 0, none⟩)]) (heap_alloc_new w5 _)) (by simp [Value.oneCell']) (by decide) (by unfold maxLen; omega) (by omega) (by rw [World.size_alloc]; omega) (w5.heap.size + 1) (World.size_alloc _ _) ?_; intro g6 c6 w6 hown6 hgrow6 hat6 hlt6; have HO6 := hide hown6; have HG6 := hide hgrow6; have HMID := hide (HM.out.mid HB5.out hgrow6); have n1 : w6.cell? ⟨ga, k, none⟩ = some (.pointer (some ⟨x.B', 0, none⟩)) := (by have h1 := HMID.out.2.cells (g := ga) rfl k (.pointer (some ⟨x.B', 0, none⟩)) (by simp [ptrR, HX.out]); rw [Addr.add_lit, Nat.zero_add] at h1; exact h1); clear hown6 hgrow6 hat6 hlt6)
              have HRC := hide (rclone_any (HMID.out.1.each x hxm.out).d (by rw [List.length_take]; have := (HM.out.s.each x hxm.out).m.l8.S; omega) (by rw [List.length_take]; have := (HM.out.s.each x hxm.out).m.l8.P; omega))
              refine HRC.out.mono ?_
              rintro e w7 ⟨nv7, pv7, rfl, hD7, hb7⟩
              have HD7 := hide hD7
              have HB7 := hide hb7
              have HR7 := hide (ownT_keep HMID.out.2 (hb7.block ga (HMID.out.2.lt ga rfl).2))
              have hs7 := hb7.size
              have hs6 := HG6.out.size
              rw [World.size_alloc] at hs6
              clear hD7 hb7 n1 HMC HRC
              go_wp2_with (at_builtin; refine wpList_append_lies _ rfl _ _ 35 rfl w3.heap.size 30 j0 (.pointer none) 1 8 Tryz.underlying35 hj0 hy0 hy1 hy2 rfl (by decide) (.slice (some ⟨ga, 0, none⟩) n ca) n (ptrR S) rfl (HR7.out.alloc _) ⟨w7.heap.size, 0, none⟩ 1 1 [.pointer (some ⟨w6.heap.size, 0, none⟩)] rfl rfl (World.news_of_block (cs := #[.pointer (some ⟨w6.heap.size, 0, none⟩)]) (heap_alloc_new w7 _)) (by simp [Value.oneCell']) (by decide) (by unfold maxLen; omega) (by omega) (by rw [World.size_alloc]; omega) (w7.heap.size + 1) (World.size_alloc _ _) ?_; intro g7 c7 w8 hown7 hgrow7 hat7 hlt7; obtain ⟨hMF, hLF⟩ := HM.out.more HX.out HB5.out HM5.out HO6.out HG6.out HB7.out HD7.out hown7 hgrow7 HL.out.size; have HMz := hide hMF; have HLz := hide (HL.out.trans hLF); have l8 : w8.cell? ⟨g6, n, none⟩ = some (.pointer (some ⟨wc.heap.size, 0, none⟩)) := (hMF.ptr (k := n) (x := ⟨wc.heap.size, w6.heap.size, x.m, nv7, pv7⟩) (by rw [List.getElem?_append_right (by rw [HM.out.len]; exact Nat.le_refl _), HM.out.len, Nat.sub_self]; rfl)).1; have HXz : Hid ((S ++ [(⟨wc.heap.size, w6.heap.size, x.m, nv7, pv7⟩ : Tw)])[k]? = some x) := (by show _ = _; rw [List.getElem?_append_left (by rw [HM.out.len]; exact hkn)]; exact HX.out); clear hown7 hgrow7 hat7 hlt7 hMF hLF)
              have e1 : x.B = x.B := rfl
              have e2 : x.B' = x.B' := rfl
              have o0 := True.intro
              have o1 := True.intro
              have o2 := True.intro
              have hkI' : (k : Int) < (n : Int) + 1 := by omega
              have hkN' : ¬ n + 1 ≤ k := by omega
              clear HB5 HM5 HMX HM HL HX hxm HO6 HG6 HMID HD7 HB7 HR7 hi0 hz0 hz1 hz2 i0 hj0 hy0 hy1 hy2 j0 l8
              have hyz := hide (List.mem_of_getElem? HXz.out)
              have c0 : w8.cell? ⟨g6, k, none⟩ = some (.pointer (some ⟨x.B, 0, none⟩)) := e1 ▸ (HMz.out.ptr HXz.out).1
              have c1 : w8.cell? ⟨g7, k, none⟩ = some (.pointer (some ⟨x.B', 0, none⟩)) := e2 ▸ (HMz.out.ptr HXz.out).2
              have hm9 : Mb w8.drew x.B x.m v1 f := e1 ▸ ((HMz.out.drew).s.each _ hyz.out).m
              have hd9 : Dm w8.drew x.B' x.m v2 x.nv x.pv xs f := e2 ▸ ((HMz.out.drew).s.each _ hyz.out).d
              have HSA := hide (same_any hm9 hd9)
              clear o0 o1 o2 hm9 hd9 e1 e2
              go_wp2_with fail
              go_region_held3 (fun w' => w'.cell? ⟨g6, k, none⟩ = some (.pointer (some ⟨x.B, 0, none⟩)) ∧ w'.cell? ⟨g7, k, none⟩ = some (.pointer (some ⟨x.B', 0, none⟩))) (go_keep) (first
                | (go_at_call 16; refine HSA.out.mono ?_; rintro e w9 ⟨rfl, hb9⟩; have HM9 := hide (HMz.out.drew.below hb9); have HL9 := hide (bl_trans HLz.out (below_undrew hb9)); have d0 : w9.cell? ⟨g6, k, none⟩ = some (.pointer (some ⟨x.B, 0, none⟩)) := (HM9.out.ptr HXz.out).1; have d1 : w9.cell? ⟨g7, k, none⟩ = some (.pointer (some ⟨x.B', 0, none⟩)) := (HM9.out.ptr HXz.out).2; clear hb9))
              go_wp2_with fail
              go_roundg (gk - 1)
              case measure => have := HK.out; omega
              case rel => exact ⟨i + 1, g6, c6, g7, c7, (n + 1), (S ++ [⟨wc.heap.size, w6.heap.size, x.m, nv7, pv7⟩]), (by show gk - 1 + (i + 1) = Q.length; have := HK.out; omega), rfl, rfl, by go_num, by omega, by omega, by omega, HM9, HL9⟩
            · have hk2' : (kd == 2) = false := by simpa using hk2
              have HR := hide (steps_any (HM.out.drew.s.each x hxm.out).m (HM.out.drew.s.each x hxm.out).c (HT.out.env (bl_trans HL.out (bd_drew wc 1)) (HM.out.s.each x hxm.out).b) (HM.out.drew.s.each x hxm.out).d (HM.out.s.each x hxm.out).k HP.out.good (by omega) (by omega) (HM.out.s.each x hxm.out).nx)
              clear o2
              go_wp2_with fail
              go_region_held3 (fun w' => w'.cell? ⟨gl, k, none⟩ = some (.pointer (some ⟨x.B, 0, none⟩)) ∧ w'.cell? ⟨ga, k, none⟩ = some (.pointer (some ⟨x.B', 0, none⟩))) (go_keep) (first
                | (go_at_call 15; refine HR.out.mono ?_; rintro e wz ⟨rfl, hpp⟩; obtain ⟨S4, y, hy, e1, e2, hM4, hb4⟩ := HM.out.drew.step HX.out hpp (itr_ok (HM.out.s.each x hxm.out).k HP.out.good 1) HL.out.size; have y0 := e1 ▸ (hM4.ptr hy).1; have y1 := e2 ▸ (hM4.ptr hy).2; have HMz := hide hM4; have HXz := hide hy; have HLz := hide (HL.out.trans (below_undrew hb4)); clear hpp hy hM4 hb4))
              clear HR HM HL HX hxm m0 m1 y0 y1
              have o2 := True.intro
              have hyz := hide (List.mem_of_getElem? HXz.out)
              have c0 : wz.cell? ⟨gl, k, none⟩ = some (.pointer (some ⟨x.B, 0, none⟩)) := e1 ▸ (HMz.out.ptr HXz.out).1
              have c1 : wz.cell? ⟨ga, k, none⟩ = some (.pointer (some ⟨x.B', 0, none⟩)) := e2 ▸ (HMz.out.ptr HXz.out).2
              have hm9 : Mb wz.drew x.B y.m v1 f := e1 ▸ ((HMz.out.drew).s.each _ hyz.out).m
              have hd9 : Dm wz.drew x.B' y.m v2 y.nv y.pv xs f := e2 ▸ ((HMz.out.drew).s.each _ hyz.out).d
              have HSA := hide (same_any hm9 hd9)
              have HE1 := hide e1
              have HE2 := hide e2
              clear o0 o1 o2 hm9 hd9 e1 e2
              go_wp2_with fail
              go_region_held3 (fun w' => w'.cell? ⟨gl, k, none⟩ = some (.pointer (some ⟨x.B, 0, none⟩)) ∧ w'.cell? ⟨ga, k, none⟩ = some (.pointer (some ⟨x.B', 0, none⟩))) (go_keep) (first
                | (go_at_call 16; refine HSA.out.mono ?_; rintro e w9 ⟨rfl, hb9⟩; have HM9 := hide (HMz.out.drew.below hb9); have HL9 := hide (bl_trans HLz.out (below_undrew hb9)); have d0 : w9.cell? ⟨gl, k, none⟩ = some (.pointer (some ⟨x.B, 0, none⟩)) := HE1.out ▸ (HM9.out.ptr HXz.out).1; have d1 : w9.cell? ⟨ga, k, none⟩ = some (.pointer (some ⟨x.B', 0, none⟩)) := HE2.out ▸ (HM9.out.ptr HXz.out).2; clear hb9))
              go_wp2_with fail
              go_roundg (gk - 1)
              case measure => have := HK.out; omega
              case rel => exact ⟨i + 1, gl, cl, ga, ca, n, S4, (by show gk - 1 + (i + 1) = Q.length; have := HK.out; omega), rfl, rfl, by go_num, by omega, by omega, by omega, HM9, HL9⟩
      · obtain rfl : i = Q.length := by omega
        have b0 : decide ((Q.length : Int) < (Q.length : Int)) = false := by simp
        clear hi
        go_wp2_with fail
        go_loopg [14] n (fun gj u14 wz => ∃ (j : Nat), Hid (gj + j = n) ∧ u14 = .int .i64 (j : Int) ∧ j ≤ n ∧ Hid (MemT w.heap.size w1.heap.size w3.heap.size wz gl cl ga ca n v1 v2 xs f S) ∧ Hid (Below w.heap.size w wz))
        case atStart => exact ⟨0, (by show n + 0 = n; rfl), rfl, Nat.zero_le _, HM, HL⟩
        case round =>
          obtain ⟨j, HK2, rfl, hjn, HMz, HLz⟩ := hrel
          clear HM HL b0
          by_cases hj : j < n
          · obtain ⟨x, hx⟩ : ∃ x, S[j]? = some x := ⟨_, List.getElem?_eq_getElem (by rw [HMz.out.len]; exact hj)⟩
            have hyz := hide (List.mem_of_getElem? hx)
            have c0 := (HMz.out.ptr hx).1
            have c1 := (HMz.out.ptr hx).2
            have HXz := hide hx
            clear hx
            have hjI : (j : Int) < (n : Int) := by omega
            have HSA := hide (same_any ((HMz.out.drew).s.each _ hyz.out).m ((HMz.out.drew).s.each _ hyz.out).d)
            go_wp2_with fail
            go_region_held3 (fun w' => w'.cell? ⟨gl, j, none⟩ = some (.pointer (some ⟨x.B, 0, none⟩)) ∧ w'.cell? ⟨ga, j, none⟩ = some (.pointer (some ⟨x.B', 0, none⟩))) (go_keep) (first
              | (go_at_call 16; refine HSA.out.mono ?_; rintro e w9 ⟨rfl, hb9⟩; have HM9 := hide (HMz.out.drew.below hb9); have HL9 := hide (bl_trans HLz.out (below_undrew hb9)); have d0 := (HM9.out.ptr HXz.out).1; have d1 := (HM9.out.ptr HXz.out).2; clear hb9))
            go_wp2_with fail
            go_roundg (gk - 1)
            case measure => have := HK2.out; omega
            case rel => exact ⟨j + 1, (by show gk - 1 + (j + 1) = n; have := HK2.out; omega), by go_num, by omega, HM9, HL9⟩
          · obtain rfl : j = n := by omega
            have b1 : decide ((j : Int) < (j : Int)) = false := by simp
            clear hj
            go_wp2_with fail
            go_ret
            exact ⟨rfl, HLz.out⟩
  · have HNo := hide (fun w1 (h1 : Cd w1 v xs) => new_no hx h1 hE)
    have HW := hide (fun w1 (h1 : Cd w1 v xs) => rnew_no hx h1 hE)
    obtain ⟨p, cap, rfl, -⟩ := h
    generalize Pg.checkE fuel xs = E at *
    have hb : (E.1 != 0) = true := by rw [bne_iff_ne]; exact hE
    clear hx hT hE
    go_enter Tryz.func3, Tryz.ntmps3
    go_wp2_with fail
    refine (HNo.out _ (HCd.out.below (below_one w _) (Nat.le_refl _))).mono ?_
    rintro e w1 ⟨rfl, hb1⟩
    have HB1 : Hid (Below w.heap.size w w1) := (below_one w _).trans (hb1.mono (by simp))
    have hpw : w1.heap[w.heap.size]? = some (.cells #[.int .i64 fuel, .slice p xs.length cap] 24 (0, 0)) := (hb1.block w.heap.size (by simp)).trans (heap_alloc_new w _)
    have p0 : w1.cell? ⟨w.heap.size, 0, none⟩ = some (.int .i64 fuel) := cell_of_block hpw rfl
    have p1 : w1.cell? ⟨w.heap.size, 1, none⟩ = some (.slice p xs.length cap) := cell_of_block hpw rfl
    clear hb1 hpw
    go_wp2_with fail
    refine (HW.out _ (HCd.out.below HB1.out (Nat.le_refl _))).mono ?_
    rintro e w2 ⟨rfl, hb2⟩
    have HB2 : Hid (Below w.heap.size w w2) := HB1.out.trans (hb2.mono HB1.out.size)
    clear hb2
    go_wp2_with fail
    refine (iawake_true _ (HT.out.below HB2.out)).mono ?_
    rintro e w3 ⟨rfl, hb3⟩
    have HB3 : Hid (Below w.heap.size w w3) := HB2.out.trans (hb3.mono HB2.out.size)
    clear hb3
    go_wp2_with fail
    go_ret
    exact ⟨rfl, HB3.out⟩
end Go.Proofs.YthjngodkpldpfaaGreatDoor
end
