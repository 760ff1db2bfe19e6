import Derived.Test.YthjngodkpldpfaaGreatDoorMgBJ
import Derived.Deep.QuietTactic
import Derived.Test.YthjngodkpldpfaaGreatDoorMgAY

section
namespace Go.Proofs.YthjngodkpldpfaaGreatDoor
open Go.RowKit Go.Shelf

set_option maxRecDepth 20000 in
set_option maxHeartbeats 2000000 in
theorem rcheck_any (fuel : Int) (xs : List In) (hx : ∀ x ∈ xs, x.Fits) (v : Value) (w : World) (h : Cd w v xs) :
    Calls Tryz.prog 32 #[.agg #[.int .i64 fuel, v]] w fun e w' => e = .returned (.tuple #[.int .i64 (Pg.checkE fuel xs).1, .int .i64 (Pg.checkE fuel xs).2]) ∧ Below w.heap.size w w' := by
  obtain ⟨p, cap, rfl, h2⟩ := h
  unfold Pg.checkE
  by_cases h1 : fuel < 1
  · rw [if_pos (.inl h1)]
    go_enter Tryz.func32, Tryz.ntmps32
    go_wp2
    go_ret2
    exact ⟨rfl, below_one _ _⟩
  by_cases h3 : 1024 < fuel
  · rw [if_pos (.inr h3)]
    go_enter Tryz.func32, Tryz.ntmps32
    go_wp2
    go_ret2
    exact ⟨rfl, below_one _ _⟩
  rw [if_neg (by omega)]
  by_cases h4 : xs.length = 0
  · rw [if_pos (.inl h4)]
    rw [h4] at h2 ⊢
    go_enter Tryz.func32, Tryz.ntmps32
    go_wp2
    go_ret2
    exact ⟨rfl, below_one _ _⟩
  by_cases h5 : 64 < xs.length
  · rw [if_pos (.inr h5)]
    have b0 : ¬ (xs.length : Int) < 1 := by omega
    have b1 : (64 : Int) < (xs.length : Int) := by omega
    generalize xs.length = m at *
    go_enter Tryz.func32, Tryz.ntmps32
    go_wp2
    go_ret2
    exact ⟨rfl, below_one _ _⟩
  rw [if_neg (by omega)]
  obtain ⟨b, off, rfl, hlt, hc⟩ := h2 (by omega)
  have b0 : ¬ (xs.length : Int) < 1 := by omega
  have b1 : ¬ (64 : Int) < (xs.length : Int) := by omega
  have HC := hide hc
  have HX := hide hx
  clear hc hx
  have hm : xs.length ≤ 64 := by omega
  go_enter Tryz.func32, Tryz.ntmps32
  go_wp2_with fail
  go_loopw [4] (fun s wr => ∃ k : Nat, k ≤ xs.length ∧ s = .int .i64 (k : Int) ∧ Hid (Below (w.heap.size + 1) (w.alloc (.cells #[.int .i64 fuel, .slice (some ⟨b, off, none⟩) xs.length cap] 24)) wr) ∧ Hid (Pg.goE xs.length xs 0 = Pg.goE xs.length (xs.drop k) k)) (fun s _ => xs.length - (intOf s).toNat)
  case atStart => exact ⟨0, Nat.zero_le _, rfl, Below.refl _ _, rfl⟩
  case round =>
    obtain ⟨k, hk, rfl, HB, HE⟩ := hrel
    have hp : Pb wr w.heap.size fuel (.slice (some ⟨b, off, none⟩) xs.length cap) := (HB.out.block w.heap.size (by omega)).trans (heap_alloc_new w _)
    have hpc := hp.c1
    have hpl := hp.lt
    by_cases hkl : k < xs.length
    · have hc : ∀ i u, (xs[k]!).cs[i]? = some u → wr.cell? ⟨b, off + k * 6 + i, none⟩ = some u := fun i u hi =>
        (HB.out.cell (p := ⟨b, off + k * 6 + i, none⟩) (by show b < w.heap.size + 1; omega)).trans ((World.cell?_alloc_past _ _ _ hlt).trans (HC.out k hkl i u hi))
      have c0 := hc 0 _ rfl
      have c1 := hc 1 _ rfl
      have c2 := hc 2 _ rfl
      have c3 := hc 3 _ rfl
      have c4 := hc 4 _ rfl
      have c5 := hc 5 _ rfl
      simp only [Nat.add_zero] at c0
      have hg := goE_drop xs.length xs k hkl
      have HE2 := hide (HE.out.trans hg)
      have hxk := HX.out xs[k]! (by rw [getElem!_pos xs k hkl]; exact List.getElem_mem hkl)
      have HI := hide (wrong_any xs[k]! hxk.k xs.length)
      rw [← insE_ref xs[k]! hxk xs.length hm] at HI
      generalize xs[k]! = x at *
      generalize Pg.insE x xs.length = E at *
      have hki : (k : Int) < (xs.length : Int) := by omega
      clear hc hg hp hxk HE
      go_wp2_with fail
      go_region_held3 (fun w' => w'.cell? ⟨w.heap.size, 1, none⟩ = some (.slice (some ⟨b, off, none⟩) xs.length cap) ∧ w'.cell? ⟨b, off + k * 6, none⟩ = some (.int .i64 x.op) ∧ w'.cell? ⟨b, off + k * 6 + 1, none⟩ = some (.int .i64 x.a) ∧ w'.cell? ⟨b, off + k * 6 + 2, none⟩ = some (.int .i64 x.b) ∧ w'.cell? ⟨b, off + k * 6 + 3, none⟩ = some (.int .i64 x.c) ∧ w'.cell? ⟨b, off + k * 6 + 4, none⟩ = some (.int .i64 x.n) ∧ w'.cell? ⟨b, off + k * 6 + 5, none⟩ = some (.int .u64 (x.k : Int))) (go_keep) (first
        | (go_at_call 40; refine (HI.out _).mono ?_; rintro e w2 ⟨rfl, hb2⟩; have d := (hb2.cell (World.block_lt_of_cell? _ _ hpc)).trans hpc; have d0 := (hb2.cell (World.block_lt_of_cell? _ _ c0)).trans c0; have d1 := (hb2.cell (World.block_lt_of_cell? _ _ c1)).trans c1; have d2 := (hb2.cell (World.block_lt_of_cell? _ _ c2)).trans c2; have d3 := (hb2.cell (World.block_lt_of_cell? _ _ c3)).trans c3; have d4 := (hb2.cell (World.block_lt_of_cell? _ _ c4)).trans c4; have d5 := (hb2.cell (World.block_lt_of_cell? _ _ c5)).trans c5; have HBB := hide hb2; clear hb2))
      have HB2 : Hid (Below (w.heap.size + 1) (w.alloc (.cells #[.int .i64 fuel, .slice (some ⟨b, off, none⟩) xs.length cap] 24)) w2) := HB.out.drew.trans (HBB.out.mono (by show w.heap.size + 1 ≤ wr.heap.size; omega))
      clear HB HBB c0 c1 c2 c3 c4 c5 d d0 d1 d2 d3 d4 d5
      by_cases hE : E = 0
      · subst hE
        go_wp2
        go_roundw
        case rel => exact ⟨k + 1, by omega, by go_num, HB2, by have := HE2.out; rw [if_neg (by simp)] at this; exact this⟩
        case measure => simp [intOf]; omega
      · have hb : (E != 0) = true := by simp [hE]
        go_wp2
        go_ret2
        exact ⟨by rw [show Pg.goE xs.length xs 0 = (E, (k : Int)) by have := HE2.out; rw [if_pos hE] at this; exact this]; rfl, (below_one w _).trans (HB2.out.mono (by omega))⟩
    · obtain rfl : k = xs.length := by omega
      have hki : ¬ (xs.length : Int) < (xs.length : Int) := by omega
      have e0 : Pg.goE xs.length xs 0 = (0, 0) := by rw [HE.out, List.drop_length]; rfl
      have HE0 := hide e0
      clear e0 HE hp
      go_wp2
      go_ret2
      exact ⟨by rw [HE0.out]; rfl, (below_one w _).trans (HB.out.mono (by omega))⟩
end Go.Proofs.YthjngodkpldpfaaGreatDoor
end

section
namespace Go.Proofs.YthjngodkpldpfaaGreatDoor
open Go.RowKit Go.Shelf

set_option maxRecDepth 20000 in
set_option maxHeartbeats 8000000 in
theorem iawake_true (w : World) (hT : Tbs w) : Calls Tryz.prog 11 #[] w fun e w' => e = .returned (.bool true) ∧ Below w.heap.size w w' := by
  have HX := hide example_any
  have HT := hide hT
  clear hT
  go_enter Tryz.func11, Tryz.ntmps11
  go_wp2_with fail
  refine (HX.out _).mono ?_
  rintro e w1 ⟨v1, rfl, hc1, hb1⟩
  go_wp2_with fail
  refine (wholeE w1 v1 hc1 (HT.out.below hb1)).mono ?_
  rintro e w2 ⟨gc, capc, adp, capp, rfl, kc, hb2⟩
  have HB2 : Hid (Below w.heap.size w w2) := hb1.trans (hb2.mono hb1.size)
  have hgc := World.block_lt_of_cell? _ _ kc
  clear hb1 hb2 hc1
  go_wp2_with fail
  refine (HX.out _).mono ?_
  rintro e w3 ⟨v3, rfl, hc3, hb3⟩
  go_wp2_with fail
  refine (new_ok xsE_fits hc3 xsE_check (by decide) (by decide)).mono ?_
  rintro e w4 ⟨B, v4, rfl, hmb, hcd, hB, hb4⟩
  have hw3 := hb3.size
  rw [World.size_alloc] at hw3
  have HO4 : Hid (w4.heap[w2.heap.size]? = some (.cells #[.int .i64 0, .int .u64 4609434218613702656, .slice (some ⟨gc, 0, none⟩) 1 capc, .slice adp 0 capp, .int .i64 3] 48 (0, 0))) := (hb4.block w2.heap.size (by omega)).trans ((hb3.block w2.heap.size (by simp)).trans (heap_alloc_new w2 _))
  have kc4 : w4.cell? ⟨gc, 0, none⟩ = some (.string Im.t31) := (hb4.cell (p := ⟨gc, 0, none⟩) (show gc < w3.heap.size by have : gc < w2.heap.size := hgc; omega)).trans ((hb3.cell (p := ⟨gc, 0, none⟩) (show gc < _ by simp; have : gc < w2.heap.size := hgc; omega)).trans (Lib.cell?_alloc_some _ kc))
  have HB4 : Hid (Below w.heap.size w w4) := HB2.out.trans (((below_one w2 (.cells #[.int .i64 0, .int .u64 4609434218613702656, .slice (some ⟨gc, 0, none⟩) 1 capc, .slice adp 0 capp, .int .i64 3] 48)).trans ((hb3.mono (by simp)).trans (hb4.mono (by omega)))).mono HB2.out.size)
  have HE4 := hide (HT.out.env HB4.out (show w.heap.size ≤ B by have := HB2.out.size; omega))
  have hBO : w2.heap.size < B := by omega
  have HM4 := hide hmb
  have HC4 := hide hcd
  obtain ⟨o0, o1, o2, o3, o4, oz⟩ := five_of HO4.out
  clear hb3 hb4 hmb hcd hc3 kc
  have h31 := t31_is
  have hB4 := HM4.out.lt
  go_wp2_with fail
  refine (runE HM4.out HC4.out HE4.out).mono ?_
  rintro e w5 ⟨gl, capl, rfl, hm5, l0, l1, hgl, hgl5, hg5⟩
  have HO5 := hide ((hg5.block _ (lt_of_block HO4.out) (by simp; omega)).trans HO4.out)
  have HC5 := hide (HC4.out.grown hg5)
  have HE5 := hide (HE4.out.grown hg5)
  have HM5 := hide hm5
  have HG5 := hide hg5
  clear o0 o1 o2 o3 o4 oz hm5 hg5 kc4
  go_wp2_with fail
  refine (stepE HM5.out HC5.out HE5.out).mono ?_
  rintro e w6 ⟨rfl, hm6, hg6⟩
  have HO6 := hide ((hg6.block _ (lt_of_block HO5.out) (by simp; omega)).trans HO5.out)
  have l06 := hg6.cell l0 (by simp; omega)
  have l16 := hg6.cell l1 (by simp; omega)
  have HM6 := hide hm6
  have HG6 := hide (grown_trans HG5.out hg6)
  have hs6 := HG6.out.size
  clear l0 l1 hm6 hg6
  go_wp2_with fail
  refine (step_over (HM6.out.grown (grown_one w6 _ none) (by simp)) rfl).mono ?_
  rintro e w7 ⟨rfl, hb7⟩
  have hb76 : Below w6.heap.size w6 w7 := (below_one w6 _).trans (hb7.mono (by simp))
  have HM7 := hide (HM6.out.below hb76 HM6.out.lt)
  have HO7 := hide ((hb76.block _ (lt_of_block HO6.out)).trans HO6.out)
  have l0 := (hb76.cell (p := ⟨gl, 0, none⟩) (World.block_lt_of_cell? _ _ l06)).trans l06
  have l1 := (hb76.cell (p := ⟨gl, 1, none⟩) (World.block_lt_of_cell? _ _ l16)).trans l16
  have ha7 := (hb7.block w6.heap.size (by simp)).trans (heap_alloc_new w6 _)
  have a0 : w7.cell? ⟨w6.heap.size, 0, none⟩ = some (.int .i64 0) := cell_of_block ha7 rfl
  have HB7 : Hid (Below w.heap.size w w7) := HB4.out.trans (below_of_grown HG6.out (grown_below hb76 (some B)) (by have := HB2.out.size; omega) (by have := HB2.out.size; omega) HB4.out.size)
  clear hb7 hb76 l06 l16 ha7
  obtain ⟨o0, o1, -, -, -, -⟩ := five_of HO7.out
  go_wp2_with fail
  have HM8 := hide (HM7.out.grown (grown_one w7 (.cells #[.int .i64 0, .string ⟨#[]⟩] 58) none) (by simp))
  have HB8 := hide (HB7.out.trans ((below_one w7 (.cells #[.int .i64 0, .string ⟨#[]⟩] 58)).mono HB7.out.size))
  replace l0 := Lib.cell?_alloc_some (.cells #[.int .i64 0, .string ⟨#[]⟩] 58) l0
  replace l1 := Lib.cell?_alloc_some (.cells #[.int .i64 0, .string ⟨#[]⟩] 58) l1
  replace a0 := Lib.cell?_alloc_some (.cells #[.int .i64 0, .string ⟨#[]⟩] 58) a0
  replace o0 := Lib.cell?_alloc_some (.cells #[.int .i64 0, .string ⟨#[]⟩] 58) o0
  replace o1 := Lib.cell?_alloc_some (.cells #[.int .i64 0, .string ⟨#[]⟩] 58) o1
  generalize w7.alloc (.cells #[.int .i64 0, .string ⟨#[]⟩] 58) = w7b at *
  have HMd := hide HM8.out.drew
  have HOv := hide (overE HMd.out)
  have HDo := hide (doneE HMd.out)
  have HPl := hide (placeE HMd.out)
  have HRg := hide (regE HMd.out)
  have HRe := hide (resultE HMd.out)
  simp only [List.append_eq, List.cons_append, List.nil_append]
  clear HX HT HO4 HO5 HO6 HO7 HC4 HC5 HE4 HE5 HM4 HM5 HM6 HM7 HG5 HG6 HB2 HB4 HB7
  go_region_held3 (fun w' => w'.cell? ⟨gl, 0, none⟩ = some (.int .i64 1) ∧ w'.cell? ⟨gl, 1, none⟩ = some (.string Im.t31) ∧ w'.cell? ⟨w6.heap.size, 0, none⟩ = some (.int .i64 0) ∧ w'.cell? ⟨w2.heap.size, 0, none⟩ = some (.int .i64 0) ∧ w'.cell? ⟨w2.heap.size, 1, none⟩ = some (.int .u64 4609434218613702656)) (first | exact ⟨l0, l1, a0, o0, o1⟩ | exact ⟨m0, m1, m2, m3, m4⟩) (first
    | (go_at_call 20; refine HOv.out.mono ?_; rintro e _ ⟨rfl, rfl⟩)
    | (go_at_call 21; refine HDo.out.mono ?_; rintro e _ ⟨rfl, rfl⟩)
    | (go_at_call 28; refine HPl.out.mono ?_; rintro e _ ⟨rfl, rfl⟩)
    | (go_at_call 24; refine HRg.out.mono ?_; rintro e _ ⟨rfl, rfl⟩)
    | (go_at_call 25; refine HRe.out.mono ?_; rintro e w8 ⟨rfl, hb8'⟩; have hb8 := below_undrew hb8'; have m0 := (hb8.cell (p := ⟨gl, 0, none⟩) (World.block_lt_of_cell? _ _ l0)).trans l0; have m1 := (hb8.cell (p := ⟨gl, 1, none⟩) (World.block_lt_of_cell? _ _ l1)).trans l1; have m2 := (hb8.cell (p := ⟨w6.heap.size, 0, none⟩) (World.block_lt_of_cell? _ _ a0)).trans a0; have m3 := (hb8.cell (p := ⟨w2.heap.size, 0, none⟩) (World.block_lt_of_cell? _ _ o0)).trans o0; have m4 := (hb8.cell (p := ⟨w2.heap.size, 1, none⟩) (World.block_lt_of_cell? _ _ o1)).trans o1))
  go_wp2_with fail
  go_ret
  exact ⟨rfl, HB8.out.trans (hb8.mono HB8.out.size)⟩
end Go.Proofs.YthjngodkpldpfaaGreatDoor
end

section
namespace Go.Proofs.YthjngodkpldpfaaGreatDoor
open Go.RowKit Go.Shelf

/-- what Whole tells of a program that may be -/
theorem whole_s {w : World} {v : Value} {fuel : Nat} {xs : List In} (hx : ∀ x ∈ xs, x.Fits) (h : Cd w v xs) (hc : Pg.checkE fuel xs = (0, 0)) (hp : Pok fuel xs) (hT : Tbs w) :
    Calls Tryz.prog 17 #[.agg #[.int .i64 (fuel : Int), v]] w fun e w' => ∃ o, e = .returned (.tuple #[o, .int .i64 0]) ∧ OutS w' o (Im.end_ xs fuel).1.en (Im.resB (Im.end_ xs fuel).1) (Im.end_ xs fuel).1.dn (Im.chk (Im.end_ xs fuel).2) (Im.pcs (Im.end_ xs fuel).2) ∧ Below w.heap.size w w' :=
  (whole_ok hx h hc hp hT).mono fun _ _ ⟨o, h1, h2, h3⟩ => ⟨o, h1, by have := out_s h2; rw [resC_en] at this; exact this, h3⟩
theorem check_zz {f : Nat} {xs : List In} (hp : Pok f xs) (hE : (Pg.checkE (f : Int) xs).1 = 0) : Pg.checkE (f : Int) xs = (0, 0) := by
  have h1 := hp.f1; have h2 := hp.f2; have h3 := hp.l1; have h4 := hp.l2
  unfold Pg.checkE at hE ⊢
  rw [if_neg (by omega), if_neg (by omega)] at hE ⊢
  exact goE_ok _ _ _ hE
theorem Pok.more {f d : Nat} {xs : List In} (hp : Pok f xs) (hd : f + d ≤ 1024) : Pok (f + d) xs := ⟨by have := hp.f1; omega, hd, hp.l1, hp.l2, hp.good⟩
theorem end_len (xs : List In) (fuel : Nat) : (Im.end_ xs fuel).2.length ≤ fuel := itr_len _ _ _ _
set_option maxRecDepth 20000 in
set_option maxHeartbeats 4000000 in
theorem interpFuel_walk (fuel : Int) (xs : List In) (hx : ∀ x ∈ xs, x.Fits) (v : Value) (more : Int) (hm1 : -9223372036854775808 ≤ more) (hm2 : more ≤ 9223372036854775807) (w : World) (h : Cd w v xs) (hT : Tbs w) :
    Calls Tryz.prog 6 #[.agg #[.int .i64 fuel, v], .int .i64 more] w fun e w' => e = .returned (.bool true) ∧ Below w.heap.size w w' := by
  have HCd := hide h
  have HT := hide hT
  have HX := hide hx
  by_cases hE : (Pg.checkE fuel xs).1 = 0
  · obtain ⟨f, rfl, hp⟩ := pok_of hx hE
    have hc := check_zz hp hE
    have HP := hide hp
    have HC := hide hc
    have hf1 := hp.f1
    have hf2 := hp.f2
    obtain ⟨p, cap, rfl, -⟩ := h
    clear hE hp hc hx hT
    go_enter Tryz.func6, Tryz.ntmps6
    go_wp2_with fail
    refine (whole_s HX.out (HCd.out.below (below_one w _) (Nat.le_refl _)) HC.out HP.out (HT.out.below (below_one w _))).mono ?_
    rintro e w1 ⟨o, rfl, ho, hb1⟩
    have HO := hide ho
    obtain ⟨cv, pv, rfl, s1, s2⟩ := ho
    have HS1 := hide s1
    have HS2 := hide s2
    obtain ⟨pc1, cc1, rfl, -, -⟩ := s1
    obtain ⟨pp1, cp1, rfl, -, -⟩ := s2
    have HB1 : Hid (Below w.heap.size w w1) := (below_one w _).trans (hb1.mono (by simp))
    have hpw : w1.heap[w.heap.size]? = some (.cells #[.int .i64 (f : Int), .slice p xs.length cap] 24 (0, 0)) := (hb1.block w.heap.size (by simp)).trans (heap_alloc_new w _)
    have HPW := hide hpw
    clear hb1 hpw
    go_wp2_with fail
    refine (iawake_true _ ((HT.out.below HB1.out).below (below_one w1 _))).mono ?_
    rintro e w2 ⟨rfl, hb2⟩
    have hO2 : w2.heap[w1.heap.size]? = some (.cells #[.int .i64 ((Im.end_ xs f).1.en : Int), .int .u64 (Im.resB (Im.end_ xs f).1 : Int), .slice pc1 (Im.chk (Im.end_ xs f).2).length cc1, .slice pp1 (Im.pcs (Im.end_ xs f).2).length cp1, .int .i64 ((Im.end_ xs f).1.dn : Int)] 48 (0, 0)) := (hb2.block w1.heap.size (by simp)).trans (heap_alloc_new w1 _)
    have hb21 : Below w1.heap.size w1 w2 := (below_one w1 _).trans (hb2.mono (by simp))
    have hP2 := (hb21.block _ (lt_of_block HPW.out)).trans HPW.out
    have p0 : w2.cell? ⟨w.heap.size, 0, none⟩ = some (.int .i64 (f : Int)) := cell_of_block hP2 rfl
    have p1 : w2.cell? ⟨w.heap.size, 1, none⟩ = some (.slice p xs.length cap) := cell_of_block hP2 rfl
    have HO2 := hide (HO.out.below hb21)
    have HB2 : Hid (Below w.heap.size w w2) := HB1.out.trans (hb21.mono HB1.out.size)
    obtain ⟨o0, o1, o2, o3, o4, -⟩ := five_of hO2
    have HOB := hide hO2
    have hne : ¬ w.heap.size = w2.heap.size := by have := lt_of_block hP2; omega
    have hne2 : ¬ w1.heap.size = w2.heap.size := by have := lt_of_block hO2; omega
    have hw12 : w1.heap.size < w2.heap.size := lt_of_block hO2
    have hww : w.heap.size < w1.heap.size := lt_of_block HPW.out
    have HB21 := hide hb21
    clear hb2 hb21 hO2 hP2
    by_cases hm : more < 1
    · go_wp2_with fail
      go_ret
      exact ⟨rfl, HB2.out⟩
    by_cases hm3 : 1024 - (f : Int) < more
    · go_wp2_with fail
      go_ret
      exact ⟨rfl, HB2.out⟩
    obtain ⟨d, rfl⟩ : ∃ d : Nat, more = (d : Int) := ⟨more.toNat, by omega⟩
    have hd0 : 0 < d := by omega
    have hfd : f + d ≤ 1024 := by omega
    have hcm := check_more HC.out hfd
    have HW3 := hide (fun w3 (h3 : Cd w3 (.slice p xs.length cap) xs) (t3 : Tbs w3) => whole_s (fuel := f + d) HX.out h3 (by rw [show ((f + d : Nat) : Int) = (f : Int) + (d : Int) by omega]; exact hcm) (HP.out.more hfd) t3)
    simp only [show ((f + d : Nat) : Int) = (f : Int) + (d : Int) by omega] at HW3
    go_wp2_with fail
    have hW3 : Below w2.heap.size w2 (w2.alloc (.cells #[.int .i64 ((f : Int) + (d : Int)), .slice p xs.length cap] 24)) := below_one w2 _
    refine (HW3.out _ (HCd.out.below (HB2.out.trans (hW3.mono HB2.out.size)) (Nat.le_refl _)) ((HT.out.below HB2.out).below hW3)).mono ?_
    rintro e w4 ⟨x, rfl, hx4, hb4⟩
    have hb42 : Below w2.heap.size w2 w4 := hW3.trans (hb4.mono (by simp))
    have HB4 : Hid (Below w.heap.size w w4) := HB2.out.trans (hb42.mono HB2.out.size)
    have hO4 := (hb42.block _ hw12).trans HOB.out
    have HO4 := hide (HO2.out.below hb42)
    have hP4 : w4.cell? ⟨w.heap.size, 0, none⟩ = some (.int .i64 (f : Int)) := (hb42.cell (p := ⟨w.heap.size, 0, none⟩) (show w.heap.size < w2.heap.size by omega)).trans p0
    have HX4 := hide hx4
    have hb41 : Below w1.heap.size w1 w4 := HB21.out.trans (hb42.mono (by omega))
    have HS14 := hide (HS1.out.below hb41)
    have HS24 := hide (HS2.out.below hb41)
    clear hb4 hb42 hW3 HW3 o0 o1 o2 o3 o4 p0 p1 hb41
    obtain ⟨o0, o1, o2, o3, o4, -⟩ := five_of hO4
    have hl1 := end_len xs f
    have hl2 := end_len xs (f + d)
    have hFM := fuel_more hd0 HP.out
    have hcl1 := chk_len (Im.end_ xs f).2
    have hpl1 := pcs_len (Im.end_ xs f).2
    have hcl2 := chk_len (Im.end_ xs (f + d)).2
    have hpl2 := pcs_len (Im.end_ xs (f + d)).2
    obtain ⟨cv2, pv2, rfl, t1, t2⟩ := hx4
    have HT1 := hide t1
    have HT2 := hide t2
    obtain ⟨pc2, cc2, rfl, -, -⟩ := t1
    obtain ⟨pp2, cp2, rfl, -, -⟩ := t2
    have hO4l := lt_of_block hO4
    have hnx : ¬ w1.heap.size = w4.heap.size := by omega
    have hnw : ¬ w.heap.size = w4.heap.size := by omega
    rcases hFM with ⟨hne1, heq⟩ | ⟨hen, hdn, hlt2, t, htt⟩
    · rw [heq] at HX4 HT1 HT2 hl2
      have heq2 := heq
      simp only [heq] at *
      have hbn : (((Im.end_ xs f).1.en : Int) != 1) = true := by rw [bne_iff_ne]; omega
      have HSO := hide (fun w5 (k : Below w4.heap.size w4 w5) => sameOutcome_eq (HO4.out.below k) (HX4.out.below k) (by omega) (by omega))
      go_wp2_with fail
      refine (HSO.out _ (below_one w4 _)).mono ?_
      rintro e w6 ⟨rfl, hb6⟩
      go_wp2_with fail
      go_ret
      exact ⟨rfl, HB4.out.trans (((below_one w4 _).trans (hb6.mono (by simp))).mono HB4.out.size)⟩
    · have e_en : ((Im.end_ xs f).1.en : Int) = 1 := by rw [hen]; rfl
      have e_dn : ((Im.end_ xs f).1.dn : Int) = (f : Int) := by rw [hdn]
      rw [e_en] at o0
      rw [e_dn] at o4
      have q1 : Im.chk (Im.end_ xs f).2 ++ Im.chk t = Im.chk (Im.end_ xs (f + d)).2 := by rw [htt, chk_cat]
      have q2 : Im.pcs (Im.end_ xs f).2 ++ Im.pcs t = Im.pcs (Im.end_ xs (f + d)).2 := by rw [htt, pcs_cat]
      have HBC := hide (fun w5 (k : Below w4.heap.size w4 w5) => begins_eq (t := Im.chk t) (HS14.out.below k) (by rw [q1]; exact HT1.out.below k) (by rw [q1]; omega))
      have HBP := hide (fun w5 (k : Below w4.heap.size w4 w5) => begins_eq (t := Im.pcs t) (HS24.out.below k) (by rw [q2]; exact HT2.out.below k) (by rw [q2]; omega))
      have hl3 : (f : Int) < ((Im.end_ xs (f + d)).1.dn : Int) := by omega
      clear e_en e_dn hen hdn htt q1 q2 hlt2
      generalize Im.end_ xs (f + d) = E2 at *
      generalize Im.end_ xs f = E1 at *
      have hP5 := Lib.cell?_alloc_some (.cells #[.int .i64 (E2.1.en : Int), .int .u64 (Im.resB E2.1 : Int), .slice pc2 (Im.chk E2.2).length cc2, .slice pp2 (Im.pcs E2.2).length cp2, .int .i64 (E2.1.dn : Int)] 48) hP4
      have o45 := Lib.cell?_alloc_some (.cells #[.int .i64 (E2.1.en : Int), .int .u64 (Im.resB E2.1 : Int), .slice pc2 (Im.chk E2.2).length cc2, .slice pp2 (Im.pcs E2.2).length cp2, .int .i64 (E2.1.dn : Int)] 48) o4
      clear hm1 hm2 hm hm3 hl2 hcl2 hpl2 hl1 hcl1 hpl1 hcm
      go_wp2_with fail
      refine (HBC.out _ (below_one w4 _)).mono ?_
      rintro e w6 ⟨rfl, hb6⟩
      have hb64 : Below w4.heap.size w4 w6 := (below_one w4 _).trans (hb6.mono (by simp))
      have o36 := (hb64.cell (p := ⟨w1.heap.size, 3, none⟩) hO4l).trans o3
      have x36 : w6.cell? ⟨w4.heap.size, 3, none⟩ = some (.slice pp2 (Im.pcs E2.2).length cp2) := cell_of_block ((hb6.block w4.heap.size (by simp)).trans (heap_alloc_new w4 _)) rfl
      have HB64 := hide hb64
      clear hb6 hb64
      go_wp2_with fail
      refine (HBP.out _ HB64.out).mono ?_
      rintro e w7 ⟨rfl, hb7⟩
      go_wp2_with fail
      go_ret
      exact ⟨rfl, HB4.out.trans ((HB64.out.trans (hb7.mono HB64.out.size)).mono HB4.out.size)⟩
  · have HW := hide (fun w1 (h1 : Cd w1 v xs) => whole_no hx h1 hE)
    obtain ⟨p, cap, rfl, -⟩ := h
    generalize Pg.checkE fuel xs = E at *
    have hb : (E.1 != 0) = true := by rw [bne_iff_ne]; exact hE
    clear hx hT hE
    go_enter Tryz.func6, Tryz.ntmps6
    go_wp2_with fail
    refine (HW.out _ (HCd.out.below (below_one w _) (Nat.le_refl _))).mono ?_
    rintro e w1 ⟨rfl, hb1⟩
    have HB1 : Hid (Below w.heap.size w w1) := (below_one w _).trans (hb1.mono (by simp))
    clear hb1
    go_wp2_with fail
    refine (iawake_true _ ((HT.out.below HB1.out).below (below_one w1 _))).mono ?_
    rintro e w2 ⟨rfl, hb2⟩
    have HB2 : Hid (Below w.heap.size w w2) := HB1.out.trans (((below_one w1 _).trans (hb2.mono (by simp))).mono HB1.out.size)
    clear hb2
    go_wp2_with fail
    go_ret
    exact ⟨rfl, HB2.out⟩
end Go.Proofs.YthjngodkpldpfaaGreatDoor
end
