import Derived.Test.YtkfnedhllfdghaaGreatDoorMgBO

section
namespace Go.Proofs.YtkfnedhllfdghaaGreatDoor.W
set_option maxRecDepth 20000
open Go.RowKit Go.Shelf
open Wr (Ms V L)

set_option maxRecDepth 8000 in
set_option maxHeartbeats 8000000 in
theorem rdecode_any (b : ByteArray) (w : World) (hbs : b.size ≤ 140737488351232) : Calls Tryz.prog 23 #[.string b] w fun e w' => e = .returned (.tuple #[.agg (msgC (Wr.decode limD b).1), .int .i64 ((Wr.decode limD b).2 : Int)]) ∧ Below w.heap.size w w' := by
  by_cases h1 : 2048 < b.size
  · have hd : Wr.decode limD b = (Wr.zM 0, 73) := if_pos h1
    have d0 : decide ((b.size : Int) > 2048) = true := by simp; omega
    rw [hd]
    go_enter Tryz.func23, Tryz.ntmps23
    go_wp2
    refine bodyPost_ret (results_msg rfl _ _ w.heap.size (msgC (Wr.zM 0)) rfl (heap_alloc_new w _) rfl) rfl ⟨rfl, below_alloc _ _⟩
  · have d0 : decide ((b.size : Int) > 2048) = false := by simp; omega
    have hd : Wr.decode limD b = (let h := Wr.rdN b 16 0 0; let r := Wr.rds b (limD h.1) (Wr.letters h.1) h.2.1 h.2.2 (Wr.zM h.1); if Wr.endK b r.1 r.2.1 ≠ 0 ∨ Wr.check r.2.2 ≠ 0 then (Wr.zM 0, 72) else (r.2.2, 0)) := if_neg h1
    rw [hd]
    simp only
    have hN := hide (fun (w : World) (G : Nat) (h : RR w G 0 b (0 : Nat) (0 : Nat) (aD 0 0)) => dnumP (most := 16) (p := 0) (f := 0) h (Nat.zero_le _) hbs)
    have hle := Wr.rdN_le b 16 0 0 (Nat.zero_le _)
    generalize hk : (Wr.rdN b 16 0 0).1 = k at *
    generalize hp : (Wr.rdN b 16 0 0).2.1 = p0 at *
    generalize hf : (Wr.rdN b 16 0 0).2.2 = f0 at *
    generalize hR : Wr.rds b (limD k) (Wr.letters k) p0 f0 (Wr.zM k) = R at *
    have hR2 : rdsO b (limD 0) (lsO k) p0 f0 (Wr.zM k) = R := by rw [rdsO_k b _ k hle.1]; exact hR
    have hRb : R.2.2.rb < 18446744073709551616 := by rw [← hR]; exact Wr.rds_rb _ _ _ _ _ _ (show (0 : Nat) < _ by decide)
    have HRb := hide hRb
    generalize hD : (if Wr.endK b R.1 R.2.1 ≠ 0 ∨ Wr.check R.2.2 ≠ 0 then (Wr.zM 0, 72) else (R.2.2, 0)) = D at *
    have HD := hide hD
    have HR := hide hR2
    have HNm := hide (rnamed_any (k : Int))
    have hs5 := nstr_size (k : Int)
    have hss := lsO_len (k : Int)
    have HAt := hide (lsO_at (k : Int))
    generalize lsO (k : Int) = ls at *
    generalize nstr (k : Int) = s at *
    clear hk hp hf hR hR2 hd hRb hD
    go_enter Tryz.func23, Tryz.ntmps23
    go_wp2_with fail
    have hRR : RR ((w.alloc (.cells (msgC (Wr.zM 0)) 67)).alloc (.cells #[.string b, .int .i64 0, .int .i64 0, .int .i64 0] 133)) (w.heap.size + 1) 0 b (0 : Nat) (0 : Nat) (aD 0 0) := by
      have hb : ((w.alloc (.cells (msgC (Wr.zM 0)) 67)).alloc (.cells #[.string b, .int .i64 0, .int .i64 0, .int .i64 0] 133)).heap[w.heap.size + 1]? = some (.cells #[.string b, .int .i64 0, .int .i64 0, .int .i64 0] 133 (0, 0)) := by simpa using heap_alloc_new (w.alloc (.cells (msgC (Wr.zM 0)) 67)) (.cells #[.string b, .int .i64 0, .int .i64 0, .int .i64 0] 133)
      refine ⟨⟨_, hb⟩, ?_, ?_, ?_, ?_⟩ <;> (unfold World.cell?; rw [hb]; rfl)
    refine (hN.out _ _ hRR).mono ?_
    rintro e w2 ⟨rfl, hR2, hW2⟩
    have hbl2 : Below (w.heap.size + 1) (w.alloc (.cells (msgC (Wr.zM 0)) 67)) w2 := hW2.bl ((below_alloc (w.alloc (.cells (msgC (Wr.zM 0)) 67)) _).mono (by simp)) (Nat.le_refl _)
    have hs2 : w2.heap.size = w.heap.size + 2 := by rw [hW2.size]; simp
    have hwr : IntKind.i64.wrap (k : Int) = (k : Int) := by rw [IntKind.wrap_i64]; omega
    have HMs : Hid (Mg (w2.alloc (.cells (msgC (Wr.zM k)) 67)) w2.heap.size (Wr.zM k)) := heap_alloc_new w2 _
    have HR2 := hide hR2
    have HBl2 := hide hbl2
    clear hRR hR2 hW2 hbl2
    go_wp2_with fail
    refine (HNm.out _).mono ?_
    rintro e w3 ⟨rfl, hb3⟩
    rw [World.size_alloc] at hb3
    have HST : Hid (DdI w w2.heap.size (w.heap.size + 1) b ls R 0 p0 f0 (Wr.zM k) w3) := by
      exact ⟨HMs.out.block (hb3.block _ (by omega)), HR2.out.keep ((hb3.block _ (by omega)).trans (Below.heap_alloc w2 _ _ (by omega))), hle.2, HBl2.out.trans (((below_alloc w2 _).trans (hb3.mono (by omega))).mono (by omega)), by rw [List.drop_zero]; exact HR.out.symm⟩
    clear hb3 HMs HR2 HBl2
    have hA1 : w.heap.size + 1 ≤ w2.heap.size := by omega
    have hAG : w2.heap.size ≠ w.heap.size + 1 := by omega
    rw [hs2] at HST hA1 hAG
    clear hs2
    go_wp2
    go_loopw [7] (fun u wr => ∃ (i p f : Nat) (mi : Ms), u = .int .i64 (i : Int) ∧ i ≤ ls.length ∧ Hid (DdI w (w.heap.size + 2) (w.heap.size + 1) b ls R i p f mi wr)) (fun u _ => ls.length - (intOf u).toNat)
    case atStart => exact ⟨0, p0, f0, _, rfl, Nat.zero_le _, HST.out⟩
    case round =>
      obtain ⟨i, p, f, mi, rfl, hi, HI⟩ := hrel
      by_cases hil : i < ls.length
      · have his : i < s.size := by omega
        have e0 : decide ((i : Int) < (s.size : Int)) = true := by simp; omega
        have hx := HAt.out i hil his
        have hz := HI.out.mg.z
        have MM := HI.out.mg
        have hnle := Wr.rdN_le b 1099511627776 p f HI.out.ple
        cases hL : ls[i] with
        | none =>
          rw [hL] at hx
          have hx2 : ((s[i]'his).toNat : Int) = 63 := by rw [hx]; rfl
          have HN1 := hide (HI.out.sn hil hL)
          clear hx hz MM hL hnle
          go_wp2
          exact ⟨⟨i + 1, _, _, _, by go_num, by omega, HN1.out⟩, by simp [intOf]; omega⟩
        | some l =>
          rw [hL] at hx
          have HL := hide hL
          clear hL
          cases l
          · have hx2 : ((s[i]'his).toNat : Int) = 115 := by rw [hx]; rfl
            have ca : wr.cell? ⟨w.heap.size + 2, 1, none⟩ = some (.int .i64 mi.se) := MM.all 1 _ rfl
            have HQ := hide (dnumP (most := 1099511627776) HI.out.rr HI.out.ple hbs)
            clear hx MM
            go_wp2_with fail
            refine HQ.out.mono ?_
            rintro e w5 ⟨rfl, hr5, hW5⟩
            have HN1 := hide (HI.out.sw hil HL.out rfl rfl hAG hA1 (Nat.le_refl _) hr5 hW5)
            have cb : w5.cell? ⟨w.heap.size + 2, 1, none⟩ = some (.int .i64 mi.se) := (World.cell?_of_block (hW5.other _ hAG)).trans ca
            have zb : w5.frozen? ⟨w.heap.size + 2, 1, none⟩ = false := by have := hz 1; unfold World.frozen? at this ⊢; rw [hW5.other _ hAG]; exact this
            have hwv : IntKind.i64.wrap ((Wr.rdN b 1099511627776 p f).1 : Int) = ((Wr.rdN b 1099511627776 p f).1 : Int) := by rw [IntKind.wrap_i64]; omega
            clear hr5 hW5 ca hz hnle
            go_wp2
            exact ⟨⟨i + 1, _, _, _, by go_num, by omega, HN1.out⟩, by simp [intOf]; omega⟩
          · have hx2 : ((s[i]'his).toNat : Int) = 110 := by rw [hx]; rfl
            have ca : wr.cell? ⟨w.heap.size + 2, 2, none⟩ = some (.int .i64 mi.nu) := MM.all 2 _ rfl
            have HQ := hide (dnumP (most := 1099511627776) HI.out.rr HI.out.ple hbs)
            clear hx MM
            go_wp2_with fail
            refine HQ.out.mono ?_
            rintro e w5 ⟨rfl, hr5, hW5⟩
            have HN1 := hide (HI.out.sw hil HL.out rfl rfl hAG hA1 (Nat.le_refl _) hr5 hW5)
            have cb : w5.cell? ⟨w.heap.size + 2, 2, none⟩ = some (.int .i64 mi.nu) := (World.cell?_of_block (hW5.other _ hAG)).trans ca
            have zb : w5.frozen? ⟨w.heap.size + 2, 2, none⟩ = false := by have := hz 2; unfold World.frozen? at this ⊢; rw [hW5.other _ hAG]; exact this
            have hwv : IntKind.i64.wrap ((Wr.rdN b 1099511627776 p f).1 : Int) = ((Wr.rdN b 1099511627776 p f).1 : Int) := by rw [IntKind.wrap_i64]; omega
            clear hr5 hW5 ca hz hnle
            go_wp2
            exact ⟨⟨i + 1, _, _, _, by go_num, by omega, HN1.out⟩, by simp [intOf]; omega⟩
          · have hx2 : ((s[i]'his).toNat : Int) = 106 := by rw [hx]; rfl
            have ca : wr.cell? ⟨w.heap.size + 2, 3, none⟩ = some (.int .i64 mi.jo) := MM.all 3 _ rfl
            have HQ := hide (dnumP (most := 1099511627776) HI.out.rr HI.out.ple hbs)
            clear hx MM
            go_wp2_with fail
            refine HQ.out.mono ?_
            rintro e w5 ⟨rfl, hr5, hW5⟩
            have HN1 := hide (HI.out.sw hil HL.out rfl rfl hAG hA1 (Nat.le_refl _) hr5 hW5)
            have cb : w5.cell? ⟨w.heap.size + 2, 3, none⟩ = some (.int .i64 mi.jo) := (World.cell?_of_block (hW5.other _ hAG)).trans ca
            have zb : w5.frozen? ⟨w.heap.size + 2, 3, none⟩ = false := by have := hz 3; unfold World.frozen? at this ⊢; rw [hW5.other _ hAG]; exact this
            have hwv : IntKind.i64.wrap ((Wr.rdN b 1099511627776 p f).1 : Int) = ((Wr.rdN b 1099511627776 p f).1 : Int) := by rw [IntKind.wrap_i64]; omega
            clear hr5 hW5 ca hz hnle
            go_wp2
            exact ⟨⟨i + 1, _, _, _, by go_num, by omega, HN1.out⟩, by simp [intOf]; omega⟩
          · have hx2 : ((s[i]'his).toNat : Int) = 98 := by rw [hx]; rfl
            have ca : wr.cell? ⟨w.heap.size + 2, 4, none⟩ = some (.int .i64 mi.ba) := MM.all 4 _ rfl
            have HQ := hide (dnumP (most := 1099511627776) HI.out.rr HI.out.ple hbs)
            clear hx MM
            go_wp2_with fail
            refine HQ.out.mono ?_
            rintro e w5 ⟨rfl, hr5, hW5⟩
            have HN1 := hide (HI.out.sw hil HL.out rfl rfl hAG hA1 (Nat.le_refl _) hr5 hW5)
            have cb : w5.cell? ⟨w.heap.size + 2, 4, none⟩ = some (.int .i64 mi.ba) := (World.cell?_of_block (hW5.other _ hAG)).trans ca
            have zb : w5.frozen? ⟨w.heap.size + 2, 4, none⟩ = false := by have := hz 4; unfold World.frozen? at this ⊢; rw [hW5.other _ hAG]; exact this
            have hwv : IntKind.i64.wrap ((Wr.rdN b 1099511627776 p f).1 : Int) = ((Wr.rdN b 1099511627776 p f).1 : Int) := by rw [IntKind.wrap_i64]; omega
            clear hr5 hW5 ca hz hnle
            go_wp2
            exact ⟨⟨i + 1, _, _, _, by go_num, by omega, HN1.out⟩, by simp [intOf]; omega⟩
          · have hx2 : ((s[i]'his).toNat : Int) = 105 := by rw [hx]; rfl
            have ca : wr.cell? ⟨w.heap.size + 2, 5, none⟩ = some (.int .i64 mi.ix) := MM.all 5 _ rfl
            have HQ := hide (dnumP (most := 1099511627776) HI.out.rr HI.out.ple hbs)
            clear hx MM
            go_wp2_with fail
            refine HQ.out.mono ?_
            rintro e w5 ⟨rfl, hr5, hW5⟩
            have HN1 := hide (HI.out.sw hil HL.out rfl rfl hAG hA1 (Nat.le_refl _) hr5 hW5)
            have cb : w5.cell? ⟨w.heap.size + 2, 5, none⟩ = some (.int .i64 mi.ix) := (World.cell?_of_block (hW5.other _ hAG)).trans ca
            have zb : w5.frozen? ⟨w.heap.size + 2, 5, none⟩ = false := by have := hz 5; unfold World.frozen? at this ⊢; rw [hW5.other _ hAG]; exact this
            have hwv : IntKind.i64.wrap ((Wr.rdN b 1099511627776 p f).1 : Int) = ((Wr.rdN b 1099511627776 p f).1 : Int) := by rw [IntKind.wrap_i64]; omega
            clear hr5 hW5 ca hz hnle
            go_wp2
            exact ⟨⟨i + 1, _, _, _, by go_num, by omega, HN1.out⟩, by simp [intOf]; omega⟩
          · have hx2 : ((s[i]'his).toNat : Int) = 99 := by rw [hx]; rfl
            have ca : wr.cell? ⟨w.heap.size + 2, 6, none⟩ = some (.int .i64 mi.co) := MM.all 6 _ rfl
            have HQ := hide (dnumP (most := 1099511627776) HI.out.rr HI.out.ple hbs)
            clear hx MM
            go_wp2_with fail
            refine HQ.out.mono ?_
            rintro e w5 ⟨rfl, hr5, hW5⟩
            have HN1 := hide (HI.out.sw hil HL.out rfl rfl hAG hA1 (Nat.le_refl _) hr5 hW5)
            have cb : w5.cell? ⟨w.heap.size + 2, 6, none⟩ = some (.int .i64 mi.co) := (World.cell?_of_block (hW5.other _ hAG)).trans ca
            have zb : w5.frozen? ⟨w.heap.size + 2, 6, none⟩ = false := by have := hz 6; unfold World.frozen? at this ⊢; rw [hW5.other _ hAG]; exact this
            have hwv : IntKind.i64.wrap ((Wr.rdN b 1099511627776 p f).1 : Int) = ((Wr.rdN b 1099511627776 p f).1 : Int) := by rw [IntKind.wrap_i64]; omega
            clear hr5 hW5 ca hz hnle
            go_wp2
            exact ⟨⟨i + 1, _, _, _, by go_num, by omega, HN1.out⟩, by simp [intOf]; omega⟩
          · have hx2 : ((s[i]'his).toNat : Int) = 114 := by rw [hx]; rfl
            have ca : wr.cell? ⟨w.heap.size + 2, 7, none⟩ = some (.int .i64 mi.rc) := MM.all 7 _ rfl
            have cc : wr.cell? ⟨w.heap.size + 2, 8, none⟩ = some (.int .u64 (mi.rb : Int)) := MM.all 8 _ rfl
            have HQ := hide (dnumP (most := 1099511627776) HI.out.rr HI.out.ple hbs)
            clear hx MM
            go_wp2_with fail
            refine HQ.out.mono ?_
            rintro e w5 ⟨rfl, hr5, hW5⟩
            have cb : w5.cell? ⟨w.heap.size + 2, 7, none⟩ = some (.int .i64 mi.rc) := (World.cell?_of_block (hW5.other _ hAG)).trans ca
            have cd : w5.cell? ⟨w.heap.size + 2, 8, none⟩ = some (.int .u64 (mi.rb : Int)) := (World.cell?_of_block (hW5.other _ hAG)).trans cc
            have zb : ∀ o, w5.frozen? ⟨w.heap.size + 2, o, none⟩ = false := fun o => by have := hz o; unfold World.frozen? at this ⊢; rw [hW5.other _ hAG]; exact this
            have hwv : IntKind.i64.wrap ((Wr.rdN b 1099511627776 p f).1 : Int) = ((Wr.rdN b 1099511627776 p f).1 : Int) := by rw [IntKind.wrap_i64]; omega
            have hr6 := hr5.keep (w' := w5.setCell ⟨w.heap.size + 2, 7, none⟩ (.int .i64 ((Wr.rdN b 1099511627776 p f).1 : Int))) (Below.heap_setCell _ _ _ _ (Ne.symm hAG))
            have HQ2 := hide (dbitsP hr6 hnle.2 hbs)
            have cd6 := cell_next (x := .int .i64 ((Wr.rdN b 1099511627776 p f).1 : Int)) (A := w.heap.size + 2) (o := 7) cd
            have zb6 := frozen_set (x := .int .i64 ((Wr.rdN b 1099511627776 p f).1 : Int)) (o := 7) zb
            have HW5 := hide hW5
            clear hr5 hW5 ca cc hz hnle hr6 cd
            go_wp2_with fail
            refine HQ2.out.mono ?_
            rintro e w6 ⟨rfl, hr7, hW7⟩
            have HN1 := hide (HI.out.sr hil HL.out hAG hA1 (Nat.le_refl _) HW5.out hW7 hr7)
            have ce : w6.cell? ⟨w.heap.size + 2, 8, none⟩ = some (.int .u64 (mi.rb : Int)) := (World.cell?_of_block (hW7.other _ hAG)).trans cd6
            have ze : w6.frozen? ⟨w.heap.size + 2, 8, none⟩ = false := by have := zb6 8; unfold World.frozen? at this ⊢; rw [hW7.other _ hAG]; exact this
            clear hr7 hW7 cd6 zb6 zb cb
            go_wp2
            exact ⟨⟨i + 1, _, _, _, by go_num, by omega, HN1.out⟩, by simp [intOf]; omega⟩
          · have hx2 : ((s[i]'his).toNat : Int) = 116 := by rw [hx]; rfl
            have ca : wr.cell? ⟨w.heap.size + 2, 9, none⟩ = some (.string mi.tx) := MM.all 9 _ rfl
            have HQ := hide (dtextP (most := 2048) (by decide) HI.out.rr HI.out.ple hbs)
            clear hx MM hnle
            go_wp2_with fail
            refine HQ.out.mono ?_
            rintro e w5 ⟨rfl, hr5, hW5⟩
            have HN1 := hide (HI.out.st hil HL.out rfl rfl hAG hA1 (Nat.le_refl _) hr5 hW5)
            have cb : w5.cell? ⟨w.heap.size + 2, 9, none⟩ = some (.string mi.tx) := (World.cell?_of_block (hW5.other _ hAG)).trans ca
            have zb : w5.frozen? ⟨w.heap.size + 2, 9, none⟩ = false := by have := hz 9; unfold World.frozen? at this ⊢; rw [hW5.other _ hAG]; exact this
            clear hr5 hW5 ca hz
            go_wp2
            exact ⟨⟨i + 1, _, _, _, by go_num, by omega, HN1.out⟩, by simp [intOf]; omega⟩
          · have hx2 : ((s[i]'his).toNat : Int) = 112 := by rw [hx]; rfl
            have ca : wr.cell? ⟨w.heap.size + 2, 10, none⟩ = some (.string mi.pr) := MM.all 10 _ rfl
            have HQ := hide (dtextP (most := 2048) (by decide) HI.out.rr HI.out.ple hbs)
            clear hx MM hnle
            go_wp2_with fail
            refine HQ.out.mono ?_
            rintro e w5 ⟨rfl, hr5, hW5⟩
            have HN1 := hide (HI.out.st hil HL.out rfl rfl hAG hA1 (Nat.le_refl _) hr5 hW5)
            have cb : w5.cell? ⟨w.heap.size + 2, 10, none⟩ = some (.string mi.pr) := (World.cell?_of_block (hW5.other _ hAG)).trans ca
            have zb : w5.frozen? ⟨w.heap.size + 2, 10, none⟩ = false := by have := hz 10; unfold World.frozen? at this ⊢; rw [hW5.other _ hAG]; exact this
            clear hr5 hW5 ca hz
            go_wp2
            exact ⟨⟨i + 1, _, _, _, by go_num, by omega, HN1.out⟩, by simp [intOf]; omega⟩
      · have e0 : decide ((i : Int) < (s.size : Int)) = false := by simp; omega
        obtain rfl : i = ls.length := by omega
        have heq := HI.out.eq
        rw [List.drop_length] at heq
        have heq : R = (p, f, mi) := heq
        subst heq
        have HEnd := hide (qend_any (p := (p : Int)) (f := (f : Int)) HI.out.rr)
        rw [end_k] at HEnd
        go_wp2_with fail
        refine HEnd.out.mono ?_
        rintro e w6 ⟨rfl, n6, hw6⟩
        have hM6 : Mg w6 (w.heap.size + 2) mi := by rw [hw6]; exact HI.out.mg
        have hB0 : Below (w.heap.size + 1) (w.alloc (.cells (msgC (Wr.zM 0)) 67)) w6 := by have := HI.out.bl; rw [hw6]; exact ⟨this.os, this.tape, this.output, this.size, this.block⟩
        have hZ6 : Mg w6 w.heap.size (Wr.zM 0) := (hB0.block _ (by omega)).trans (heap_alloc_new w _)
        have hB6 : Below w.heap.size w w6 := (below_alloc w _).trans (hB0.mono (by omega))
        have HZ6 := hide hZ6
        have HB6 := hide hB6
        have HMi := hide hM6
        have m0 : w6.cell? ⟨w.heap.size + 2, 0, none⟩ = some (.int .i64 mi.k) := hM6.all 0 _ rfl
        have m1 : w6.cell? ⟨w.heap.size + 2, 1, none⟩ = some (.int .i64 mi.se) := hM6.all 1 _ rfl
        have m2 : w6.cell? ⟨w.heap.size + 2, 2, none⟩ = some (.int .i64 mi.nu) := hM6.all 2 _ rfl
        have m3 : w6.cell? ⟨w.heap.size + 2, 3, none⟩ = some (.int .i64 mi.jo) := hM6.all 3 _ rfl
        have m4 : w6.cell? ⟨w.heap.size + 2, 4, none⟩ = some (.int .i64 mi.ba) := hM6.all 4 _ rfl
        have m5 : w6.cell? ⟨w.heap.size + 2, 5, none⟩ = some (.int .i64 mi.ix) := hM6.all 5 _ rfl
        have m6 : w6.cell? ⟨w.heap.size + 2, 6, none⟩ = some (.int .i64 mi.co) := hM6.all 6 _ rfl
        have m7 : w6.cell? ⟨w.heap.size + 2, 7, none⟩ = some (.int .i64 mi.rc) := hM6.all 7 _ rfl
        have m8 : w6.cell? ⟨w.heap.size + 2, 8, none⟩ = some (.int .u64 (mi.rb : Int)) := hM6.all 8 _ rfl
        have m9 : w6.cell? ⟨w.heap.size + 2, 9, none⟩ = some (.string mi.tx) := hM6.all 9 _ rfl
        have m10 : w6.cell? ⟨w.heap.size + 2, 10, none⟩ = some (.string mi.pr) := hM6.all 10 _ rfl
        clear hM6 hw6 hZ6 hB6 hB0 HI HEnd
        by_cases hE : Wr.endK b p f = 0
        · rw [hE, show ((0 : Nat) : Int) = 0 from rfl]
          have HCk := hide (rcheck_any mi HRb.out)
          unfold msgC at HCk
          go_wp2_with fail
          refine (HCk.out _).mono ?_
          rintro e w7 ⟨rfl, hb7⟩
          have hZ7 := HZ6.out.block (hb7.block _ HZ6.out.lt)
          have HZw := hide hZ7
          have HBw := hide (HB6.out.trans (hb7.mono HB6.out.size))
          have hM7 := HMi.out.block (hb7.block _ HMi.out.lt)
          have z0 : w7.cell? ⟨w.heap.size, 0, none⟩ = some (.int .i64 0) := hZ7.all 0 _ rfl
          have z1 : w7.cell? ⟨w.heap.size, 1, none⟩ = some (.int .i64 0) := hZ7.all 1 _ rfl
          have z2 : w7.cell? ⟨w.heap.size, 2, none⟩ = some (.int .i64 0) := hZ7.all 2 _ rfl
          have z3 : w7.cell? ⟨w.heap.size, 3, none⟩ = some (.int .i64 0) := hZ7.all 3 _ rfl
          have z4 : w7.cell? ⟨w.heap.size, 4, none⟩ = some (.int .i64 0) := hZ7.all 4 _ rfl
          have z5 : w7.cell? ⟨w.heap.size, 5, none⟩ = some (.int .i64 0) := hZ7.all 5 _ rfl
          have z6 : w7.cell? ⟨w.heap.size, 6, none⟩ = some (.int .i64 0) := hZ7.all 6 _ rfl
          have z7 : w7.cell? ⟨w.heap.size, 7, none⟩ = some (.int .i64 0) := hZ7.all 7 _ rfl
          have z8 : w7.cell? ⟨w.heap.size, 8, none⟩ = some (.int .u64 0) := hZ7.all 8 _ rfl
          have z9 : w7.cell? ⟨w.heap.size, 9, none⟩ = some (.string ⟨#[]⟩) := hZ7.all 9 _ rfl
          have z10 : w7.cell? ⟨w.heap.size, 10, none⟩ = some (.string ⟨#[]⟩) := hZ7.all 10 _ rfl
          have k0 : w7.cell? ⟨w.heap.size + 2, 0, none⟩ = some (.int .i64 mi.k) := hM7.all 0 _ rfl
          have k1 : w7.cell? ⟨w.heap.size + 2, 1, none⟩ = some (.int .i64 mi.se) := hM7.all 1 _ rfl
          have k2 : w7.cell? ⟨w.heap.size + 2, 2, none⟩ = some (.int .i64 mi.nu) := hM7.all 2 _ rfl
          have k3 : w7.cell? ⟨w.heap.size + 2, 3, none⟩ = some (.int .i64 mi.jo) := hM7.all 3 _ rfl
          have k4 : w7.cell? ⟨w.heap.size + 2, 4, none⟩ = some (.int .i64 mi.ba) := hM7.all 4 _ rfl
          have k5 : w7.cell? ⟨w.heap.size + 2, 5, none⟩ = some (.int .i64 mi.ix) := hM7.all 5 _ rfl
          have k6 : w7.cell? ⟨w.heap.size + 2, 6, none⟩ = some (.int .i64 mi.co) := hM7.all 6 _ rfl
          have k7 : w7.cell? ⟨w.heap.size + 2, 7, none⟩ = some (.int .i64 mi.rc) := hM7.all 7 _ rfl
          have k8 : w7.cell? ⟨w.heap.size + 2, 8, none⟩ = some (.int .u64 (mi.rb : Int)) := hM7.all 8 _ rfl
          have k9 : w7.cell? ⟨w.heap.size + 2, 9, none⟩ = some (.string mi.tx) := hM7.all 9 _ rfl
          have k10 : w7.cell? ⟨w.heap.size + 2, 10, none⟩ = some (.string mi.pr) := hM7.all 10 _ rfl
          have fz := hZ7.z
          clear hb7 hZ7 hM7 m0 m1 m2 m3 m4 m5 m6 m7 m8 m9 m10
          by_cases hC : Wr.check mi = 0
          · rw [hC, show ((0 : Nat) : Int) = 0 from rfl]
            have hD' : D = (mi, 0) := by rw [← HD.out]; exact if_neg (by simp [hE, hC])
            go_wp2
            obtain ⟨f1, f2⟩ := set11 HZw.out HBw.out (Nat.le_refl _) (.int .i64 mi.k) (.int .i64 mi.se) (.int .i64 mi.nu) (.int .i64 mi.jo) (.int .i64 mi.ba) (.int .i64 mi.ix) (.int .i64 mi.co) (.int .i64 mi.rc) (.int .u64 (mi.rb : Int)) (.string mi.tx) (.string mi.pr)
            refine bodyPost_ret (results_msg rfl _ _ w.heap.size #[.int .i64 mi.k, .int .i64 mi.se, .int .i64 mi.nu, .int .i64 mi.jo, .int .i64 mi.ba, .int .i64 mi.ix, .int .i64 mi.co, .int .i64 mi.rc, .int .u64 (mi.rb : Int), .string mi.tx, .string mi.pr] rfl f1 rfl) rfl ⟨by rw [hD']; rfl, f2⟩
          · have hb : ((Wr.check mi : Int) != 0) = true := by simp; omega
            have hD' : D = (Wr.zM 0, 72) := by rw [← HD.out]; exact if_pos (.inr hC)
            generalize Wr.check mi = E at *
            go_wp2
            obtain ⟨f1, f2⟩ := set11 HZw.out HBw.out (Nat.le_refl _) (.int .i64 0) (.int .i64 0) (.int .i64 0) (.int .i64 0) (.int .i64 0) (.int .i64 0) (.int .i64 0) (.int .i64 0) (.int .u64 0) (.string ⟨#[]⟩) (.string ⟨#[]⟩)
            refine bodyPost_ret (results_msg rfl _ _ w.heap.size #[.int .i64 0, .int .i64 0, .int .i64 0, .int .i64 0, .int .i64 0, .int .i64 0, .int .i64 0, .int .i64 0, .int .u64 0, .string ⟨#[]⟩, .string ⟨#[]⟩] rfl f1 rfl) rfl ⟨by rw [hD']; rfl, f2⟩
        · have hb : ((Wr.endK b p f : Int) != 0) = true := by simp; omega
          have hD' : D = (Wr.zM 0, 72) := by rw [← HD.out]; exact if_pos (.inl hE)
          have z0 : w6.cell? ⟨w.heap.size, 0, none⟩ = some (.int .i64 0) := HZ6.out.all 0 _ rfl
          have z1 : w6.cell? ⟨w.heap.size, 1, none⟩ = some (.int .i64 0) := HZ6.out.all 1 _ rfl
          have z2 : w6.cell? ⟨w.heap.size, 2, none⟩ = some (.int .i64 0) := HZ6.out.all 2 _ rfl
          have z3 : w6.cell? ⟨w.heap.size, 3, none⟩ = some (.int .i64 0) := HZ6.out.all 3 _ rfl
          have z4 : w6.cell? ⟨w.heap.size, 4, none⟩ = some (.int .i64 0) := HZ6.out.all 4 _ rfl
          have z5 : w6.cell? ⟨w.heap.size, 5, none⟩ = some (.int .i64 0) := HZ6.out.all 5 _ rfl
          have z6 : w6.cell? ⟨w.heap.size, 6, none⟩ = some (.int .i64 0) := HZ6.out.all 6 _ rfl
          have z7 : w6.cell? ⟨w.heap.size, 7, none⟩ = some (.int .i64 0) := HZ6.out.all 7 _ rfl
          have z8 : w6.cell? ⟨w.heap.size, 8, none⟩ = some (.int .u64 0) := HZ6.out.all 8 _ rfl
          have z9 : w6.cell? ⟨w.heap.size, 9, none⟩ = some (.string ⟨#[]⟩) := HZ6.out.all 9 _ rfl
          have z10 : w6.cell? ⟨w.heap.size, 10, none⟩ = some (.string ⟨#[]⟩) := HZ6.out.all 10 _ rfl
          have fz := HZ6.out.z
          have HZw := HZ6
          have HBw := HB6
          generalize Wr.endK b p f = E at *
          go_wp2
          obtain ⟨f1, f2⟩ := set11 HZw.out HBw.out (Nat.le_refl _) (.int .i64 0) (.int .i64 0) (.int .i64 0) (.int .i64 0) (.int .i64 0) (.int .i64 0) (.int .i64 0) (.int .i64 0) (.int .u64 0) (.string ⟨#[]⟩) (.string ⟨#[]⟩)
          refine bodyPost_ret (results_msg rfl _ _ w.heap.size #[.int .i64 0, .int .i64 0, .int .i64 0, .int .i64 0, .int .i64 0, .int .i64 0, .int .i64 0, .int .i64 0, .int .u64 0, .string ⟨#[]⟩, .string ⟨#[]⟩] rfl f1 rfl) rfl ⟨by rw [hD']; rfl, f2⟩
end Go.Proofs.YtkfnedhllfdghaaGreatDoor.W
end
