import Derived.Test.YthfbkpkogihcbaaGreatDoorMgBA
import Derived.Deep.QuietTactic
import Derived.Test.YthfbkpkogihcbaaGreatDoorMgAK

section
namespace Go.Proofs.YthfbkpkogihcbaaGreatDoor
open Go.RowKit Go.Shelf

theorem both_not (op : Int) : ((Pg.hasP op).2.1 && (Pg.hasP op).2.2) = false := by
  unfold Pg.hasP
  repeat' split
  all_goals rfl
theorem ins_cat (x : In) (many r : Nat) (nb kb : Bool) (So : ByteArray) (hI : Pg.insE x many = 0) (hR : Pg.hasP x.op = (r, nb, kb)) (hS : So = ⟨(Pk.enc (Pg.un x.op)).toArray⟩) :
    r ≤ 3 ∧ Pg.insB x = Pg.goB x ((if nb then [78] else []) ++ (if kb then [75] else [])) (Pg.goB x (([65, 66, 67] : List UInt8).take r) So) := by
  obtain ⟨h1, _, h3⟩ := ins_fl x many hI
  rw [hR] at h1 h3
  refine ⟨h3, ?_⟩
  unfold Pg.insB
  rw [h1, ← hS]
  exact goB_app x _ _ _
theorem pack_step {fuel : Int} {xs : List In} {k : Nat} {bb I : ByteArray} {x : In} (hk : k < xs.length) (hx : xs[k]! = x) (hI : Pg.insB x = I) (hE : Pg.packB fuel xs = Pg.allB (xs.drop k) bb.data.toList) : Pg.packB fuel xs = Pg.allB (xs.drop (k + 1)) (bb ++ I).data.toList := by
  rw [hE, allB_drop xs k hk, hx, hI, ByteArray.data_append, Array.toList_append]
theorem pack_size {k : Nat} {bb I : ByteArray} {x : In} (hx : x.k < 18446744073709551616) (hI : Pg.insB x = I) (hZ : bb.size ≤ 20 + k * 40) : (bb ++ I).size ≤ 20 + (k + 1) * 40 := by
  have := Pg.insB_len x hx
  rw [hI] at this
  rw [ByteArray.size_append]
  omega
set_option maxRecDepth 20000 in
set_option maxHeartbeats 4000000 in
theorem rpack_any (fuel : Int) (xs : List In) (hx : ∀ x ∈ xs, x.Fits) (v : Value) (w : World) (h : Cd w v xs) :
    Calls Tryz.prog 19 #[.agg #[.int .i64 fuel, v]] w fun e w' => e = .returned (.tuple #[.string (Pg.packS fuel xs), .int .i64 (Pg.checkE fuel xs).1]) ∧ Below w.heap.size w w' := by
  have HC := hide (rcheck_any fuel xs hx v)
  have H2 := hide (checkE_two fuel xs)
  have H3 := hide (check_ins fuel xs)
  have HX := hide hx
  have HCd := hide h
  obtain ⟨p, cap, rfl, h2⟩ := h
  have HP := hide h2
  clear h2 hx
  unfold Pg.packS
  generalize Pg.checkE fuel xs = ce at *
  obtain ⟨E, at_⟩ := ce
  by_cases hE : E = 0
  · subst hE
    obtain ⟨hf1, hf2, hn1, hn2⟩ := H2.out rfl
    have HIN := hide (H3.out rfl)
    obtain ⟨b, off, rfl, hlt, hc⟩ := HP.out (by omega)
    have HCC := hide hc
    clear HP hc H2 H3
    go_enter Tryz.func19, Tryz.ntmps19
    go_wp2_with fail
    refine (HC.out _ (HCd.out.below (below_one w _) (Nat.le_refl _))).mono ?_
    rintro e w1 ⟨rfl, hb1⟩
    have HB1 : Hid (Below w.heap.size w w1) := (below_one w _).trans (hb1.mono (by simp))
    have hp : Pb w1 w.heap.size fuel (.slice (some ⟨b, off, none⟩) xs.length cap) := (hb1.block w.heap.size (by simp)).trans (heap_alloc_new w _)
    have hpc0 := hp.c0
    have hpc1 := hp.c1
    have hpl := hp.lt
    have HPp := hide hp
    clear hb1 HC hp
    have hl1 := Pk.enc_ten (un_lt fuel)
    have hl2 := Pk.enc_ten (un_lt (xs.length : Int))
    have HL12 : Hid ((Pk.enc (Pg.un fuel) ++ Pk.enc (Pg.un (xs.length : Int))).length ≤ 20) := by show _ ≤ _; rw [List.length_append]; omega
    have hadd : ∀ w1 : World, (Op.stringOp .add ⟨(Pk.enc (Pg.un fuel)).toArray⟩ ⟨(Pk.enc (Pg.un (xs.length : Int))).toArray⟩).run Tryz.prog w1 = .ok (.string ⟨(Pk.enc (Pg.un fuel) ++ Pk.enc (Pg.un (xs.length : Int))).toArray⟩) w1 := fun w1 => by
      rw [run_string_add_sum w1 _ _ (by show (Pk.enc (Pg.un fuel)).toArray.size + (Pk.enc (Pg.un (xs.length : Int))).toArray.size ≤ _; simp; omega), ByteArray.mk_append_mk]
    have HN1 : Hid (∀ w, Calls Tryz.prog 40 #[.int .u64 (IntKind.u64.wrap fuel)] w fun e w' => e = .returned (.string ⟨(Pk.enc (Pg.un fuel)).toArray⟩) ∧ Below w.heap.size w w') := qnum_wrap fuel
    have HN2 : Hid (∀ w, Calls Tryz.prog 40 #[.int .u64 (IntKind.u64.wrap (xs.length : Int))] w fun e w' => e = .returned (.string ⟨(Pk.enc (Pg.un (xs.length : Int))).toArray⟩) ∧ Below w.heap.size w w') := qnum_wrap (xs.length : Int)
    have HS1 : Hid ((⟨(Pk.enc (Pg.un fuel) ++ Pk.enc (Pg.un (xs.length : Int))).toArray⟩ : ByteArray).size ≤ 20) := by have := HL12.out; show (Pk.enc (Pg.un fuel) ++ Pk.enc (Pg.un (xs.length : Int))).toArray.size ≤ 20; rw [List.size_toArray]; exact this
    obtain ⟨S1, hS1⟩ : ∃ S1 : ByteArray, S1 = (⟨(Pk.enc (Pg.un fuel) ++ Pk.enc (Pg.un (xs.length : Int))).toArray⟩ : ByteArray) := ⟨_, rfl⟩
    have HS := hide hS1
    rw [← hS1] at hadd HS1
    clear hS1
    generalize (⟨(Pk.enc (Pg.un fuel)).toArray⟩ : ByteArray) = S2 at *
    generalize (⟨(Pk.enc (Pg.un (xs.length : Int))).toArray⟩ : ByteArray) = S3 at *
    have HTok : Hid True := trivial
    clear hl1 hl2
    go_wp2_with fail
    go_region_held3 (fun w' => w'.cell? ⟨w.heap.size, 0, none⟩ = some (.int .i64 fuel) ∧ w'.cell? ⟨w.heap.size, 1, none⟩ = some (.slice (some ⟨b, off, none⟩) xs.length cap)) (go_keep) (first
      | (go_at_call 40; clear HTok; refine (HN1.out _).mono ?_; rintro e w2 ⟨rfl, hb2⟩; have hX1 : w2.cell? ⟨w.heap.size, 0, none⟩ = some (.int .i64 fuel) := (hb2.cell (World.block_lt_of_cell? _ _ hpc0)).trans hpc0; have hY1 : w2.cell? ⟨w.heap.size, 1, none⟩ = some (.slice (some ⟨b, off, none⟩) xs.length cap) := (hb2.cell (World.block_lt_of_cell? _ _ hpc1)).trans hpc1; have HB2 := hide hb2; clear hb2)
      | (go_at_call 40; refine (HN2.out _).mono ?_; rintro e w3 ⟨rfl, hb3⟩; have hX2 : w3.cell? ⟨w.heap.size, 0, none⟩ = some (.int .i64 fuel) := (hb3.cell (World.block_lt_of_cell? _ _ hX1)).trans hX1; have hY2 : w3.cell? ⟨w.heap.size, 1, none⟩ = some (.slice (some ⟨b, off, none⟩) xs.length cap) := (hb3.cell (World.block_lt_of_cell? _ _ hY1)).trans hY1; have HB3 := hide hb3; clear hb3))
    have HB4 : Hid (Below w.heap.size w w3) := (HB1.out.drew.trans (HB2.out.mono HB1.out.size)).trans (HB3.out.mono (Nat.le_trans HB1.out.size HB2.out.size))
    have HP4 : Hid (Pb w3 w.heap.size fuel (.slice (some ⟨b, off, none⟩) xs.length cap)) := (HB3.out.block _ (Nat.lt_of_lt_of_le hpl HB2.out.size)).trans ((HB2.out.block _ hpl).trans HPp.out)
    clear HB1 HB2 HB3 HPp hpc0 hpc1 hX1 hY1 hX2 hY2 hadd HN1 HN2 HL12
    have hp4 := HP4.out.lt
    go_wp2_with fail
    go_loopw [6, 7] (fun s t wr => ∃ (k : Nat) (bb : ByteArray), k ≤ xs.length ∧ s = .string bb ∧ t = .int .i64 (k : Int) ∧ Hid (Below w3.heap.size w3 wr) ∧ Hid (bb.size ≤ 20 + k * 40) ∧ Hid (Pg.packB fuel xs = Pg.allB (xs.drop k) bb.data.toList)) (fun _ t _ => xs.length - (intOf t).toNat)
    case atStart => exact ⟨0, S1, Nat.zero_le _, rfl, rfl, Below.refl _ _, HS1.out, by show Pg.packB fuel xs = _; rw [HS.out]; rfl⟩
    case round =>
      obtain ⟨k, bb, hk, rfl, rfl, HB, HZ, HE⟩ := hrel
      have hp : Pb wr w.heap.size fuel (.slice (some ⟨b, off, none⟩) xs.length cap) := (HB.out.block _ hp4).trans HP4.out
      have q1 := hp.c1
      have hql := hp.lt
      by_cases hkl : k < xs.length
      · have hki : (k : Int) < (xs.length : Int) := by omega
        obtain ⟨x, hxk⟩ : ∃ x, xs[k]! = x := ⟨_, rfl⟩
        have hc : ∀ i u, x.cs[i]? = some u → wr.cell? ⟨b, off + k * 6 + i, none⟩ = some u := fun i u hi =>
          (HB.out.cell (p := ⟨b, off + k * 6 + i, none⟩) (by show b < w3.heap.size; omega)).trans ((HB4.out.cell (p := ⟨b, off + k * 6 + i, none⟩) hlt).trans (HCC.out k hkl i u (by rw [hxk]; exact hi)))
        have c0 := hc 0 _ rfl
        have c1 := hc 1 _ rfl
        have c2 := hc 2 _ rfl
        have c3 := hc 3 _ rfl
        have c4 := hc 4 _ rfl
        have c5 := hc 5 _ rfl
        simp only [Nat.add_zero] at c0
        have hmem : x ∈ xs := by rw [← hxk, getElem!_pos xs k hkl]; exact List.getElem_mem hkl
        have HF := hide (HX.out x hmem)
        have HI := hide (HIN.out x hmem)
        have HXK := hide hxk
        have HH := hide (has_any x.op)
        obtain ⟨r, nb, kb, hr⟩ : ∃ r nb kb, Pg.hasP x.op = (r, nb, kb) := ⟨_, _, _, rfl⟩
        have HR := hide hr
        rw [hr] at HH
        clear hc hmem hxk hr hp
        go_wp2_with fail
        refine (HH.out _).mono ?_
        rintro e w5 ⟨rfl, hw5⟩
        have HI5 : Hid (Ib w5 wr.heap.size x) := by rw [hw5]; exact heap_alloc_new wr _
        have HB5 : Hid (Below w3.heap.size w3 w5) := by rw [hw5]; exact HB.out.alloc HB.out.size _
        clear hw5 HH HB c0 c1 c2 c3 c4 c5 q1 hql
        obtain ⟨⟨x0, x1, x2, x3, x4, x5⟩, xz⟩ := six_of HI5.out
        have hl5 := HI5.out.lt
        have HSo : Hid ((⟨(Pk.enc (Pg.un x.op)).toArray⟩ : ByteArray).size ≤ 10) := by have h3 := Pk.enc_ten (un_lt x.op); show (Pk.enc _).toArray.size ≤ 10; simpa using h3
        have HNo := hide (qnum_wrap x.op)
        obtain ⟨So, hSo⟩ : ∃ So : ByteArray, So = ⟨(Pk.enc (Pg.un x.op)).toArray⟩ := ⟨_, rfl⟩
        rw [← hSo] at HSo HNo
        have hadd : ∀ w1 : World, (Op.stringOp .add bb So).run Tryz.prog w1 = .ok (.string (bb ++ So)) w1 := fun w1 => run_string_add_sum w1 _ _ (by have := HSo.out; have := HZ.out; omega)
        have HSe := hide hSo
        clear hSo
        go_wp2_with fail
        refine (HNo.out _).mono ?_
        rintro e w6 ⟨rfl, hb6⟩
        have HI6 := hide (HI5.out.grown (grown_below hb6 none) (by simp))
        have HB6 : Hid (Below w3.heap.size w3 w6) := HB5.out.trans (hb6.mono HB5.out.size)
        clear hb6 HI5 HB5 HNo x0 x1 x2 x3 x4 x5 xz hl5
        obtain ⟨⟨x0, x1, x2, x3, x4, x5⟩, xz⟩ := six_of HI6.out
        have hl6 := HI6.out.lt
        have HI7 := hide (HI6.out.grown (grown_one w6 (.cells #[.int .i64 x.a, .int .i64 x.b, .int .i64 x.c] 69) none) (by simp))
        have HL7 : Hid ((w6.alloc (.cells #[.int .i64 x.a, .int .i64 x.b, .int .i64 x.c] 69)).heap[w6.heap.size]? = some (.cells #[.int .i64 x.a, .int .i64 x.b, .int .i64 x.c] 69 (0, 0))) := heap_alloc_new w6 _
        have HB7 := hide (HB6.out.alloc HB6.out.size (.cells #[.int .i64 x.a, .int .i64 x.b, .int .i64 x.c] 69))
        go_wp2_with fail
        generalize w6.alloc (.cells #[.int .i64 x.a, .int .i64 x.b, .int .i64 x.c] 69) = W7 at *
        clear x0 x1 x2 x3 x4 x5 xz HI6 HB6 hadd
        obtain ⟨hr3, hcat⟩ := ins_cat x xs.length r nb kb So HI.out HR.out HSe.out
        have HCat := hide hcat
        clear hcat
        generalize wr.heap.size = XB at *
        go_loopw [6, 13] (fun s t wq => ∃ j : Nat, j ≤ r ∧ s = .string (bb ++ Pg.goB x (([65, 66, 67] : List UInt8).take j) So) ∧ t = .int .i64 (j : Int) ∧ Hid (Below W7.heap.size W7 wq)) (fun _ t _ => r - (intOf t).toNat)
        case atStart => exact ⟨0, Nat.zero_le _, rfl, rfl, Below.refl _ _⟩
        case round =>
          obtain ⟨j, hj, rfl, rfl, HBq⟩ := hrel
          have hLq : wr.heap[w6.heap.size]? = some (.cells #[.int .i64 x.a, .int .i64 x.b, .int .i64 x.c] 69 (0, 0)) := (HBq.out.block _ (lt_of_block HL7.out)).trans HL7.out
          have HIq : Hid (Ib wr XB x) := (HBq.out.block _ HI7.out.lt).trans HI7.out
          have HGs : Hid ((Pg.goB x (([65, 66, 67] : List UInt8).take j) So).size ≤ 40) := by
            show _ ≤ _
            have h1 := Pg.goB_len x HF.out.k (([65, 66, 67] : List UInt8).take j) So
            have h2 : (([65, 66, 67] : List UInt8).take j).length ≤ 3 := by rw [List.length_take]; exact Nat.min_le_right _ _
            have := HSo.out
            omega
          by_cases hjr : j < r
          · have hji : (j : Int) < (r : Int) := by omega
            have hj3 : (j : Int) < 3 := by omega
            have hc : wr.cell? ⟨w6.heap.size, j, none⟩ = some (.int .i64 (Pg.abc x j)) := by
              obtain ⟨⟨c0, c1, c2⟩, _⟩ := three_of hLq
              match j, (show j < 3 by omega) with
              | 0, _ => exact c0
              | 1, _ => exact c1
              | 2, _ => exact c2
            have HNj := hide (qnum_wrap (Pg.abc x j))
            have hlen := Pk.enc_ten (un_lt (Pg.abc x j))
            have hadd : ∀ w1 : World, (Op.stringOp .add (bb ++ Pg.goB x (([65, 66, 67] : List UInt8).take j) So) ⟨(Pk.enc (Pg.un (Pg.abc x j))).toArray⟩).run Tryz.prog w1 = .ok (.string (bb ++ Pg.goB x (([65, 66, 67] : List UInt8).take (j + 1)) So)) w1 := fun w1 => by
              rw [run_string_add_sum w1 _ _ (by have := HGs.out; have := HZ.out; rw [ByteArray.size_append]; show _ + (Pk.enc (Pg.un (Pg.abc x j))).toArray.size ≤ _; rw [List.size_toArray]; omega), ByteArray.append_assoc, ← goB_take x j (by omega)]
            generalize bb ++ Pg.goB x (([65, 66, 67] : List UInt8).take j) So = B1 at *
            have HRel : Hid (bb ++ Pg.goB x (([65, 66, 67] : List UInt8).take (j + 1)) So = bb ++ Pg.goB x (([65, 66, 67] : List UInt8).take (j + 1)) So) := rfl
            generalize (⟨(Pk.enc (Pg.un (Pg.abc x j))).toArray⟩ : ByteArray) = Sj at *
            generalize Pg.abc x j = aj at *
            clear hLq hlen
            go_wp2_with fail
            refine (HNj.out _).mono ?_
            rintro e w8 ⟨rfl, hb8⟩
            have HB8 : Hid (Below W7.heap.size W7 w8) := HBq.out.trans (hb8.mono HBq.out.size)
            clear hb8
            go_wp2
            go_roundw
            case rel => exact ⟨j + 1, by omega, rfl, by go_num, HB8⟩
            case measure => simp [intOf]; omega
          · obtain rfl : j = r := by omega
            have hji : ¬ (j : Int) < (j : Int) := by omega
            obtain ⟨⟨x0, x1, x2, x3, x4, x5⟩, xz⟩ := six_of HIq.out
            have HBz : Hid (Below w3.heap.size w3 wr) := HB7.out.trans (HBq.out.mono HB7.out.size)
            clear hLq
            cases nb with
            | false =>
              cases kb with
              | false =>
                have HCf : Hid (Pg.insB x = Pg.goB x (([65, 66, 67] : List UInt8).take j) So) := HCat.out
                generalize Pg.goB x (([65, 66, 67] : List UInt8).take j) So = G at *
                go_wp2
                exact ⟨⟨k + 1, _, by omega, rfl, by go_num, HBz, pack_size HF.out.k HCf.out HZ.out, pack_step hkl HXK.out HCf.out HE.out⟩, by simp [intOf]; omega⟩
              | true =>
                have HCf0 : Hid (Pg.insB x = Pg.goB x [75] (Pg.goB x (([65, 66, 67] : List UInt8).take j) So)) := HCat.out
                generalize Pg.goB x (([65, 66, 67] : List UInt8).take j) So = G at *
                have HCf : Hid (Pg.insB x = (G ++ (⟨(Pk.big8 x.k).toArray⟩ : ByteArray))) := HCf0.out
                have HK := hide (qbits_any x.k HF.out.k)
                have haddK : ∀ w1 : World, (Op.stringOp .add (bb ++ G) ⟨(Pk.big8 x.k).toArray⟩).run Tryz.prog w1 = .ok (.string (bb ++ (G ++ (⟨(Pk.big8 x.k).toArray⟩ : ByteArray)))) w1 := fun w1 => by
                  rw [run_string_add_sum w1 _ _ (by have := HGs.out; have := HZ.out; rw [ByteArray.size_append]; show _ + 8 ≤ _; omega), ByteArray.append_assoc]
                generalize (G ++ (⟨(Pk.big8 x.k).toArray⟩ : ByteArray)) = G2 at *
                generalize (⟨(Pk.big8 x.k).toArray⟩ : ByteArray) = SK at *
                go_wp2_with fail
                refine (HK.out _).mono ?_
                rintro e w9 ⟨rfl, hb9⟩
                have HB9 : Hid (Below w3.heap.size w3 w9) := HBz.out.trans (hb9.mono HBz.out.size)
                clear hb9
                go_wp2
                exact ⟨⟨k + 1, _, by omega, rfl, by go_num, HB9, pack_size HF.out.k HCf.out HZ.out, pack_step hkl HXK.out HCf.out HE.out⟩, by simp [intOf]; omega⟩
            | true =>
              cases kb with
              | false =>
                have HCf0 : Hid (Pg.insB x = Pg.goB x [78] (Pg.goB x (([65, 66, 67] : List UInt8).take j) So)) := HCat.out
                generalize Pg.goB x (([65, 66, 67] : List UInt8).take j) So = G at *
                have HCf : Hid (Pg.insB x = (G ++ (⟨(Pk.enc (Pg.un x.n)).toArray⟩ : ByteArray))) := HCf0.out
                have HK := hide (qnum_wrap x.n)
                have haddN : ∀ w1 : World, (Op.stringOp .add (bb ++ G) ⟨(Pk.enc (Pg.un x.n)).toArray⟩).run Tryz.prog w1 = .ok (.string (bb ++ (G ++ (⟨(Pk.enc (Pg.un x.n)).toArray⟩ : ByteArray)))) w1 := fun w1 => by
                  rw [run_string_add_sum w1 _ _ (by have := HGs.out; have := HZ.out; have h5 := Pk.enc_ten (un_lt x.n); rw [ByteArray.size_append]; show _ + (Pk.enc (Pg.un x.n)).toArray.size ≤ _; rw [List.size_toArray]; omega), ByteArray.append_assoc]
                generalize (G ++ (⟨(Pk.enc (Pg.un x.n)).toArray⟩ : ByteArray)) = G2 at *
                generalize (⟨(Pk.enc (Pg.un x.n)).toArray⟩ : ByteArray) = SK at *
                go_wp2_with fail
                refine (HK.out _).mono ?_
                rintro e w9 ⟨rfl, hb9⟩
                have HB9 : Hid (Below w3.heap.size w3 w9) := HBz.out.trans (hb9.mono HBz.out.size)
                clear hb9
                go_wp2
                exact ⟨⟨k + 1, _, by omega, rfl, by go_num, HB9, pack_size HF.out.k HCf.out HZ.out, pack_step hkl HXK.out HCf.out HE.out⟩, by simp [intOf]; omega⟩
              | true =>
                exfalso
                have h9 := both_not x.op
                rw [HR.out] at h9
                cases h9
      · obtain rfl : k = xs.length := by omega
        have hki : ¬ (xs.length : Int) < (xs.length : Int) := by omega
        clear hp
        go_wp2
        go_ret2
        refine ⟨?_, HB4.out.trans (HB.out.mono HB4.out.size)⟩
        have hfin : Pg.packB fuel xs = bb.data.toList := by rw [HE.out, List.drop_length]; rfl
        rw [hfin]
        rfl
  · have hEb : (E != 0) = true := by simp [hE]
    rw [if_neg hE]
    clear HP H2 H3
    go_enter Tryz.func19, Tryz.ntmps19
    go_wp2_with fail
    refine (HC.out _ (HCd.out.below (below_one w _) (Nat.le_refl _))).mono ?_
    rintro e w1 ⟨rfl, hb1⟩
    have HB1 : Hid (Below w.heap.size w w1) := (below_one w _).trans (hb1.mono (by simp))
    clear hb1 HC
    go_wp2
    go_ret2
    exact ⟨rfl, HB1.out⟩
set_option maxHeartbeats 1000000 in
theorem progLays_walk (fuel : Int) (xs : List In) (hx : ∀ x ∈ xs, x.Fits) (v : Value) (w : World) (h : Cd w v xs) (hT : Libs w) :
    Calls Tryz.prog 6 #[.agg #[.int .i64 fuel, v]] w fun e w' => e = .returned (.bool true) ∧ Below w.heap.size w w' := by
  have HC := hide (fun w1 h1 => pack_any fuel xs (fun x hm => (hx x hm).k) v w1 h1)
  have HR := hide (fun w1 h1 => rpack_any fuel xs hx v w1 h1)
  have HCd := hide h
  have HT := hide hT
  generalize Pg.packS fuel xs = PS at *
  generalize (Pg.checkE fuel xs).1 = E at *
  clear h hT hx
  have e1 : (E == E) = true := by simp
  have e2 : (PS.toList == PS.toList) = true := by simp
  go_enter Tryz.func6, Tryz.ntmps6
  obtain ⟨ad, cap, rfl⟩ := cd_slice HCd.out
  go_wp2_with fail
  refine (HC.out _ (HCd.out.below (below_one w _) (Nat.le_refl _))).mono ?_
  rintro e w1 ⟨rfl, hb1⟩
  have hP1 : Pb w1 w.heap.size fuel (.slice ad xs.length cap) := (hb1.block w.heap.size (by simp)).trans (heap_alloc_new w _)
  have p0 := hP1.c0
  have p1 := hP1.c1
  have HB1 : Hid (Below w.heap.size w w1) := (below_one w _).trans (hb1.mono (by simp))
  clear hb1 hP1
  go_wp2_with fail
  refine (HR.out w1 (HCd.out.below HB1.out (Nat.le_refl _))).mono ?_
  rintro e w2 ⟨rfl, hb2⟩
  have HB2 : Hid (Below w.heap.size w w2) := HB1.out.trans (hb2.mono HB1.out.size)
  clear hb2 HB1 p0 p1
  go_wp2_with fail
  refine (awake_true w2 (HT.out.below HB2.out (Nat.le_refl _))).mono ?_
  rintro e w3 ⟨rfl, hb3⟩
  have HB3 : Hid (Below w.heap.size w w3) := HB2.out.trans (hb3.mono HB2.out.size)
  clear hb3 HB2
  go_wp2
  go_ret
  exact ⟨rfl, HB3.out⟩
end Go.Proofs.YthfbkpkogihcbaaGreatDoor
end

section
namespace Go.Proofs.YthfbkpkogihcbaaGreatDoor
open Go.RowKit Go.Shelf

theorem digits_wrap (u : Int) (w : World) : Calls Tryz.prog 30 #[.int .u64 (IntKind.u64.wrap u)] w fun e w' => e = .returned (.string ⟨(Lib.decDigits (Pg.un u)).toArray⟩) ∧ Below w.heap.size w w' := by
  rw [un_wrap]; exact digits_any _ (un_lt u) w
theorem goT_app (x : In) : ∀ (l m : List UInt8) (acc : ByteArray), Pg.goT x (l ++ m) acc = Pg.goT x m (Pg.goT x l acc)
  | [], _, _ => rfl
  | _ :: r, m, _ => goT_app x r m _
theorem goT_take (x : In) (j : Nat) (hj : j < 3) (acc : ByteArray) : Pg.goT x (([65, 66, 67] : List UInt8).take (j + 1)) acc = Pg.goT x (([65, 66, 67] : List UInt8).take j) acc ++ ((⟨#[32]⟩ : ByteArray) ++ ((⟨#[114]⟩ : ByteArray) ++ ⟨(Lib.decDigits (Pg.un (Pg.abc x j))).toArray⟩)) := by
  match j, hj with
  | 0, _ => rfl
  | 1, _ => rfl
  | 2, _ => rfl
theorem line_cat (x : In) (many r : Nat) (nb kb : Bool) (hI : Pg.insE x many = 0) (hR : Pg.hasP x.op = (r, nb, kb)) :
    r ≤ 3 ∧ Pg.insT x = Pg.goT x ((if nb then [78] else []) ++ (if kb then [75] else [])) (Pg.goT x (([65, 66, 67] : List UInt8).take r) (Pg.wordP x.op)) ∧ (Pg.wordP x.op).size ≤ 5 := by
  have h5 := (Pg.shape_ok x.op).2.2
  obtain ⟨h1, h2, h3⟩ := ins_fl x many hI
  rw [hR] at h1 h3
  rw [h2] at h5
  refine ⟨h3, ?_, h5⟩
  unfold Pg.insT
  rw [h1, h2]
  exact goT_app x _ _ _
theorem dec_len (u : Int) : (⟨(Lib.decDigits (Pg.un u)).toArray⟩ : ByteArray).size ≤ 101 := by
  have h := fieldT_len 78 (Pg.un u) (un_lt u)
  have e : Pg.fieldT 78 (Pg.un u) = ⟨(Lib.decDigits (Pg.un u)).toArray⟩ := rfl
  rw [e] at h
  exact h
set_option maxRecDepth 20000 in
set_option maxHeartbeats 4000000 in
theorem rline_any (x : In) (hx : x.Fits) (many : Nat) (hI : Pg.insE x many = 0) (w : World) :
    Calls Tryz.prog 31 #[.agg #[.int .i64 x.op, .int .i64 x.a, .int .i64 x.b, .int .i64 x.c, .int .i64 x.n, .int .u64 (x.k : Int)]] w fun e w' => e = .returned (.string (Pg.insT x ++ ⟨#[10]⟩)) ∧ Below w.heap.size w w' := by
  have HW := hide (word_any x.op)
  have HH := hide (has_any x.op)
  obtain ⟨r, nb, kb, hr⟩ : ∃ r nb kb, Pg.hasP x.op = (r, nb, kb) := ⟨_, _, _, rfl⟩
  have HR := hide hr
  obtain ⟨hr3, hcat, hw5⟩ := line_cat x many r nb kb hI hr
  have HCat := hide hcat
  have HF := hide hx
  rw [hr] at HH
  clear hr hcat hI hx
  generalize Pg.wordP x.op = So at *
  go_enter Tryz.func31, Tryz.ntmps31
  go_wp2_with fail
  refine (HH.out _).mono ?_
  rintro e w1 ⟨rfl, hw1⟩
  have HI1 : Hid (Ib w1 w.heap.size x) := by rw [hw1]; exact heap_alloc_new w _
  have HB1 : Hid (Below w.heap.size w w1) := by rw [hw1]; exact below_one w _
  clear hw1 HH
  obtain ⟨⟨x0, x1, x2, x3, x4, x5⟩, xz⟩ := six_of HI1.out
  go_wp2_with fail
  refine (HW.out _).mono ?_
  rintro e w6 ⟨rfl, hb6⟩
  have HI6 := hide (HI1.out.grown (grown_below hb6 none) (by simp))
  have HB6 : Hid (Below w.heap.size w w6) := HB1.out.trans (hb6.mono HB1.out.size)
  clear hb6 HI1 HB1 HW x0 x1 x2 x3 x4 x5 xz
  obtain ⟨⟨x0, x1, x2, x3, x4, x5⟩, xz⟩ := six_of HI6.out
  have hl6 := HI6.out.lt
  have HI7 := hide (HI6.out.grown (grown_one w6 (.cells #[.int .i64 x.a, .int .i64 x.b, .int .i64 x.c] 69) none) (by simp))
  have HL7 : Hid ((w6.alloc (.cells #[.int .i64 x.a, .int .i64 x.b, .int .i64 x.c] 69)).heap[w6.heap.size]? = some (.cells #[.int .i64 x.a, .int .i64 x.b, .int .i64 x.c] 69 (0, 0))) := heap_alloc_new w6 _
  have HB7 := hide (HB6.out.alloc HB6.out.size (.cells #[.int .i64 x.a, .int .i64 x.b, .int .i64 x.c] 69))
  go_wp2_with fail
  generalize w6.alloc (.cells #[.int .i64 x.a, .int .i64 x.b, .int .i64 x.c] 69) = W7 at *
  clear x0 x1 x2 x3 x4 x5 xz HI6 HB6
  go_loopw [6, 8] (fun s t wq => ∃ j : Nat, j ≤ r ∧ s = .string (Pg.goT x (([65, 66, 67] : List UInt8).take j) So) ∧ t = .int .i64 (j : Int) ∧ Hid (Below W7.heap.size W7 wq)) (fun _ t _ => r - (intOf t).toNat)
  case atStart => exact ⟨0, Nat.zero_le _, rfl, rfl, Below.refl _ _⟩
  case round =>
    obtain ⟨j, hj, rfl, rfl, HBq⟩ := hrel
    have hLq : wr.heap[w6.heap.size]? = some (.cells #[.int .i64 x.a, .int .i64 x.b, .int .i64 x.c] 69 (0, 0)) := (HBq.out.block _ (lt_of_block HL7.out)).trans HL7.out
    have HIq : Hid (Ib wr w.heap.size x) := (HBq.out.block _ HI7.out.lt).trans HI7.out
    have HGs : Hid ((Pg.goT x (([65, 66, 67] : List UInt8).take j) So).size ≤ 400) := by
      show _ ≤ _
      have h1 := Pg.goT_len x HF.out.k (([65, 66, 67] : List UInt8).take j) So
      have h2 : (([65, 66, 67] : List UInt8).take j).length ≤ 3 := by rw [List.length_take]; exact Nat.min_le_right _ _
      omega
    by_cases hjr : j < r
    · have hji : (j : Int) < (r : Int) := by omega
      have hj3 : (j : Int) < 3 := by omega
      have hc : wr.cell? ⟨w6.heap.size, j, none⟩ = some (.int .i64 (Pg.abc x j)) := by
        obtain ⟨⟨c0, c1, c2⟩, _⟩ := three_of hLq
        match j, (show j < 3 by omega) with
        | 0, _ => exact c0
        | 1, _ => exact c1
        | 2, _ => exact c2
      have HNj := hide (digits_wrap (Pg.abc x j))
      have hlen := dec_len (Pg.abc x j)
      have HTk := hide (goT_take x j (by omega) So)
      generalize (⟨(Lib.decDigits (Pg.un (Pg.abc x j))).toArray⟩ : ByteArray) = Sj at *
      have hadd1 : ∀ w1 : World, (Op.stringOp .add ⟨#[32, 114]⟩ Sj).run Tryz.prog w1 = .ok (.string ((⟨#[32, 114]⟩ : ByteArray) ++ Sj)) w1 := fun w1 => run_string_add_sum w1 _ _ (by show 2 + _ ≤ _; omega)
      have hadd : ∀ w1 : World, (Op.stringOp .add (Pg.goT x (([65, 66, 67] : List UInt8).take j) So) ((⟨#[32, 114]⟩ : ByteArray) ++ Sj)).run Tryz.prog w1 = .ok (.string (Pg.goT x (([65, 66, 67] : List UInt8).take (j + 1)) So)) w1 := fun w1 => by
        rw [run_string_add_sum w1 _ _ (by have := HGs.out; rw [ByteArray.size_append]; show _ + (2 + _) ≤ _; omega), HTk.out]
        congr 2
      generalize (⟨#[32, 114]⟩ : ByteArray) ++ Sj = S2 at *
      clear HTk
      generalize Pg.goT x (([65, 66, 67] : List UInt8).take j) So = B1 at *
      generalize Pg.abc x j = aj at *
      clear hLq hlen
      go_wp2_with fail
      refine (HNj.out _).mono ?_
      rintro e w8 ⟨rfl, hb8⟩
      have HB8 : Hid (Below W7.heap.size W7 w8) := HBq.out.trans (hb8.mono HBq.out.size)
      clear hb8
      go_wp2
      go_roundw
      case rel => exact ⟨j + 1, by omega, rfl, by go_num, HB8⟩
      case measure => simp [intOf]; omega
    · obtain rfl : j = r := by omega
      have hji : ¬ (j : Int) < (j : Int) := by omega
      obtain ⟨⟨x0, x1, x2, x3, x4, x5⟩, xz⟩ := six_of HIq.out
      have HBz : Hid (Below w.heap.size w wr) := HB7.out.trans (HBq.out.mono HB7.out.size)
      clear hLq
      cases nb with
      | false =>
        cases kb with
        | false =>
          have HCf : Hid (Pg.insT x = Pg.goT x (([65, 66, 67] : List UInt8).take j) So) := HCat.out
          generalize Pg.goT x (([65, 66, 67] : List UInt8).take j) So = G at *
          have HIs := HGs
          have haddE : ∀ w1 : World, (Op.stringOp .add G ⟨#[10]⟩).run Tryz.prog w1 = .ok (.string (G ++ ⟨#[10]⟩)) w1 := fun w1 => run_string_add_sum w1 _ _ (by have := HGs.out; have := HIs.out; show _ + 1 ≤ _; omega)
          have HGE : Hid (Pg.insT x ++ ⟨#[10]⟩ = G ++ (⟨#[10]⟩ : ByteArray)) := by show _ = _; rw [HCf.out]
          generalize G ++ (⟨#[10]⟩ : ByteArray) = GE at *
          go_wp2
          go_ret
          exact ⟨by rw [HGE.out]; rfl, HBz.out⟩
        | true =>
          have HCf0 : Hid (Pg.insT x = Pg.goT x [75] (Pg.goT x (([65, 66, 67] : List UInt8).take j) So)) := HCat.out
          generalize Pg.goT x (([65, 66, 67] : List UInt8).take j) So = G at *
          have HCf : Hid (Pg.insT x = G ++ ((⟨#[32]⟩ : ByteArray) ++ textB x.k)) := HCf0.out
          clear HCf0
          have HK := hide (refText_any x.k HF.out.k)
          have HKs : Hid ((textB x.k).size ≤ 101) := fieldT_len 75 x.k HF.out.k
          generalize textB x.k = SK at *
          have hadd1 : ∀ w1 : World, (Op.stringOp .add ⟨#[32]⟩ SK).run Tryz.prog w1 = .ok (.string ((⟨#[32]⟩ : ByteArray) ++ SK)) w1 := fun w1 => run_string_add_sum w1 _ _ (by have := HKs.out; show 1 + _ ≤ _; omega)
          have HSs : Hid (((⟨#[32]⟩ : ByteArray) ++ SK).size ≤ 102) := by show _ ≤ _; rw [ByteArray.size_append]; have := HKs.out; show 1 + _ ≤ _; omega
          generalize (⟨#[32]⟩ : ByteArray) ++ SK = S2 at *
          have hadd2 : ∀ w1 : World, (Op.stringOp .add G S2).run Tryz.prog w1 = .ok (.string (G ++ S2)) w1 := fun w1 => run_string_add_sum w1 _ _ (by have := HSs.out; have := HGs.out; omega)
          have HIs : Hid ((G ++ S2).size ≤ 502) := by show _ ≤ _; rw [ByteArray.size_append]; have := HSs.out; have := HGs.out; omega
          generalize G ++ S2 = G2 at *
          have haddE : ∀ w1 : World, (Op.stringOp .add G2 ⟨#[10]⟩).run Tryz.prog w1 = .ok (.string (G2 ++ ⟨#[10]⟩)) w1 := fun w1 => run_string_add_sum w1 _ _ (by have := HGs.out; have := HIs.out; show _ + 1 ≤ _; omega)
          have HGE : Hid (Pg.insT x ++ ⟨#[10]⟩ = G2 ++ (⟨#[10]⟩ : ByteArray)) := by show _ = _; rw [HCf.out]
          generalize G2 ++ (⟨#[10]⟩ : ByteArray) = GE at *
          go_wp2_with fail
          refine (HK.out _).mono ?_
          rintro e w9 ⟨rfl, hb9⟩
          have HB9 : Hid (Below w.heap.size w w9) := HBz.out.trans (hb9.mono HBz.out.size)
          clear hb9
          go_wp2
          go_ret
          exact ⟨by rw [HGE.out]; rfl, HB9.out⟩
      | true =>
        cases kb with
        | false =>
          have HCf0 : Hid (Pg.insT x = Pg.goT x [78] (Pg.goT x (([65, 66, 67] : List UInt8).take j) So)) := HCat.out
          generalize Pg.goT x (([65, 66, 67] : List UInt8).take j) So = G at *
          have HCf : Hid (Pg.insT x = G ++ ((⟨#[32]⟩ : ByteArray) ++ (⟨(Lib.decDigits (Pg.un x.n)).toArray⟩ : ByteArray))) := HCf0.out
          clear HCf0
          have HK := hide (digits_wrap x.n)
          have HKs : Hid (((⟨(Lib.decDigits (Pg.un x.n)).toArray⟩ : ByteArray)).size ≤ 101) := dec_len x.n
          generalize (⟨(Lib.decDigits (Pg.un x.n)).toArray⟩ : ByteArray) = SK at *
          have hadd1 : ∀ w1 : World, (Op.stringOp .add ⟨#[32]⟩ SK).run Tryz.prog w1 = .ok (.string ((⟨#[32]⟩ : ByteArray) ++ SK)) w1 := fun w1 => run_string_add_sum w1 _ _ (by have := HKs.out; show 1 + _ ≤ _; omega)
          have HSs : Hid (((⟨#[32]⟩ : ByteArray) ++ SK).size ≤ 102) := by show _ ≤ _; rw [ByteArray.size_append]; have := HKs.out; show 1 + _ ≤ _; omega
          generalize (⟨#[32]⟩ : ByteArray) ++ SK = S2 at *
          have hadd2 : ∀ w1 : World, (Op.stringOp .add G S2).run Tryz.prog w1 = .ok (.string (G ++ S2)) w1 := fun w1 => run_string_add_sum w1 _ _ (by have := HSs.out; have := HGs.out; omega)
          have HIs : Hid ((G ++ S2).size ≤ 502) := by show _ ≤ _; rw [ByteArray.size_append]; have := HSs.out; have := HGs.out; omega
          generalize G ++ S2 = G2 at *
          have haddE : ∀ w1 : World, (Op.stringOp .add G2 ⟨#[10]⟩).run Tryz.prog w1 = .ok (.string (G2 ++ ⟨#[10]⟩)) w1 := fun w1 => run_string_add_sum w1 _ _ (by have := HGs.out; have := HIs.out; show _ + 1 ≤ _; omega)
          have HGE : Hid (Pg.insT x ++ ⟨#[10]⟩ = G2 ++ (⟨#[10]⟩ : ByteArray)) := by show _ = _; rw [HCf.out]
          generalize G2 ++ (⟨#[10]⟩ : ByteArray) = GE at *
          go_wp2_with fail
          refine (HK.out _).mono ?_
          rintro e w9 ⟨rfl, hb9⟩
          have HB9 : Hid (Below w.heap.size w w9) := HBz.out.trans (hb9.mono HBz.out.size)
          clear hb9
          go_wp2
          go_ret
          exact ⟨by rw [HGE.out]; rfl, HB9.out⟩
        | true =>
          exfalso
          have h9 := both_not x.op
          rw [HR.out] at h9
          cases h9
end Go.Proofs.YthfbkpkogihcbaaGreatDoor
end

section
namespace Go.Proofs.YthfbkpkogihcbaaGreatDoor
open Go.RowKit Go.Shelf

theorem print_step {fuel : Int} {xs : List In} {k : Nat} {bb I : ByteArray} {x : In} (hk : k < xs.length) (hx : xs[k]! = x) (hI : Pg.insT x ++ ⟨#[10]⟩ = I) (hE : Pg.printT fuel xs = Pg.allT (xs.drop k) bb.data.toList) : Pg.printT fuel xs = Pg.allT (xs.drop (k + 1)) (bb ++ I).data.toList := by
  rw [hE, allT_drop xs k hk, hx, hI, ByteArray.data_append, Array.toList_append]
theorem fuel_doc (fuel : Int) (h1 : 1 ≤ fuel) (h2 : fuel ≤ 1024) : Pg.fuelT fuel = ((⟨#[102, 117, 101, 108, 32]⟩ : ByteArray) ++ ⟨(Lib.decDigits (Pg.un fuel)).toArray⟩) ++ ⟨#[10]⟩ := by
  obtain ⟨n, rfl⟩ : ∃ n : Nat, fuel = (n : Int) := ⟨fuel.toNat, by omega⟩
  unfold Pg.fuelT
  have e : Pg.un (n : Int) = n := by unfold Pg.un; omega
  rw [Lib.itoa_nonneg, e]
set_option maxRecDepth 20000 in
set_option maxHeartbeats 800000 in
theorem rprint_any (fuel : Int) (xs : List In) (hx : ∀ x ∈ xs, x.Fits) (v : Value) (w : World) (h : Cd w v xs) :
    Calls Tryz.prog 13 #[.agg #[.int .i64 fuel, v]] w fun e w' => e = .returned (.tuple #[.string (Pg.printS fuel xs), .int .i64 (Pg.checkE fuel xs).1]) ∧ Below w.heap.size w w' := by
  have HC := hide (rcheck_any fuel xs hx v)
  have H2 := hide (checkE_two fuel xs)
  have H3 := hide (check_ins fuel xs)
  have HX := hide hx
  have HCd := hide h
  obtain ⟨p, cap, rfl, h2⟩ := h
  have HP := hide h2
  clear h2 hx
  unfold Pg.printS
  generalize Pg.checkE fuel xs = ce at *
  obtain ⟨E, at_⟩ := ce
  by_cases hE : E = 0
  · subst hE
    obtain ⟨hf1, hf2, hn1, hn2⟩ := H2.out rfl
    have HIN := hide (H3.out rfl)
    obtain ⟨b, off, rfl, hlt, hc⟩ := HP.out (by omega)
    have HCC := hide hc
    clear HP hc H2 H3
    go_enter Tryz.func13, Tryz.ntmps13
    go_wp2_with fail
    refine (HC.out _ (HCd.out.below (below_one w _) (Nat.le_refl _))).mono ?_
    rintro e w1 ⟨rfl, hb1⟩
    have HB1 : Hid (Below w.heap.size w w1) := (below_one w _).trans (hb1.mono (by simp))
    have hp : Pb w1 w.heap.size fuel (.slice (some ⟨b, off, none⟩) xs.length cap) := (hb1.block w.heap.size (by simp)).trans (heap_alloc_new w _)
    have hpc0 := hp.c0
    have hpc1 := hp.c1
    have hpl := hp.lt
    have HPp := hide hp
    clear hb1 HC hp
    have HN1 : Hid (∀ w, Calls Tryz.prog 30 #[.int .u64 fuel] w fun e w' => e = .returned (.string ⟨(Lib.decDigits (Pg.un fuel)).toArray⟩) ∧ Below w.heap.size w w') := fun w => by
      have h := digits_any (Pg.un fuel) (un_lt fuel) w
      rw [show ((Pg.un fuel : Nat) : Int) = fuel by unfold Pg.un; omega] at h
      exact h
    have HFd := hide (fuel_doc fuel hf1 hf2)
    have hS2 := dec_len fuel
    generalize (⟨(Lib.decDigits (Pg.un fuel)).toArray⟩ : ByteArray) = S2 at *
    have hadd1 : ∀ w1 : World, (Op.stringOp .add ⟨#[102, 117, 101, 108, 32]⟩ S2).run Tryz.prog w1 = .ok (.string ((⟨#[102, 117, 101, 108, 32]⟩ : ByteArray) ++ S2)) w1 := fun w1 => run_string_add_sum w1 _ _ (by show 5 + _ ≤ _; omega)
    have hS3 : ((⟨#[102, 117, 101, 108, 32]⟩ : ByteArray) ++ S2).size ≤ 106 := by rw [ByteArray.size_append]; show 5 + _ ≤ _; omega
    generalize (⟨#[102, 117, 101, 108, 32]⟩ : ByteArray) ++ S2 = S3 at *
    have hadd2 : ∀ w1 : World, (Op.stringOp .add S3 ⟨#[10]⟩).run Tryz.prog w1 = .ok (.string (S3 ++ (⟨#[10]⟩ : ByteArray))) w1 := fun w1 => run_string_add_sum w1 _ _ (by show _ + 1 ≤ _; omega)
    have HS1 : Hid ((S3 ++ (⟨#[10]⟩ : ByteArray)).size ≤ 107) := by show _ ≤ _; rw [ByteArray.size_append]; show _ + 1 ≤ _; omega
    generalize S3 ++ (⟨#[10]⟩ : ByteArray) = S1 at *
    go_wp2_with fail
    refine (HN1.out _).mono ?_
    rintro e w3 ⟨rfl, hb3⟩
    have HB4 : Hid (Below w.heap.size w w3) := HB1.out.trans (hb3.mono HB1.out.size)
    have HP4 : Hid (Pb w3 w.heap.size fuel (.slice (some ⟨b, off, none⟩) xs.length cap)) := (hb3.block _ hpl).trans HPp.out
    clear HB1 hb3 HPp hpc0 hpc1 HN1
    have hp4 := HP4.out.lt
    go_wp2_with fail
    go_loopw [6, 7] (fun s t wr => ∃ (k : Nat) (bb : ByteArray), k ≤ xs.length ∧ s = .string bb ∧ t = .int .i64 (k : Int) ∧ Hid (Below w3.heap.size w3 wr) ∧ Hid (bb.size ≤ 107 + k * 312) ∧ Hid (Pg.printT fuel xs = Pg.allT (xs.drop k) bb.data.toList)) (fun _ t _ => xs.length - (intOf t).toNat)
    case atStart => exact ⟨0, S1, Nat.zero_le _, rfl, rfl, Below.refl _ _, HS1.out, by show Pg.printT fuel xs = _; rw [← HFd.out]; rfl⟩
    case round =>
      obtain ⟨k, bb, hk, rfl, rfl, HB, HZ, HE⟩ := hrel
      have hp : Pb wr w.heap.size fuel (.slice (some ⟨b, off, none⟩) xs.length cap) := (HB.out.block _ hp4).trans HP4.out
      have q1 := hp.c1
      have hql := hp.lt
      by_cases hkl : k < xs.length
      · have hki : (k : Int) < (xs.length : Int) := by omega
        obtain ⟨x, hxk⟩ : ∃ x, xs[k]! = x := ⟨_, rfl⟩
        have hc : ∀ i u, x.cs[i]? = some u → wr.cell? ⟨b, off + k * 6 + i, none⟩ = some u := fun i u hi =>
          (HB.out.cell (p := ⟨b, off + k * 6 + i, none⟩) (by show b < w3.heap.size; omega)).trans ((HB4.out.cell (p := ⟨b, off + k * 6 + i, none⟩) hlt).trans (HCC.out k hkl i u (by rw [hxk]; exact hi)))
        have c0 := hc 0 _ rfl
        have c1 := hc 1 _ rfl
        have c2 := hc 2 _ rfl
        have c3 := hc 3 _ rfl
        have c4 := hc 4 _ rfl
        have c5 := hc 5 _ rfl
        simp only [Nat.add_zero] at c0
        have hmem : x ∈ xs := by rw [← hxk, getElem!_pos xs k hkl]; exact List.getElem_mem hkl
        have HLn := hide (rline_any x (HX.out x hmem) xs.length (HIN.out x hmem))
        have HLs : Hid ((Pg.insT x ++ (⟨#[10]⟩ : ByteArray)).size ≤ 312) := by show _ ≤ _; rw [ByteArray.size_append]; have := Pg.insT_len x (HX.out x hmem).k; show _ + 1 ≤ _; omega
        have HSt : Hid (Pg.printT fuel xs = Pg.allT (xs.drop (k + 1)) (bb ++ (Pg.insT x ++ (⟨#[10]⟩ : ByteArray))).data.toList) := print_step hkl hxk rfl HE.out
        clear hc hmem hxk hp HE
        generalize Pg.insT x ++ (⟨#[10]⟩ : ByteArray) = I at *
        have hadd : ∀ w1 : World, (Op.stringOp .add bb I).run Tryz.prog w1 = .ok (.string (bb ++ I)) w1 := fun w1 => run_string_add_sum w1 _ _ (by have := HLs.out; have := HZ.out; omega)
        have HZ2 : Hid ((bb ++ I).size ≤ 107 + (k + 1) * 312) := by show _ ≤ _; rw [ByteArray.size_append]; have := HLs.out; have := HZ.out; omega
        go_wp2_with fail
        refine (HLn.out _).mono ?_
        rintro e w5 ⟨rfl, hb5⟩
        have HB5 : Hid (Below w3.heap.size w3 w5) := HB.out.trans (hb5.mono HB.out.size)
        clear hb5 HB
        go_wp2
        go_roundw
        case rel => exact ⟨k + 1, _, by omega, rfl, by go_num, HB5, HZ2, HSt⟩
        case measure => simp [intOf]; omega
      · obtain rfl : k = xs.length := by omega
        have hki : ¬ (xs.length : Int) < (xs.length : Int) := by omega
        clear hp
        go_wp2
        go_ret2
        refine ⟨?_, HB4.out.trans (HB.out.mono HB4.out.size)⟩
        have hfin : Pg.printT fuel xs = bb.data.toList := by rw [HE.out, List.drop_length]; rfl
        rw [hfin]
        rfl
  · have hEb : (E != 0) = true := by simp [hE]
    rw [if_neg hE]
    clear HP H2 H3
    go_enter Tryz.func13, Tryz.ntmps13
    go_wp2_with fail
    refine (HC.out _ (HCd.out.below (below_one w _) (Nat.le_refl _))).mono ?_
    rintro e w1 ⟨rfl, hb1⟩
    have HB1 : Hid (Below w.heap.size w w1) := (below_one w _).trans (hb1.mono (by simp))
    clear hb1 HC
    go_wp2
    go_ret2
    exact ⟨rfl, HB1.out⟩
set_option maxHeartbeats 1000000 in
theorem progPrints_walk (fuel : Int) (xs : List In) (hx : ∀ x ∈ xs, x.Fits) (v : Value) (w : World) (h : Cd w v xs) (hT : Libs w) :
    Calls Tryz.prog 4 #[.agg #[.int .i64 fuel, v]] w fun e w' => e = .returned (.bool true) ∧ Below w.heap.size w w' := by
  have HC := hide (fun w1 h1 => print_any fuel xs (fun x hm => (hx x hm).k) v w1 h1)
  have HR := hide (fun w1 h1 => rprint_any fuel xs hx v w1 h1)
  have HCd := hide h
  have HT := hide hT
  generalize Pg.printS fuel xs = PS at *
  generalize (Pg.checkE fuel xs).1 = E at *
  clear h hT hx
  have e1 : (E == E) = true := by simp
  have e2 : (PS.toList == PS.toList) = true := by simp
  go_enter Tryz.func4, Tryz.ntmps4
  obtain ⟨ad, cap, rfl⟩ := cd_slice HCd.out
  go_wp2_with fail
  refine (HC.out _ (HCd.out.below (below_one w _) (Nat.le_refl _)) (HT.out.tabs.below (below_one w _) (Nat.le_refl _))).mono ?_
  rintro e w1 ⟨rfl, hb1⟩
  have hP1 : Pb w1 w.heap.size fuel (.slice ad xs.length cap) := (hb1.block w.heap.size (by simp)).trans (heap_alloc_new w _)
  have p0 := hP1.c0
  have p1 := hP1.c1
  have HB1 : Hid (Below w.heap.size w w1) := (below_one w _).trans (hb1.mono (by simp))
  clear hb1 hP1
  go_wp2_with fail
  refine (HR.out w1 (HCd.out.below HB1.out (Nat.le_refl _))).mono ?_
  rintro e w2 ⟨rfl, hb2⟩
  have HB2 : Hid (Below w.heap.size w w2) := HB1.out.trans (hb2.mono HB1.out.size)
  clear hb2 HB1 p0 p1
  go_wp2_with fail
  refine (awake_true w2 (HT.out.below HB2.out (Nat.le_refl _))).mono ?_
  rintro e w3 ⟨rfl, hb3⟩
  have HB3 : Hid (Below w.heap.size w w3) := HB2.out.trans (hb3.mono HB2.out.size)
  clear hb3 HB2
  go_wp2
  go_ret
  exact ⟨rfl, HB3.out⟩
end Go.Proofs.YthfbkpkogihcbaaGreatDoor
end
