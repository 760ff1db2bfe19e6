import Derived.Test.YthfbkpkogihcbabGreatDoorMgBB

section
namespace Go.Proofs.YthfbkpkogihcbabGreatDoor
open Go.RowKit Go.Shelf

set_option maxRecDepth 20000 in
set_option maxHeartbeats 6000000 in
theorem progCuts_walk (fuel : Int) (xs : List In) (hx : ∀ x ∈ xs, x.Fits) (v : Value) (cut : Int) (_ : -9223372036854775808 ≤ cut) (_ : cut ≤ 9223372036854775807) (more : ByteArray) (hms : more.size ≤ 140737488351232) (w : World) (h : Cd w v xs) (hT : Libs w) :
    Calls Tryz.prog 4 #[.agg #[.int .i64 fuel, v], .int .i64 cut, .string more] w fun e w' => e = .returned (.bool true) ∧ Below w.heap.size w w' := by
  have HR := hide (fun w1 h1 => print_any fuel xs (fun x hm => (hx x hm).k) v w1 h1)
  have HK := hide (fun w1 h1 => pack_any fuel xs (fun x hm => (hx x hm).k) v w1 h1)
  have HCd := hide h
  have HT := hide hT
  have HX := hide hx
  by_cases hE : (Pg.checkE fuel xs).1 = 0
  · have hS := (unpack_pack hx hE).1
    have hP := print_len hx hE
    obtain ⟨hcnt, hlast⟩ := print_lines hx hE
    have HUC := hide (unpack_cut hx hE)
    have HUM := hide (fun hm hs => unpack_more (more := more) hx hE hm hs)
    rw [hE] at HR HK
    clear hE
    generalize Pg.printS fuel xs = PS at *
    generalize Pg.packS fuel xs = BS at *
    clear h hT hx
    have HCnt := hide hcnt
    have HLast := hide hlast
    clear hcnt hlast
    have hadd : ∀ w1 : World, (Op.stringOp .add BS more).run Tryz.prog w1 = .ok (.string (BS ++ more)) w1 := fun w1 => run_string_add_sum w1 _ _ (by omega)
    have HUN := hide (unpack_no (BS ++ more))
    have HFin : Hid ((more.toList == []) = true ∨ ((more.toList == []) = false ∧ (1024 : Int) < (BS.size : Int) + (more.size : Int)) ∨ ((more.toList == []) = false ∧ ¬ (1024 : Int) < (BS.size : Int) + (more.size : Int) ∧ ((Pg.unpackS (BS ++ more)).2 == 54) = true)) := by
      by_cases k0 : more.size = 0
      · refine .inl ?_
        have : more.toList = [] := List.eq_nil_of_length_eq_zero (by rw [size_list]; exact k0)
        rw [this]; rfl
      · have k1 : (more.toList == []) = false := by
          rw [beq_eq_false_iff_ne]
          intro e
          have := congrArg List.length e
          rw [size_list] at this
          exact k0 this
        by_cases k2 : (1024 : Int) < (BS.size : Int) + (more.size : Int)
        · exact .inr (.inl ⟨k1, k2⟩)
        · exact .inr (.inr ⟨k1, k2, by rw [HUM.out k0 (by rw [ByteArray.size_append]; omega)]; rfl⟩)
    generalize (Pg.unpackS (BS ++ more)).2 = G at *
    generalize BS ++ more = BM at *
    clear HUM
    go_enter Tryz.func4, Tryz.ntmps4
    obtain ⟨ad, cap, rfl⟩ := cd_slice HCd.out
    go_wp2_with fail
    refine (HK.out _ (HCd.out.below (below_one w _) (Nat.le_refl _))).mono ?_
    rintro e w1 ⟨rfl, hb1⟩
    have HP1 : Hid (Pb w1 w.heap.size fuel (.slice ad xs.length cap)) := (hb1.block w.heap.size (by simp)).trans (heap_alloc_new w _)
    have p0 := HP1.out.c0
    have p1 := HP1.out.c1
    have HB1 : Hid (Below w.heap.size w w1) := (below_one w _).trans (hb1.mono (by simp))
    clear hb1
    go_wp2_with fail
    refine (HR.out w1 (HCd.out.below HB1.out (Nat.le_refl _)) (HT.out.tabs.below HB1.out (Nat.le_refl _))).mono ?_
    rintro e w2 ⟨rfl, hb2⟩
    have HP2 := hide (HP1.out.grown (grown_below hb2 none) (by simp))
    have HB2 : Hid (Below w.heap.size w w2) := HB1.out.trans (hb2.mono HB1.out.size)
    clear hb2 HB1 HP1 p0 p1 HR HK
    go_wp2_with fail
    refine (awake_true w2 (HT.out.below HB2.out (Nat.le_refl _))).mono ?_
    rintro e w4 ⟨rfl, hb4⟩
    have HP4 := hide (HP2.out.grown (grown_below hb4 none) (by simp))
    have HB4 : Hid (Below w.heap.size w w4) := HB2.out.trans (hb4.mono HB2.out.size)
    clear hb4 HB2 HP2
    go_wp2_with fail
    obtain ⟨ll, hll⟩ := HLast.out
    have hpos : 0 < PS.size := by
      have e := congrArg List.length hll
      rw [Array.length_toList, List.length_append] at e
      have e' : PS.size = ll.length + 1 := e
      omega
    have hlst : PS[PS.size - 1]'(by omega) = 10 := by
      have hlen : PS.size - 1 = ll.length := by
        have e := congrArg List.length hll
        rw [Array.length_toList, List.length_append] at e
        have e' : PS.size = ll.length + 1 := e
        omega
      have e : PS[PS.size - 1]'(by omega) = PS.data.toList[PS.size - 1]'(by rw [Array.length_toList]; show PS.size - 1 < PS.size; omega) := by rw [Array.getElem_toList]; rfl
      rw [e]
      simp [hll, hlen]
    have HLst := hide hlst
    clear hlst hll
    go_loopw [11, 12] (fun s t wr => ∃ i : Nat, i ≤ PS.size ∧ s = .int .i64 (((PS.data.toList.take i).count 10 : Nat) : Int) ∧ t = .int .i64 (i : Int) ∧ wr = w4) (fun _ t _ => PS.size - (intOf t).toNat)
    case atStart => exact ⟨0, Nat.zero_le _, rfl, rfl, rfl⟩
    case round =>
      obtain ⟨i, hi, rfl, rfl, rfl⟩ := hrel
      have hcl : (PS.data.toList.take i).count 10 ≤ 100000 := Nat.le_trans List.count_le_length (by rw [List.length_take, Array.length_toList]; exact Nat.le_trans (Nat.min_le_right _ _) hP)
      by_cases hil : i < PS.size
      · have hii : (i : Int) < (PS.size : Int) := by omega
        have HSt := hide (count_step PS i hil)
        by_cases ht : PS[i] = 10
        · rw [if_pos ht] at HSt
          have hb : (((PS[i]).toNat : Int) == 10) = true := by rw [ht]; rfl
          generalize (PS.data.toList.take i).count 10 = cn at *
          go_wp2
          go_roundw
          case rel => exact ⟨i + 1, by omega, by rw [HSt.out]; go_num, by go_num, by first | rfl | trivial⟩
          case measure => simp [intOf]; omega
        · rw [if_neg ht] at HSt
          have hb : (((PS[i]).toNat : Int) == 10) = false := by
            rw [beq_eq_false_iff_ne]
            intro k
            exact ht (UInt8.toNat_inj.1 (by show PS[i].toNat = 10; omega))
          generalize (PS.data.toList.take i).count 10 = cn at *
          go_wp2
          go_roundw
          case rel => exact ⟨i + 1, by omega, by rw [HSt.out]; rfl, by go_num, by first | rfl | trivial⟩
          case measure => simp [intOf]; omega
      · obtain rfl : i = PS.size := by omega
        have hii : ¬ (PS.size : Int) < (PS.size : Int) := by omega
        have hall : (PS.data.toList.take PS.size).count 10 = 1 + xs.length := by rw [List.take_of_length_le (by rw [Array.length_toList]; exact Nat.le_refl _)]; exact HCnt.out
        rw [hall]
        have q1 := HP4.out.c1
        have hb1 : (((1 + xs.length : Nat) : Int) != 1 + (xs.length : Int)) = false := by simp
        have hb2 : (((PS[PS.size - 1]'(by omega)).toNat : Int) != 10) = false := by rw [HLst.out]; rfl
        by_cases hcut : cut < 0
        · have d0 : ¬ 0 ≤ cut := by omega
          go_wp2_with fail
          refine (HUN.out _).mono ?_
          rintro e w9 ⟨f9, ad9, n9, cap9, rfl, hb9⟩
          have HB9a : Hid (Below w.heap.size w w9) := HB4.out.trans (hb9.mono HB4.out.size)
          have HB9 := hide (HB9a.out.alloc HB9a.out.size (.cells #[.int .i64 f9, .slice ad9 n9 cap9] 25))
          clear hb9
          rcases HFin.out with m1 | ⟨m0, m1⟩ | ⟨m0, m1, m2⟩
          · go_wp2
            go_ret
            first | exact ⟨rfl, HB9.out⟩ | exact ⟨rfl, HB9a.out⟩
          · go_wp2
            go_ret
            first | exact ⟨rfl, HB9.out⟩ | exact ⟨rfl, HB9a.out⟩
          · go_wp2
            go_ret
            first | exact ⟨rfl, HB9.out⟩ | exact ⟨rfl, HB9a.out⟩
        · obtain ⟨c, rfl⟩ : ∃ c : Nat, cut = (c : Int) := ⟨cut.toNat, by omega⟩
          by_cases hc1 : c < BS.size
          · have d1 : (c : Int) < (BS.size : Int) := by omega
            have HUE := hide (unpack_er (HUC.out c hc1))
            go_wp2_with fail
            refine (HUE.out _).mono ?_
            rintro e w6 ⟨f6, ad6, n6, cap6, rfl, hb6⟩
            have HB6a : Hid (Below w.heap.size w w6) := HB4.out.trans (hb6.mono HB4.out.size)
            have HB6 := hide (HB6a.out.alloc HB6a.out.size (.cells #[.int .i64 f6, .slice ad6 n6 cap6] 25))
            clear hb6 HB4
            by_cases hc2 : c < PS.size
            · have d2 : (c : Int) < (PS.size : Int) := by omega
              by_cases hcz : c = 0
              · subst hcz
                have HPE := hide (parse_er (t := ByteArray.empty) (by show 0 ≤ _; omega) (parse_cut (fun l hl => absurd hl (by show ([] : List UInt8) ≠ l ++ [10]; simp))))
                go_wp2_with fail
                refine (HPE.out _ (HT.out.below HB6.out (Nat.le_refl _))).mono ?_
                rintro e w7 ⟨f7, ad7, n7, cap7, y7, rfl, hb7⟩
                have HB7a : Hid (Below w.heap.size w w7) := HB6.out.trans (hb7.mono HB6.out.size)
                have HB7 := hide (HB7a.out.alloc HB7a.out.size (.cells #[.int .i64 f7, .slice ad7 n7 cap7] 25))
                clear hb7 HB6
                go_wp2_with fail
                refine (HUN.out _).mono ?_
                rintro e w9 ⟨f9, ad9, n9, cap9, rfl, hb9⟩
                have HB9a : Hid (Below w.heap.size w w9) := HB7.out.trans (hb9.mono HB7.out.size)
                have HB9 := hide (HB9a.out.alloc HB9a.out.size (.cells #[.int .i64 f9, .slice ad9 n9 cap9] 25))
                clear hb9
                rcases HFin.out with m1 | ⟨m0, m1⟩ | ⟨m0, m1, m2⟩
                · go_wp2
                  go_ret
                  first | exact ⟨rfl, HB9.out⟩ | exact ⟨rfl, HB9a.out⟩
                · go_wp2
                  go_ret
                  first | exact ⟨rfl, HB9.out⟩ | exact ⟨rfl, HB9a.out⟩
                · go_wp2
                  go_ret
                  first | exact ⟨rfl, HB9.out⟩ | exact ⟨rfl, HB9a.out⟩
              · have d3 : ((c : Int) == 0) = false := beq_eq_false_iff_ne.2 (by omega)
                by_cases hct : PS[c - 1]'(by omega) = 10
                · have d4 : (((PS[c - 1]'(by omega)).toNat : Int) != 10) = false := by rw [hct]; rfl
                  go_wp2_with fail
                  refine (HUN.out _).mono ?_
                  rintro e w9 ⟨f9, ad9, n9, cap9, rfl, hb9⟩
                  have HB9a : Hid (Below w.heap.size w w9) := HB6.out.trans (hb9.mono HB6.out.size)
                  have HB9 := hide (HB9a.out.alloc HB9a.out.size (.cells #[.int .i64 f9, .slice ad9 n9 cap9] 25))
                  clear hb9
                  rcases HFin.out with m1 | ⟨m0, m1⟩ | ⟨m0, m1, m2⟩
                  · go_wp2
                    go_ret
                    first | exact ⟨rfl, HB9.out⟩ | exact ⟨rfl, HB9a.out⟩
                  · go_wp2
                    go_ret
                    first | exact ⟨rfl, HB9.out⟩ | exact ⟨rfl, HB9a.out⟩
                  · go_wp2
                    go_ret
                    first | exact ⟨rfl, HB9.out⟩ | exact ⟨rfl, HB9a.out⟩
                · have d4 : (((PS[c - 1]'(by omega)).toNat : Int) != 10) = true := by
                    rw [bne_iff_ne]
                    intro k
                    exact hct (UInt8.toNat_inj.1 (by show (PS[c - 1]'(by omega)).toNat = 10; omega))
                  have HPE := hide (parse_er (t := PS.extract 0 c) (by rw [ByteArray.size_extract]; omega) (parse_cut (cut_last PS c (by omega) (by omega) hct)))
                  go_wp2_with fail
                  refine (HPE.out _ (HT.out.below HB6.out (Nat.le_refl _))).mono ?_
                  rintro e w7 ⟨f7, ad7, n7, cap7, y7, rfl, hb7⟩
                  have HB7a : Hid (Below w.heap.size w w7) := HB6.out.trans (hb7.mono HB6.out.size)
                  have HB7 := hide (HB7a.out.alloc HB7a.out.size (.cells #[.int .i64 f7, .slice ad7 n7 cap7] 25))
                  clear hb7 HB6
                  go_wp2_with fail
                  refine (HUN.out _).mono ?_
                  rintro e w9 ⟨f9, ad9, n9, cap9, rfl, hb9⟩
                  have HB9a : Hid (Below w.heap.size w w9) := HB7.out.trans (hb9.mono HB7.out.size)
                  have HB9 := hide (HB9a.out.alloc HB9a.out.size (.cells #[.int .i64 f9, .slice ad9 n9 cap9] 25))
                  clear hb9
                  rcases HFin.out with m1 | ⟨m0, m1⟩ | ⟨m0, m1, m2⟩
                  · go_wp2
                    go_ret
                    first | exact ⟨rfl, HB9.out⟩ | exact ⟨rfl, HB9a.out⟩
                  · go_wp2
                    go_ret
                    first | exact ⟨rfl, HB9.out⟩ | exact ⟨rfl, HB9a.out⟩
                  · go_wp2
                    go_ret
                    first | exact ⟨rfl, HB9.out⟩ | exact ⟨rfl, HB9a.out⟩
            · have d2 : ¬ (c : Int) < (PS.size : Int) := by omega
              go_wp2_with fail
              refine (HUN.out _).mono ?_
              rintro e w9 ⟨f9, ad9, n9, cap9, rfl, hb9⟩
              have HB9a : Hid (Below w.heap.size w w9) := HB6.out.trans (hb9.mono HB6.out.size)
              have HB9 := hide (HB9a.out.alloc HB9a.out.size (.cells #[.int .i64 f9, .slice ad9 n9 cap9] 25))
              clear hb9
              rcases HFin.out with m1 | ⟨m0, m1⟩ | ⟨m0, m1, m2⟩
              · go_wp2
                go_ret
                first | exact ⟨rfl, HB9.out⟩ | exact ⟨rfl, HB9a.out⟩
              · go_wp2
                go_ret
                first | exact ⟨rfl, HB9.out⟩ | exact ⟨rfl, HB9a.out⟩
              · go_wp2
                go_ret
                first | exact ⟨rfl, HB9.out⟩ | exact ⟨rfl, HB9a.out⟩
          · have d1 : ¬ (c : Int) < (BS.size : Int) := by omega
            by_cases hc2 : c < PS.size
            · have d2 : (c : Int) < (PS.size : Int) := by omega
              by_cases hcz : c = 0
              · subst hcz
                have HPE := hide (parse_er (t := ByteArray.empty) (by show 0 ≤ _; omega) (parse_cut (fun l hl => absurd hl (by show ([] : List UInt8) ≠ l ++ [10]; simp))))
                go_wp2_with fail
                refine (HPE.out _ (HT.out.below HB4.out (Nat.le_refl _))).mono ?_
                rintro e w7 ⟨f7, ad7, n7, cap7, y7, rfl, hb7⟩
                have HB7a : Hid (Below w.heap.size w w7) := HB4.out.trans (hb7.mono HB4.out.size)
                have HB7 := hide (HB7a.out.alloc HB7a.out.size (.cells #[.int .i64 f7, .slice ad7 n7 cap7] 25))
                clear hb7 HB4
                go_wp2_with fail
                refine (HUN.out _).mono ?_
                rintro e w9 ⟨f9, ad9, n9, cap9, rfl, hb9⟩
                have HB9a : Hid (Below w.heap.size w w9) := HB7.out.trans (hb9.mono HB7.out.size)
                have HB9 := hide (HB9a.out.alloc HB9a.out.size (.cells #[.int .i64 f9, .slice ad9 n9 cap9] 25))
                clear hb9
                rcases HFin.out with m1 | ⟨m0, m1⟩ | ⟨m0, m1, m2⟩
                · go_wp2
                  go_ret
                  first | exact ⟨rfl, HB9.out⟩ | exact ⟨rfl, HB9a.out⟩
                · go_wp2
                  go_ret
                  first | exact ⟨rfl, HB9.out⟩ | exact ⟨rfl, HB9a.out⟩
                · go_wp2
                  go_ret
                  first | exact ⟨rfl, HB9.out⟩ | exact ⟨rfl, HB9a.out⟩
              · have d3 : ((c : Int) == 0) = false := beq_eq_false_iff_ne.2 (by omega)
                by_cases hct : PS[c - 1]'(by omega) = 10
                · have d4 : (((PS[c - 1]'(by omega)).toNat : Int) != 10) = false := by rw [hct]; rfl
                  go_wp2_with fail
                  refine (HUN.out _).mono ?_
                  rintro e w9 ⟨f9, ad9, n9, cap9, rfl, hb9⟩
                  have HB9a : Hid (Below w.heap.size w w9) := HB4.out.trans (hb9.mono HB4.out.size)
                  have HB9 := hide (HB9a.out.alloc HB9a.out.size (.cells #[.int .i64 f9, .slice ad9 n9 cap9] 25))
                  clear hb9
                  rcases HFin.out with m1 | ⟨m0, m1⟩ | ⟨m0, m1, m2⟩
                  · go_wp2
                    go_ret
                    first | exact ⟨rfl, HB9.out⟩ | exact ⟨rfl, HB9a.out⟩
                  · go_wp2
                    go_ret
                    first | exact ⟨rfl, HB9.out⟩ | exact ⟨rfl, HB9a.out⟩
                  · go_wp2
                    go_ret
                    first | exact ⟨rfl, HB9.out⟩ | exact ⟨rfl, HB9a.out⟩
                · have d4 : (((PS[c - 1]'(by omega)).toNat : Int) != 10) = true := by
                    rw [bne_iff_ne]
                    intro k
                    exact hct (UInt8.toNat_inj.1 (by show (PS[c - 1]'(by omega)).toNat = 10; omega))
                  have HPE := hide (parse_er (t := PS.extract 0 c) (by rw [ByteArray.size_extract]; omega) (parse_cut (cut_last PS c (by omega) (by omega) hct)))
                  go_wp2_with fail
                  refine (HPE.out _ (HT.out.below HB4.out (Nat.le_refl _))).mono ?_
                  rintro e w7 ⟨f7, ad7, n7, cap7, y7, rfl, hb7⟩
                  have HB7a : Hid (Below w.heap.size w w7) := HB4.out.trans (hb7.mono HB4.out.size)
                  have HB7 := hide (HB7a.out.alloc HB7a.out.size (.cells #[.int .i64 f7, .slice ad7 n7 cap7] 25))
                  clear hb7 HB4
                  go_wp2_with fail
                  refine (HUN.out _).mono ?_
                  rintro e w9 ⟨f9, ad9, n9, cap9, rfl, hb9⟩
                  have HB9a : Hid (Below w.heap.size w w9) := HB7.out.trans (hb9.mono HB7.out.size)
                  have HB9 := hide (HB9a.out.alloc HB9a.out.size (.cells #[.int .i64 f9, .slice ad9 n9 cap9] 25))
                  clear hb9
                  rcases HFin.out with m1 | ⟨m0, m1⟩ | ⟨m0, m1, m2⟩
                  · go_wp2
                    go_ret
                    first | exact ⟨rfl, HB9.out⟩ | exact ⟨rfl, HB9a.out⟩
                  · go_wp2
                    go_ret
                    first | exact ⟨rfl, HB9.out⟩ | exact ⟨rfl, HB9a.out⟩
                  · go_wp2
                    go_ret
                    first | exact ⟨rfl, HB9.out⟩ | exact ⟨rfl, HB9a.out⟩
            · have d2 : ¬ (c : Int) < (PS.size : Int) := by omega
              go_wp2_with fail
              refine (HUN.out _).mono ?_
              rintro e w9 ⟨f9, ad9, n9, cap9, rfl, hb9⟩
              have HB9a : Hid (Below w.heap.size w w9) := HB4.out.trans (hb9.mono HB4.out.size)
              have HB9 := hide (HB9a.out.alloc HB9a.out.size (.cells #[.int .i64 f9, .slice ad9 n9 cap9] 25))
              clear hb9
              rcases HFin.out with m1 | ⟨m0, m1⟩ | ⟨m0, m1, m2⟩
              · go_wp2
                go_ret
                first | exact ⟨rfl, HB9.out⟩ | exact ⟨rfl, HB9a.out⟩
              · go_wp2
                go_ret
                first | exact ⟨rfl, HB9.out⟩ | exact ⟨rfl, HB9a.out⟩
              · go_wp2
                go_ret
                first | exact ⟨rfl, HB9.out⟩ | exact ⟨rfl, HB9a.out⟩
  · generalize (Pg.checkE fuel xs).1 = E at *
    generalize Pg.printS fuel xs = PS at *
    generalize Pg.packS fuel xs = BS at *
    have e1 : (E != E) = false := by simp
    have e2 : (E != 0) = true := by simp [hE]
    clear h hT hx
    go_enter Tryz.func4, Tryz.ntmps4
    obtain ⟨ad, cap, rfl⟩ := cd_slice HCd.out
    go_wp2_with fail
    refine (HK.out _ (HCd.out.below (below_one w _) (Nat.le_refl _))).mono ?_
    rintro e w1 ⟨rfl, hb1⟩
    have HP1 : Hid (Pb w1 w.heap.size fuel (.slice ad xs.length cap)) := (hb1.block w.heap.size (by simp)).trans (heap_alloc_new w _)
    have p0 := HP1.out.c0
    have p1 := HP1.out.c1
    have HB1 : Hid (Below w.heap.size w w1) := (below_one w _).trans (hb1.mono (by simp))
    clear hb1
    go_wp2_with fail
    refine (HR.out w1 (HCd.out.below HB1.out (Nat.le_refl _)) (HT.out.tabs.below HB1.out (Nat.le_refl _))).mono ?_
    rintro e w2 ⟨rfl, hb2⟩
    have HB2 : Hid (Below w.heap.size w w2) := HB1.out.trans (hb2.mono HB1.out.size)
    clear hb2 HB1 HP1 p0 p1 HR HK
    go_wp2_with fail
    refine (awake_true w2 (HT.out.below HB2.out (Nat.le_refl _))).mono ?_
    rintro e w4 ⟨rfl, hb4⟩
    have HB4 : Hid (Below w.heap.size w w4) := HB2.out.trans (hb4.mono HB2.out.size)
    clear hb4 HB2
    go_wp2
    go_ret
    exact ⟨rfl, HB4.out⟩
end Go.Proofs.YthfbkpkogihcbabGreatDoor
end
