import Derived.Test.YtlaecbbhgjpfoaaGreatDoorMgAM
import Derived.Test.YtlaecbbhgjpfoaaGreatDoorMgAJ
import Derived.Deep.Cut

section
namespace Go.Proofs.YtlaecbbhgjpfoaaGreatDoor
open Go.RowKit Gn

theorem w_text : ∀ i, i < 5 → textB (wWord i) = ⟨(wText i).toArray⟩
  | 0, _ => by kernel_rfl
  | 1, _ => by kernel_rfl
  | 2, _ => by kernel_rfl
  | 3, _ => by kernel_rfl
  | 4, _ => by kernel_rfl
theorem w_lt : ∀ i, i < 5 → wWord i < 18446744073709551616
  | 0, _ => by decide
  | 1, _ => by decide
  | 2, _ => by decide
  | 3, _ => by decide
  | 4, _ => by decide
theorem w_cells (w : World) : ∀ i, i < 5 → (w.alloc (.cells #[.int .u64 9221120237041090561, .int .u64 9218868437227405312, .int .u64 18442240474082181120, .int .u64 0, .int .u64 9223372036854775808] 22)).cell? ⟨w.heap.size, i, none⟩ = some (.int .u64 (wWord i : Int)) := by
  have h := heap_alloc_new w (.cells #[.int .u64 9221120237041090561, .int .u64 9218868437227405312, .int .u64 18442240474082181120, .int .u64 0, .int .u64 9223372036854775808] 22)
  intro i hi
  unfold World.cell?
  rw [h]
  match i, hi with
  | 0, _ => rfl
  | 1, _ => rfl
  | 2, _ => rfl
  | 3, _ => rfl
  | 4, _ => rfl
def finP (v : Bool) (r : Nat × Int) : Nat × Int := if r.2 = 0 then (wd v r.1, 0) else (0, r.2)
theorem rsg_fin (s : ByteArray) : rsgP s = finP (minusB s) (rcutP (bareB s)) := by
  unfold rsgP finP wd
  cases minusB s
  · rfl
  · simp only [if_true]
    rw [Nat.add_comm]
theorem last_at {t : ByteArray} {n : Nat} (hn : (digL t).length = n + 1) : ∃ h : n < t.size, digB t[n] = true ∧ (digL t).getLastD 0 = t[n] := by
  have hlen : (digL t).length ≤ t.size := by
    rw [← size_list]
    exact List.Sublist.length_le (List.takeWhile_sublist _)
  have hlt : n < t.size := by omega
  have e := while_app (p := digB) t.toList
  have hd : digL t = t.toList.takeWhile digB := rfl
  rw [← hd] at e
  have hl : (digL t)[n]? = some t[n] := by
    have h1 : (digL t ++ t.toList.dropWhile digB)[n]? = (digL t)[n]? := List.getElem?_append_left (by omega)
    rw [← h1, ← e]
    exact byte_at t n hlt
  refine ⟨hlt, ?_, ?_⟩
  · have := List.all_eq_true.1 (dig_all t) t[n] (List.mem_of_getElem? hl)
    exact this
  · rw [List.getLastD_eq_getLast?, List.getLast?_eq_getElem?, hn, Nat.add_sub_cancel, hl]
    rfl
theorem sat_ne {t : ByteArray} {n : Nat} (hn : (digL t).length = n + 1) {c : UInt8} (hc : (digL t).getLastD 0 = c) : c.toNat % 2 = 1 → satL (digL t) ≠ 0 := by
  intro ho
  have hne : digL t ≠ [] := fun e => by rw [e] at hn; cases hn
  have e := List.dropLast_concat_getLast hne
  have hl : (digL t).getLast hne = c := by
    rw [← hc, List.getLastD_eq_getLast?, List.getLast?_eq_some_getLast hne]
    rfl
  have hd : digB c = true := List.all_eq_true.1 (dig_all t) c (by rw [← hl]; exact List.getLast_mem hne)
  have hv := dig_val hd
  rw [hl] at e
  rw [← e, satL_snoc]
  unfold satF
  split <;> omega
theorem wn_one (n : Nat) (h : n < 18446744073709551616) : wn n = .agg #[.int .u64 0, .int .u64 (n : Int)] := by
  show Value.agg #[.int .u64 (hiN n : Int), .int .u64 (loN n : Int)] = _
  rw [show hiN n = 0 by unfold hiN; omega, show loN n = n by unfold loN; omega]; rfl
theorem wd_low (v : Bool) (r : Nat) (h : r ≤ 9218868437227405312) : bits .andNot .u64 (wd v r : Int) 9223372036854775808 = (r : Int) := by
  have hw : wd v r < 18446744073709551616 ∧ wd v r % 9223372036854775808 = r := by unfold wd; split <;> omega
  rw [abs_andNot _ hw.1, hw.2]
theorem log_53 {m : Nat} (h : m < 9007199254740992) : m.log2 ≤ 126 := by
  rcases Nat.lt_or_ge m.log2 127 with h1 | h1
  · omega
  · have h2 := Nat.log2_self_le (n := m) (fun e => by rw [e] at h1; simp at h1)
    have h3 := Nat.pow_le_pow_right (n := 2) (by decide) (show 53 ≤ m.log2 by omega)
    have e : (2 : Nat) ^ 53 = 9007199254740992 := by decide
    omega
theorem isR_pos {t : ByteArray} (h : isR t = true) : ∃ n, (digL t).length = n + 1 := by
  cases hl : (digL t).length with
  | zero => unfold isR at h; rw [hl] at h; simp at h
  | succ n => exact ⟨n, rfl⟩
theorem ext_size (t : ByteArray) (a : Nat) : (t.extract a t.size).size ≤ t.size := by
  rw [ByteArray.size_extract]
  omega
set_option maxRecDepth 20000 in
set_option maxHeartbeats 2000000 in
theorem rparse_of (hRn : ∀ (v : Bool) (W : Nat) (e : Int), W ≠ 0 → -4400 ≤ e → e ≤ 4400 → W.log2 ≤ 126 → ∀ w : World, Calls Tryz.prog 11 #[.int .u64 ((if v then 9223372036854775808 else 0 : Nat) : Int), wn W, .int .i64 e, .bool false] w fun e' w' => e' = .returned (.int .u64 (wd v (rung W e) : Int)) ∧ Below w.heap.size w w')
    (s : ByteArray) (hm : s.size ≤ 9223372036854775807) (w : World) :
    Calls Tryz.prog 5 #[.string s] w fun e w' => e = .returned (.tuple #[.int .u64 ((parseP s).1 : Int), .int .i64 (parseP s).2]) ∧ Below w.heap.size w w' := by
  have HRn := Lib.hid hRn
  clear hRn
  go_enter Tryz.func5, Tryz.ntmps5
  go_wp2_with fail
  have HC := Lib.hid (w_cells w)
  have HB0 := Lib.hid ((Below.refl w.heap.size w).alloc (Nat.le_refl _) (.cells #[.int .u64 9221120237041090561, .int .u64 9218868437227405312, .int .u64 18442240474082181120, .int .u64 0, .int .u64 9223372036854775808] 22))
  have hlt : w.heap.size < (w.alloc (.cells #[.int .u64 9221120237041090561, .int .u64 9218868437227405312, .int .u64 18442240474082181120, .int .u64 0, .int .u64 9223372036854775808] 22)).heap.size := by simp
  generalize w.alloc (.cells #[.int .u64 9221120237041090561, .int .u64 9218868437227405312, .int .u64 18442240474082181120, .int .u64 0, .int .u64 9223372036854775808] 22) = W0 at *
  go_loopw [5] (fun u wr => ∃ (k : Nat), u = .int .i64 (k : Int) ∧ k ≤ 5 ∧ Hid (Below W0.heap.size W0 wr) ∧ Hid (∀ i, i < k → s.toList ≠ wText i)) (fun u _ => 5 - (intOf u).toNat)
  case atStart => exact ⟨0, rfl, by omega, Below.refl _ _, fun i hi => by omega⟩
  case round =>
    obtain ⟨k, rfl, hk, HB, HN⟩ := hrel
    by_cases hk5 : k < 5
    · have hki : (k : Int) < 5 := by omega
      have c0 : wr.cell? ⟨w.heap.size, k, none⟩ = some (.int .u64 (wWord k : Int)) := (HB.out.cell (p := ⟨w.heap.size, k, none⟩) hlt).trans (HC.out k hk5)
      have HT := Lib.hid (fun W => refText_any (wWord k) (w_lt k hk5) W)
      rw [w_text k hk5] at HT
      go_wp2_with fail
      refine (HT.out _).mono ?_
      rintro e w1 ⟨rfl, hb1⟩
      have HB1 : Hid (Below W0.heap.size W0 w1) := HB.out.trans (hb1.mono HB.out.size)
      have c1 : w1.cell? ⟨w.heap.size, k, none⟩ = some (.int .u64 (wWord k : Int)) := (HB1.out.cell (p := ⟨w.heap.size, k, none⟩) hlt).trans (HC.out k hk5)
      clear hb1 HB c0
      by_cases he : s.toList = wText k
      · have HE := Lib.hid (parse_word hk5 he)
        have b1 : (wText k == s.toList) = true := by rw [beq_iff_eq, he]
        clear he
        go_wp2_with fail
        go_ret2
        exact ⟨by rw [HE.out]; rfl, HB0.out.trans (HB1.out.mono (Nat.le_of_lt hlt))⟩
      · have b1 : (wText k == s.toList) = false := by rw [beq_eq_false_iff_ne]; exact fun h => he h.symm
        have HN1 : Hid (∀ i, i < k + 1 → s.toList ≠ wText i) := fun i hi => by
          by_cases hik : i = k
          · rw [hik]; exact he
          · exact HN.out i (by omega)
        clear he
        go_wp2_with fail
        go_roundw
        case rel => exact ⟨k + 1, by go_num, by omega, HB1, HN1⟩
        case measure => simp [intOf]; omega
    · have hk5' : k = 5 := by omega
      have hki : ¬ (k : Int) < 5 := by omega
      have HRes : Hid (parseP s = finP (minusB s) (rcutP (bareB s))) := (parse_other (by rw [← hk5']; exact HN.out)).trans (rsg_fin s)
      clear hk5 hk5'
      cases hmin : minusB s
      · have hbs : bareB s = s := by unfold bareB; rw [hmin]; rfl
        rw [hmin, hbs] at HRes
        have hTm := hm
        by_cases hs0 : 0 < s.size
        · have hs0i : (0 : Int) < (s.size : Int) := by omega
          have c45 : ((s[0].toNat : Int) == 45) = false := by
            rw [minus_head, head_is s hs0] at hmin
            rw [beq_eq_false_iff_ne]
            intro h
            rw [show s[0] = 45 from UInt8.toNat_inj.mp (show s[0].toNat = 45 by omega)] at hmin
            cases hmin
          clear hmin hbs
          go_wp2_with fail
          have HR1 := Lib.hid (run_any s hTm wr)
          have hBr : Below w.heap.size w wr := HB0.out.trans (HB.out.mono (Nat.le_of_lt hlt))
          have HBr := Lib.hid hBr
          unfold rcutP at HRes
          clear HB HN hBr
          cases hR : isR s
          · rw [if_pos (.inl hR)] at HRes
            rw [hR] at HR1
            refine HR1.out.mono ?_
            rintro e w1 ⟨rfl, n1, rfl⟩
            go_wp2_with fail
            go_ret2
            exact ⟨by rw [HRes.out]; rfl, ⟨HBr.out.os, HBr.out.tape, HBr.out.output, HBr.out.size, HBr.out.block⟩⟩
          obtain ⟨n, hn⟩ := isR_pos hR
          obtain ⟨hnT, hdg, hlast⟩ := last_at hn
          have hdv := dig_val hdg
          rw [hR, hn] at HR1
          rw [hlast, hn] at HRes
          obtain ⟨c, hc⟩ : ∃ c, s[n] = c := ⟨_, rfl⟩
          rw [hc] at HRes hdv
          have d1 : 48 ≤ (c.toNat : Int) := by omega
          have d2 : (c.toNat : Int) ≤ 57 := by omega
          have hnTi : (n : Int) < (s.size : Int) := by omega
          have hmo := sat_ne hn (c := c) (by rw [hlast, hc])
          generalize satL (digL s) = m at *
          clear hlast hdg hdv
          refine HR1.out.mono ?_
          rintro e w1 ⟨rfl, n1, rfl⟩
          have HB1 : Hid (Below w.heap.size w (wr.drewN n1)) := ⟨HBr.out.os, HBr.out.tape, HBr.out.output, HBr.out.size, HBr.out.block⟩
          clear HBr HR1
          generalize wr.drewN n1 = w1 at *
          by_cases hev : c.toNat % 2 = 0
          · rw [if_pos (.inr (.inl hev))] at HRes
            have b2 : (((c.toNat : Int) - 48) % 2 == 0) = true := by rw [beq_iff_eq]; omega
            clear hev hmo
            go_wp2_with fail
            go_ret2
            exact ⟨by rw [HRes.out]; rfl, HB1.out⟩
          have b2 : (((c.toNat : Int) - 48) % 2 == 0) = false := by rw [beq_eq_false_iff_ne]; omega
          have hm0 := hmo (by omega)
          clear hmo
          by_cases hend : n + 1 = s.size
          · rw [if_pos (.inr (.inr (by rw [List.getElem?_eq_none (by rw [size_list]; omega)]; simp)))] at HRes
            have b3 : ((n : Int) + 1 == (s.size : Int)) = true := by rw [beq_iff_eq]; omega
            clear hend hev
            go_wp2_with fail
            go_ret2
            exact ⟨by rw [HRes.out]; rfl, HB1.out⟩
          have b3 : ((n : Int) + 1 == (s.size : Int)) = false := by rw [beq_eq_false_iff_ne]; omega
          have hn1 : n + 1 < s.size := by omega
          have hn1i : (n : Int) + 1 < (s.size : Int) := by omega
          have hbn := byte_at s (n + 1) hn1
          obtain ⟨d, hd⟩ : ∃ d, s[n + 1] = d := ⟨_, rfl⟩
          rw [hd] at hbn
          by_cases hp : d ≠ 112
          · rw [if_pos (.inr (.inr (by rw [hbn]; simpa using hp)))] at HRes
            have b4 : ((d.toNat : Int) != 112) = true := by
              rw [bne_iff_ne]
              intro h
              exact hp (UInt8.toNat_inj.mp (show d.toNat = 112 by omega))
            clear hend hev hp hbn
            go_wp2_with fail
            go_ret2
            exact ⟨by rw [HRes.out]; rfl, HB1.out⟩
          have hp := Decidable.of_not_not hp
          have b4 : ((d.toNat : Int) != 112) = false := by rw [hp]; rfl
          have hno : ¬ (isR s = false ∨ c.toNat % 2 = 0 ∨ s.toList[n + 1]? ≠ some 112) := by
            rintro (h | h | h)
            · rw [hR] at h; cases h
            · exact hev h
            · exact h (by rw [hbn, hp])
          rw [if_neg hno] at HRes
          clear hno
          have hqm : (s.extract (n + 1 + 1) s.size).size ≤ 9223372036854775807 := Nat.le_trans (ext_size s _) hTm
          clear hend hev hbn hp
          go_upto_region 16 with fail
          generalize s.extract (n + 1 + 1) s.size = q at *
          cases hmq : minusB q
          · have hbq : bareB q = q := by unfold bareB; rw [hmq]; rfl
            have hbq2 := hbq
            have hQm := hqm
            by_cases hq0 : 0 < q.size
            · have hq0i : (0 : Int) < (q.size : Int) := by omega
              have c46 : ((q[0].toNat : Int) == 45) = false := by
                have hmq2 := hmq
                rw [minus_head, head_is q hq0] at hmq2
                rw [beq_eq_false_iff_ne]
                intro h
                rw [show q[0] = 45 from UInt8.toNat_inj.mp (show q[0].toNat = 45 by omega)] at hmq2
                cases hmq2
              go_wp2_with fail
              have HR2 := Lib.hid (run_any q hQm w1)
              unfold rpowP at HRes
              rw [hbq, hmq] at HRes
              clear hbq
              cases hR2 : isR q
              · rw [if_pos (.inl hR2)] at HRes
                rw [hR2] at HR2
                refine HR2.out.mono ?_
                rintro e w2 ⟨rfl, n2, rfl⟩
                go_wp2_with fail
                go_ret2
                exact ⟨by rw [HRes.out]; rfl, ⟨HB1.out.os, HB1.out.tape, HB1.out.output, HB1.out.size, HB1.out.block⟩⟩
              rw [hR2] at HR2
              unfold rvalP rkk at HRes
              rw [hbq2, hmq] at HRes
              clear hbq2 hmq
              generalize (digL q).length = l2 at *
              generalize satL (digL q) = x2 at *
              refine HR2.out.mono ?_
              rintro e w2 ⟨rfl, n2, rfl⟩
              have HB2 : Hid (Below w.heap.size w (w1.drewN n2)) := ⟨HB1.out.os, HB1.out.tape, HB1.out.output, HB1.out.size, HB1.out.block⟩
              clear HB1 HR2
              generalize w1.drewN n2 = w2 at *
              by_cases hfull : l2 < q.size
              · rw [if_pos (.inr (.inl hfull))] at HRes
                have b5 : (l2 : Int) < (q.size : Int) := by omega
                clear hfull
                go_wp2_with fail
                go_ret2
                exact ⟨by rw [HRes.out]; rfl, HB2.out⟩
              have hno2 : ¬ (isR q = false ∨ l2 < q.size ∨ (false = true ∧ x2 = 0)) := by
                rintro (h | h | h)
                · rw [hR2] at h; cases h
                · exact hfull h
                · cases h.1
              rw [if_neg hno2] at HRes
              clear hno2
              by_cases h53 : 9007199254740992 ≤ m
              · rw [if_pos (.inl h53)] at HRes
                have b7 : decide (9007199254740992 ≤ (m : Int)) = true := by simp; omega
                clear h53
                go_wp2_with fail
                go_ret2
                exact ⟨by rw [HRes.out]; rfl, HB2.out⟩
              have b7 : decide (9007199254740992 ≤ (m : Int)) = false := by simp; omega
              by_cases h4 : 4000 < x2
              · rw [if_pos (.inr h4)] at HRes
                have b8 : decide ((4000 : Int) < (x2 : Int)) = true := by simp; omega
                clear h53 h4
                go_wp2_with fail
                go_ret2
                exact ⟨by rw [HRes.out]; rfl, HB2.out⟩
              rw [if_neg (c := 9007199254740992 ≤ m ∨ 4000 < x2) (by omega)] at HRes
              have b8 : decide ((4000 : Int) < (x2 : Int)) = false := by simp; omega
              have b8n : ¬ 4000 < x2 := h4
              have hx4 : x2 ≤ 4000 := by omega
              have HC1 : Hid (∀ W : World, Calls Tryz.prog 11 #[.int .u64 0, .agg #[.int .u64 0, .int .u64 (m : Int)], .int .i64 ((x2 : Int)), .bool false] W fun e' w' => e' = .returned (.int .u64 (wd false (rung m ((x2 : Int))) : Int)) ∧ Below W.heap.size W w') := fun W => by
                have h := HRn.out false m ((x2 : Int)) hm0 (by omega) (by omega) (log_53 (by omega)) W
                rw [wn_one m (by omega)] at h
                exact h
              clear h53 h4 HRn
              simp only [Bool.false_eq_true, if_false] at HRes
              have hlow : ¬ (x2 : Int) < -1074 := by omega
              rw [if_neg hlow] at HRes
              clear hm0
              unfold rendP at HRes
              have HFin : Hid (finP false (rung m ((x2 : Int)), 0) = (wd false (rung m ((x2 : Int))), 0)) := rfl
              have HLo := Lib.hid (wd_low false (rung m ((x2 : Int))) (rung_le _ _))
              generalize rung m ((x2 : Int)) = R at *
              generalize wd false R = A at *
              go_wp2_with fail
              refine (HC1.out _).mono ?_
              rintro e w3 ⟨rfl, hb3⟩
              have HB3 : Hid (Below w.heap.size w w3) := HB2.out.trans (hb3.mono HB2.out.size)
              clear hb3
              by_cases hinf : R = 9218868437227405312
              · rw [if_pos hinf] at HRes
                have b9 : (bits .andNot .u64 (A : Int) 9223372036854775808 == 9218868437227405312) = true := by rw [HLo.out, beq_iff_eq]; omega
                clear hinf
                go_wp2_with fail
                go_ret2
                exact ⟨by rw [HRes.out]; rfl, HB3.out⟩
              rw [if_neg hinf] at HRes
              have b9 : (bits .andNot .u64 (A : Int) 9223372036854775808 == 9218868437227405312) = false := by rw [HLo.out, beq_eq_false_iff_ne]; omega
              clear hinf
              go_wp2_with fail
              go_ret2
              exact ⟨by rw [HRes.out, HFin.out]; rfl, HB3.out⟩
            · have hq0i : decide ((0 : Int) < (q.size : Int)) = false := decide_eq_false (by omega)
              go_wp2_with fail
              have HR2 := Lib.hid (run_any q hQm w1)
              unfold rpowP at HRes
              rw [hbq, hmq] at HRes
              clear hbq
              cases hR2 : isR q
              · rw [if_pos (.inl hR2)] at HRes
                rw [hR2] at HR2
                refine HR2.out.mono ?_
                rintro e w2 ⟨rfl, n2, rfl⟩
                go_wp2_with fail
                go_ret2
                exact ⟨by rw [HRes.out]; rfl, ⟨HB1.out.os, HB1.out.tape, HB1.out.output, HB1.out.size, HB1.out.block⟩⟩
              obtain ⟨n2, hn2⟩ := isR_pos hR2
              obtain ⟨hnQ, _⟩ := last_at hn2
              exact absurd hnQ (by omega)
          · have hq0 : 0 < q.size := by
              rw [← size_list, minus_list hmq]
              simp
            have hq0i : (0 : Int) < (q.size : Int) := by omega
            have c46 : ((q[0].toNat : Int) == 45) = true := by
              have hmq2 := hmq
              rw [minus_head, head_is q hq0] at hmq2
              rw [beq_iff_eq.1 hmq2]
              rfl
            have hbq : bareB q = q.extract 1 q.size := by unfold bareB; rw [hmq]; rfl
            have hbq2 := hbq
            have hQm : (q.extract 1 q.size).size ≤ 9223372036854775807 := Nat.le_trans (ext_size q 1) hqm
            go_wp2_with fail
            generalize q.extract 1 q.size = Q at *
            have HR2 := Lib.hid (run_any Q hQm w1)
            unfold rpowP at HRes
            rw [hbq, hmq] at HRes
            clear hbq
            cases hR2 : isR Q
            · rw [if_pos (.inl hR2)] at HRes
              rw [hR2] at HR2
              refine HR2.out.mono ?_
              rintro e w2 ⟨rfl, n2, rfl⟩
              go_wp2_with fail
              go_ret2
              exact ⟨by rw [HRes.out]; rfl, ⟨HB1.out.os, HB1.out.tape, HB1.out.output, HB1.out.size, HB1.out.block⟩⟩
            rw [hR2] at HR2
            unfold rvalP rkk at HRes
            rw [hbq2, hmq] at HRes
            clear hbq2 hmq
            generalize (digL Q).length = l2 at *
            generalize satL (digL Q) = x2 at *
            refine HR2.out.mono ?_
            rintro e w2 ⟨rfl, n2, rfl⟩
            have HB2 : Hid (Below w.heap.size w (w1.drewN n2)) := ⟨HB1.out.os, HB1.out.tape, HB1.out.output, HB1.out.size, HB1.out.block⟩
            clear HB1 HR2
            generalize w1.drewN n2 = w2 at *
            by_cases hfull : l2 < Q.size
            · rw [if_pos (.inr (.inl hfull))] at HRes
              have b5 : (l2 : Int) < (Q.size : Int) := by omega
              clear hfull
              go_wp2_with fail
              go_ret2
              exact ⟨by rw [HRes.out]; rfl, HB2.out⟩
            by_cases hz : x2 = 0
            · rw [if_pos (.inr (.inr ⟨rfl, hz⟩))] at HRes
              have b6 : ((x2 : Int) == 0) = true := by rw [beq_iff_eq]; omega
              clear hz
              go_wp2_with fail
              go_ret2
              exact ⟨by rw [HRes.out]; rfl, HB2.out⟩
            have b6 : ((x2 : Int) == 0) = false := by rw [beq_eq_false_iff_ne]; omega
            have hno2 : ¬ (isR Q = false ∨ l2 < Q.size ∨ (true = true ∧ x2 = 0)) := by
              rintro (h | h | h)
              · rw [hR2] at h; cases h
              · exact hfull h
              · exact hz h.2
            rw [if_neg hno2] at HRes
            clear hno2
            clear hz
            by_cases h53 : 9007199254740992 ≤ m
            · rw [if_pos (.inl h53)] at HRes
              have b7 : decide (9007199254740992 ≤ (m : Int)) = true := by simp; omega
              clear h53
              go_wp2_with fail
              go_ret2
              exact ⟨by rw [HRes.out]; rfl, HB2.out⟩
            have b7 : decide (9007199254740992 ≤ (m : Int)) = false := by simp; omega
            by_cases h4 : 4000 < x2
            · rw [if_pos (.inr h4)] at HRes
              have b8 : decide ((4000 : Int) < (x2 : Int)) = true := by simp; omega
              clear h53 h4
              go_wp2_with fail
              go_ret2
              exact ⟨by rw [HRes.out]; rfl, HB2.out⟩
            rw [if_neg (c := 9007199254740992 ≤ m ∨ 4000 < x2) (by omega)] at HRes
            have b8 : decide ((4000 : Int) < (x2 : Int)) = false := by simp; omega
            have b8n : ¬ 4000 < x2 := h4
            have hx4 : x2 ≤ 4000 := by omega
            have HC1 : Hid (∀ W : World, Calls Tryz.prog 11 #[.int .u64 0, .agg #[.int .u64 0, .int .u64 (m : Int)], .int .i64 (-(x2 : Int)), .bool false] W fun e' w' => e' = .returned (.int .u64 (wd false (rung m (-(x2 : Int))) : Int)) ∧ Below W.heap.size W w') := fun W => by
              have h := HRn.out false m (-(x2 : Int)) hm0 (by omega) (by omega) (log_53 (by omega)) W
              rw [wn_one m (by omega)] at h
              exact h
            clear h53 h4 HRn
            simp only [if_true] at HRes
            by_cases hlow : -(x2 : Int) < -1074
            · rw [if_pos hlow] at HRes
              go_wp2_with fail
              go_ret2
              exact ⟨by rw [HRes.out]; rfl, HB2.out⟩
            rw [if_neg hlow] at HRes
            clear hm0
            unfold rendP at HRes
            have HFin : Hid (finP false (rung m (-(x2 : Int)), 0) = (wd false (rung m (-(x2 : Int))), 0)) := rfl
            have HLo := Lib.hid (wd_low false (rung m (-(x2 : Int))) (rung_le _ _))
            generalize rung m (-(x2 : Int)) = R at *
            generalize wd false R = A at *
            go_wp2_with fail
            refine (HC1.out _).mono ?_
            rintro e w3 ⟨rfl, hb3⟩
            have HB3 : Hid (Below w.heap.size w w3) := HB2.out.trans (hb3.mono HB2.out.size)
            clear hb3
            by_cases hinf : R = 9218868437227405312
            · rw [if_pos hinf] at HRes
              have b9 : (bits .andNot .u64 (A : Int) 9223372036854775808 == 9218868437227405312) = true := by rw [HLo.out, beq_iff_eq]; omega
              clear hinf
              go_wp2_with fail
              go_ret2
              exact ⟨by rw [HRes.out]; rfl, HB3.out⟩
            rw [if_neg hinf] at HRes
            have b9 : (bits .andNot .u64 (A : Int) 9223372036854775808 == 9218868437227405312) = false := by rw [HLo.out, beq_eq_false_iff_ne]; omega
            clear hinf
            go_wp2_with fail
            go_ret2
            exact ⟨by rw [HRes.out, HFin.out]; rfl, HB3.out⟩
        · have hs0i : decide ((0 : Int) < (s.size : Int)) = false := decide_eq_false (by omega)
          clear hmin hbs
          go_wp2_with fail
          have HR1 := Lib.hid (run_any s hTm wr)
          have hBr : Below w.heap.size w wr := HB0.out.trans (HB.out.mono (Nat.le_of_lt hlt))
          have HBr := Lib.hid hBr
          unfold rcutP at HRes
          clear HB HN hBr
          cases hR : isR s
          · rw [if_pos (.inl hR)] at HRes
            rw [hR] at HR1
            refine HR1.out.mono ?_
            rintro e w1 ⟨rfl, n1, rfl⟩
            go_wp2_with fail
            go_ret2
            exact ⟨by rw [HRes.out]; rfl, ⟨HBr.out.os, HBr.out.tape, HBr.out.output, HBr.out.size, HBr.out.block⟩⟩
          obtain ⟨n, hn⟩ := isR_pos hR
          obtain ⟨hnT, hdg, hlast⟩ := last_at hn
          exact absurd hnT (by omega)
      · have hs0 : 0 < s.size := by
          rw [← size_list, minus_list hmin]
          simp
        have hs0i : (0 : Int) < (s.size : Int) := by omega
        have c45 : ((s[0].toNat : Int) == 45) = true := by
          rw [minus_head, head_is s hs0] at hmin
          rw [beq_iff_eq.1 hmin]
          rfl
        have hbs : bareB s = s.extract 1 s.size := by unfold bareB; rw [hmin]; rfl
        rw [hmin, hbs] at HRes
        have hTm : (s.extract 1 s.size).size ≤ 9223372036854775807 := Nat.le_trans (ext_size s 1) hm
        clear hmin hbs
        go_wp2_with fail
        generalize s.extract 1 s.size = t at *
        have HR1 := Lib.hid (run_any t hTm wr)
        have hBr : Below w.heap.size w wr := HB0.out.trans (HB.out.mono (Nat.le_of_lt hlt))
        have HBr := Lib.hid hBr
        unfold rcutP at HRes
        clear HB HN hBr
        cases hR : isR t
        · rw [if_pos (.inl hR)] at HRes
          rw [hR] at HR1
          refine HR1.out.mono ?_
          rintro e w1 ⟨rfl, n1, rfl⟩
          go_wp2_with fail
          go_ret2
          exact ⟨by rw [HRes.out]; rfl, ⟨HBr.out.os, HBr.out.tape, HBr.out.output, HBr.out.size, HBr.out.block⟩⟩
        obtain ⟨n, hn⟩ := isR_pos hR
        obtain ⟨hnT, hdg, hlast⟩ := last_at hn
        have hdv := dig_val hdg
        rw [hR, hn] at HR1
        rw [hlast, hn] at HRes
        obtain ⟨c, hc⟩ : ∃ c, t[n] = c := ⟨_, rfl⟩
        rw [hc] at HRes hdv
        have d1 : 48 ≤ (c.toNat : Int) := by omega
        have d2 : (c.toNat : Int) ≤ 57 := by omega
        have hnTi : (n : Int) < (t.size : Int) := by omega
        have hmo := sat_ne hn (c := c) (by rw [hlast, hc])
        generalize satL (digL t) = m at *
        clear hlast hdg hdv
        refine HR1.out.mono ?_
        rintro e w1 ⟨rfl, n1, rfl⟩
        have HB1 : Hid (Below w.heap.size w (wr.drewN n1)) := ⟨HBr.out.os, HBr.out.tape, HBr.out.output, HBr.out.size, HBr.out.block⟩
        clear HBr HR1
        generalize wr.drewN n1 = w1 at *
        by_cases hev : c.toNat % 2 = 0
        · rw [if_pos (.inr (.inl hev))] at HRes
          have b2 : (((c.toNat : Int) - 48) % 2 == 0) = true := by rw [beq_iff_eq]; omega
          clear hev hmo
          go_wp2_with fail
          go_ret2
          exact ⟨by rw [HRes.out]; rfl, HB1.out⟩
        have b2 : (((c.toNat : Int) - 48) % 2 == 0) = false := by rw [beq_eq_false_iff_ne]; omega
        have hm0 := hmo (by omega)
        clear hmo
        by_cases hend : n + 1 = t.size
        · rw [if_pos (.inr (.inr (by rw [List.getElem?_eq_none (by rw [size_list]; omega)]; simp)))] at HRes
          have b3 : ((n : Int) + 1 == (t.size : Int)) = true := by rw [beq_iff_eq]; omega
          clear hend hev
          go_wp2_with fail
          go_ret2
          exact ⟨by rw [HRes.out]; rfl, HB1.out⟩
        have b3 : ((n : Int) + 1 == (t.size : Int)) = false := by rw [beq_eq_false_iff_ne]; omega
        have hn1 : n + 1 < t.size := by omega
        have hn1i : (n : Int) + 1 < (t.size : Int) := by omega
        have hbn := byte_at t (n + 1) hn1
        obtain ⟨d, hd⟩ : ∃ d, t[n + 1] = d := ⟨_, rfl⟩
        rw [hd] at hbn
        by_cases hp : d ≠ 112
        · rw [if_pos (.inr (.inr (by rw [hbn]; simpa using hp)))] at HRes
          have b4 : ((d.toNat : Int) != 112) = true := by
            rw [bne_iff_ne]
            intro h
            exact hp (UInt8.toNat_inj.mp (show d.toNat = 112 by omega))
          clear hend hev hp hbn
          go_wp2_with fail
          go_ret2
          exact ⟨by rw [HRes.out]; rfl, HB1.out⟩
        have hp := Decidable.of_not_not hp
        have b4 : ((d.toNat : Int) != 112) = false := by rw [hp]; rfl
        have hno : ¬ (isR t = false ∨ c.toNat % 2 = 0 ∨ t.toList[n + 1]? ≠ some 112) := by
          rintro (h | h | h)
          · rw [hR] at h; cases h
          · exact hev h
          · exact h (by rw [hbn, hp])
        rw [if_neg hno] at HRes
        clear hno
        have hqm : (t.extract (n + 1 + 1) t.size).size ≤ 9223372036854775807 := Nat.le_trans (ext_size t _) hTm
        clear hend hev hbn hp
        go_upto_region 16 with fail
        generalize t.extract (n + 1 + 1) t.size = q at *
        cases hmq : minusB q
        · have hbq : bareB q = q := by unfold bareB; rw [hmq]; rfl
          have hbq2 := hbq
          have hQm := hqm
          by_cases hq0 : 0 < q.size
          · have hq0i : (0 : Int) < (q.size : Int) := by omega
            have c46 : ((q[0].toNat : Int) == 45) = false := by
              have hmq2 := hmq
              rw [minus_head, head_is q hq0] at hmq2
              rw [beq_eq_false_iff_ne]
              intro h
              rw [show q[0] = 45 from UInt8.toNat_inj.mp (show q[0].toNat = 45 by omega)] at hmq2
              cases hmq2
            go_wp2_with fail
            have HR2 := Lib.hid (run_any q hQm w1)
            unfold rpowP at HRes
            rw [hbq, hmq] at HRes
            clear hbq
            cases hR2 : isR q
            · rw [if_pos (.inl hR2)] at HRes
              rw [hR2] at HR2
              refine HR2.out.mono ?_
              rintro e w2 ⟨rfl, n2, rfl⟩
              go_wp2_with fail
              go_ret2
              exact ⟨by rw [HRes.out]; rfl, ⟨HB1.out.os, HB1.out.tape, HB1.out.output, HB1.out.size, HB1.out.block⟩⟩
            rw [hR2] at HR2
            unfold rvalP rkk at HRes
            rw [hbq2, hmq] at HRes
            clear hbq2 hmq
            generalize (digL q).length = l2 at *
            generalize satL (digL q) = x2 at *
            refine HR2.out.mono ?_
            rintro e w2 ⟨rfl, n2, rfl⟩
            have HB2 : Hid (Below w.heap.size w (w1.drewN n2)) := ⟨HB1.out.os, HB1.out.tape, HB1.out.output, HB1.out.size, HB1.out.block⟩
            clear HB1 HR2
            generalize w1.drewN n2 = w2 at *
            by_cases hfull : l2 < q.size
            · rw [if_pos (.inr (.inl hfull))] at HRes
              have b5 : (l2 : Int) < (q.size : Int) := by omega
              clear hfull
              go_wp2_with fail
              go_ret2
              exact ⟨by rw [HRes.out]; rfl, HB2.out⟩
            have hno2 : ¬ (isR q = false ∨ l2 < q.size ∨ (false = true ∧ x2 = 0)) := by
              rintro (h | h | h)
              · rw [hR2] at h; cases h
              · exact hfull h
              · cases h.1
            rw [if_neg hno2] at HRes
            clear hno2
            by_cases h53 : 9007199254740992 ≤ m
            · rw [if_pos (.inl h53)] at HRes
              have b7 : decide (9007199254740992 ≤ (m : Int)) = true := by simp; omega
              clear h53
              go_wp2_with fail
              go_ret2
              exact ⟨by rw [HRes.out]; rfl, HB2.out⟩
            have b7 : decide (9007199254740992 ≤ (m : Int)) = false := by simp; omega
            by_cases h4 : 4000 < x2
            · rw [if_pos (.inr h4)] at HRes
              have b8 : decide ((4000 : Int) < (x2 : Int)) = true := by simp; omega
              clear h53 h4
              go_wp2_with fail
              go_ret2
              exact ⟨by rw [HRes.out]; rfl, HB2.out⟩
            rw [if_neg (c := 9007199254740992 ≤ m ∨ 4000 < x2) (by omega)] at HRes
            have b8 : decide ((4000 : Int) < (x2 : Int)) = false := by simp; omega
            have b8n : ¬ 4000 < x2 := h4
            have hx4 : x2 ≤ 4000 := by omega
            have HC1 : Hid (∀ W : World, Calls Tryz.prog 11 #[.int .u64 9223372036854775808, .agg #[.int .u64 0, .int .u64 (m : Int)], .int .i64 ((x2 : Int)), .bool false] W fun e' w' => e' = .returned (.int .u64 (wd true (rung m ((x2 : Int))) : Int)) ∧ Below W.heap.size W w') := fun W => by
              have h := HRn.out true m ((x2 : Int)) hm0 (by omega) (by omega) (log_53 (by omega)) W
              rw [wn_one m (by omega)] at h
              exact h
            clear h53 h4 HRn
            simp only [Bool.false_eq_true, if_false] at HRes
            have hlow : ¬ (x2 : Int) < -1074 := by omega
            rw [if_neg hlow] at HRes
            clear hm0
            unfold rendP at HRes
            have HFin : Hid (finP true (rung m ((x2 : Int)), 0) = (wd true (rung m ((x2 : Int))), 0)) := rfl
            have HLo := Lib.hid (wd_low true (rung m ((x2 : Int))) (rung_le _ _))
            generalize rung m ((x2 : Int)) = R at *
            generalize wd true R = A at *
            go_wp2_with fail
            refine (HC1.out _).mono ?_
            rintro e w3 ⟨rfl, hb3⟩
            have HB3 : Hid (Below w.heap.size w w3) := HB2.out.trans (hb3.mono HB2.out.size)
            clear hb3
            by_cases hinf : R = 9218868437227405312
            · rw [if_pos hinf] at HRes
              have b9 : (bits .andNot .u64 (A : Int) 9223372036854775808 == 9218868437227405312) = true := by rw [HLo.out, beq_iff_eq]; omega
              clear hinf
              go_wp2_with fail
              go_ret2
              exact ⟨by rw [HRes.out]; rfl, HB3.out⟩
            rw [if_neg hinf] at HRes
            have b9 : (bits .andNot .u64 (A : Int) 9223372036854775808 == 9218868437227405312) = false := by rw [HLo.out, beq_eq_false_iff_ne]; omega
            clear hinf
            go_wp2_with fail
            go_ret2
            exact ⟨by rw [HRes.out, HFin.out]; rfl, HB3.out⟩
          · have hq0i : decide ((0 : Int) < (q.size : Int)) = false := decide_eq_false (by omega)
            go_wp2_with fail
            have HR2 := Lib.hid (run_any q hQm w1)
            unfold rpowP at HRes
            rw [hbq, hmq] at HRes
            clear hbq
            cases hR2 : isR q
            · rw [if_pos (.inl hR2)] at HRes
              rw [hR2] at HR2
              refine HR2.out.mono ?_
              rintro e w2 ⟨rfl, n2, rfl⟩
              go_wp2_with fail
              go_ret2
              exact ⟨by rw [HRes.out]; rfl, ⟨HB1.out.os, HB1.out.tape, HB1.out.output, HB1.out.size, HB1.out.block⟩⟩
            obtain ⟨n2, hn2⟩ := isR_pos hR2
            obtain ⟨hnQ, _⟩ := last_at hn2
            exact absurd hnQ (by omega)
        · have hq0 : 0 < q.size := by
            rw [← size_list, minus_list hmq]
            simp
          have hq0i : (0 : Int) < (q.size : Int) := by omega
          have c46 : ((q[0].toNat : Int) == 45) = true := by
            have hmq2 := hmq
            rw [minus_head, head_is q hq0] at hmq2
            rw [beq_iff_eq.1 hmq2]
            rfl
          have hbq : bareB q = q.extract 1 q.size := by unfold bareB; rw [hmq]; rfl
          have hbq2 := hbq
          have hQm : (q.extract 1 q.size).size ≤ 9223372036854775807 := Nat.le_trans (ext_size q 1) hqm
          go_wp2_with fail
          generalize q.extract 1 q.size = Q at *
          have HR2 := Lib.hid (run_any Q hQm w1)
          unfold rpowP at HRes
          rw [hbq, hmq] at HRes
          clear hbq
          cases hR2 : isR Q
          · rw [if_pos (.inl hR2)] at HRes
            rw [hR2] at HR2
            refine HR2.out.mono ?_
            rintro e w2 ⟨rfl, n2, rfl⟩
            go_wp2_with fail
            go_ret2
            exact ⟨by rw [HRes.out]; rfl, ⟨HB1.out.os, HB1.out.tape, HB1.out.output, HB1.out.size, HB1.out.block⟩⟩
          rw [hR2] at HR2
          unfold rvalP rkk at HRes
          rw [hbq2, hmq] at HRes
          clear hbq2 hmq
          generalize (digL Q).length = l2 at *
          generalize satL (digL Q) = x2 at *
          refine HR2.out.mono ?_
          rintro e w2 ⟨rfl, n2, rfl⟩
          have HB2 : Hid (Below w.heap.size w (w1.drewN n2)) := ⟨HB1.out.os, HB1.out.tape, HB1.out.output, HB1.out.size, HB1.out.block⟩
          clear HB1 HR2
          generalize w1.drewN n2 = w2 at *
          by_cases hfull : l2 < Q.size
          · rw [if_pos (.inr (.inl hfull))] at HRes
            have b5 : (l2 : Int) < (Q.size : Int) := by omega
            clear hfull
            go_wp2_with fail
            go_ret2
            exact ⟨by rw [HRes.out]; rfl, HB2.out⟩
          by_cases hz : x2 = 0
          · rw [if_pos (.inr (.inr ⟨rfl, hz⟩))] at HRes
            have b6 : ((x2 : Int) == 0) = true := by rw [beq_iff_eq]; omega
            clear hz
            go_wp2_with fail
            go_ret2
            exact ⟨by rw [HRes.out]; rfl, HB2.out⟩
          have b6 : ((x2 : Int) == 0) = false := by rw [beq_eq_false_iff_ne]; omega
          have hno2 : ¬ (isR Q = false ∨ l2 < Q.size ∨ (true = true ∧ x2 = 0)) := by
            rintro (h | h | h)
            · rw [hR2] at h; cases h
            · exact hfull h
            · exact hz h.2
          rw [if_neg hno2] at HRes
          clear hno2
          clear hz
          by_cases h53 : 9007199254740992 ≤ m
          · rw [if_pos (.inl h53)] at HRes
            have b7 : decide (9007199254740992 ≤ (m : Int)) = true := by simp; omega
            clear h53
            go_wp2_with fail
            go_ret2
            exact ⟨by rw [HRes.out]; rfl, HB2.out⟩
          have b7 : decide (9007199254740992 ≤ (m : Int)) = false := by simp; omega
          by_cases h4 : 4000 < x2
          · rw [if_pos (.inr h4)] at HRes
            have b8 : decide ((4000 : Int) < (x2 : Int)) = true := by simp; omega
            clear h53 h4
            go_wp2_with fail
            go_ret2
            exact ⟨by rw [HRes.out]; rfl, HB2.out⟩
          rw [if_neg (c := 9007199254740992 ≤ m ∨ 4000 < x2) (by omega)] at HRes
          have b8 : decide ((4000 : Int) < (x2 : Int)) = false := by simp; omega
          have b8n : ¬ 4000 < x2 := h4
          have hx4 : x2 ≤ 4000 := by omega
          have HC1 : Hid (∀ W : World, Calls Tryz.prog 11 #[.int .u64 9223372036854775808, .agg #[.int .u64 0, .int .u64 (m : Int)], .int .i64 (-(x2 : Int)), .bool false] W fun e' w' => e' = .returned (.int .u64 (wd true (rung m (-(x2 : Int))) : Int)) ∧ Below W.heap.size W w') := fun W => by
            have h := HRn.out true m (-(x2 : Int)) hm0 (by omega) (by omega) (log_53 (by omega)) W
            rw [wn_one m (by omega)] at h
            exact h
          clear h53 h4 HRn
          simp only [if_true] at HRes
          by_cases hlow : -(x2 : Int) < -1074
          · rw [if_pos hlow] at HRes
            go_wp2_with fail
            go_ret2
            exact ⟨by rw [HRes.out]; rfl, HB2.out⟩
          rw [if_neg hlow] at HRes
          clear hm0
          unfold rendP at HRes
          have HFin : Hid (finP true (rung m (-(x2 : Int)), 0) = (wd true (rung m (-(x2 : Int))), 0)) := rfl
          have HLo := Lib.hid (wd_low true (rung m (-(x2 : Int))) (rung_le _ _))
          generalize rung m (-(x2 : Int)) = R at *
          generalize wd true R = A at *
          go_wp2_with fail
          refine (HC1.out _).mono ?_
          rintro e w3 ⟨rfl, hb3⟩
          have HB3 : Hid (Below w.heap.size w w3) := HB2.out.trans (hb3.mono HB2.out.size)
          clear hb3
          by_cases hinf : R = 9218868437227405312
          · rw [if_pos hinf] at HRes
            have b9 : (bits .andNot .u64 (A : Int) 9223372036854775808 == 9218868437227405312) = true := by rw [HLo.out, beq_iff_eq]; omega
            clear hinf
            go_wp2_with fail
            go_ret2
            exact ⟨by rw [HRes.out]; rfl, HB3.out⟩
          rw [if_neg hinf] at HRes
          have b9 : (bits .andNot .u64 (A : Int) 9223372036854775808 == 9218868437227405312) = false := by rw [HLo.out, beq_eq_false_iff_ne]; omega
          clear hinf
          go_wp2_with fail
          go_ret2
          exact ⟨by rw [HRes.out, HFin.out]; rfl, HB3.out⟩
end Go.Proofs.YtlaecbbhgjpfoaaGreatDoor
end
