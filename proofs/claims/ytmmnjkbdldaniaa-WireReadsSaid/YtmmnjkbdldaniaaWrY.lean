import Derived.Test.YtmmnjkbdldaniaaWrX
namespace Go.Proofs.Ytmmnjkbdldaniaa
open Go.RowKit Go.Shelf
open Wr (Ms V L)

theorem add_str {a b : List UInt8} (h : a.length + b.length ≤ 100000) (W : World) : (Op.stringOp .add ⟨a.toArray⟩ ⟨b.toArray⟩).run Try.prog W = .ok (.string ⟨(a ++ b).toArray⟩) W := by
  have := run_string_add_sum (P := Try.prog) W ⟨a.toArray⟩ ⟨b.toArray⟩ (by show a.toArray.size + b.toArray.size ≤ _; simp; omega)
  rw [this, ba_append]
theorem nstr_in {k : Int} (h1 : 1 ≤ k) (h2 : k ≤ 16) : nstr k = ⟨((Wr.letters k).map lowB).toArray⟩ := if_neg (by omega)
theorem nstr_len {k : Int} (h1 : 1 ≤ k) (h2 : k ≤ 16) : (nstr k).size = (Wr.letters k).length := by rw [nstr_in h1 h2]; show (List.toArray _).size = _; simp
theorem nstr_at {k : Int} (h1 : 1 ≤ k) (h2 : k ≤ 16) {i : Nat} (hi : i < (Wr.letters k).length) (hs : i < (nstr k).size) : (nstr k)[i]'hs = lowB (Wr.letters k)[i] := by
  have e : (nstr k).data.toList = (Wr.letters k).map lowB := by rw [nstr_in h1 h2]
  have h : i < (nstr k).data.toList.length := hs
  have : (nstr k)[i]'hs = (nstr k).data.toList[i]'h := rfl
  rw [this]
  simp only [e, List.getElem_map]
theorem qnumQ {x : Nat} {y : Int} (hx : x < 18446744073709551616) (hy : y = (x : Int)) (w : World) : Calls Try.prog 25 #[.int .u64 y] w fun e w' => e = .returned (.string ⟨(Pk.enc x).toArray⟩) ∧ Below w.heap.size w w' := by
  subst hy; exact qnum_any x hx w
set_option maxRecDepth 8000 in
set_option maxHeartbeats 8000000 in
theorem rencode_any (m : Ms) (hrb : m.rb < 18446744073709551616) (w : World) : Calls Try.prog 13 #[.agg (msgC m)] w fun e w' => e = .returned (.tuple #[.string (encB m), .int .i64 (Wr.check m : Int)]) ∧ Below w.heap.size w w' := by
  have HC := hide (rcheck_any m hrb)
  have HSt : Hid (Below (w.heap.size + 1) (w.alloc (.cells (msgC m) 26)) (w.alloc (.cells (msgC m) 26))) := Below.refl _ _
  by_cases hc : Wr.check m = 0
  · have hB : encB m = ⟨(Wr.bytes m).toArray⟩ := if_pos hc
    have hlen := Wr.bytes_len hc
    obtain ⟨⟨k1, k2⟩, _, hmay, _⟩ := (Wr.check_iff m).mp hc
    have HMay := hide hmay
    clear hmay
    obtain ⟨kn, hkn⟩ : ∃ kn : Nat, m.k = (kn : Int) := ⟨m.k.toNat, by omega⟩
    have hk0 : kn < 17 := by omega
    rw [hB, hc]
    rw [hc] at HC
    rw [show ((0 : Nat) : Int) = 0 from rfl] at HC ⊢
    have HE : Hid (Wr.bytes m = Pk.enc kn ++ Wr.body m (Wr.letters m.k)) := by rw [show kn = m.k.toNat by omega]; rfl
    have HN := hide (rnamed_any m.k)
    have hss := nstr_len k1 k2
    have HAt := hide (fun (i : Nat) (hi : i < (Wr.letters m.k).length) (hs : i < (nstr m.k).size) => nstr_at k1 k2 hi hs)
    have hl5 := letters_five m.k
    generalize Wr.letters m.k = ls at *
    generalize nstr m.k = s at *
    have HK := hide hkn
    generalize hR : (⟨(Wr.bytes m).toArray⟩ : ByteArray) = RES at *
    have HR := hide hR
    clear hR hkn hB
    unfold msgC at HC HSt ⊢
    go_enter Try.func13, Try.ntmps13
    go_wp2_with fail
    refine (HC.out _).mono ?_
    rintro e w1 ⟨rfl, hb1⟩
    have H1 := hide (below_in HSt.out hb1)
    clear hb1
    have hc0 : w1.cell? ⟨w.heap.size, 0, none⟩ = some (.int .i64 (kn : Int)) := by rw [← HK.out]; exact (mg_in H1.out).c0
    go_wp2_with fail
    refine (qnum_any kn (by omega) _).mono ?_
    rintro e w2 ⟨rfl, hb2⟩
    have H2 := hide (below_in H1.out hb2)
    clear hb2
    have hc0 : w2.cell? ⟨w.heap.size, 0, none⟩ = some (.int .i64 m.k) := (mg_in H2.out).c0
    go_wp2_with fail
    refine (HN.out _).mono ?_
    rintro e w3 ⟨rfl, hb3⟩
    have H3 := hide (below_in H2.out hb3)
    clear hb3
    go_wp2
    go_loopw [5, 7] (fun u5 u7 wr => ∃ (i : Nat) (acc : List UInt8), u5 = .string ⟨acc.toArray⟩ ∧ u7 = .int .i64 (i : Int) ∧ i ≤ ls.length ∧ Hid (Below (w.heap.size + 1) (w.alloc (.cells #[.int .i64 m.k, .int .i64 m.se, .int .i64 m.nu, .int .i64 m.jo, .int .i64 m.ba, .int .i64 m.ix, .int .i64 m.co, .int .i64 m.rc, .int .u64 (m.rb : Int), .string m.tx, .string m.pr] 26)) wr) ∧ Hid (Wr.bytes m = acc ++ Wr.body m (ls.drop i))) (fun _ u7 _ => ls.length - (intOf u7).toNat)
    case atStart => exact ⟨0, Pk.enc kn, rfl, rfl, Nat.zero_le _, H3.out, by rw [List.drop_zero]; exact HE.out⟩
    case round =>
      obtain ⟨i, acc, rfl, rfl, hi, HBl, HBy⟩ := hrel
      have hacc : acc.length ≤ 2048 := by
        have := congrArg List.length HBy.out
        rw [List.length_append] at this
        omega
      by_cases hil : i < ls.length
      · have his : i < s.size := by omega
        have d0 : decide ((i : Int) < (s.size : Int)) = true := by simp; omega
        have hx := HAt.out i hil his
        have hby := HBy.out.trans (congrArg (acc ++ ·) (body_drop hil m))
        have hmy := HMay.out ls[i] (List.getElem_mem hil)
        have hly : (Wr.lay ls[i] (Wr.get ls[i] m)).length ≤ 2048 := by
          have h1 := congrArg List.length hby
          rw [List.length_append, List.length_append] at h1
          omega
        have MM := mg_in HBl.out
        generalize hL : ls[i] = l at *
        clear hL
        cases l
        · have hx2 : ((s[i]'his).toNat : Int) = 115 := by rw [hx]; rfl
          have hm2 : Wr.least .S ≤ m.se ∧ m.se ≤ Wr.most m.k .S := by have := hmy; rw [may_w rfl, decide_eq_true_eq] at this; exact this
          have hhi := most_hi m.k .S
          have hlo := least_lo .S
          obtain ⟨x, hxx⟩ : ∃ x : Nat, m.se = (x : Int) := ⟨m.se.toNat, by omega⟩
          have hx3 : x < 9223372036854775808 := by omega
          have hlx : Wr.lay .S (Wr.get .S m) = Pk.enc x := by show Pk.enc m.se.toNat = _; rw [hxx]; rfl
          have ca : wr.cell? ⟨w.heap.size, 1, none⟩ = some (.int .i64 (x : Int)) := by rw [← hxx]; exact MM.all 1 _ rfl
          rw [hlx] at hby hly
          have HBY := hide hby
          have hadd := fun W => add_str (a := acc) (b := Pk.enc x) (by omega) W
          clear hby hx hmy MM hm2 hhi hlo hxx hlx
          go_wp2_with fail
          refine (qnum_any x (by omega) _).mono ?_
          rintro e w4 ⟨rfl, hb4⟩
          have H4 := hide (below_in HBl.out hb4)
          clear hb4
          go_wp2
          exact ⟨⟨i + 1, acc ++ Pk.enc x, rfl, by go_num, by omega, H4.out, by rw [List.append_assoc]; exact HBY.out⟩, by simp [intOf]; omega⟩
        · have hx2 : ((s[i]'his).toNat : Int) = 110 := by rw [hx]; rfl
          have hm2 : Wr.least .N ≤ m.nu ∧ m.nu ≤ Wr.most m.k .N := by have := hmy; rw [may_w rfl, decide_eq_true_eq] at this; exact this
          have hhi := most_hi m.k .N
          have hlo := least_lo .N
          obtain ⟨x, hxx⟩ : ∃ x : Nat, m.nu = (x : Int) := ⟨m.nu.toNat, by omega⟩
          have hx3 : x < 9223372036854775808 := by omega
          have hlx : Wr.lay .N (Wr.get .N m) = Pk.enc x := by show Pk.enc m.nu.toNat = _; rw [hxx]; rfl
          have ca : wr.cell? ⟨w.heap.size, 2, none⟩ = some (.int .i64 (x : Int)) := by rw [← hxx]; exact MM.all 2 _ rfl
          rw [hlx] at hby hly
          have HBY := hide hby
          have hadd := fun W => add_str (a := acc) (b := Pk.enc x) (by omega) W
          clear hby hx hmy MM hm2 hhi hlo hxx hlx
          go_wp2_with fail
          refine (qnum_any x (by omega) _).mono ?_
          rintro e w4 ⟨rfl, hb4⟩
          have H4 := hide (below_in HBl.out hb4)
          clear hb4
          go_wp2
          exact ⟨⟨i + 1, acc ++ Pk.enc x, rfl, by go_num, by omega, H4.out, by rw [List.append_assoc]; exact HBY.out⟩, by simp [intOf]; omega⟩
        · have hx2 : ((s[i]'his).toNat : Int) = 106 := by rw [hx]; rfl
          have hm2 : Wr.least .J ≤ m.jo ∧ m.jo ≤ Wr.most m.k .J := by have := hmy; rw [may_w rfl, decide_eq_true_eq] at this; exact this
          have hhi := most_hi m.k .J
          have hlo := least_lo .J
          obtain ⟨x, hxx⟩ : ∃ x : Nat, m.jo = (x : Int) := ⟨m.jo.toNat, by omega⟩
          have hx3 : x < 9223372036854775808 := by omega
          have hlx : Wr.lay .J (Wr.get .J m) = Pk.enc x := by show Pk.enc m.jo.toNat = _; rw [hxx]; rfl
          have ca : wr.cell? ⟨w.heap.size, 3, none⟩ = some (.int .i64 (x : Int)) := by rw [← hxx]; exact MM.all 3 _ rfl
          rw [hlx] at hby hly
          have HBY := hide hby
          have hadd := fun W => add_str (a := acc) (b := Pk.enc x) (by omega) W
          clear hby hx hmy MM hm2 hhi hlo hxx hlx
          go_wp2_with fail
          refine (qnum_any x (by omega) _).mono ?_
          rintro e w4 ⟨rfl, hb4⟩
          have H4 := hide (below_in HBl.out hb4)
          clear hb4
          go_wp2
          exact ⟨⟨i + 1, acc ++ Pk.enc x, rfl, by go_num, by omega, H4.out, by rw [List.append_assoc]; exact HBY.out⟩, by simp [intOf]; omega⟩
        · have hx2 : ((s[i]'his).toNat : Int) = 98 := by rw [hx]; rfl
          have hm2 : Wr.least .B ≤ m.ba ∧ m.ba ≤ Wr.most m.k .B := by have := hmy; rw [may_w rfl, decide_eq_true_eq] at this; exact this
          have hhi := most_hi m.k .B
          have hlo := least_lo .B
          obtain ⟨x, hxx⟩ : ∃ x : Nat, m.ba = (x : Int) := ⟨m.ba.toNat, by omega⟩
          have hx3 : x < 9223372036854775808 := by omega
          have hlx : Wr.lay .B (Wr.get .B m) = Pk.enc x := by show Pk.enc m.ba.toNat = _; rw [hxx]; rfl
          have ca : wr.cell? ⟨w.heap.size, 4, none⟩ = some (.int .i64 (x : Int)) := by rw [← hxx]; exact MM.all 4 _ rfl
          rw [hlx] at hby hly
          have HBY := hide hby
          have hadd := fun W => add_str (a := acc) (b := Pk.enc x) (by omega) W
          clear hby hx hmy MM hm2 hhi hlo hxx hlx
          go_wp2_with fail
          refine (qnum_any x (by omega) _).mono ?_
          rintro e w4 ⟨rfl, hb4⟩
          have H4 := hide (below_in HBl.out hb4)
          clear hb4
          go_wp2
          exact ⟨⟨i + 1, acc ++ Pk.enc x, rfl, by go_num, by omega, H4.out, by rw [List.append_assoc]; exact HBY.out⟩, by simp [intOf]; omega⟩
        · have hx2 : ((s[i]'his).toNat : Int) = 105 := by rw [hx]; rfl
          have hm2 : Wr.least .I ≤ m.ix ∧ m.ix ≤ Wr.most m.k .I := by have := hmy; rw [may_w rfl, decide_eq_true_eq] at this; exact this
          have hhi := most_hi m.k .I
          have hlo := least_lo .I
          obtain ⟨x, hxx⟩ : ∃ x : Nat, m.ix = (x : Int) := ⟨m.ix.toNat, by omega⟩
          have hx3 : x < 9223372036854775808 := by omega
          have hlx : Wr.lay .I (Wr.get .I m) = Pk.enc x := by show Pk.enc m.ix.toNat = _; rw [hxx]; rfl
          have ca : wr.cell? ⟨w.heap.size, 5, none⟩ = some (.int .i64 (x : Int)) := by rw [← hxx]; exact MM.all 5 _ rfl
          rw [hlx] at hby hly
          have HBY := hide hby
          have hadd := fun W => add_str (a := acc) (b := Pk.enc x) (by omega) W
          clear hby hx hmy MM hm2 hhi hlo hxx hlx
          go_wp2_with fail
          refine (qnum_any x (by omega) _).mono ?_
          rintro e w4 ⟨rfl, hb4⟩
          have H4 := hide (below_in HBl.out hb4)
          clear hb4
          go_wp2
          exact ⟨⟨i + 1, acc ++ Pk.enc x, rfl, by go_num, by omega, H4.out, by rw [List.append_assoc]; exact HBY.out⟩, by simp [intOf]; omega⟩
        · have hx2 : ((s[i]'his).toNat : Int) = 99 := by rw [hx]; rfl
          have hm2 : Wr.least .C ≤ m.co ∧ m.co ≤ Wr.most m.k .C := by have := hmy; rw [may_w rfl, decide_eq_true_eq] at this; exact this
          have hhi := most_hi m.k .C
          have hlo := least_lo .C
          obtain ⟨x, hxx⟩ : ∃ x : Nat, m.co = (x : Int) := ⟨m.co.toNat, by omega⟩
          have hx3 : x < 9223372036854775808 := by omega
          have hlx : Wr.lay .C (Wr.get .C m) = Pk.enc x := by show Pk.enc m.co.toNat = _; rw [hxx]; rfl
          have ca : wr.cell? ⟨w.heap.size, 6, none⟩ = some (.int .i64 (x : Int)) := by rw [← hxx]; exact MM.all 6 _ rfl
          rw [hlx] at hby hly
          have HBY := hide hby
          have hadd := fun W => add_str (a := acc) (b := Pk.enc x) (by omega) W
          clear hby hx hmy MM hm2 hhi hlo hxx hlx
          go_wp2_with fail
          refine (qnum_any x (by omega) _).mono ?_
          rintro e w4 ⟨rfl, hb4⟩
          have H4 := hide (below_in HBl.out hb4)
          clear hb4
          go_wp2
          exact ⟨⟨i + 1, acc ++ Pk.enc x, rfl, by go_num, by omega, H4.out, by rw [List.append_assoc]; exact HBY.out⟩, by simp [intOf]; omega⟩
        · have hx2 : ((s[i]'his).toNat : Int) = 114 := by rw [hx]; rfl
          have hm2 : (decide (0 ≤ m.rc ∧ m.rc ≤ 7) && Wr.canonB m.rc m.rb) = true := hmy
          rw [Bool.and_eq_true, decide_eq_true_eq] at hm2
          obtain ⟨x, hxx⟩ : ∃ x : Nat, m.rc = (x : Int) := ⟨m.rc.toNat, by omega⟩
          have hx3 : x < 9223372036854775808 := by omega
          have hlx : Wr.lay .R (Wr.get .R m) = Pk.enc x ++ Pk.big8 m.rb := by show Pk.enc m.rc.toNat ++ _ = _; rw [hxx]; rfl
          have ca : wr.cell? ⟨w.heap.size, 7, none⟩ = some (.int .i64 (x : Int)) := by rw [← hxx]; exact MM.all 7 _ rfl
          have cb : wr.cell? ⟨w.heap.size, 8, none⟩ = some (.int .u64 (m.rb : Int)) := MM.all 8 _ rfl
          rw [hlx] at hby hly
          have HBY := hide hby
          have hly2 := hly
          rw [List.length_append] at hly2
          have hadd1 := fun W => add_str (a := Pk.enc x) (b := Pk.big8 m.rb) (by omega) W
          have hadd2 := fun W => add_str (a := acc) (b := Pk.enc x ++ Pk.big8 m.rb) (by omega) W
          have HXX := hide hxx
          clear hby hx hmy MM hm2 hxx hlx hly hly2
          go_wp2_with fail
          go_region_held3 (fun w' => w'.cell? ⟨w.heap.size, 7, none⟩ = some (.int .i64 (x : Int)) ∧ w'.cell? ⟨w.heap.size, 8, none⟩ = some (.int .u64 (m.rb : Int))) (first | exact ⟨ca, cb⟩ | exact ⟨k4a, k4b⟩ | exact ⟨k5a, k5b⟩ | go_keep) (first
            | (go_at_call 25; first | (refine (qnumQ (x := x) (by omega) (by first | rfl | omega | (rw [IntKind.wrap_u64]; omega)) w4).mono ?_; rintro e w5 ⟨rfl, hb5⟩; have H5 := hide (below_in H4.out hb5); have k5a : w5.cell? ⟨w.heap.size, 7, none⟩ = some (.int .i64 (x : Int)) := (by rw [← HXX.out]; exact (mg_in H5.out).all 7 _ rfl); have k5b : w5.cell? ⟨w.heap.size, 8, none⟩ = some (.int .u64 (m.rb : Int)) := (mg_in H5.out).all 8 _ rfl; clear hb5) | (refine (qnumQ (x := x) (by omega) (by first | rfl | omega | (rw [IntKind.wrap_u64]; omega)) _).mono ?_; rintro e w4 ⟨rfl, hb4⟩; have H4 := hide (below_in HBl.out (show Below wr.heap.size wr w4 from ⟨hb4.os, hb4.tape, hb4.output, hb4.size, hb4.block⟩)); have k4a : w4.cell? ⟨w.heap.size, 7, none⟩ = some (.int .i64 (x : Int)) := (by rw [← HXX.out]; exact (mg_in H4.out).all 7 _ rfl); have k4b : w4.cell? ⟨w.heap.size, 8, none⟩ = some (.int .u64 (m.rb : Int)) := (mg_in H4.out).all 8 _ rfl; clear hb4))
            | (go_at_call 26; first | (refine (qbits_any m.rb hrb w4).mono ?_; rintro e w5 ⟨rfl, hb5⟩; have H5 := hide (below_in H4.out hb5); have k5a : w5.cell? ⟨w.heap.size, 7, none⟩ = some (.int .i64 (x : Int)) := (by rw [← HXX.out]; exact (mg_in H5.out).all 7 _ rfl); have k5b : w5.cell? ⟨w.heap.size, 8, none⟩ = some (.int .u64 (m.rb : Int)) := (mg_in H5.out).all 8 _ rfl; clear hb5) | (refine (qbits_any m.rb hrb _).mono ?_; rintro e w4 ⟨rfl, hb4⟩; have H4 := hide (below_in HBl.out (show Below wr.heap.size wr w4 from ⟨hb4.os, hb4.tape, hb4.output, hb4.size, hb4.block⟩)); have k4a : w4.cell? ⟨w.heap.size, 7, none⟩ = some (.int .i64 (x : Int)) := (by rw [← HXX.out]; exact (mg_in H4.out).all 7 _ rfl); have k4b : w4.cell? ⟨w.heap.size, 8, none⟩ = some (.int .u64 (m.rb : Int)) := (mg_in H4.out).all 8 _ rfl; clear hb4)))
          all_goals
            go_wp2
            exact ⟨⟨i + 1, acc ++ (Pk.enc x ++ Pk.big8 m.rb), rfl, by go_num, by omega, H5.out, by rw [List.append_assoc]; exact HBY.out⟩, by simp [intOf]; omega⟩
        · have hx2 : ((s[i]'his).toNat : Int) = 116 := by rw [hx]; rfl
          have hm2 : Wr.least .T ≤ (m.tx.size : Int) ∧ (m.tx.size : Int) ≤ Wr.most m.k .T := by have := hmy; rw [may_t rfl, decide_eq_true_eq] at this; exact this
          have hhi := most_hi m.k .T
          have ca : wr.cell? ⟨w.heap.size, 9, none⟩ = some (.string m.tx) := MM.all 9 _ rfl
          have HBY : Hid (Wr.bytes m = acc ++ ((Pk.enc m.tx.size ++ m.tx.data.toList) ++ Wr.body m (ls.drop (i + 1)))) := hby
          have hly : (Pk.enc m.tx.size ++ m.tx.data.toList).length ≤ 2048 := hly
          have hadd := fun W => add_str (a := acc) (b := Pk.enc m.tx.size ++ m.tx.data.toList) (by omega) W
          have HQ := hide (qtext_any m.tx (by omega))
          rw [ba_append] at HQ
          clear hby hx hmy MM hm2 hhi
          go_wp2_with fail
          refine (HQ.out _).mono ?_
          rintro e w4 ⟨rfl, hb4⟩
          have H4 := hide (below_in HBl.out hb4)
          clear hb4
          go_wp2
          exact ⟨⟨i + 1, acc ++ (Pk.enc m.tx.size ++ m.tx.data.toList), rfl, by go_num, by omega, H4.out, by rw [List.append_assoc]; exact HBY.out⟩, by simp [intOf]; omega⟩
        · have hx2 : ((s[i]'his).toNat : Int) = 112 := by rw [hx]; rfl
          have hm2 : Wr.least .P ≤ (m.pr.size : Int) ∧ (m.pr.size : Int) ≤ Wr.most m.k .P := by have := hmy; rw [may_t rfl, decide_eq_true_eq] at this; exact this
          have hhi := most_hi m.k .P
          have ca : wr.cell? ⟨w.heap.size, 10, none⟩ = some (.string m.pr) := MM.all 10 _ rfl
          have HBY : Hid (Wr.bytes m = acc ++ ((Pk.enc m.pr.size ++ m.pr.data.toList) ++ Wr.body m (ls.drop (i + 1)))) := hby
          have hly : (Pk.enc m.pr.size ++ m.pr.data.toList).length ≤ 2048 := hly
          have hadd := fun W => add_str (a := acc) (b := Pk.enc m.pr.size ++ m.pr.data.toList) (by omega) W
          have HQ := hide (qtext_any m.pr (by omega))
          rw [ba_append] at HQ
          clear hby hx hmy MM hm2 hhi
          go_wp2_with fail
          refine (HQ.out _).mono ?_
          rintro e w4 ⟨rfl, hb4⟩
          have H4 := hide (below_in HBl.out hb4)
          clear hb4
          go_wp2
          exact ⟨⟨i + 1, acc ++ (Pk.enc m.pr.size ++ m.pr.data.toList), rfl, by go_num, by omega, H4.out, by rw [List.append_assoc]; exact HBY.out⟩, by simp [intOf]; omega⟩
      · have d0 : decide ((i : Int) < (s.size : Int)) = false := by simp; omega
        obtain rfl : i = ls.length := by omega
        have hfin : Wr.bytes m = acc := by
          have := HBy.out
          rw [List.drop_length] at this
          simpa [Wr.body] using this
        have HFin := hide hfin
        clear hfin
        go_wp2
        go_ret2
        exact ⟨by rw [← HR.out, HFin.out]; rfl, b_out HBl.out⟩
  · have hB : encB m = ⟨#[]⟩ := if_neg hc
    have hb : ((Wr.check m : Int) != 0) = true := by simp; omega
    rw [hB]
    generalize Wr.check m = E at *
    unfold msgC at HC HSt ⊢
    go_enter Try.func13, Try.ntmps13
    go_wp2_with fail
    refine (HC.out _).mono ?_
    rintro e w1 ⟨rfl, hb1⟩
    have H1 := hide (below_in HSt.out hb1)
    clear hb1
    go_wp2
    go_ret2
    exact ⟨rfl, b_out H1.out⟩
set_option maxRecDepth 8000 in
set_option maxHeartbeats 4000000 in
theorem wireLays_walk (m : Ms) (hrb : m.rb < 18446744073709551616) (w : World) : Calls Try.prog 4 #[.agg (msgC m)] w fun e w' => e = .returned (.bool true) ∧ Below w.heap.size w w' := by
  have HE := hide (encode_any m hrb)
  have HR := hide (rencode_any m hrb)
  have HA := hide awake_any
  have HSt : Hid (Below (w.heap.size + 1) (w.alloc (.cells (msgC m) 26)) (w.alloc (.cells (msgC m) 26))) := Below.refl _ _
  generalize encB m = EB at *
  generalize Wr.check m = E at *
  unfold msgC at HE HR HSt ⊢
  go_enter Try.func4, Try.ntmps4
  go_wp2_with fail
  refine (HE.out _).mono ?_
  rintro e w1 ⟨rfl, hb1⟩
  have H1 := hide (below_in HSt.out hb1)
  clear hb1
  have M1 := mg_in H1.out
  have a0 : w1.cell? ⟨w.heap.size, 0, none⟩ = some (.int .i64 m.k) := M1.all 0 _ rfl
  have a1 : w1.cell? ⟨w.heap.size, 1, none⟩ = some (.int .i64 m.se) := M1.all 1 _ rfl
  have a2 : w1.cell? ⟨w.heap.size, 2, none⟩ = some (.int .i64 m.nu) := M1.all 2 _ rfl
  have a3 : w1.cell? ⟨w.heap.size, 3, none⟩ = some (.int .i64 m.jo) := M1.all 3 _ rfl
  have a4 : w1.cell? ⟨w.heap.size, 4, none⟩ = some (.int .i64 m.ba) := M1.all 4 _ rfl
  have a5 : w1.cell? ⟨w.heap.size, 5, none⟩ = some (.int .i64 m.ix) := M1.all 5 _ rfl
  have a6 : w1.cell? ⟨w.heap.size, 6, none⟩ = some (.int .i64 m.co) := M1.all 6 _ rfl
  have a7 : w1.cell? ⟨w.heap.size, 7, none⟩ = some (.int .i64 m.rc) := M1.all 7 _ rfl
  have a8 : w1.cell? ⟨w.heap.size, 8, none⟩ = some (.int .u64 (m.rb : Int)) := M1.all 8 _ rfl
  have a9 : w1.cell? ⟨w.heap.size, 9, none⟩ = some (.string m.tx) := M1.all 9 _ rfl
  have a10 : w1.cell? ⟨w.heap.size, 10, none⟩ = some (.string m.pr) := M1.all 10 _ rfl
  clear M1
  go_wp2_with fail
  refine (HR.out _).mono ?_
  rintro e w2 ⟨rfl, hb2⟩
  have H2 := hide (below_in H1.out hb2)
  clear hb2 a0 a1 a2 a3 a4 a5 a6 a7 a8 a9 a10
  go_wp2_with fail
  refine (HA.out _).mono ?_
  rintro e w3 ⟨rfl, hb3⟩
  have H3 := hide (below_in H2.out hb3)
  clear hb3
  go_wp2
  go_ret
  exact ⟨by simp, b_out H3.out⟩
end Go.Proofs.Ytmmnjkbdldaniaa
