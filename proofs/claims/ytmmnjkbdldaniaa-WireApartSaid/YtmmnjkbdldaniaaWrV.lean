import Derived.Test.YtmmnjkbdldaniaaWrU
namespace Go.Proofs.Ytmmnjkbdldaniaa
open Go.RowKit Go.Shelf
open Wr (Ms V L)

theorem encB_head {m : Ms} (hc : Wr.check m = 0) : ∃ t, (encB m).data.toList = UInt8.ofNat m.k.toNat :: t := by
  rw [encB_list hc]; exact Wr.bytes_head hc
theorem encB_pos {m : Ms} (hc : Wr.check m = 0) : 0 < (encB m).size := by
  obtain ⟨t, ht⟩ := encB_head hc
  rw [Wr.size_list, ht]; simp
theorem encB_zero {m : Ms} (hc : Wr.check m = 0) : ((((encB m)[0]'(encB_pos hc)).toNat : Nat) : Int) = m.k := by
  obtain ⟨t, ht⟩ := encB_head hc
  obtain ⟨⟨k1, k2⟩, _⟩ := (Wr.check_iff m).mp hc
  have hl : 0 < (encB m).data.toList.length := by rw [ht]; simp
  have e : (encB m)[0]'(encB_pos hc) = (encB m).data.toList[0]'hl := rfl
  have e2 : (encB m).data.toList[0]'hl = UInt8.ofNat m.k.toNat := by simp only [ht, List.getElem_cons_zero]
  rw [e, e2, Pk.toNat_ofNat (by omega)]
  omega
theorem encB_inj {m n : Ms} (hm : Wr.check m = 0) (hn : Wr.check n = 0) (bm : m.rb < 18446744073709551616) (bn : n.rb < 18446744073709551616) : ((encB m).toList == (encB n).toList) = decide (m = n) := by
  by_cases h : m = n
  · subst h; simp
  · rw [decide_eq_false h]
    apply beq_false_of_ne
    intro e
    rw [ByteArray.toList_eq, ByteArray.toList_eq, encB_list hm, encB_list hn] at e
    exact h (Wr.bytes_apart hm hn bm bn (more := []) (by rw [List.append_nil]; exact e)).1
theorem encB_full {m : Ms} (hc : Wr.check m = 0) : (encB m).toList.isEmpty = false := by
  rw [tx_empty]; apply decide_eq_false; have := encB_pos hc; omega
theorem mg_two {w W : World} {m n : Ms} (h : Below (w.heap.size + 2) ((w.alloc (.cells (msgC m) 26)).alloc (.cells (msgC n) 26)) W) : Mg W w.heap.size m ∧ Mg W (w.heap.size + 1) n ∧ Below w.heap.size w W := by
  refine ⟨(h.block _ (by omega)).trans ((Below.heap_alloc _ _ _ (by simp)).trans (heap_alloc_new w _)), (h.block _ (by omega)).trans (by simpa using heap_alloc_new (w.alloc (.cells (msgC m) 26)) (.cells (msgC n) 26)), ?_⟩
  exact (below_two w _ _).trans (h.mono (by omega))
theorem below_in2 {w W W' : World} {o o' : Obj} (h : Below (w.heap.size + 2) ((w.alloc o).alloc o') W) (h' : Below W.heap.size W W') : Below (w.heap.size + 2) ((w.alloc o).alloc o') W' := h.trans (h'.mono (by have := h.size; simp at this; omega))
set_option maxRecDepth 8000 in
set_option maxHeartbeats 4000000 in
theorem wireApart_walk (m : Ms) (hrb : m.rb < 18446744073709551616) (n : Ms) (hrn : n.rb < 18446744073709551616) (w : World) : Calls Try.prog 8 #[.agg (msgC m), .agg (msgC n)] w fun e w' => e = .returned (.bool true) ∧ Below w.heap.size w w' := by
  have HE := hide (encode_any m hrb)
  have HF := hide (encode_any n hrn)
  have HA := hide awake_any
  have HSt : Hid (Below (w.heap.size + 2) ((w.alloc (.cells (msgC m) 26)).alloc (.cells (msgC n) 26)) ((w.alloc (.cells (msgC m) 26)).alloc (.cells (msgC n) 26))) := Below.refl _ _
  by_cases hc : Wr.check m = 0
  · by_cases hd : Wr.check n = 0
    · have hz : ∃ h : 0 < (encB m).size, (((encB m)[0]'h).toNat : Int) = m.k := ⟨encB_pos hc, encB_zero hc⟩
      have hwr : IntKind.i64.wrap m.k = m.k := by have := ((Wr.check_iff m).mp hc).1; rw [IntKind.wrap_i64]; omega
      have hij := encB_inj hc hd hrb hrn
      have hq : ∀ w, (binOp .eql 26 (.agg #[.int .i64 m.k, .int .i64 m.se, .int .i64 m.nu, .int .i64 m.jo, .int .i64 m.ba, .int .i64 m.ix, .int .i64 m.co, .int .i64 m.rc, .int .u64 (m.rb : Int), .string m.tx, .string m.pr]) (.agg #[.int .i64 n.k, .int .i64 n.se, .int .i64 n.nu, .int .i64 n.jo, .int .i64 n.ba, .int .i64 n.ix, .int .i64 n.co, .int .i64 n.rc, .int .u64 (n.rb : Int), .string n.tx, .string n.pr])).run Try.prog w = .ok (.bool (decide (m = n))) w := eql_msg m n
      rw [hc] at HE
      rw [hd] at HF
      generalize decide (m = n) = DD at *
      generalize hEB : encB m = EB at *
      generalize encB n = EC at *
      obtain ⟨hp, hz⟩ := hz
      have hz2 : (((EB[0]'hp).toNat : Int) == m.k) = true := by rw [hz]; simp
      have d1 : decide ((EB.size : Int) > 0) = true := by simp; omega
      unfold msgC at HE HF HSt ⊢
      go_enter Try.func8, Try.ntmps8
      go_wp2_with fail
      refine (HE.out _).mono ?_
      rintro e w1 ⟨rfl, hb1⟩
      have H1 := hide (below_in2 HSt.out hb1)
      clear hb1
      have M1 := (mg_two H1.out).2.1
      have a0 : w1.cell? ⟨w.heap.size + 1, 0, none⟩ = some (.int .i64 n.k) := M1.all 0 _ rfl
      have a1 : w1.cell? ⟨w.heap.size + 1, 1, none⟩ = some (.int .i64 n.se) := M1.all 1 _ rfl
      have a2 : w1.cell? ⟨w.heap.size + 1, 2, none⟩ = some (.int .i64 n.nu) := M1.all 2 _ rfl
      have a3 : w1.cell? ⟨w.heap.size + 1, 3, none⟩ = some (.int .i64 n.jo) := M1.all 3 _ rfl
      have a4 : w1.cell? ⟨w.heap.size + 1, 4, none⟩ = some (.int .i64 n.ba) := M1.all 4 _ rfl
      have a5 : w1.cell? ⟨w.heap.size + 1, 5, none⟩ = some (.int .i64 n.ix) := M1.all 5 _ rfl
      have a6 : w1.cell? ⟨w.heap.size + 1, 6, none⟩ = some (.int .i64 n.co) := M1.all 6 _ rfl
      have a7 : w1.cell? ⟨w.heap.size + 1, 7, none⟩ = some (.int .i64 n.rc) := M1.all 7 _ rfl
      have a8 : w1.cell? ⟨w.heap.size + 1, 8, none⟩ = some (.int .u64 (n.rb : Int)) := M1.all 8 _ rfl
      have a9 : w1.cell? ⟨w.heap.size + 1, 9, none⟩ = some (.string n.tx) := M1.all 9 _ rfl
      have a10 : w1.cell? ⟨w.heap.size + 1, 10, none⟩ = some (.string n.pr) := M1.all 10 _ rfl
      clear M1
      go_wp2_with fail
      refine (HF.out _).mono ?_
      rintro e w2 ⟨rfl, hb2⟩
      have H2 := hide (below_in2 H1.out hb2)
      clear hb2 a0 a1 a2 a3 a4 a5 a6 a7 a8 a9 a10
      go_wp2_with fail
      refine (HA.out _).mono ?_
      rintro e w3 ⟨rfl, hb3⟩
      have H3 := hide (below_in2 H2.out hb3)
      clear hb3
      obtain ⟨M3, N3, B3⟩ := mg_two H3.out
      have c0 : w3.cell? ⟨w.heap.size, 0, none⟩ = some (.int .i64 m.k) := M3.all 0 _ rfl
      have c1 : w3.cell? ⟨w.heap.size, 1, none⟩ = some (.int .i64 m.se) := M3.all 1 _ rfl
      have c2 : w3.cell? ⟨w.heap.size, 2, none⟩ = some (.int .i64 m.nu) := M3.all 2 _ rfl
      have c3 : w3.cell? ⟨w.heap.size, 3, none⟩ = some (.int .i64 m.jo) := M3.all 3 _ rfl
      have c4 : w3.cell? ⟨w.heap.size, 4, none⟩ = some (.int .i64 m.ba) := M3.all 4 _ rfl
      have c5 : w3.cell? ⟨w.heap.size, 5, none⟩ = some (.int .i64 m.ix) := M3.all 5 _ rfl
      have c6 : w3.cell? ⟨w.heap.size, 6, none⟩ = some (.int .i64 m.co) := M3.all 6 _ rfl
      have c7 : w3.cell? ⟨w.heap.size, 7, none⟩ = some (.int .i64 m.rc) := M3.all 7 _ rfl
      have c8 : w3.cell? ⟨w.heap.size, 8, none⟩ = some (.int .u64 (m.rb : Int)) := M3.all 8 _ rfl
      have c9 : w3.cell? ⟨w.heap.size, 9, none⟩ = some (.string m.tx) := M3.all 9 _ rfl
      have c10 : w3.cell? ⟨w.heap.size, 10, none⟩ = some (.string m.pr) := M3.all 10 _ rfl
      have g0 : w3.cell? ⟨w.heap.size + 1, 0, none⟩ = some (.int .i64 n.k) := N3.all 0 _ rfl
      have g1 : w3.cell? ⟨w.heap.size + 1, 1, none⟩ = some (.int .i64 n.se) := N3.all 1 _ rfl
      have g2 : w3.cell? ⟨w.heap.size + 1, 2, none⟩ = some (.int .i64 n.nu) := N3.all 2 _ rfl
      have g3 : w3.cell? ⟨w.heap.size + 1, 3, none⟩ = some (.int .i64 n.jo) := N3.all 3 _ rfl
      have g4 : w3.cell? ⟨w.heap.size + 1, 4, none⟩ = some (.int .i64 n.ba) := N3.all 4 _ rfl
      have g5 : w3.cell? ⟨w.heap.size + 1, 5, none⟩ = some (.int .i64 n.ix) := N3.all 5 _ rfl
      have g6 : w3.cell? ⟨w.heap.size + 1, 6, none⟩ = some (.int .i64 n.co) := N3.all 6 _ rfl
      have g7 : w3.cell? ⟨w.heap.size + 1, 7, none⟩ = some (.int .i64 n.rc) := N3.all 7 _ rfl
      have g8 : w3.cell? ⟨w.heap.size + 1, 8, none⟩ = some (.int .u64 (n.rb : Int)) := N3.all 8 _ rfl
      have g9 : w3.cell? ⟨w.heap.size + 1, 9, none⟩ = some (.string n.tx) := N3.all 9 _ rfl
      have g10 : w3.cell? ⟨w.heap.size + 1, 10, none⟩ = some (.string n.pr) := N3.all 10 _ rfl
      have HB3 := hide B3
      clear M3 N3 B3 hEB
      cases DD
      · go_wp2_with fail
        go_quiet (fail)
        go_wp2
        go_ret
        exact ⟨rfl, ⟨HB3.out.os, HB3.out.tape, HB3.out.output, HB3.out.size, HB3.out.block⟩⟩
      · go_wp2_with fail
        go_quiet (fail)
        go_wp2
        go_ret
        exact ⟨rfl, ⟨HB3.out.os, HB3.out.tape, HB3.out.output, HB3.out.size, HB3.out.block⟩⟩
    · have b1 : ((Wr.check n : Int) != 0) = true := by simp; omega
      have b2 := encB_full hc
      rw [hc] at HE
      generalize encB m = EB at *
      generalize encB n = EC at *
      generalize Wr.check n = F at *
      unfold msgC at HE HF HSt ⊢
      go_enter Try.func8, Try.ntmps8
      go_wp2_with fail
      refine (HE.out _).mono ?_
      rintro e w1 ⟨rfl, hb1⟩
      have H1 := hide (below_in2 HSt.out hb1)
      clear hb1
      have M1 := (mg_two H1.out).2.1
      have a0 : w1.cell? ⟨w.heap.size + 1, 0, none⟩ = some (.int .i64 n.k) := M1.all 0 _ rfl
      have a1 : w1.cell? ⟨w.heap.size + 1, 1, none⟩ = some (.int .i64 n.se) := M1.all 1 _ rfl
      have a2 : w1.cell? ⟨w.heap.size + 1, 2, none⟩ = some (.int .i64 n.nu) := M1.all 2 _ rfl
      have a3 : w1.cell? ⟨w.heap.size + 1, 3, none⟩ = some (.int .i64 n.jo) := M1.all 3 _ rfl
      have a4 : w1.cell? ⟨w.heap.size + 1, 4, none⟩ = some (.int .i64 n.ba) := M1.all 4 _ rfl
      have a5 : w1.cell? ⟨w.heap.size + 1, 5, none⟩ = some (.int .i64 n.ix) := M1.all 5 _ rfl
      have a6 : w1.cell? ⟨w.heap.size + 1, 6, none⟩ = some (.int .i64 n.co) := M1.all 6 _ rfl
      have a7 : w1.cell? ⟨w.heap.size + 1, 7, none⟩ = some (.int .i64 n.rc) := M1.all 7 _ rfl
      have a8 : w1.cell? ⟨w.heap.size + 1, 8, none⟩ = some (.int .u64 (n.rb : Int)) := M1.all 8 _ rfl
      have a9 : w1.cell? ⟨w.heap.size + 1, 9, none⟩ = some (.string n.tx) := M1.all 9 _ rfl
      have a10 : w1.cell? ⟨w.heap.size + 1, 10, none⟩ = some (.string n.pr) := M1.all 10 _ rfl
      clear M1
      go_wp2_with fail
      refine (HF.out _).mono ?_
      rintro e w2 ⟨rfl, hb2⟩
      have H2 := hide (below_in2 H1.out hb2)
      clear hb2 a0 a1 a2 a3 a4 a5 a6 a7 a8 a9 a10
      go_wp2_with fail
      refine (HA.out _).mono ?_
      rintro e w3 ⟨rfl, hb3⟩
      have H3 := hide (below_in2 H2.out hb3)
      clear hb3
      go_wp2
      go_ret
      exact ⟨rfl, (mg_two H3.out).2.2⟩
  · have b0 : ((Wr.check m : Int) != 0) = true := by simp; omega
    by_cases hd : Wr.check n = 0
    · have b2 := encB_full hd
      rw [hd] at HF
      generalize encB m = EB at *
      generalize encB n = EC at *
      generalize Wr.check m = F at *
      unfold msgC at HE HF HSt ⊢
      go_enter Try.func8, Try.ntmps8
      go_wp2_with fail
      refine (HE.out _).mono ?_
      rintro e w1 ⟨rfl, hb1⟩
      have H1 := hide (below_in2 HSt.out hb1)
      clear hb1
      have M1 := (mg_two H1.out).2.1
      have a0 : w1.cell? ⟨w.heap.size + 1, 0, none⟩ = some (.int .i64 n.k) := M1.all 0 _ rfl
      have a1 : w1.cell? ⟨w.heap.size + 1, 1, none⟩ = some (.int .i64 n.se) := M1.all 1 _ rfl
      have a2 : w1.cell? ⟨w.heap.size + 1, 2, none⟩ = some (.int .i64 n.nu) := M1.all 2 _ rfl
      have a3 : w1.cell? ⟨w.heap.size + 1, 3, none⟩ = some (.int .i64 n.jo) := M1.all 3 _ rfl
      have a4 : w1.cell? ⟨w.heap.size + 1, 4, none⟩ = some (.int .i64 n.ba) := M1.all 4 _ rfl
      have a5 : w1.cell? ⟨w.heap.size + 1, 5, none⟩ = some (.int .i64 n.ix) := M1.all 5 _ rfl
      have a6 : w1.cell? ⟨w.heap.size + 1, 6, none⟩ = some (.int .i64 n.co) := M1.all 6 _ rfl
      have a7 : w1.cell? ⟨w.heap.size + 1, 7, none⟩ = some (.int .i64 n.rc) := M1.all 7 _ rfl
      have a8 : w1.cell? ⟨w.heap.size + 1, 8, none⟩ = some (.int .u64 (n.rb : Int)) := M1.all 8 _ rfl
      have a9 : w1.cell? ⟨w.heap.size + 1, 9, none⟩ = some (.string n.tx) := M1.all 9 _ rfl
      have a10 : w1.cell? ⟨w.heap.size + 1, 10, none⟩ = some (.string n.pr) := M1.all 10 _ rfl
      clear M1
      go_wp2_with fail
      refine (HF.out _).mono ?_
      rintro e w2 ⟨rfl, hb2⟩
      have H2 := hide (below_in2 H1.out hb2)
      clear hb2 a0 a1 a2 a3 a4 a5 a6 a7 a8 a9 a10
      go_wp2_with fail
      refine (HA.out _).mono ?_
      rintro e w3 ⟨rfl, hb3⟩
      have H3 := hide (below_in2 H2.out hb3)
      clear hb3
      go_wp2
      go_ret
      exact ⟨rfl, (mg_two H3.out).2.2⟩
    · have b1 : ((Wr.check n : Int) != 0) = true := by simp; omega
      generalize encB m = EB at *
      generalize encB n = EC at *
      generalize Wr.check m = F at *
      generalize Wr.check n = F' at *
      unfold msgC at HE HF HSt ⊢
      go_enter Try.func8, Try.ntmps8
      go_wp2_with fail
      refine (HE.out _).mono ?_
      rintro e w1 ⟨rfl, hb1⟩
      have H1 := hide (below_in2 HSt.out hb1)
      clear hb1
      have M1 := (mg_two H1.out).2.1
      have a0 : w1.cell? ⟨w.heap.size + 1, 0, none⟩ = some (.int .i64 n.k) := M1.all 0 _ rfl
      have a1 : w1.cell? ⟨w.heap.size + 1, 1, none⟩ = some (.int .i64 n.se) := M1.all 1 _ rfl
      have a2 : w1.cell? ⟨w.heap.size + 1, 2, none⟩ = some (.int .i64 n.nu) := M1.all 2 _ rfl
      have a3 : w1.cell? ⟨w.heap.size + 1, 3, none⟩ = some (.int .i64 n.jo) := M1.all 3 _ rfl
      have a4 : w1.cell? ⟨w.heap.size + 1, 4, none⟩ = some (.int .i64 n.ba) := M1.all 4 _ rfl
      have a5 : w1.cell? ⟨w.heap.size + 1, 5, none⟩ = some (.int .i64 n.ix) := M1.all 5 _ rfl
      have a6 : w1.cell? ⟨w.heap.size + 1, 6, none⟩ = some (.int .i64 n.co) := M1.all 6 _ rfl
      have a7 : w1.cell? ⟨w.heap.size + 1, 7, none⟩ = some (.int .i64 n.rc) := M1.all 7 _ rfl
      have a8 : w1.cell? ⟨w.heap.size + 1, 8, none⟩ = some (.int .u64 (n.rb : Int)) := M1.all 8 _ rfl
      have a9 : w1.cell? ⟨w.heap.size + 1, 9, none⟩ = some (.string n.tx) := M1.all 9 _ rfl
      have a10 : w1.cell? ⟨w.heap.size + 1, 10, none⟩ = some (.string n.pr) := M1.all 10 _ rfl
      clear M1
      go_wp2_with fail
      refine (HF.out _).mono ?_
      rintro e w2 ⟨rfl, hb2⟩
      have H2 := hide (below_in2 H1.out hb2)
      clear hb2 a0 a1 a2 a3 a4 a5 a6 a7 a8 a9 a10
      go_wp2_with fail
      refine (HA.out _).mono ?_
      rintro e w3 ⟨rfl, hb3⟩
      have H3 := hide (below_in2 H2.out hb3)
      clear hb3
      go_wp2
      go_ret
      exact ⟨rfl, (mg_two H3.out).2.2⟩
end Go.Proofs.Ytmmnjkbdldaniaa
