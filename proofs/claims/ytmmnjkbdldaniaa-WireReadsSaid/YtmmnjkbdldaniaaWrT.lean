import Derived.Test.YtmmnjkbdldaniaaWrP
namespace Go.Proofs.Ytmmnjkbdldaniaa
open Go.RowKit Go.Shelf
open Wr (Ms V L)

theorem encB_dec {b : ByteArray} {n : Ms} (h : Wr.decode limP b = (n, 0)) : encB n = b ∧ Wr.check n = 0 ∧ n.rb < 18446744073709551616 := by
  obtain ⟨h1, h2, h3, h4⟩ := Wr.decode_form h
  refine ⟨?_, h2, h4⟩
  unfold encB
  rw [if_pos h2, ← h3]
theorem dec_encB {m : Ms} (hc : Wr.check m = 0) (hb : m.rb < 18446744073709551616) : Wr.decode limP (encB m) = (m, 0) ∧ (encB m).size ≤ 2048 := by
  have hl := Wr.bytes_len hc
  unfold encB
  rw [if_pos hc]
  have hs : (⟨(Wr.bytes m).toArray⟩ : ByteArray).size ≤ 2048 := by show (Wr.bytes m).toArray.size ≤ _; simpa using hl
  exact ⟨Wr.decode_there lim_p hb hc hs (by simp), hs⟩
theorem b_out {w W : World} {o : Obj} (h : Below (w.heap.size + 1) (w.alloc o) W) : Below w.heap.size w W := (below_alloc w o).trans (h.mono (by omega))
theorem mg_in {w W : World} {m : Ms} (h : Below (w.heap.size + 1) (w.alloc (.cells (msgC m) 26)) W) : Mg W w.heap.size m := (h.block _ (by omega)).trans (heap_alloc_new w _)
theorem below_in {w W W' : World} {o : Obj} (h : Below (w.heap.size + 1) (w.alloc o) W) (h' : Below W.heap.size W W') : Below (w.heap.size + 1) (w.alloc o) W' := h.trans (h'.mono (by have := h.size; simp at this; omega))
set_option maxRecDepth 8000 in
set_option maxHeartbeats 4000000 in
theorem wireBack_walk (m : Ms) (hrb : m.rb < 18446744073709551616) (b : ByteArray) (hbs : b.size ≤ 140737488351232) (w : World) : Calls Try.prog 6 #[.agg (msgC m), .string b] w fun e w' => e = .returned (.bool true) ∧ Below w.heap.size w w' := by
  have HE := hide (encode_any m hrb)
  have HC := hide (check_any m hrb)
  have HA := hide awake_any
  have HD := hide fun W => decode_any b W (by omega)
  have HSt : Hid (Below (w.heap.size + 1) (w.alloc (.cells (msgC m) 26)) (w.alloc (.cells (msgC m) 26))) := Below.refl _ _
  by_cases hc : Wr.check m = 0
  · obtain ⟨d1, d2⟩ := dec_encB hc hrb
    have HDe := hide fun W => decode_any (encB m) W (by omega)
    rw [d1] at HDe
    rw [hc] at HE HC
    have hq : ∀ w, (binOp .neq 26 (.agg #[.int .i64 m.k, .int .i64 m.se, .int .i64 m.nu, .int .i64 m.jo, .int .i64 m.ba, .int .i64 m.ix, .int .i64 m.co, .int .i64 m.rc, .int .u64 (m.rb : Int), .string m.tx, .string m.pr]) (.agg #[.int .i64 m.k, .int .i64 m.se, .int .i64 m.nu, .int .i64 m.jo, .int .i64 m.ba, .int .i64 m.ix, .int .i64 m.co, .int .i64 m.rc, .int .u64 (m.rb : Int), .string m.tx, .string m.pr])).run Try.prog w = .ok (.bool (!decide (m = m))) w := neq_msg m m
    rw [decide_eq_true (rfl : m = m)] at hq
    have hsz : decide (((encB m).size : Int) > 2048) = false := by simp; omega
    generalize encB m = EB at *
    unfold msgC at HE HC HDe HSt ⊢
    go_enter Try.func6, Try.ntmps6
    go_wp2_with fail
    refine (HE.out _).mono ?_
    rintro e w1 ⟨rfl, hb1⟩
    have H1 := hide (below_in HSt.out hb1)
    clear hb1
    go_wp2_with fail
    refine (HA.out _).mono ?_
    rintro e w2 ⟨rfl, hb2⟩
    have H2 := hide (below_in H1.out hb2)
    clear hb2
    have M2 := mg_in H2.out
    have a0 : w2.cell? ⟨w.heap.size, 0, none⟩ = some (.int .i64 m.k) := M2.all 0 _ rfl
    have a1 : w2.cell? ⟨w.heap.size, 1, none⟩ = some (.int .i64 m.se) := M2.all 1 _ rfl
    have a2 : w2.cell? ⟨w.heap.size, 2, none⟩ = some (.int .i64 m.nu) := M2.all 2 _ rfl
    have a3 : w2.cell? ⟨w.heap.size, 3, none⟩ = some (.int .i64 m.jo) := M2.all 3 _ rfl
    have a4 : w2.cell? ⟨w.heap.size, 4, none⟩ = some (.int .i64 m.ba) := M2.all 4 _ rfl
    have a5 : w2.cell? ⟨w.heap.size, 5, none⟩ = some (.int .i64 m.ix) := M2.all 5 _ rfl
    have a6 : w2.cell? ⟨w.heap.size, 6, none⟩ = some (.int .i64 m.co) := M2.all 6 _ rfl
    have a7 : w2.cell? ⟨w.heap.size, 7, none⟩ = some (.int .i64 m.rc) := M2.all 7 _ rfl
    have a8 : w2.cell? ⟨w.heap.size, 8, none⟩ = some (.int .u64 (m.rb : Int)) := M2.all 8 _ rfl
    have a9 : w2.cell? ⟨w.heap.size, 9, none⟩ = some (.string m.tx) := M2.all 9 _ rfl
    have a10 : w2.cell? ⟨w.heap.size, 10, none⟩ = some (.string m.pr) := M2.all 10 _ rfl
    clear M2
    go_wp2_with fail
    refine (HC.out _).mono ?_
    rintro e w3 ⟨rfl, hb3⟩
    have H3 := hide (below_in H2.out hb3)
    clear hb3 a0 a1 a2 a3 a4 a5 a6 a7 a8 a9 a10
    go_wp2_with fail
    refine (HDe.out _).mono ?_
    rintro e w4 ⟨rfl, hb4⟩
    have H4 := hide (below_in H3.out hb4)
    clear hb4
    have H4a := hide (below_in H4.out (below_alloc w4 (.cells (msgC m) 26)))
    have M4 := mg_in H4a.out
    have e0 : (w4.alloc (.cells #[.int .i64 m.k, .int .i64 m.se, .int .i64 m.nu, .int .i64 m.jo, .int .i64 m.ba, .int .i64 m.ix, .int .i64 m.co, .int .i64 m.rc, .int .u64 (m.rb : Int), .string m.tx, .string m.pr] 26)).cell? ⟨w.heap.size, 0, none⟩ = some (.int .i64 m.k) := M4.all 0 _ rfl
    have e1 : (w4.alloc (.cells #[.int .i64 m.k, .int .i64 m.se, .int .i64 m.nu, .int .i64 m.jo, .int .i64 m.ba, .int .i64 m.ix, .int .i64 m.co, .int .i64 m.rc, .int .u64 (m.rb : Int), .string m.tx, .string m.pr] 26)).cell? ⟨w.heap.size, 1, none⟩ = some (.int .i64 m.se) := M4.all 1 _ rfl
    have e2 : (w4.alloc (.cells #[.int .i64 m.k, .int .i64 m.se, .int .i64 m.nu, .int .i64 m.jo, .int .i64 m.ba, .int .i64 m.ix, .int .i64 m.co, .int .i64 m.rc, .int .u64 (m.rb : Int), .string m.tx, .string m.pr] 26)).cell? ⟨w.heap.size, 2, none⟩ = some (.int .i64 m.nu) := M4.all 2 _ rfl
    have e3 : (w4.alloc (.cells #[.int .i64 m.k, .int .i64 m.se, .int .i64 m.nu, .int .i64 m.jo, .int .i64 m.ba, .int .i64 m.ix, .int .i64 m.co, .int .i64 m.rc, .int .u64 (m.rb : Int), .string m.tx, .string m.pr] 26)).cell? ⟨w.heap.size, 3, none⟩ = some (.int .i64 m.jo) := M4.all 3 _ rfl
    have e4 : (w4.alloc (.cells #[.int .i64 m.k, .int .i64 m.se, .int .i64 m.nu, .int .i64 m.jo, .int .i64 m.ba, .int .i64 m.ix, .int .i64 m.co, .int .i64 m.rc, .int .u64 (m.rb : Int), .string m.tx, .string m.pr] 26)).cell? ⟨w.heap.size, 4, none⟩ = some (.int .i64 m.ba) := M4.all 4 _ rfl
    have e5 : (w4.alloc (.cells #[.int .i64 m.k, .int .i64 m.se, .int .i64 m.nu, .int .i64 m.jo, .int .i64 m.ba, .int .i64 m.ix, .int .i64 m.co, .int .i64 m.rc, .int .u64 (m.rb : Int), .string m.tx, .string m.pr] 26)).cell? ⟨w.heap.size, 5, none⟩ = some (.int .i64 m.ix) := M4.all 5 _ rfl
    have e6 : (w4.alloc (.cells #[.int .i64 m.k, .int .i64 m.se, .int .i64 m.nu, .int .i64 m.jo, .int .i64 m.ba, .int .i64 m.ix, .int .i64 m.co, .int .i64 m.rc, .int .u64 (m.rb : Int), .string m.tx, .string m.pr] 26)).cell? ⟨w.heap.size, 6, none⟩ = some (.int .i64 m.co) := M4.all 6 _ rfl
    have e7 : (w4.alloc (.cells #[.int .i64 m.k, .int .i64 m.se, .int .i64 m.nu, .int .i64 m.jo, .int .i64 m.ba, .int .i64 m.ix, .int .i64 m.co, .int .i64 m.rc, .int .u64 (m.rb : Int), .string m.tx, .string m.pr] 26)).cell? ⟨w.heap.size, 7, none⟩ = some (.int .i64 m.rc) := M4.all 7 _ rfl
    have e8 : (w4.alloc (.cells #[.int .i64 m.k, .int .i64 m.se, .int .i64 m.nu, .int .i64 m.jo, .int .i64 m.ba, .int .i64 m.ix, .int .i64 m.co, .int .i64 m.rc, .int .u64 (m.rb : Int), .string m.tx, .string m.pr] 26)).cell? ⟨w.heap.size, 8, none⟩ = some (.int .u64 (m.rb : Int)) := M4.all 8 _ rfl
    have e9 : (w4.alloc (.cells #[.int .i64 m.k, .int .i64 m.se, .int .i64 m.nu, .int .i64 m.jo, .int .i64 m.ba, .int .i64 m.ix, .int .i64 m.co, .int .i64 m.rc, .int .u64 (m.rb : Int), .string m.tx, .string m.pr] 26)).cell? ⟨w.heap.size, 9, none⟩ = some (.string m.tx) := M4.all 9 _ rfl
    have e10 : (w4.alloc (.cells #[.int .i64 m.k, .int .i64 m.se, .int .i64 m.nu, .int .i64 m.jo, .int .i64 m.ba, .int .i64 m.ix, .int .i64 m.co, .int .i64 m.rc, .int .u64 (m.rb : Int), .string m.tx, .string m.pr] 26)).cell? ⟨w.heap.size, 10, none⟩ = some (.string m.pr) := M4.all 10 _ rfl
    clear M4
    unfold msgC at H4a
    dsimp only
    go_wp2_with fail
    refine (HD.out _).mono ?_
    rintro e w5 ⟨rfl, hb5⟩
    have H5 := hide (below_in H4a.out hb5)
    clear hb5
    rcases Wr.decode_or limP b with ⟨_, hd⟩ | ⟨_, hd | ⟨n, hd⟩⟩
    · rw [hd]
      unfold msgC Wr.zM Wr.e0
      dsimp only
      go_wp2
      go_ret
      exact ⟨rfl, b_out (H5.out.alloc (by have := H5.out.size; simp at this; omega) _)⟩
    · rw [hd]
      unfold msgC Wr.zM Wr.e0
      dsimp only
      go_wp2
      go_ret
      exact ⟨rfl, b_out (H5.out.alloc (by have := H5.out.size; simp at this; omega) _)⟩
    · obtain ⟨n1, n2, n3⟩ := encB_dec hd
      have HE5 := hide (encode_any n n3)
      have HC5 := hide (check_any n n3)
      rw [n1, n2] at HE5
      rw [n2] at HC5
      have H5a := hide (below_in H5.out (below_alloc w5 (.cells (msgC n) 26)))
      have HMn : Hid (Mg (w5.alloc (.cells (msgC n) 26)) w5.heap.size n) := heap_alloc_new w5 _
      rw [hd]
      unfold msgC at HE5 HC5 ⊢
      dsimp only
      go_wp2_with fail
      refine (HE5.out _).mono ?_
      rintro e w6 ⟨rfl, hb6⟩
      have H6 := hide (below_in H5a.out hb6)
      have M6 := HMn.out.block (hb6.block _ HMn.out.lt)
      have c0 : w6.cell? ⟨w5.heap.size, 0, none⟩ = some (.int .i64 n.k) := M6.all 0 _ rfl
      have c1 : w6.cell? ⟨w5.heap.size, 1, none⟩ = some (.int .i64 n.se) := M6.all 1 _ rfl
      have c2 : w6.cell? ⟨w5.heap.size, 2, none⟩ = some (.int .i64 n.nu) := M6.all 2 _ rfl
      have c3 : w6.cell? ⟨w5.heap.size, 3, none⟩ = some (.int .i64 n.jo) := M6.all 3 _ rfl
      have c4 : w6.cell? ⟨w5.heap.size, 4, none⟩ = some (.int .i64 n.ba) := M6.all 4 _ rfl
      have c5 : w6.cell? ⟨w5.heap.size, 5, none⟩ = some (.int .i64 n.ix) := M6.all 5 _ rfl
      have c6 : w6.cell? ⟨w5.heap.size, 6, none⟩ = some (.int .i64 n.co) := M6.all 6 _ rfl
      have c7 : w6.cell? ⟨w5.heap.size, 7, none⟩ = some (.int .i64 n.rc) := M6.all 7 _ rfl
      have c8 : w6.cell? ⟨w5.heap.size, 8, none⟩ = some (.int .u64 (n.rb : Int)) := M6.all 8 _ rfl
      have c9 : w6.cell? ⟨w5.heap.size, 9, none⟩ = some (.string n.tx) := M6.all 9 _ rfl
      have c10 : w6.cell? ⟨w5.heap.size, 10, none⟩ = some (.string n.pr) := M6.all 10 _ rfl
      clear hb6 M6
      go_wp2_with fail
      refine (HC5.out _).mono ?_
      rintro e w7 ⟨rfl, hb7⟩
      have H7 := hide (below_in H6.out hb7)
      clear hb7
      go_wp2_with fail
      go_ret
      exact ⟨rfl, b_out H7.out⟩
  · have hne : ((Wr.check m : Int) == 0) = false := by simp; omega
    have hB : encB m = ⟨#[]⟩ := if_neg hc
    rw [hB] at HE
    generalize Wr.check m = E at *
    unfold msgC at HE HC HSt ⊢
    go_enter Try.func6, Try.ntmps6
    go_wp2_with fail
    refine (HE.out _).mono ?_
    rintro e w1 ⟨rfl, hb1⟩
    have H1 := hide (below_in HSt.out hb1)
    clear hb1
    go_wp2_with fail
    refine (HA.out _).mono ?_
    rintro e w2 ⟨rfl, hb2⟩
    have H2 := hide (below_in H1.out hb2)
    clear hb2
    have M2 := mg_in H2.out
    have a0 : w2.cell? ⟨w.heap.size, 0, none⟩ = some (.int .i64 m.k) := M2.all 0 _ rfl
    have a1 : w2.cell? ⟨w.heap.size, 1, none⟩ = some (.int .i64 m.se) := M2.all 1 _ rfl
    have a2 : w2.cell? ⟨w.heap.size, 2, none⟩ = some (.int .i64 m.nu) := M2.all 2 _ rfl
    have a3 : w2.cell? ⟨w.heap.size, 3, none⟩ = some (.int .i64 m.jo) := M2.all 3 _ rfl
    have a4 : w2.cell? ⟨w.heap.size, 4, none⟩ = some (.int .i64 m.ba) := M2.all 4 _ rfl
    have a5 : w2.cell? ⟨w.heap.size, 5, none⟩ = some (.int .i64 m.ix) := M2.all 5 _ rfl
    have a6 : w2.cell? ⟨w.heap.size, 6, none⟩ = some (.int .i64 m.co) := M2.all 6 _ rfl
    have a7 : w2.cell? ⟨w.heap.size, 7, none⟩ = some (.int .i64 m.rc) := M2.all 7 _ rfl
    have a8 : w2.cell? ⟨w.heap.size, 8, none⟩ = some (.int .u64 (m.rb : Int)) := M2.all 8 _ rfl
    have a9 : w2.cell? ⟨w.heap.size, 9, none⟩ = some (.string m.tx) := M2.all 9 _ rfl
    have a10 : w2.cell? ⟨w.heap.size, 10, none⟩ = some (.string m.pr) := M2.all 10 _ rfl
    clear M2
    go_wp2_with fail
    refine (HC.out _).mono ?_
    rintro e w3 ⟨rfl, hb3⟩
    have H3 := hide (below_in H2.out hb3)
    clear hb3 a0 a1 a2 a3 a4 a5 a6 a7 a8 a9 a10
    go_wp2_with fail
    refine (HD.out _).mono ?_
    rintro e w5 ⟨rfl, hb5⟩
    have H5 := hide (below_in H3.out hb5)
    clear hb5
    rcases Wr.decode_or limP b with ⟨_, hd⟩ | ⟨_, hd | ⟨n, hd⟩⟩
    · rw [hd]
      unfold msgC Wr.zM Wr.e0
      dsimp only
      go_wp2
      go_ret
      exact ⟨rfl, b_out (H5.out.alloc (by have := H5.out.size; simp at this; omega) _)⟩
    · rw [hd]
      unfold msgC Wr.zM Wr.e0
      dsimp only
      go_wp2
      go_ret
      exact ⟨rfl, b_out (H5.out.alloc (by have := H5.out.size; simp at this; omega) _)⟩
    · obtain ⟨n1, n2, n3⟩ := encB_dec hd
      have HE5 := hide (encode_any n n3)
      have HC5 := hide (check_any n n3)
      rw [n1, n2] at HE5
      rw [n2] at HC5
      have H5a := hide (below_in H5.out (below_alloc w5 (.cells (msgC n) 26)))
      have HMn : Hid (Mg (w5.alloc (.cells (msgC n) 26)) w5.heap.size n) := heap_alloc_new w5 _
      rw [hd]
      unfold msgC at HE5 HC5 ⊢
      dsimp only
      go_wp2_with fail
      refine (HE5.out _).mono ?_
      rintro e w6 ⟨rfl, hb6⟩
      have H6 := hide (below_in H5a.out hb6)
      have M6 := HMn.out.block (hb6.block _ HMn.out.lt)
      have c0 : w6.cell? ⟨w5.heap.size, 0, none⟩ = some (.int .i64 n.k) := M6.all 0 _ rfl
      have c1 : w6.cell? ⟨w5.heap.size, 1, none⟩ = some (.int .i64 n.se) := M6.all 1 _ rfl
      have c2 : w6.cell? ⟨w5.heap.size, 2, none⟩ = some (.int .i64 n.nu) := M6.all 2 _ rfl
      have c3 : w6.cell? ⟨w5.heap.size, 3, none⟩ = some (.int .i64 n.jo) := M6.all 3 _ rfl
      have c4 : w6.cell? ⟨w5.heap.size, 4, none⟩ = some (.int .i64 n.ba) := M6.all 4 _ rfl
      have c5 : w6.cell? ⟨w5.heap.size, 5, none⟩ = some (.int .i64 n.ix) := M6.all 5 _ rfl
      have c6 : w6.cell? ⟨w5.heap.size, 6, none⟩ = some (.int .i64 n.co) := M6.all 6 _ rfl
      have c7 : w6.cell? ⟨w5.heap.size, 7, none⟩ = some (.int .i64 n.rc) := M6.all 7 _ rfl
      have c8 : w6.cell? ⟨w5.heap.size, 8, none⟩ = some (.int .u64 (n.rb : Int)) := M6.all 8 _ rfl
      have c9 : w6.cell? ⟨w5.heap.size, 9, none⟩ = some (.string n.tx) := M6.all 9 _ rfl
      have c10 : w6.cell? ⟨w5.heap.size, 10, none⟩ = some (.string n.pr) := M6.all 10 _ rfl
      clear hb6 M6
      go_wp2_with fail
      refine (HC5.out _).mono ?_
      rintro e w7 ⟨rfl, hb7⟩
      have H7 := hide (below_in H6.out hb7)
      clear hb7
      go_wp2_with fail
      go_ret
      exact ⟨rfl, b_out H7.out⟩
end Go.Proofs.Ytmmnjkbdldaniaa
