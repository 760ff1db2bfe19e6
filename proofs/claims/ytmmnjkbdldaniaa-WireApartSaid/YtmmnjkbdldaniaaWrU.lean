import Derived.Test.YtmmnjkbdldaniaaWrT
namespace Go.Proofs.Ytmmnjkbdldaniaa
open Go.RowKit Go.Shelf
open Wr (Ms V L)

theorem encB_list {m : Ms} (hc : Wr.check m = 0) : (encB m).data.toList = Wr.bytes m := by unfold encB; rw [if_pos hc]
theorem cut_dec {m : Ms} (hc : Wr.check m = 0) (hb : m.rb < 18446744073709551616) {k : Nat} (hk : k < (encB m).size) : Wr.decode limP ((encB m).extract 0 k) = (Wr.zM 0, 72) := by
  obtain ⟨_, d2⟩ := dec_encB hc hb
  have hl : ((encB m).extract 0 k).data.toList = (Wr.bytes m).take k := by
    have := extract_list (encB m) 0 k
    rw [Nat.zero_add] at this
    rw [this, rest, List.drop_zero, encB_list hc]
  have hs : ((encB m).extract 0 k).size ≤ 2048 := by rw [Wr.size_list, hl, List.length_take]; rw [Wr.size_list, encB_list hc] at d2; omega
  rcases Wr.decode_or limP ((encB m).extract 0 k) with ⟨h, _⟩ | ⟨_, h | ⟨n, h⟩⟩
  · omega
  · exact h
  · obtain ⟨_, f2, f3, f4⟩ := Wr.decode_form h
    have e : Wr.bytes m = Wr.bytes n ++ (Wr.bytes m).drop k := by rw [← f3, hl, List.take_append_drop]
    have hz := (Wr.bytes_apart hc f2 hb f4 e).2
    have hlen := congrArg List.length hz
    rw [List.length_drop] at hlen
    rw [Wr.size_list, encB_list hc] at hk
    simp at hlen
    omega
theorem more_dec {m : Ms} (hc : Wr.check m = 0) (hb : m.rb < 18446744073709551616) {x : ByteArray} (hx : x.size ≠ 0) (hs : (encB m).size + x.size ≤ 2048) : Wr.decode limP (encB m ++ x) = (Wr.zM 0, 72) := by
  have hl : (encB m ++ x).data.toList = Wr.bytes m ++ x.data.toList := by rw [← encB_list hc]; simp
  have hs' : (encB m ++ x).size ≤ 2048 := by rw [Wr.size_list, hl, List.length_append, ← encB_list hc, ← Wr.size_list, ← Wr.size_list]; exact hs
  rcases Wr.decode_or limP (encB m ++ x) with ⟨h, _⟩ | ⟨_, h | ⟨n, h⟩⟩
  · omega
  · exact h
  · obtain ⟨_, f2, f3, f4⟩ := Wr.decode_form h
    have e : Wr.bytes n = Wr.bytes m ++ x.data.toList := by rw [← f3, hl]
    have hz := (Wr.bytes_apart f2 hc f4 hb e).2
    rw [Wr.size_list, hz] at hx
    exact absurd rfl hx
set_option maxRecDepth 8000 in
set_option maxHeartbeats 4000000 in
theorem wireEnds_walk (m : Ms) (hrb : m.rb < 18446744073709551616) (cut : Int) (hcut : -9223372036854775808 ≤ cut) (hcut' : cut ≤ 9223372036854775807) (x : ByteArray) (hbs : x.size ≤ 140737488351232) (w : World) : Calls Try.prog 7 #[.agg (msgC m), .int .i64 cut, .string x] w fun e w' => e = .returned (.bool true) ∧ Below w.heap.size w w' := by
  have HE := hide (encode_any m hrb)
  have HA := hide awake_any
  have HSt : Hid (Below (w.heap.size + 1) (w.alloc (.cells (msgC m) 26)) (w.alloc (.cells (msgC m) 26))) := Below.refl _ _
  by_cases hc : Wr.check m = 0
  · obtain ⟨d1, d2⟩ := dec_encB hc hrb
    rw [hc] at HE
    have hmore : (x.toList.isEmpty = true) ∨ (x.toList.isEmpty = false ∧ decide ((x.size : Int) > 2048 - ((encB m).size : Int)) = true) ∨ (x.toList.isEmpty = false ∧ decide ((x.size : Int) > 2048 - ((encB m).size : Int)) = false ∧ Hid (∀ W, Calls Try.prog 14 #[.string (encB m ++ x)] W fun e w' => e = .returned (.tuple #[.agg (msgC (Wr.zM 0)), .int .i64 ((72 : Nat) : Int)]) ∧ Below W.heap.size W w')) := by
      by_cases h0 : x.size = 0
      · left; rw [tx_empty]; exact decide_eq_true h0
      · right
        have e0 : x.toList.isEmpty = false := by rw [tx_empty]; exact decide_eq_false h0
        by_cases h1 : (x.size : Int) > 2048 - ((encB m).size : Int)
        · exact .inl ⟨e0, decide_eq_true h1⟩
        · refine .inr ⟨e0, decide_eq_false h1, fun W => ?_⟩
          have := decode_any (encB m ++ x) W (by rw [ByteArray.size_append]; omega)
          rw [more_dec hc hrb h0 (by omega)] at this
          exact this
    have hcuts : (decide (cut ≥ 0) = false) ∨ (decide (cut ≥ 0) = true ∧ decide (cut < ((encB m).size : Int)) = false) ∨ (decide (cut ≥ 0) = true ∧ decide (cut < ((encB m).size : Int)) = true ∧ ∃ k : Nat, cut = (k : Int) ∧ k < (encB m).size ∧ Hid (∀ W, Calls Try.prog 14 #[.string ((encB m).extract 0 k)] W fun e w' => e = .returned (.tuple #[.agg (msgC (Wr.zM 0)), .int .i64 ((72 : Nat) : Int)]) ∧ Below W.heap.size W w')) := by
      by_cases h0 : cut ≥ 0
      · right
        by_cases h1 : cut < ((encB m).size : Int)
        · right
          refine ⟨decide_eq_true h0, decide_eq_true h1, cut.toNat, by omega, by omega, fun W => ?_⟩
          have := decode_any ((encB m).extract 0 cut.toNat) W (by rw [ByteArray.size_extract]; omega)
          rw [cut_dec hc hrb (by omega)] at this
          exact this
        · exact .inl ⟨decide_eq_true h0, decide_eq_false h1⟩
      · exact .inl (decide_eq_false h0)
    have hadd : ∀ W : World, (Op.stringOp .add (encB m) x).run Try.prog W = .ok (.string (encB m ++ x)) W := fun W => run_string_add_sum W _ _ (by omega)
    generalize encB m ++ x = EX at *
    generalize encB m = EB at *
    unfold msgC at HE HSt ⊢
    rcases hcuts with b3 | ⟨b3, b4⟩ | ⟨b3, b4, k, rfl, hk, HK⟩
    · go_enter Try.func7, Try.ntmps7
      go_wp2_with fail
      refine (HE.out _).mono ?_
      rintro e w1 ⟨rfl, hb1⟩
      have H1 := hide (below_in HSt.out hb1)
      clear hb1
      go_wp2_with fail
      refine (HA.out _).mono ?_
      rintro e w2 ⟨rfl, hb2⟩
      have H2 := hide (below_in H1.out hb2)
      clear hb2
      rcases hmore with b5 | ⟨b5, b6⟩ | ⟨b5, b6, HX⟩
      · go_wp2_with fail
        go_ret
        exact ⟨rfl, b_out H2.out⟩
      · go_wp2_with fail
        go_ret
        exact ⟨rfl, b_out H2.out⟩
      · go_wp2_with fail
        refine (HX.out _).mono ?_
        rintro e w5 ⟨rfl, hb5⟩
        have H5 := hide (below_in H2.out hb5)
        clear hb5
        unfold msgC Wr.zM Wr.e0
        dsimp only
        go_wp2
        go_ret
        exact ⟨rfl, b_out (H5.out.alloc (by have := H5.out.size; simp at this; omega) _)⟩
    · go_enter Try.func7, Try.ntmps7
      go_wp2_with fail
      refine (HE.out _).mono ?_
      rintro e w1 ⟨rfl, hb1⟩
      have H1 := hide (below_in HSt.out hb1)
      clear hb1
      go_wp2_with fail
      refine (HA.out _).mono ?_
      rintro e w2 ⟨rfl, hb2⟩
      have H2 := hide (below_in H1.out hb2)
      clear hb2
      rcases hmore with b5 | ⟨b5, b6⟩ | ⟨b5, b6, HX⟩
      · go_wp2_with fail
        go_ret
        exact ⟨rfl, b_out H2.out⟩
      · go_wp2_with fail
        go_ret
        exact ⟨rfl, b_out H2.out⟩
      · go_wp2_with fail
        refine (HX.out _).mono ?_
        rintro e w5 ⟨rfl, hb5⟩
        have H5 := hide (below_in H2.out hb5)
        clear hb5
        unfold msgC Wr.zM Wr.e0
        dsimp only
        go_wp2
        go_ret
        exact ⟨rfl, b_out (H5.out.alloc (by have := H5.out.size; simp at this; omega) _)⟩
    · go_enter Try.func7, Try.ntmps7
      go_wp2_with fail
      refine (HE.out _).mono ?_
      rintro e w1 ⟨rfl, hb1⟩
      have H1 := hide (below_in HSt.out hb1)
      clear hb1
      go_wp2_with fail
      refine (HA.out _).mono ?_
      rintro e w2 ⟨rfl, hb2⟩
      have H2 := hide (below_in H1.out hb2)
      clear hb2
      go_wp2_with fail
      refine (HK.out _).mono ?_
      rintro e w3 ⟨rfl, hb3⟩
      have H3 := hide (below_in H2.out hb3)
      clear hb3
      have H3a := hide (below_in H3.out (below_alloc w3 (.cells (msgC (Wr.zM 0)) 26)))
      unfold msgC Wr.zM Wr.e0 at H3a ⊢
      dsimp only at H3a ⊢
      rcases hmore with b5 | ⟨b5, b6⟩ | ⟨b5, b6, HX⟩
      · go_wp2_with fail
        go_ret
        exact ⟨rfl, b_out H3a.out⟩
      · go_wp2_with fail
        go_ret
        exact ⟨rfl, b_out H3a.out⟩
      · go_wp2_with fail
        refine (HX.out _).mono ?_
        rintro e w5 ⟨rfl, hb5⟩
        have H5 := hide (below_in H3a.out hb5)
        clear hb5
        unfold msgC Wr.zM Wr.e0
        dsimp only
        go_wp2
        go_ret
        exact ⟨rfl, b_out (H5.out.alloc (by have := H5.out.size; simp at this; omega) _)⟩
  · have hne : ((Wr.check m : Int) != 0) = true := by simp; omega
    generalize Wr.check m = E at *
    unfold msgC at HE HSt ⊢
    go_enter Try.func7, Try.ntmps7
    go_wp2_with fail
    refine (HE.out _).mono ?_
    rintro e w1 ⟨rfl, hb1⟩
    have H1 := hide (below_in HSt.out hb1)
    clear hb1
    go_wp2_with fail
    refine (HA.out _).mono ?_
    rintro e w2 ⟨rfl, hb2⟩
    have H2 := hide (below_in H1.out hb2)
    clear hb2
    go_wp2
    go_ret
    exact ⟨rfl, b_out H2.out⟩
end Go.Proofs.Ytmmnjkbdldaniaa
