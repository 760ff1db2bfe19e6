import Derived.Test.YtdklpgkheakapaaGreatDoorAddC
namespace Go.Proofs.YtdklpgkheakapaaGreatDoor
open Go.RowKit Gn

theorem lo_even (V : Nat) : loN V % 2 = V % 2 := by unfold loN; omega
theorem div_step (X Q r n b t : Nat) (hX : X = Q * n + r) (hlt : t * n ≤ 2 * r + b) (hr : 2 * r + b - t * n < n) (hn : 0 < n) : (2 * X + b) / n = 2 * Q + t ∧ (2 * X + b) % n = 2 * r + b - t * n := by
  have e : 2 * X + b = (2 * r + b - t * n) + n * (2 * Q + t) := by
    rw [hX, Nat.mul_add n, Nat.mul_comm n (2 * Q), Nat.mul_assoc 2 Q n, Nat.mul_comm n t]
    omega
  rw [e]
  exact ⟨by rw [Nat.add_mul_div_left _ _ hn, Nat.div_eq_of_lt hr, Nat.zero_add], by rw [Nat.add_mul_mod_self_left, Nat.mod_eq_of_lt hr]⟩
theorem half_div (W i : Nat) : W / 2 ^ i = 2 * (W / 2 ^ (i + 1)) + W / 2 ^ i % 2 := by
  rw [Nat.pow_succ, ← Nat.div_div_eq_div_mul]
  omega
theorem or_bit (r b : Nat) (hr : r < 9007199254740992) (hb : b < 2) : bits .or .u64 ((r : Int) * 2) (b : Int) = ((2 * r + b : Nat) : Int) := by
  rw [show (r : Int) * 2 = ((r * 2 : Nat) : Int) by simp, u64_or_nat _ _ (by omega) (by omega), nat_join 1 _ _ (by omega) (by omega)]
  congr 1; omega
theorem box_lo {w1 : World} {B C D : Nat} (h : Box w1 B C) (hh : hiN D = hiN C) : Box (w1.setCell ⟨B, 1, none⟩ (.int .u64 (loN D : Int))) B D :=
  ⟨by rw [hh]; simp [h.c0, go_sem], by simp [h.c1, go_sem], by simp [h.f0], by simp [h.f1], by simp [h.lt]⟩
theorem box_one {w1 : World} {B V D k : Nat} (h : Box w1 B V) (hne : B ≠ D) (x : Value) : Box (w1.setCell ⟨D, k, none⟩ x) B V := by
  have e : (w1.setCell ⟨D, k, none⟩ x).heap[B]? = w1.heap[B]? := Below.heap_setCell _ ⟨D, k, none⟩ _ B hne
  exact ⟨(World.cell?_of_block e).trans h.c0, (World.cell?_of_block e).trans h.c1, (World.frozen?_of_block e).trans h.f0, (World.frozen?_of_block e).trans h.f1, by simp [h.lt]⟩
theorem or_one (V : Nat) (hV : V % 2 = 0) : bits .or .u64 (loN V : Int) 1 = (loN (V + 1) : Int) := by
  have h1 := lo_even V
  have h2 : loN V < 18446744073709551616 := by unfold loN; omega
  rw [show (1 : Int) = ((1 : Nat) : Int) from rfl, u64_or_nat _ _ h2 (by decide), nat_join 1 _ _ (by omega) (by decide)]
  congr 1
  unfold loN at *
  omega
theorem hi_one (V : Nat) (hV : V % 2 = 0) : hiN (V + 1) = hiN V := by unfold hiN; omega
set_option maxHeartbeats 400000 in
theorem right_zero (hi lo : Nat) (w : World) :
    Calls Tryz.prog 65 #[wv hi lo, .int .i64 0] w fun e w' => e = .returned (wv hi lo) ∧ Below w.heap.size w w' := by
  go_enter Tryz.func65, Tryz.ntmps65
  go_wp2
  exact bodyPost_ret (v := wv hi lo) (by simp [results, Tryz.results65, go_sem]) rfl ⟨rfl, ((Below.refl _ _).alloc (Nat.le_refl _) _).alloc (by simp) _⟩
theorem left_one (Q : Nat) (hQ : Q < 2 ^ 124) (w : World) :
    Calls Tryz.prog 47 #[wn Q, .int .i64 1] w fun e w' => e = .returned (wn (2 * Q)) ∧ Below w.heap.size w w' := by
  have h := left_n Q 1 (by decide) (by
    have e : (2 : Nat) ^ 124 * 2 ≤ 18446744073709551616 * 18446744073709551616 := by decide
    omega) w
  rw [show Q * 2 ^ 1 = 2 * Q by omega] at h
  exact h
theorem right_any (W i : Nat) (hi : i ≤ 127) (hW : W < 18446744073709551616 * 18446744073709551616) (w : World) :
    Calls Tryz.prog 65 #[wn W, .int .i64 (i : Int)] w fun e w' => e = .returned (wn (W / 2 ^ i)) ∧ Below w.heap.size w w' := by
  rcases Nat.eq_zero_or_pos i with h | h
  · subst h
    rw [Nat.pow_zero, Nat.div_one]
    exact right_zero (hiN W) (loN W) w
  · exact right_n W i hi h hW w

set_option maxHeartbeats 2000000 in
set_option maxRecDepth 8000 in
theorem by_any (W n : Nat) (hW : W < 2 ^ 124) (hn0 : 0 < n) (hn : n < 9007199254740992) (w : World) :
    Calls Tryz.prog 52 #[wn W, .int .u64 (n : Int)] w fun e w' => e = .returned (.tuple #[wn (W / n), .bool (decide (0 < W % n))]) ∧ Below w.heap.size w w' := by
  have hWW : W < 18446744073709551616 * 18446744073709551616 := Nat.lt_trans hW (by decide)
  have HW := (show Hid (W < 2 ^ 124) from hW)
  have HWW := (show Hid (W < 18446744073709551616 * 18446744073709551616) from hWW)
  clear hW hWW
  go_enter Tryz.func52, Tryz.ntmps52
  go_wp2_with fail
  go_loopw [7, 8] (fun u v wr => ∃ j r : Nat, v = .int .i64 ((j : Int) - 1) ∧ j ≤ 128 ∧ u = .int .u64 (r : Int) ∧ r < n ∧ Hid (r = W / 2 ^ j % n) ∧ Hid (Box wr w.heap.size W) ∧ Hid (Box wr (w.heap.size + 1) 0) ∧ Hid (Box wr (w.heap.size + 1 + 1) (W / 2 ^ j / n)) ∧ Hid (Below w.heap.size w wr)) (fun _ v _ => (intOf v + 1).toNat)
  case atStart =>
    have h128 : W / 2 ^ 128 = 0 := Nat.div_eq_of_lt (Nat.lt_trans HW.out (by decide))
    have hz0 : (hiN 0 : Int) = 0 := rfl
    have hz1 : (loN 0 : Int) = 0 := rfl
    refine ⟨128, 0, rfl, by omega, rfl, hn0, (show 0 = W / 2 ^ 128 % n by rw [h128, Nat.zero_mod]), ?_, ?_, ?_, ?_⟩
    · exact ⟨by simp [go_sem], by simp [go_sem], by simp [go_sem], by simp [go_sem], by simp; omega⟩
    · exact ⟨by rw [hz0]; simp [go_sem], by rw [hz1]; simp [go_sem], by simp [go_sem], by simp [go_sem], by simp⟩
    · rw [h128, Nat.zero_div]
      exact ⟨by rw [hz0]; simp [go_sem], by rw [hz1]; simp [go_sem], by simp [go_sem], by simp [go_sem], by simp⟩
    · exact (((Below.refl _ _).alloc (Nat.le_refl _) _).alloc (by simp) _).alloc (by simp; omega) _
  case round =>
    obtain ⟨j, r, rfl, hj, rfl, hrn, HR, HB2, HB4, HB6, HBL⟩ := hrel
    rcases Nat.eq_zero_or_pos j with h0 | h0
    · subst h0
      rw [Nat.pow_zero, Nat.div_one] at HR HB6
      obtain ⟨Q, hQ⟩ : ∃ Q, Q = W / n := ⟨_, rfl⟩
      rw [← hQ] at HB6
      have HQ := (show Hid (Q = W / n) from hQ)
      obtain ⟨y0, y1, y2, y3, y4⟩ := HB6.out
      obtain ⟨x0, x1, x2, x3, x4⟩ := HB4.out
      have bneg : decide ((0 : Int) ≤ ((0 : Nat) : Int) - 1) = false := by decide
      clear hQ HB2 HB6
      go_wp2
      have c9 := cells2 (c := .int .u64 (hiN Q : Int)) (d := .int .u64 (loN Q : Int)) x0 x1
      exact bodyPost_ret (v := .tuple #[wn Q, .bool (decide (0 < r))]) (by simp [results, Tryz.results52, go_sem, c9.1, c9.2]) rfl ⟨by rw [HQ.out, HR.out], (HBL.out.setCell (by simp) _).setCell (by simp) _⟩
    · obtain ⟨i, rfl⟩ : ∃ i, j = i + 1 := ⟨j - 1, by omega⟩
      rw [show ((i + 1 : Nat) : Int) - 1 = (i : Int) by omega]
      obtain ⟨x0, x1, x2, x3, x4⟩ := HB2.out
      obtain ⟨Q, hQ⟩ : ∃ Q, Q = W / 2 ^ (i + 1) / n := ⟨_, rfl⟩
      rw [← hQ] at HB6
      have hQ124 : Q < 2 ^ 124 := by
        rw [hQ]
        exact Nat.lt_of_le_of_lt (Nat.le_trans (Nat.div_le_self _ _) (Nat.div_le_self _ _)) HW.out
      have hXr : W / 2 ^ (i + 1) = Q * n + r := by rw [HR.out, hQ]; have := Nat.div_add_mod (W / 2 ^ (i + 1)) n; rw [Nat.mul_comm]; omega
      obtain ⟨b, hbb⟩ : ∃ b, b = W / 2 ^ i % 2 := ⟨_, rfl⟩
      have hb2 : b < 2 := by omega
      have hVi := half_div W i
      rw [← hbb, hXr] at hVi
      have hst := div_step (Q * n + r) Q r n b
      obtain ⟨V, hV⟩ : ∃ V, V = W / 2 ^ i := ⟨_, rfl⟩
      have ho : bits .and .u64 (loN V : Int) 1 = (b : Int) := by
        rw [odd_and _ (by unfold loN; omega), lo_even, hbb, hV]
      have hor := or_bit r b (by omega) hb2
      obtain ⟨R1, hR1⟩ : ∃ R1, R1 = 2 * r + b := ⟨_, rfl⟩
      rw [← hR1] at hor
      have H1 := (show Hid (V = 2 * (Q * n + r) + b) from hV.trans hVi)
      have HV := (show Hid (V = W / 2 ^ i) from hV)
      have HST := (show Hid (∀ t, Q * n + r = Q * n + r → t * n ≤ 2 * r + b → 2 * r + b - t * n < n → 0 < n → (2 * (Q * n + r) + b) / n = 2 * Q + t ∧ (2 * (Q * n + r) + b) % n = 2 * r + b - t * n) from hst)
      have HRT : Hid (∀ w9 : World, Calls Tryz.prog 65 #[wn W, .int .i64 (i : Int)] w9 fun e w' => e = .returned (wn V) ∧ Below w9.heap.size w9 w') := fun w9 => by
        rw [hV]; exact right_any W i (by omega) HWW.out w9
      have HL1 := (show Hid (∀ w9 : World, Calls Tryz.prog 47 #[wn Q, .int .i64 1] w9 fun e w' => e = .returned (wn (2 * Q)) ∧ Below w9.heap.size w9 w') from fun w9 => left_one Q hQ124 w9)
      have HR1 := (show Hid (R1 = 2 * r + b) from hR1)
      have hR1n : R1 < 2 * n := by omega
      clear hQ hQ124 hXr hbb hVi hst hV hR1
      go_wp2_with fail
      refine (HRT.out _).mono ?_
      rintro e w1 ⟨rfl, hb1⟩
      have K2 := (show Hid (Box w1 w.heap.size W) from HB2.out.keep hb1 HB2.out.lt)
      have K4 := (show Hid (Box w1 (w.heap.size + 1) 0) from HB4.out.keep hb1 HB4.out.lt)
      obtain ⟨y0, y1, y2, y3, y4⟩ := HB6.out.keep hb1 HB6.out.lt
      have KB := (show Hid (Below w.heap.size w w1) from bt HBL.out hb1)
      clear x0 x1 x2 x3 x4 hb1 HB2 HB4 HB6 HBL HRT
      go_wp2_with fail
      refine (HL1.out _).mono ?_
      rintro e w2 ⟨rfl, hb2'⟩
      have ba : Below w1.heap.size w1 w2 := ((Below.refl _ _).alloc (Nat.le_refl _) _).trans (hb2'.mono (by simp))
      have M2 := (show Hid (Box w2 w.heap.size W) from K2.out.keep ba K2.out.lt)
      have M4 := (show Hid (Box w2 (w.heap.size + 1) 0) from K4.out.keep ba K4.out.lt)
      have M6 : Box w2 (w.heap.size + 1 + 1) Q := Box.keep ⟨y0, y1, y2, y3, y4⟩ ba y4
      have MB := (show Hid (Below w.heap.size w w2) from bt KB.out ba)
      have S6 := (show Hid (Box w2 (w.heap.size + 1 + 1) Q) from M6)
      obtain ⟨z0, z1, z2, z3, z4⟩ := M6
      clear y0 y1 y2 y3 y4 ba hb2' K2 K4 KB HL1
      by_cases hge : n ≤ R1
      · have hq2 := or_one (2 * Q) (by omega)
        have HQ1 := (show Hid (hiN (2 * Q + 1) = hiN (2 * Q)) from hi_one (2 * Q) (by omega))
        obtain ⟨R2, hR2⟩ : ∃ R2 : Nat, R2 = R1 - n := ⟨_, rfl⟩
        have hsub : IntKind.u64.wrap ((R1 : Int) - (n : Int)) = (R2 : Int) := by rw [IntKind.wrap_u64]; omega
        have hsub2 : (R1 : Int) - (n : Int) = (R2 : Int) := by omega
        have HS2 := (show Hid ((R1 : Int) - (n : Int) = (R2 : Int)) from hsub2)
        have HR2 := (show Hid (R2 = R1 - n) from hR2)
        clear hR2 hsub2
        go_wp2_with fail
        have e9 := HST.out 1 trivial (by have := HR1.out; omega) (by have := HR1.out; omega) hn0
        have v9 := H1.out
        rw [← v9, HV.out] at e9
        refine ⟨⟨i, R2, rfl, by omega, by first | rfl | rw [HS2.out], by have := HR2.out; omega, (show R2 = W / 2 ^ i % n from by have a := e9.2; have b := HR1.out; have c := HR2.out; omega), ?_, ?_, ?_, ?_⟩, by simp [intOf]⟩
        · exact box_one (box_other M2.out (by omega) _ _) (by omega) _
        · exact box_one (box_other M4.out (by omega) _ _) (by omega) _
        · rw [e9.1]; exact box_lo (box_set S6.out) HQ1.out
        · exact ((MB.out.setCell (by simp; omega) _).setCell (by simp; omega) _).setCell (by simp; omega) _
      · go_wp2_with fail
        have e9 := HST.out 0 trivial (by omega) (by have := HR1.out; omega) hn0
        have v9 := H1.out
        rw [← v9, HV.out] at e9
        refine ⟨⟨i, R1, rfl, by omega, rfl, by omega, (show R1 = W / 2 ^ i % n from by have a := e9.2; have b := HR1.out; omega), ?_, ?_, ?_, ?_⟩, by simp [intOf]⟩
        · exact box_other M2.out (by omega) _ _
        · exact box_other M4.out (by omega) _ _
        · rw [e9.1]; exact box_set S6.out
        · exact (MB.out.setCell (by simp; omega) _).setCell (by simp; omega) _
end Go.Proofs.YtdklpgkheakapaaGreatDoor
