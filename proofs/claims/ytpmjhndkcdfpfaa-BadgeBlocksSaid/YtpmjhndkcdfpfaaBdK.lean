import Derived.Test.YtpmjhndkcdfpfaaBdT
namespace Go.Proofs.Ytpmjhndkcdfpfaa
open Go.RowKit

/-- up to where they are reserved behind i badges -/
def bE (B r i : Int) : Int := if 1099511627776 < r + B * ((i + B - 1).tdiv B) then 1099511627776 else r + B * ((i + B - 1).tdiv B)
theorem blk16 {B : Int} (h1 : 1 ≤ B) (h2 : B ≤ 16) : B = 1 ∨ B = 2 ∨ B = 3 ∨ B = 4 ∨ B = 5 ∨ B = 6 ∨ B = 7 ∨ B = 8 ∨ B = 9 ∨ B = 10 ∨ B = 11 ∨ B = 12 ∨ B = 13 ∨ B = 14 ∨ B = 15 ∨ B = 16 := by omega
theorem quo_ok {B i : Int} (h1 : 1 ≤ B) (hi : 0 ≤ i) : (i + B - 1).tdiv B = (i + B - 1) / B := Int.tdiv_eq_ediv_of_nonneg (by omega)
theorem rem_ok {B i : Int} (hi : 0 ≤ i) : i.tmod B = i % B := Int.tmod_eq_emod_of_nonneg hi
/-- the arithmetic of blocks -/
theorem blocks_arith {B i : Int} (h1 : 1 ≤ B) (h2 : B ≤ 16) :
    (i % B = 1 % B ∧ B * ((i - 1 + B - 1) / B) + 1 = i ∧ B * ((i + B - 1) / B) = B * ((i - 1 + B - 1) / B) + B) ∨ (i % B ≠ 1 % B ∧ i ≤ B * ((i - 1 + B - 1) / B) ∧ B * ((i + B - 1) / B) = B * ((i - 1 + B - 1) / B)) := by
  rcases blk16 h1 h2 with rfl | rfl | rfl | rfl | rfl | rfl | rfl | rfl | rfl | rfl | rfl | rfl | rfl | rfl | rfl | rfl <;> omega
theorem blocks_range {B i : Int} (h1 : 1 ≤ B) (h2 : B ≤ 16) (hi : 0 ≤ i) (hj : i ≤ 101) : i ≤ B * ((i + B - 1) / B) ∧ B * ((i + B - 1) / B) ≤ 200 ∧ 0 ≤ (i + B - 1) / B ∧ (i + B - 1) / B ≤ 200 := by
  rcases blk16 h1 h2 with rfl | rfl | rfl | rfl | rfl | rfl | rfl | rfl | rfl | rfl | rfl | rfl | rfl | rfl | rfl | rfl <;> omega
theorem bE_eq {B r i : Int} (h1 : 1 ≤ B) (hi : 0 ≤ i) : bE B r i = if 1099511627776 < r + B * ((i + B - 1) / B) then 1099511627776 else r + B * ((i + B - 1) / B) := by
  unfold bE; rw [quo_ok h1 hi]
/-- one badge more -/
theorem blocks_step {B r i : Int} (h1 : 1 ≤ B) (h2 : B ≤ 16) (h0 : 0 ≤ r) (hi : 1 ≤ i) (hj : i ≤ 100) (hM : r + i ≤ 1099511627776) :
    (i.tmod B = (1 : Int).tmod B ∧ bE B r i ≠ 0 ∧ (⟨B, r + (i - 1), bE B r (i - 1)⟩ : Bc).next = ⟨r + i, bE B r i, 0, ⟨B, r + i, bE B r i⟩⟩) ∨ (i.tmod B ≠ (1 : Int).tmod B ∧ (⟨B, r + (i - 1), bE B r (i - 1)⟩ : Bc).next = ⟨r + i, 0, 0, ⟨B, r + i, bE B r i⟩⟩) := by
  rw [rem_ok (by omega), rem_ok (by omega), bE_eq h1 (by omega), bE_eq h1 (by omega)]
  have hr := blocks_range (i := i) h1 h2 (by omega) (by omega)
  have hr2 := blocks_range (i := i - 1) h1 h2 (by omega) (by omega)
  rcases blocks_arith (i := i) h1 h2 with ⟨e1, e2, e3⟩ | ⟨e1, e2, e3⟩
  · refine .inl ⟨e1, ?_, ?_⟩
    · generalize B * ((i + B - 1) / B) = m at *
      split <;> omega
    · generalize B * ((i + B - 1) / B) = m at *
      generalize B * ((i - 1 + B - 1) / B) = m' at *
      rw [if_neg (show ¬ 1099511627776 < r + m' by omega)]
      rw [Bc.next_up (by show r + (i - 1) ≠ 1099511627776; omega) (by show ¬ r + (i - 1) + 1 ≤ r + m'; omega)]
      show Bn.mk (r + (i - 1) + 1) (if 1099511627776 < r + m' + B then 1099511627776 else r + m' + B) 0 ⟨B, r + (i - 1) + 1, (if 1099511627776 < r + m' + B then 1099511627776 else r + m' + B)⟩ = _
      rw [show r + (i - 1) + 1 = r + i by omega, show r + m' + B = r + m by omega]
  · refine .inr ⟨e1, ?_⟩
    generalize B * ((i + B - 1) / B) = m at *
    generalize B * ((i - 1 + B - 1) / B) = m' at *
    subst e3
    rw [Bc.next_in (by show r + (i - 1) ≠ 1099511627776; omega) (by show r + (i - 1) + 1 ≤ if 1099511627776 < r + m then 1099511627776 else r + m; split <;> omega)]
    show Bn.mk (r + (i - 1) + 1) 0 0 ⟨B, r + (i - 1) + 1, _⟩ = _
    rw [show r + (i - 1) + 1 = r + i by omega]
theorem bE_0 {B r : Int} (h1 : 1 ≤ B) (h2 : B ≤ 16) (hr : r ≤ 1099511627776) : bE B r 0 = r := by
  rw [bE_eq h1 (by omega)]
  have : B * ((0 + B - 1) / B) = 0 := by rcases blk16 h1 h2 with rfl | rfl | rfl | rfl | rfl | rfl | rfl | rfl | rfl | rfl | rfl | rfl | rfl | rfl | rfl | rfl <;> omega
  rw [this, if_neg (by omega)]; omega

theorem Cm.drewN {T b : Nat} {w : World} {c : Bc} (h : Cm T w b c) (n : Nat) : Cm T (w.drewN n) b c := h
theorem below_drewN {B : Nat} {w w' : World} (h : Below B w w') (n : Nat) : Below B w (w'.drewN n) := ⟨h.os, h.tape, h.output, h.size, h.block⟩
theorem Ct.drewN {w0 w : World} {b : Nat} {c : Bc} (h : Ct w0 b c w) (n : Nat) : Ct w0 b c (w.drewN n) := ⟨h.ok, h.cm, h.low, below_drewN h.bel n⟩
set_option maxHeartbeats 4000000 in
set_option maxRecDepth 8000 in
theorem badgeBlocks_walk {w : World} {x y z : Int} (hx : -9223372036854775808 ≤ x ∧ x ≤ 9223372036854775807) (hy : -9223372036854775808 ≤ y ∧ y ≤ 9223372036854775807) (hz : -9223372036854775808 ≤ z ∧ z ≤ 9223372036854775807) :
    Calls Try.prog 5 #[.int .i64 x, .int .i64 y, .int .i64 z] w fun e w' => e = .returned (.bool true) ∧ Below w.heap.size w w' := by
  have HN := hide (bnew_any w hx hy)
  by_cases hno : bnewE x y = 0
  · have h1 : 1 ≤ x := by unfold bnewE at hno; split at hno <;> first | (cases hno; done) | omega
    have h2 : x ≤ 16 := by unfold bnewE at hno; split at hno <;> first | (cases hno; done) | omega
    have h3 : 0 ≤ y := by unfold bnewE at hno; split at hno; cases hno; split at hno <;> first | (cases hno; done) | omega
    have h4 : y ≤ 1099511627776 := by unfold bnewE at hno; split at hno; cases hno; split at hno <;> first | (cases hno; done) | omega
    have HE := hide hno
    clear hno hx hy
    go_enter Try.func5, Try.ntmps5
    go_wp2_with fail
    refine HN.out.mono ?_
    rintro e w1 (⟨h, rfl, hw1⟩ | ⟨h, rfl, hw1⟩)
    · exact absurd HE.out h
    have HC : Hid (Ct w w.heap.size ⟨x, y + (1 - 1), bE x y (1 - 1)⟩ w1) := by
      have h5 : (⟨x, y + (1 - 1), bE x y (1 - 1)⟩ : Bc) = bnew x y := by
        show (⟨x, y + 0, bE x y 0⟩ : Bc) = ⟨x, y, y⟩
        rw [bE_0 h1 h2 h4]; congr 1; omega
      rw [h5, hw1]; exact Ct.new h
    obtain ⟨b, hb⟩ : ∃ b, w.heap.size = b := ⟨_, rfl⟩
    rw [show (Value.pointer (some ⟨w.heap.size, 0, none⟩)) = Value.pointer (some ⟨b, 0, none⟩) by rw [hb]]
    have HC2 : Hid (Ct w b ⟨x, y + (1 - 1), bE x y (1 - 1)⟩ w1) := by rw [← hb]; exact HC
    clear hw1 h HC hb HE HN
    go_wp2_with fail
    go_loopw [11] (fun s wr => ∃ (i : Nat), 1 ≤ i ∧ i ≤ 101 ∧ s = .int .i64 (i : Int) ∧ Hid (Ct w b ⟨x, y + ((i : Int) - 1), bE x y ((i : Int) - 1)⟩ wr)) (fun s _ => 101 - (intOf s).toNat)
    case atStart => exact ⟨1, by decide, by decide, rfl, HC2⟩
    case round =>
      obtain ⟨i, hi1, hi2, rfl, HK⟩ := hrel
      clear HC2
      go_wp2_with fail
      all_goals try
        refine (fixed_any _).mono ?_
        rintro e w4 ⟨rfl, hB4⟩
        have HB := hide (HK.out.bel.trans (hB4.mono HK.out.bel.size))
        clear HK hB4
        go_wp2_with fail
        go_ret
        exact ⟨rfl, HB.out⟩
      all_goals
        have hM : y + (i : Int) ≤ 1099511627776 := by omega
        have h100 : i ≤ 100 := by omega
        have HS := blocks_step (i := (i : Int)) h1 h2 h3 (by omega) (by omega) hM
        refine (next_any HK.out.ok HK.out.cm).mono ?_
        rintro e w5 ⟨rfl, hC5, hO5⟩
        have HK5 := hide (HK.out.next hC5 hO5)
        clear hC5 hO5 HK
        rcases HS with ⟨e1, e2, e3⟩ | ⟨e1, e3⟩
        · rw [e3] at HK5 ⊢
          simp only at HK5 ⊢
          obtain ⟨E, hE⟩ : ∃ E, bE x y (i : Int) = E := ⟨_, rfl⟩
          rw [hE] at HK5 e2 ⊢
          have HLa : Hid (∀ n, Calls Try.prog 15 #[.pointer (some ⟨b, 0, none⟩)] (w5.drewN n) fun e w' => e = .returned (.int .i64 (y + (i : Int))) ∧ w' = w5.drewN n) := hide fun n => last_any (c := ⟨x, y + (i : Int), E⟩) (HK5.out.cm.drewN n)
          have HRe : Hid (∀ n, Calls Try.prog 16 #[.pointer (some ⟨b, 0, none⟩)] (w5.drewN n) fun e w' => e = .returned (.int .i64 E) ∧ w' = w5.drewN n) := hide fun n => reserved_any (c := ⟨x, y + (i : Int), E⟩) (HK5.out.cm.drewN n)
          obtain ⟨q, hq⟩ : ∃ q, ((i : Int) + x - 1).tdiv x = q := ⟨_, rfl⟩
          obtain ⟨m, hm⟩ : ∃ m, x * q = m := ⟨_, rfl⟩
          have hE2 : (if 1099511627776 < y + m then 1099511627776 else y + m) = E := by rw [← hE]; unfold bE; rw [hq, hm]
          have hq2 := quo_ok (i := (i : Int)) h1 (by omega)
          have hrg := blocks_range (i := (i : Int)) h1 h2 (by omega) (by omega)
          rw [← hq2, hq, hm] at hrg
          obtain ⟨g1, g2, g3, g4⟩ := hrg
          have HEE := hide hE
          clear hE hq2
          have hx0 : x ≠ 0 := by omega
          have hx1 : x ≠ -1 := by omega
          obtain ⟨u, hu⟩ : ∃ u, (i : Int).tmod x = u := ⟨_, rfl⟩
          obtain ⟨v, hv⟩ : ∃ v, (1 : Int).tmod x = v := ⟨_, rfl⟩
          rw [hu, hv] at e1
          have b1 : (u == v) = true := by simpa using e1
          clear e3 e1
          go_wp2_with fail
          try rw [hE2]
          clear hE2 hq hm
          have t1 : (y + (i : Int) != y + (i : Int)) = false := by simp
          have t2 : (E != E) = false := by simp
          have t3 : (E != 0) = true := by simpa using e2
          go_quiet (first
            | (go_at_call 15; exact Calls.quiet_of_same (HLa.out _))
            | (go_at_call 16; exact Calls.quiet_of_same (HRe.out _)))
          go_wp2_with fail
          go_roundw
          case rel => exact ⟨i + 1, by omega, by omega, by go_num, hide (by
            have h5 : ((i + 1 : Nat) : Int) - 1 = (i : Int) := by omega
            rw [h5, HEE.out]
            exact HK5.out.drewN _)⟩
          case measure => simp only [intOf]; omega
        · rw [e3] at HK5 ⊢
          simp only at HK5 ⊢
          obtain ⟨E, hE⟩ : ∃ E, bE x y (i : Int) = E := ⟨_, rfl⟩
          rw [hE] at HK5
          have HLa : Hid (∀ n, Calls Try.prog 15 #[.pointer (some ⟨b, 0, none⟩)] (w5.drewN n) fun e w' => e = .returned (.int .i64 (y + (i : Int))) ∧ w' = w5.drewN n) := hide fun n => last_any (c := ⟨x, y + (i : Int), E⟩) (HK5.out.cm.drewN n)
          have HRe : Hid (∀ n, Calls Try.prog 16 #[.pointer (some ⟨b, 0, none⟩)] (w5.drewN n) fun e w' => e = .returned (.int .i64 E) ∧ w' = w5.drewN n) := hide fun n => reserved_any (c := ⟨x, y + (i : Int), E⟩) (HK5.out.cm.drewN n)
          obtain ⟨q, hq⟩ : ∃ q, ((i : Int) + x - 1).tdiv x = q := ⟨_, rfl⟩
          obtain ⟨m, hm⟩ : ∃ m, x * q = m := ⟨_, rfl⟩
          have hE2 : (if 1099511627776 < y + m then 1099511627776 else y + m) = E := by rw [← hE]; unfold bE; rw [hq, hm]
          have hq2 := quo_ok (i := (i : Int)) h1 (by omega)
          have hrg := blocks_range (i := (i : Int)) h1 h2 (by omega) (by omega)
          rw [← hq2, hq, hm] at hrg
          obtain ⟨g1, g2, g3, g4⟩ := hrg
          have HEE := hide hE
          clear hE hq2
          have hx0 : x ≠ 0 := by omega
          have hx1 : x ≠ -1 := by omega
          obtain ⟨u, hu⟩ : ∃ u, (i : Int).tmod x = u := ⟨_, rfl⟩
          obtain ⟨v, hv⟩ : ∃ v, (1 : Int).tmod x = v := ⟨_, rfl⟩
          rw [hu, hv] at e1
          have b1 : (u == v) = false := by simpa using e1
          clear e3 e1
          go_wp2_with fail
          try rw [hE2]
          clear hE2 hq hm
          have t1 : (y + (i : Int) != y + (i : Int)) = false := by simp
          have t2 : (E != E) = false := by simp
          skip
          go_quiet (first
            | (go_at_call 15; exact Calls.quiet_of_same (HLa.out _))
            | (go_at_call 16; exact Calls.quiet_of_same (HRe.out _)))
          go_wp2_with fail
          go_roundw
          case rel => exact ⟨i + 1, by omega, by omega, by go_num, hide (by
            have h5 : ((i + 1 : Nat) : Int) - 1 = (i : Int) := by omega
            rw [h5, HEE.out]
            exact HK5.out.drewN _)⟩
          case measure => simp only [intOf]; omega
  · clear hz
    have fin : ∀ {e0 : Int}, bnewE x y = e0 → Hid (Calls Try.prog 7 #[.int .i64 x, .int .i64 y] w fun e w' => e = .returned (.tuple #[.pointer none, .int .i64 e0]) ∧ w' = w) := fun {e0} h => hide (HN.out.mono (by
      rintro e w1 (⟨h1, h2, h3⟩ | ⟨h1, _⟩)
      · exact ⟨by rw [h2, h], h3⟩
      · exact absurd h1 hno))
    by_cases c1 : x < 1
    · have HF := fin (bnewE_b (.inl c1))
      clear HN fin hno
      go_enter Try.func5, Try.ntmps5
      go_wp2_with fail
      refine HF.out.mono ?_
      rintro e w1 ⟨rfl, rfl⟩
      go_wp2_with fail
      refine (fixed_any _).mono ?_
      rintro e w2 ⟨rfl, hB2⟩
      go_wp2_with fail
      go_ret
      exact ⟨rfl, hB2⟩
    by_cases c2 : 16 < x
    · have HF := fin (bnewE_b (.inr c2))
      clear HN fin hno
      go_enter Try.func5, Try.ntmps5
      go_wp2_with fail
      refine HF.out.mono ?_
      rintro e w1 ⟨rfl, rfl⟩
      go_wp2_with fail
      refine (fixed_any _).mono ?_
      rintro e w2 ⟨rfl, hB2⟩
      go_wp2_with fail
      go_ret
      exact ⟨rfl, hB2⟩
    by_cases c3 : y < 0
    · have HF := fin (bnewE_r (by omega) (.inl c3))
      clear HN fin hno
      go_enter Try.func5, Try.ntmps5
      go_wp2_with fail
      refine HF.out.mono ?_
      rintro e w1 ⟨rfl, rfl⟩
      go_wp2_with fail
      refine (fixed_any _).mono ?_
      rintro e w2 ⟨rfl, hB2⟩
      go_wp2_with fail
      go_ret
      exact ⟨by show Ending.returned (.bool (!decide (x < 1) && !decide (16 < x))) = _; rw [decide_eq_false (show ¬ x < 1 by omega), decide_eq_false (show ¬ 16 < x by omega)]; rfl, hB2⟩
    by_cases c4 : 1099511627776 < y
    · have HF := fin (bnewE_r (by omega) (.inr c4))
      clear HN fin hno
      go_enter Try.func5, Try.ntmps5
      go_wp2_with fail
      refine HF.out.mono ?_
      rintro e w1 ⟨rfl, rfl⟩
      go_wp2_with fail
      refine (fixed_any _).mono ?_
      rintro e w2 ⟨rfl, hB2⟩
      go_wp2_with fail
      go_ret
      exact ⟨by show Ending.returned (.bool (!decide (x < 1) && !decide (16 < x))) = _; rw [decide_eq_false (show ¬ x < 1 by omega), decide_eq_false (show ¬ 16 < x by omega)]; rfl, hB2⟩
    exact absurd (bnewE_0 (by omega) (by omega)) hno
end Go.Proofs.Ytpmjhndkcdfpfaa
