import Derived.Test.YtijekbmhecnajaaGreatDoorRefF
namespace Go.Proofs.YtijekbmhecnajaaGreatDoor
open Go.RowKit
open Gn

set_option maxHeartbeats 400000 in
theorem rint_big (a : Nat) (hf : bits .andNot .u64 (a : Int) 9223372036854775808 = (lowW a : Int)) (hi : decide ((9218868437227405312 : Int) ≤ (lowW a : Int)) = true) (w : World) :
    Calls Tryz.prog 39 #[.int .u64 (a : Int)] w fun e w' => e = .returned (.tuple #[.int .i64 0, .int .i64 11]) ∧ Below w.heap.size w w' := by
  go_enter Tryz.func39, Tryz.ntmps39
  go_wp2_with fail
  go_ret2
  exact ⟨rfl, Below.refl _ _⟩
abbrev ti (x y : Int) : Value := .tuple #[.int .i64 x, .int .i64 y]
def finR (s : Bool) (M : Nat) (E : Int) : Value :=
  if M = 0 then ti 0 0 else if E < 0 ∨ 63 < E then ti 0 11
  else if s then (if M * 2 ^ E.toNat ≤ 9223372036854775808 then ti (-((M * 2 ^ E.toNat : Nat) : Int)) 0 else ti 0 11)
  else (if M * 2 ^ E.toNat < 9223372036854775808 then ti ((M * 2 ^ E.toNat : Nat) : Int) 0 else ti 0 11)
theorem fin_zero (s : Bool) (E : Int) : finR s 0 E = ti 0 0 := by unfold finR; rw [if_pos rfl]
theorem fin_out (s : Bool) (M : Nat) (E : Int) (h0 : M ≠ 0) (h : E < 0 ∨ 63 < E) : finR s M E = ti 0 11 := by unfold finR; rw [if_neg h0, if_pos h]
/-- what the last tests see -/
theorem fin_in (s : Bool) (M k : Nat) (h0 : M ≠ 0) (hk : k ≤ 63) (Y : Nat) (hY : M * 2 ^ k = Y) :
    (s = true ∧ ((((hiN Y : Int) == 0) = true ∧ decide ((loN Y : Int) ≤ 9223372036854775808) = true ∧ finR s M (k : Int) = ti (-(loN Y : Int)) 0 ∧ loN Y ≤ 9223372036854775808) ∨ (((hiN Y : Int) == 0) = true ∧ decide ((loN Y : Int) ≤ 9223372036854775808) = false ∧ finR s M (k : Int) = ti 0 11) ∨ (((hiN Y : Int) == 0) = false ∧ finR s M (k : Int) = ti 0 11)))
    ∨ (s = false ∧ ((((hiN Y : Int) == 0) = true ∧ decide ((loN Y : Int) < 9223372036854775808) = true ∧ finR s M (k : Int) = ti (loN Y : Int) 0 ∧ loN Y < 9223372036854775808) ∨ (((hiN Y : Int) == 0) = true ∧ decide ((loN Y : Int) < 9223372036854775808) = false ∧ finR s M (k : Int) = ti 0 11) ∨ (((hiN Y : Int) == 0) = false ∧ finR s M (k : Int) = ti 0 11))) := by
  have hnot : ¬ ((k : Int) < 0 ∨ 63 < (k : Int)) := by omega
  have hd : Y = hiN Y * 18446744073709551616 + loN Y := by unfold hiN loN; omega
  have hll : loN Y < 18446744073709551616 := by unfold loN; omega
  cases s
  · right
    have e : finR false M (k : Int) = if Y < 9223372036854775808 then ti (Y : Int) 0 else ti 0 11 := by
      unfold finR; rw [if_neg h0, if_neg hnot, if_neg (by simp), show ((k : Int)).toNat = k from by omega, hY]
    rw [e]
    refine ⟨rfl, ?_⟩
    by_cases a : hiN Y = 0
    · rw [a] at hd
      rw [show loN Y = Y from by omega, show ((hiN Y : Int) == 0) = true from beqN_t (y := 0) a]
      by_cases b : Y < 9223372036854775808
      · rw [if_pos b]; exact .inl ⟨rfl, decide_eq_true (by omega), rfl, b⟩
      · rw [if_neg b]; exact .inr (.inl ⟨rfl, decide_eq_false (by omega), rfl⟩)
    · rw [if_neg (by omega)]; exact .inr (.inr ⟨beqN_f (y := 0) a, rfl⟩)
  · left
    have e : finR true M (k : Int) = if Y ≤ 9223372036854775808 then ti (-(Y : Int)) 0 else ti 0 11 := by
      unfold finR; rw [if_neg h0, if_neg hnot, if_pos rfl, show ((k : Int)).toNat = k from by omega, hY]
    rw [e]
    refine ⟨rfl, ?_⟩
    by_cases a : hiN Y = 0
    · rw [a] at hd
      rw [show loN Y = Y from by omega, show ((hiN Y : Int) == 0) = true from beqN_t (y := 0) a]
      by_cases b : Y ≤ 9223372036854775808
      · rw [if_pos b]; exact .inl ⟨rfl, decide_eq_true (by omega), rfl, b⟩
      · rw [if_neg b]; exact .inr (.inl ⟨rfl, decide_eq_false (by omega), rfl⟩)
    · rw [if_neg (by omega)]; exact .inr (.inr ⟨beqN_f (y := 0) a, rfl⟩)
theorem odd_i {a m0 : Nat} {M i : Nat} (hm0 : m0 < 9007199254740992) (h : M * 2 ^ i = m0) (h0 : M ≠ 0) (_ : a = a) : i ≤ 52 := by
  have h1 : 2 ^ i ≤ M * 2 ^ i := Nat.le_mul_of_pos_left _ (by omega)
  rcases Nat.lt_or_ge i 53 with k | k
  · omega
  · exfalso
    have := Nat.pow_le_pow_right (n := 2) (by omega) k
    rw [p53] at this; omega
theorem neg_wrap (L : Nat) (h : L ≤ 9223372036854775808) : wrap64 (-wrap64 (L : Int)) = -(L : Int) := by
  simp only [wrap64]; omega
set_option maxRecDepth 8000 in
set_option maxHeartbeats 2000000 in
theorem rint_walk (a m0 : Nat) (e0 : Int) (h : a < 18446744073709551616) (hf : bits .andNot .u64 (a : Int) 9223372036854775808 = (lowW a : Int)) (hi : decide ((9218868437227405312 : Int) ≤ (lowW a : Int)) = false) (hm : tkM a = m0) (he : tkE a = e0) (he1 : -1074 ≤ e0) (he2 : e0 ≤ 2000) (hm0 : Hid (m0 < 9007199254740992)) (s : Bool) (hs : bits .and .u64 (a : Int) 9223372036854775808 = if s then 9223372036854775808 else 0) (w : World) :
    Calls Tryz.prog 39 #[.int .u64 (a : Int)] w fun e w' => (∃ M i : Nat, M * 2 ^ i = m0 ∧ (M = 0 ∨ M % 2 = 1) ∧ e = .returned (finR s M (e0 + (i : Int)))) ∧ Below w.heap.size w w' := by
  go_enter Tryz.func39, Tryz.ntmps39
  go_wp2_with (go_at_call 46; refine (taken_as a m0 _ h hm he _).mono ?_; rintro e w' ⟨rfl, rfl⟩)
  go_loopw [5, 6] (fun m e wr => ∃ M i : Nat, m = .int .u64 (M : Int) ∧ e = .int .i64 (e0 + (i : Int)) ∧ i ≤ 53 ∧ Hid (M * 2 ^ i = m0) ∧ wr = w') (fun m _ _ => (intOf m).toNat)
  case atStart =>
    exact ⟨m0, 0, rfl, by simp, by omega, by show _ = _; simp, rfl⟩
  case round =>
    obtain ⟨M, i, rfl, rfl, hi53, hMi, rfl⟩ := hrel
    by_cases h0 : M = 0
    · subst h0
      go_wp2_with fail
      go_ret2
      exact ⟨⟨0, i, hMi.out, .inl rfl, by rw [fin_zero]; rfl⟩, Below.refl _ _⟩
    · have hM53 : Hid (M < 18446744073709551616) := by
        have h1 : M ≤ M * 2 ^ i := Nat.le_mul_of_pos_right _ (Nat.two_pow_pos i)
        have h2 := hm0.out
        rw [hMi.out] at h1
        show _ < _
        omega
      by_cases ho : M % 2 = 1
      · have hodd : bits .and .u64 (M : Int) 1 = 1 := by
          rw [odd_and M hM53.out, ho]; rfl
        have hp : 0 < M := by omega
        have hz : ((M : Int) == 0) = false := beqN_f (y := 0) h0
        have HO : Hid (M % 2 = 1) := ho
        have H0 : Hid (M ≠ 0) := h0
        clear h0 ho
        by_cases hE : e0 + (i : Int) < 0
        · have hfin : Hid (finR s M (e0 + (i : Int)) = ti 0 11) := fin_out s M _ H0.out (.inl hE)
          go_wp2_with fail
          go_ret2
          exact ⟨⟨M, i, hMi.out, .inr HO.out, by rw [hfin.out]; rfl⟩, (Below.refl _ _).alloc (Nat.le_refl _) _⟩
        · by_cases hE2 : 63 < e0 + (i : Int)
          · have hfin : Hid (finR s M (e0 + (i : Int)) = ti 0 11) := fin_out s M _ H0.out (.inr hE2)
            go_wp2_with fail
            go_ret2
            exact ⟨⟨M, i, hMi.out, .inr HO.out, by rw [hfin.out]; rfl⟩, (Below.refl _ _).alloc (Nat.le_refl _) _⟩
          · obtain ⟨k, hk⟩ : ∃ k : Nat, e0 + (i : Int) = (k : Int) := ⟨(e0 + (i : Int)).toNat, by omega⟩
            have hk63 : k ≤ 63 := by omega
            have hfin := fin_in s M k H0.out hk63 _ rfl
            have HL : Hid (∀ wx : World, Calls Tryz.prog 47 #[.agg #[.int .u64 0, .int .u64 (M : Int)], .int .i64 (k : Int)] wx fun e w' => e = .returned (wn (M * 2 ^ k)) ∧ Below wx.heap.size wx w') := by
              intro wx
              have h2 : M * 2 ^ k < 18446744073709551616 * 18446744073709551616 := by
                have h3 := Nat.pow_le_pow_right (n := 2) (by omega) hk63
                have h4 : (2 : Nat) ^ 63 = 9223372036854775808 := by decide
                rw [h4] at h3
                have h5 := Nat.mul_le_mul (Nat.le_of_lt hM53.out) h3
                omega
              have := left_n M k (by omega) h2 wx
              unfold wn at this
              rw [show hiN M = 0 from by have := hM53.out; unfold hiN; omega, show loN M = M from lo_small hM53.out] at this
              exact this
            rw [hk] at hE2 ⊢
            have hkk : Hid (e0 + (i : Int) = (k : Int)) := hk
            clear hE hk
            generalize M * 2 ^ k = Y at *
            have HF : Hid _ := hfin
            clear hfin
            go_wp2_with fail
            refine (HL.out _).mono ?_
            rintro e' w2 ⟨rfl, hb2⟩
            obtain ⟨t0, t1, t2, t3, t4⟩ := keep2 (B := wr.heap.size) (x := .int .u64 0) (y := .int .u64 (M : Int)) hb2 (by simp) (by simp) (by simp) (by simp) (by simp)
            have B2 := ((Below.refl wr.heap.size wr).alloc (Nat.le_refl _) _).trans (hb2.mono (by simp))
            rcases HF.out with ⟨rfl, ⟨c1, c2, c3, c4⟩ | ⟨c1, c2, c3⟩ | ⟨c1, c3⟩⟩ | ⟨rfl, ⟨c1, c2, c3, c4⟩ | ⟨c1, c2, c3⟩ | ⟨c1, c3⟩⟩
            · rw [← neg_wrap (loN Y) c4] at c3
              have C3 : Hid _ := c3
              clear HF HL hb2 c3 c4
              go_wp2_with fail
              go_ret2
              exact ⟨⟨M, i, hMi.out, .inr HO.out, by rw [hkk.out, C3.out]; rfl⟩, (B2.setCell (p := ⟨wr.heap.size, 0, none⟩) (Nat.le_refl _) _).setCell (p := ⟨wr.heap.size, 1, none⟩) (Nat.le_refl _) _⟩
            all_goals
              have C3 : Hid _ := c3
              clear HF HL hb2 c3
              go_wp2_with fail
              go_ret2
              exact ⟨⟨M, i, hMi.out, .inr HO.out, by rw [hkk.out, C3.out]; rfl⟩, (B2.setCell (p := ⟨wr.heap.size, 0, none⟩) (Nat.le_refl _) _).setCell (p := ⟨wr.heap.size, 1, none⟩) (Nat.le_refl _) _⟩
      · have hev : bits .and .u64 (M : Int) 1 = 0 := by
          rw [odd_and M hM53.out, show M % 2 = 0 from by omega]; rfl
        have hp : 0 < M := by omega
        obtain ⟨K, hK⟩ : ∃ K : Nat, M = 2 * K := ⟨M / 2, by omega⟩
        have hK2 : (M : Int) / 2 = (K : Int) := by omega
        have hlt : Hid (K < M) := (by omega : K < M)
        have hnx : Hid (K * 2 ^ (i + 1) = m0) := by
          show _ = _
          rw [← hMi.out, hK, Nat.pow_succ, Nat.mul_comm (2 ^ i) 2, ← Nat.mul_assoc, Nat.mul_comm K 2]
        have hi54 : i + 1 ≤ 53 := by
          have := odd_i (a := 0) hm0.out hnx.out (by omega) rfl; omega
        clear hK ho h0
        go_wp2_with fail
        exact ⟨⟨K, i + 1, rfl, by congr 1; omega, hi54, hnx, trivial⟩, by simp only [intOf]; have := hlt.out; omega⟩
end Go.Proofs.YtijekbmhecnajaaGreatDoor
