import Derived.Test.YtdklpgkheakapaaGreatDoorRefD
namespace Go.Proofs.YtdklpgkheakapaaGreatDoor
open Go.RowKit
open Gn

theorem tk_wd (s : Bool) (r : Nat) (hr : r < 9218868437227405312) : tkM (wd s r) = mg r ∧ tkE (wd s r) = (ex r : Int) - 1074 := by
  have e1 : fx (wd s r) = r / 4503599627370496 := by
    unfold fx wd; cases s
    · rw [if_neg (by simp)]; omega
    · rw [if_pos rfl]; omega
  have e2 : fm (wd s r) = r % 4503599627370496 := by
    unfold fm wd; cases s
    · rw [if_neg (by simp)]
    · rw [if_pos rfl]; omega
  unfold tkM tkE mg ex
  rw [e1, e2]
  by_cases h : r < 4503599627370496
  · have h0 : r / 4503599627370496 = 0 := by omega
    simp only [if_pos h0, if_pos h]; omega
  · have h0 : ¬ r / 4503599627370496 = 0 := by omega
    simp only [if_neg h0, if_neg h]; omega
theorem flN_mid (s : Bool) (r d : Nat) (hd : ex r + d = 1074) : flN s (vl r) = mg r / 2 ^ d + (s && mg r % 2 ^ d != 0).toNat := by
  unfold flN
  have hp := Nat.two_pow_pos (ex r)
  have hU : UU = 2 ^ d * 2 ^ ex r := by rw [← UU_def, ← hd, Nat.pow_add, Nat.mul_comm]
  rw [vl_mg, hU, Nat.mul_div_mul_right _ _ hp, Nat.mul_mod_mul_right]
  have : (mg r % 2 ^ d * 2 ^ ex r != 0) = (mg r % 2 ^ d != 0) := by
    generalize mg r % 2 ^ d = z
    by_cases hz : z = 0
    · subst hz; simp
    · rw [bne_iff_ne.2 hz, bne_iff_ne.2 (Nat.mul_ne_zero hz (by omega))]
  rw [this]
theorem floorW_num (s : Bool) (r : Nat) (h : r < 9218868437227405312) : floorW (wd s r) = wd s (rn (flN s (vl r) * UU)) := by
  unfold floorW; rw [wd_mod s r (by omega), if_neg (by omega), flr_wd s r h]
theorem rn_nought : rn (0 * UU) = 0 := by rw [Nat.zero_mul, ← vl_zero]; exact rn_vl (by decide)
theorem rnd_t (M : Nat) (h0 : M ≠ 0) (hM : M < 9007199254740992) : Rnd 9223372036854775808 (M : Int) (wd true (rn (M * UU))) := ⟨fun w => rounded_t M _ rfl h0 hM w⟩
theorem rnd_f (M : Nat) (h0 : M ≠ 0) (hM : M < 9007199254740992) : Rnd 0 (M : Int) (wd false (rn (M * UU))) := ⟨fun w => rounded_f M _ rfl h0 hM w⟩
theorem top_wd (s : Bool) (r : Nat) (hr : r < 9223372036854775808) : bits .and .u64 (wd s r : Int) 9223372036854775808 = if s then 9223372036854775808 else 0 := by
  rw [top_and _ (wd_lt s r hr)]
  cases s
  · rw [if_pos (by unfold wd; rw [if_neg (by simp)]; exact hr)]; rfl
  · rw [if_neg (by unfold wd; rw [if_pos rfl]; omega)]; rfl

theorem rfloor_any (a : Nat) (h : a < 18446744073709551616) (w : World) :
    Calls Tryz.prog 27 #[.int .u64 (a : Int)] w fun e w' => e = .returned (.int .u64 (floorW a : Int)) ∧ Below w.heap.size w w' := by
  have hf : bits .andNot .u64 (a : Int) 9223372036854775808 = (lowW a : Int) := abs_andNot a h
  obtain ⟨s, r, hr, rfl⟩ := wd_cases a h
  have hl : lowW (wd s r) = r := wd_mod s r hr
  by_cases hn : 9218868437227405312 < r
  · have e : floorW (wd s r) = 9221120237041090561 := by unfold floorW; rw [wd_mod s r hr, if_pos hn]
    rw [e]
    exact rfloor_nan _ h (nanB_t ((cls_nan _).2 (by rw [wd_mod s r hr]; exact hn))) w
  · have hb : nanB (wd s r) = false := nanB_f (fun k => hn (by have := (cls_nan _).1 k; rwa [wd_mod s r hr] at this))
    by_cases hi : r = 9218868437227405312
    · have e : floorW (wd s r) = wd s r := by
        unfold floorW; rw [wd_mod s r hr, if_neg hn, hi]; exact flr_inf s
      rw [e]
      refine rfloor_self _ h hb hf ?_ w
      rw [hl, show ((r : Int) == 9218868437227405312) = true from beqN_t (y := 9218868437227405312) hi]; rfl
    · by_cases hz : r = 0
      · have e : floorW (wd s r) = wd s r := by
          rw [floorW_num s r (by omega), hz, vl_zero, show flN s 0 = 0 from by unfold flN; simp, rn_nought]
        rw [e]
        refine rfloor_self _ h hb hf ?_ w
        rw [hl, show ((r : Int) == 0) = true from beqN_t (y := 0) hz, Bool.or_true]
      · have hR : r < 9218868437227405312 := by omega
        have k1 : ((lowW (wd s r) : Int) == 9218868437227405312) = false := by rw [hl]; exact beqN_f (y := 9218868437227405312) hi
        have k2 : ((lowW (wd s r) : Int) == 0) = false := by rw [hl]; exact beqN_f (y := 0) hz
        obtain ⟨tm, te⟩ := tk_wd s r hR
        rw [floorW_num s r hR]
        by_cases hE : 1074 ≤ ex r
        · rw [flN_whole s (by rw [vl_mg, show ex r = 1074 + (ex r - 1074) from by omega]; exact mul_mod_UU _ _), rn_vl hR]
          exact rfloor_whole _ _ (ex r - 1074) h hb hf k1 k2 tm (by rw [te]; omega) w
        · obtain ⟨d, hd⟩ : ∃ d, ex r + d = 1074 := ⟨1074 - ex r, by omega⟩
          have te2 : tkE (wd s r) = -(d : Int) := by rw [te]; omega
          rw [flN_mid s r d hd]
          have hm0 : mg r ≠ 0 := by
            intro k; have := vl_pos (r := r) (by omega); rw [vl_mg, k, Nat.zero_mul] at this; omega
          have hml := mg_lt r
          have hs := top_wd s r hr
          have hp := Nat.two_pow_pos d
          have hdm := Nat.div_add_mod (mg r) (2 ^ d)
          by_cases hbig : 64 ≤ d
          · have h64 : mg r < 2 ^ d := Nat.lt_of_lt_of_le (by omega) (Nat.pow_le_pow_right (by omega) hbig : 2 ^ 64 ≤ 2 ^ d)
            rw [Nat.div_eq_of_lt h64, Nat.mod_eq_of_lt h64, bne_iff_ne.2 hm0, Nat.zero_add, Bool.and_true]
            cases s
            · rw [show (false).toNat = 0 from rfl, rn_nought]
              exact rfloor_tiny_f _ _ d h hb hf k1 k2 tm te2 (by omega) hs w
            · rw [show (true).toNat = 1 from rfl]
              exact rfloor_tiny_t _ _ d _ h hb hf k1 k2 tm te2 (rnd_t 1 (by decide) (by decide)) (by omega) hs w
          · have hsh : (mg r : Int) / 2 ^ d = ((mg r / 2 ^ d : Nat) : Int) := by simp
            have hle : mg r / 2 ^ d * 2 ^ d ≤ mg r := Nat.div_mul_le_self _ _
            have hbk : IntKind.u64.wrap (((mg r / 2 ^ d : Nat) : Int) * 2 ^ d) = ((mg r / 2 ^ d * 2 ^ d : Nat) : Int) := by
              rw [← wrap_nat (mg r / 2 ^ d * 2 ^ d) (by omega)]; simp
            have hd1 : 1 ≤ d := by omega
            have hn2 : mg r / 2 ^ d < 4503599627370496 := by
              refine (Nat.div_lt_iff_lt_mul hp).2 ?_
              have := Nat.pow_le_pow_right (n := 2) (by omega) hd1
              omega
            rw [Nat.mul_comm] at hdm
            cases s
            · rw [Bool.false_and, show (false).toNat = 0 from rfl, Nat.add_zero]
              by_cases h0 : mg r / 2 ^ d = 0
              · rw [h0, rn_nought]
                exact rfloor_f0 _ _ d _ _ h hb hf k1 k2 tm te2 (by omega) (by omega) hsh hbk hs (beqN_t (y := 0) h0) w
              · exact rfloor_fn _ _ d _ _ _ h hb hf k1 k2 tm te2 (rnd_f _ h0 (by omega)) (by omega) (by omega) hsh hbk hs (beqN_f (y := 0) h0) w
            · rw [Bool.true_and]
              by_cases hz2 : mg r % 2 ^ d = 0
              · have h0 : mg r / 2 ^ d ≠ 0 := by intro k; rw [k, hz2] at hdm; omega
                rw [bne_eq_false_iff_eq.2 hz2, show (false).toNat = 0 from rfl, Nat.add_zero]
                exact rfloor_tf _ _ d _ _ _ h hb hf k1 k2 tm te2 (rnd_t _ h0 (by omega)) (by omega) (by omega) hsh hbk hs (bneN_f (by omega)) (beqN_f (y := 0) h0) w
              · rw [bne_iff_ne.2 hz2, show (true).toNat = 1 from rfl]
                exact rfloor_tt _ _ d _ _ (mg r / 2 ^ d + 1) _ h hb hf k1 k2 tm te2 (rnd_t (mg r / 2 ^ d + 1) (Nat.succ_ne_zero _) (by omega)) (by omega) (by omega) hsh hbk hs (bneN_t (x := mg r / 2 ^ d * 2 ^ d) (y := mg r) (by omega)) (by rw [← wrap_nat (mg r / 2 ^ d + 1) (by omega)]; simp) (beqN_f (y := 0) (Nat.succ_ne_zero _)) w
end Go.Proofs.YtdklpgkheakapaaGreatDoor
