import Derived.Test.YtijekbmhecnajacDoorCountM
namespace Go.Proofs.YtijekbmhecnajacDoor
open Gn

theorem vl_one : vl 4607182418800017408 = UU := by
  unfold vl
  rw [if_neg (by decide), show 4607182418800017408 / 4503599627370496 - 1 = 1022 from by decide, show 4503599627370496 + 4607182418800017408 % 4503599627370496 = 2 ^ 52 from by decide, ← pow_split 52 1022 1074 rfl, UU_def]
theorem rn_UU : rn UU = 4607182418800017408 := by
  rw [← vl_one]; exact rn_vl (by decide)
theorem big_whole {r : Nat} (h : 4841369599423283200 ≤ r) : vl r % UU = 0 := by
  rw [vl_mg, show ex r = 1074 + (ex r - 1074) from by unfold ex; omega]; exact mul_mod_UU _ _
theorem small_lt {r : Nat} (h : r < 4841369599423283200) : vl r < 4503599627370496 * UU := by
  have e : vl 4841369599423283200 = 4503599627370496 * UU := by
    unfold vl
    rw [if_neg (by decide), show 4841369599423283200 / 4503599627370496 - 1 = 1074 from by decide, show 4503599627370496 + 4841369599423283200 % 4503599627370496 = 4503599627370496 from by decide, UU_def]
  rw [← e]; exact vl_lt h
theorem floor_num (s : Bool) (r : Nat) (h : r ≤ 9218868437227405312) : floorW (wd s r) = flrD (wd s r) := by
  unfold floorW; rw [wd_mod s r (by omega), if_neg (by omega)]
/-- from 2^52 on a floor is the number -/
theorem floor_big (a : Nat) (ha : a < 18446744073709551616) (h : 4841369599423283200 ≤ absW a) : floorW a = canonW a := by
  obtain ⟨s, r, hr, rfl⟩ := wd_cases a ha
  rw [abs_wd s r hr] at h
  rw [canon_wd s r hr]
  by_cases hn : 9218868437227405312 < r
  · unfold floorW; rw [wd_mod s r hr, if_pos hn, if_pos hn]
  · rw [if_neg hn] at h ⊢
    rw [floor_num s r (by omega)]
    by_cases hi : r = 9218868437227405312
    · subst hi; exact flr_inf s
    · rw [flr_wd s r (by omega), flN_whole s (big_whole h), rn_vl (by omega)]
/-- below it -/
structure Fl (a : Nat) : Prop where
  num : ∃ n : Int, intR (floorW a) = .tuple #[.int .i64 n, .int .i64 0] ∧ eqW (ofW n) (floorW a) = true
  notLess : ltW a (floorW a) = false
  one : ltW 4607182418800017408 (subW a (floorW a)) = false
  eqOr : eqW a (floorW a) = true ∨ (eqW a (floorW a) = false ∧ ltW (floorW a) a = true)
  next : ltW a (addW (floorW a) 4607182418800017408) = true
theorem fl_bounds (s : Bool) (v : Nat) : sgn s (flN s v * UU) ≤ sgn s v ∧ sgn s v < sgn s (flN s v * UU) + (UU : Int) := by
  have hp := UU_pos
  have h1 := Nat.div_add_mod v UU
  have h2 := Nat.mod_lt v hp
  unfold flN
  rw [Nat.mul_comm] at h1
  have h3 : (v / UU + 1) * UU = v / UU * UU + UU := Nat.succ_mul _ _
  generalize v / UU = d at *
  generalize v % UU = m at *
  by_cases hm : m = 0
  · subst hm
    have e : (s && (0 != 0)).toNat = 0 := by cases s <;> rfl
    rw [e, Nat.add_zero]
    generalize d * UU = x at *
    cases s <;> simp only [sgn] <;> simp <;> omega
  · have e : (m != 0) = true := by rw [bne_iff_ne]; exact hm
    rw [e]
    cases s
    · simp only [Bool.false_and, Bool.toNat_false, Nat.add_zero]
      generalize d * UU = x at *
      simp only [sgn]; simp; omega
    · simp only [Bool.true_and, Bool.toNat_true]
      rw [h3]
      generalize d * UU = x at *
      simp only [sgn]; simp; omega
theorem fl_of (s : Bool) (r : Nat) (h : r < 4841369599423283200) : Fl (wd s r) := by
  have hI : r < 9218868437227405312 := by omega
  have hF := flN_frac s (small_lt h)
  obtain ⟨e1, e2⟩ := rn_whole (M := flN s (vl r)) (by omega)
  have hfl : floorW (wd s r) = wd s (rn (flN s (vl r) * UU)) := by rw [floor_num s r (by omega), flr_wd s r hI]
  obtain ⟨b1, b2⟩ := fl_bounds s (vl r)
  have hp := UU_pos
  refine ⟨⟨sgn s (flN s (vl r)), ?_, ?_⟩, ?_, ?_, ?_, ?_⟩
  · rw [hfl, int_whole s _ (by omega)]
  · have hab : ∀ N : Nat, (sgn s N).natAbs = N := fun N => by cases s <;> simp [sgn]
    rw [hfl, of_eq, hab, eq_wd _ _ _ _ (by omega) (by omega), e1]
    refine decide_eq_true ?_
    generalize flN s (vl r) = N at *
    cases s
    · have : decide (sgn false N < 0) = false := decide_eq_false (by simp only [sgn]; simp)
      rw [this]
    · by_cases k : N = 0
      · subst k; simp [sgn]
      · have : decide (sgn true N < 0) = true := decide_eq_true (by simp only [sgn]; simp; omega)
        rw [this]
  · rw [hfl, lt_wd _ _ _ _ (by omega) (by omega), e1]; exact decide_eq_false (by omega)
  · rw [hfl]
    unfold subW
    rw [neg_wd s _ (by omega), if_neg (by omega), add_fin s (!s) r _ hI e2]
    have hT : tot s (!s) r (rn (flN s (vl r) * UU)) = sgn s (vl r) - sgn s (flN s (vl r) * UU) := by
      unfold tot; rw [e1]
      have : sgn (!s) (flN s (vl r) * UU) = - sgn s (flN s (vl r) * UU) := by cases s <;> simp [sgn]
      rw [this]; omega
    rw [hT]
    have d1 : 0 ≤ sgn s (vl r) - sgn s (flN s (vl r) * UU) := by omega
    have d2 : sgn s (vl r) - sgn s (flN s (vl r) * UU) < (UU : Int) := by omega
    generalize sgn s (vl r) - sgn s (flN s (vl r) * UU) = D at *
    have hs : (if D = 0 then s && !s else decide (D < 0)) = false := by
      split
      · cases s <;> rfl
      · exact decide_eq_false (by omega)
    rw [hs, show (4607182418800017408 : Nat) = wd false 4607182418800017408 from rfl, lt_wd false false _ _ (by decide) (rn_le _), vl_one]
    refine decide_eq_false ?_
    have hm : rn D.natAbs ≤ 4607182418800017408 := by rw [← rn_UU]; exact rn_mono (by omega)
    have hv : vl (rn D.natAbs) ≤ UU := by
      rw [← vl_one]
      rcases Nat.lt_or_eq_of_le hm with k | k
      · exact Nat.le_of_lt (vl_lt k)
      · rw [k]; exact Nat.le_refl _
    generalize vl (rn D.natAbs) = z at *
    simp only [sgn]; simp; omega
  · rw [hfl, eq_wd _ _ _ _ (by omega) (by omega), lt_wd _ _ _ _ (by omega) (by omega), e1]
    by_cases k : sgn s (vl r) = sgn s (flN s (vl r) * UU)
    · exact .inl (decide_eq_true k)
    · exact .inr ⟨decide_eq_false k, decide_eq_true (by omega)⟩
  · rw [hfl, show (4607182418800017408 : Nat) = wd false 4607182418800017408 from rfl, add_fin s false _ _ e2 (by decide)]
    have hT : tot s false (rn (flN s (vl r) * UU)) 4607182418800017408 = (sgn s (flN s (vl r)) + 1) * (UU : Int) := by
      unfold tot; rw [e1, vl_one, sgn_mul, Int.add_mul, Int.one_mul]; rfl
    have hb : (sgn s (flN s (vl r)) + 1).natAbs < 9007199254740992 := by
      generalize flN s (vl r) = N at *
      cases s <;> simp only [sgn] <;> simp <;> omega
    obtain ⟨c1, c2⟩ := rn_whole hb
    have hN : ((sgn s (flN s (vl r)) + 1) * (UU : Int)).natAbs = (sgn s (flN s (vl r)) + 1).natAbs * UU := by rw [Int.natAbs_mul]; rfl
    rw [hT, hN, lt_wd _ _ _ _ (by omega) (by omega), c1]
    refine decide_eq_true ?_
    have b3 : sgn s (flN s (vl r) * UU) + (UU : Int) = (sgn s (flN s (vl r)) + 1) * (UU : Int) := by rw [sgn_mul, Int.add_mul, Int.one_mul]
    rw [b3] at b2
    generalize sgn s (flN s (vl r)) + 1 = y at *
    have key : sgn (if y * (UU : Int) = 0 then s && false else decide (y * (UU : Int) < 0)) (y.natAbs * UU) = y * (UU : Int) := by
      rcases Int.lt_trichotomy y 0 with k | k | k
      · have k1 := Int.mul_neg_of_neg_of_pos k (show (0 : Int) < (UU : Int) by omega)
        rw [if_neg (by omega), decide_eq_true k1, sgn_mul]
        refine congrArg (fun z : Int => z * (UU : Int)) ?_
        simp only [sgn]; simp; omega
      · subst k; simp [sgn]
      · have k1 := Int.mul_pos k (show (0 : Int) < (UU : Int) by omega)
        rw [if_neg (by omega), decide_eq_false (by omega), sgn_mul]
        refine congrArg (fun z : Int => z * (UU : Int)) ?_
        simp only [sgn]; simp; omega
    rw [key]; exact b2
end Go.Proofs.YtijekbmhecnajacDoor
