import Derived.Test.YthjngodkpldpfaaGreatDoorMgAI

section
namespace Go.Proofs.YthjngodkpldpfaaGreatDoor
open Gn Ieee

/-- what canonW does -/
theorem canon_or (a : Nat) : (canonW a = a ∧ ¬ 9218868437227405312 < a % 9223372036854775808) ∨ (canonW a = 9221120237041090561 ∧ 9218868437227405312 < a % 9223372036854775808) := by
  unfold canonW
  by_cases h : 9218868437227405312 < a % 9223372036854775808
  · right; rw [if_pos h]; exact ⟨rfl, h⟩
  · left; rw [if_neg h]; exact ⟨rfl, h⟩
theorem canon_idem (a : Nat) : canonW (canonW a) = canonW a := by
  rcases canon_or a with ⟨h, _⟩ | ⟨h, _⟩
  · rw [h, h]
  · rw [h]; exact canon_nan
theorem isnan_of (a : Nat) (h : a < 18446744073709551616) (hn : 9218868437227405312 < a % 9223372036854775808) : IsNan (double.read a) := by
  obtain ⟨s, r, hr, rfl⟩ := wd_cases a h
  rw [wd_mod s r hr] at hn
  rw [read_wd s r hr, rd_nan s r hn]
  exact ⟨_, _, rfl⟩
section
variable (a b : Nat) (ha : a < 18446744073709551616) (hb : b < 18446744073709551616)
include ha hb
theorem heed_add : addW (canonW a) (canonW b) = addW a b := by
  simp only [add_ans]
  rcases canon_or a with ⟨h, _⟩ | ⟨h, hn⟩
  · rw [h]
    rcases canon_or b with ⟨k, _⟩ | ⟨k, kn⟩
    · rw [k]
    · rw [k, sum_nan_right _ nan_NAN, sum_nan_right _ (isnan_of b hb kn)]
  · rw [h, sum_nan_left _ nan_NAN, sum_nan_left _ (isnan_of a ha hn)]
theorem heed_mul : mulW (canonW a) (canonW b) = mulW a b := by
  simp only [mul_ans]
  rcases canon_or a with ⟨h, _⟩ | ⟨h, hn⟩
  · rw [h]
    rcases canon_or b with ⟨k, _⟩ | ⟨k, kn⟩
    · rw [k]
    · rw [k, product_nan_right _ nan_NAN, product_nan_right _ (isnan_of b hb kn)]
  · rw [h, product_nan_left _ nan_NAN, product_nan_left _ (isnan_of a ha hn)]
theorem heed_div : divW (canonW a) (canonW b) = divW a b := by
  simp only [div_ans]
  rcases canon_or a with ⟨h, _⟩ | ⟨h, hn⟩
  · rw [h]
    rcases canon_or b with ⟨k, _⟩ | ⟨k, kn⟩
    · rw [k]
    · rw [k, quotient_nan_right _ _ nan_NAN, quotient_nan_right _ _ (isnan_of b hb kn)]
  · rw [h, quotient_nan_left _ _ nan_NAN, quotient_nan_left _ _ (isnan_of a ha hn)]
end
theorem heed_rank (a : Nat) : rankW (canonW a) = rankW a := by unfold rankW; rw [canon_idem]
theorem heed_ord (a b : Nat) : ordW (canonW a) (canonW b) = ordW a b := by unfold ordW; rw [heed_rank, heed_rank]
theorem heed_neg (a : Nat) (ha : a < 18446744073709551616) : negW (canonW a) = negW a := by
  rcases canon_or a with ⟨h, _⟩ | ⟨h, hn⟩
  · rw [h]
  · obtain ⟨s, r, hr, rfl⟩ := wd_cases a ha
    rw [wd_mod s r hr] at hn
    rw [h, neg_NAN, neg_wd s r hr, if_pos hn]
theorem heed_abs (a : Nat) (ha : a < 18446744073709551616) : absW (canonW a) = absW a := by
  rcases canon_or a with ⟨h, _⟩ | ⟨h, hn⟩
  · rw [h]
  · obtain ⟨s, r, hr, rfl⟩ := wd_cases a ha
    rw [wd_mod s r hr] at hn
    rw [h, abs_wd s r hr, if_pos hn]
    decide
theorem heed_sub (a b : Nat) (ha : a < 18446744073709551616) (hb : b < 18446744073709551616) : subW (canonW a) (canonW b) = subW a b := by
  unfold subW
  rw [heed_neg b hb]
  have h := heed_add a (negW b) ha (neg_lt b hb)
  have e : canonW (negW b) = negW b := canon_idem _
  rw [e] at h
  exact h
theorem heed_cls (a : Nat) : clsN (canonW a) = clsN a := by
  rcases canon_or a with ⟨h, _⟩ | ⟨h, hn⟩
  · rw [h]
  · rw [h, (cls_nan a).2 hn]; decide
theorem heed_text (a : Nat) : textB (canonW a) = textB a := by unfold textB; rw [canon_idem]
theorem heed_floor (a : Nat) : floorW (canonW a) = floorW a := by
  rcases canon_or a with ⟨h, _⟩ | ⟨h, hn⟩
  · rw [h]
  · rw [h]; unfold floorW; rw [if_pos hn, if_pos (by decide)]
theorem heed_any (a b : Nat) : anyN (canonW a) (canonW b) = anyN a b := by unfold anyN; rw [heed_cls, heed_cls]
theorem any_not {a b : Nat} (h : ¬ anyN a b = true) : canonW a = a ∧ canonW b = b := by
  have h1 : clsN a ≠ 0 ∧ clsN b ≠ 0 := by unfold anyN at h; simpa using h
  refine ⟨?_, ?_⟩
  · rcases canon_or a with ⟨k, _⟩ | ⟨_, kn⟩
    · exact k
    · exact absurd ((cls_nan a).2 kn) h1.1
  · rcases canon_or b with ⟨k, _⟩ | ⟨_, kn⟩
    · exact k
    · exact absurd ((cls_nan b).2 kn) h1.2
theorem heed_min (a b : Nat) : minW (canonW a) (canonW b) = minW a b := by
  unfold minW
  rw [heed_any, heed_rank, heed_rank]
  by_cases h : anyN a b = true
  · rw [if_pos h, if_pos h]
  · rw [if_neg h, if_neg h, (any_not h).1, (any_not h).2]
theorem heed_max (a b : Nat) : maxW (canonW a) (canonW b) = maxW a b := by
  unfold maxW
  rw [heed_any, heed_rank, heed_rank]
  by_cases h : anyN a b = true
  · rw [if_pos h, if_pos h]
  · rw [if_neg h, if_neg h, (any_not h).1, (any_not h).2]
theorem canon_min (a b : Nat) : canonW (minW a b) = minW a b := by
  unfold minW
  by_cases h : anyN a b = true
  · rw [if_pos h]; exact canon_nan
  · rw [if_neg h]; split
    · exact (any_not h).2
    · exact (any_not h).1
theorem canon_max (a b : Nat) : canonW (maxW a b) = maxW a b := by
  unfold maxW
  by_cases h : anyN a b = true
  · rw [if_pos h]; exact canon_nan
  · rw [if_neg h]; split
    · exact (any_not h).2
    · exact (any_not h).1
theorem min_lt (a b : Nat) (ha : a < 18446744073709551616) (hb : b < 18446744073709551616) : minW a b < 18446744073709551616 := by
  unfold minW; split
  · decide
  · split <;> assumption
theorem max_lt (a b : Nat) (ha : a < 18446744073709551616) (hb : b < 18446744073709551616) : maxW a b < 18446744073709551616 := by
  unfold maxW; split
  · decide
  · split <;> assumption
theorem canon_floor (a : Nat) (ha : a < 18446744073709551616) : canonW (floorW a) = floorW a := by
  unfold floorW
  by_cases h : 9218868437227405312 < a % 9223372036854775808
  · rw [if_pos h]; exact canon_nan
  · rw [if_neg h]
    obtain ⟨s, r, hr, rfl⟩ := wd_cases a ha
    rw [wd_mod s r hr] at h
    exact flr_canon _ (by rw [read_wd s r hr]; exact rd_ok s r h)
theorem floor_lt (a : Nat) : floorW a < 18446744073709551616 := by
  unfold floorW; split
  · decide
  · exact flr_lt a
/-- a canonical word whose class is NaN is the NaN -/
theorem canon_word (v : Nat) (h : canonW v = v) (hc : clsN v = 0) : v = 9221120237041090561 := by
  rcases canon_or v with ⟨_, k⟩ | ⟨k, _⟩
  · exact absurd ((cls_nan v).1 hc) k
  · rw [← h]; exact k
end Go.Proofs.YthjngodkpldpfaaGreatDoor
end
