import Derived.Test.YteokcgclmgleiaaDoorPsG
namespace Go.Proofs.YteokcgclmgleiaaDoor
open Go.RowKit

theorem minus_head (s : ByteArray) : minusB s = (s.toList.headD 0 == 45) := by
  unfold minusB
  rw [Lib.extract_toList, ByteArray.toList_eq]
  cases s.data.toList with
  | nil => rfl
  | cons c r =>
    show ([c] == [45]) = (c == 45)
    by_cases h : c = 45
    · subst h; rfl
    · rw [beq_eq_false_iff_ne.mpr h, beq_eq_false_iff_ne.mpr (fun e => h (by injection e))]
theorem rest_list (s : ByteArray) : (s.extract 1 s.size).toList = s.toList.drop 1 := by
  rw [Lib.extract_toList, ByteArray.toList_eq, List.take_of_length_le]
  rw [List.length_drop]; exact Nat.le_refl _
theorem digits_nominus {l : List UInt8} (ha : l.all digB = true) : (l.headD 0 == 45) = false := by
  cases l with
  | nil => rfl
  | cons c r =>
    simp only [List.all_cons, Bool.and_eq_true] at ha
    have hv := dig_val ha.1
    show (c == 45) = false
    rw [beq_eq_false_iff_ne]; intro e; subst e; revert hv; decide
theorem pow_text {s : ByteArray} {k : Int} (h : s.toList = Lib.itoa k) : powB s = true ∧ powV s = k := by
  unfold powB powV
  rcases Int.lt_or_le k 0 with hk | hk
  · have e : s.toList = 45 :: Lib.decDigits k.natAbs := by rw [h]; unfold Lib.itoa; rw [if_pos hk]
    have hm : minusB s = true := by rw [minus_head, e]; rfl
    have hr : (s.extract 1 s.size).toList = Lib.decDigits k.natAbs := by rw [rest_list, e]; rfl
    have hw : wholeB (s.extract 1 s.size) = true := by rw [whole_list, hr]; exact digits_whole _
    have hv : numV (s.extract 1 s.size) = k.natAbs := by unfold numV; rw [hr]; exact dec_digits _
    have hz : ((s.extract 1 s.size).toList == [48]) = false := by
      rw [beq_eq_false_iff_ne, hr]; intro e2
      have := dec_digits k.natAbs
      rw [e2] at this
      have h0 : dec 0 [48] = 0 := by decide
      omega
    rw [hm, if_pos rfl, if_pos rfl, hw, hz, hv]
    exact ⟨rfl, by omega⟩
  · have e : s.toList = Lib.decDigits k.toNat := by rw [h]; unfold Lib.itoa; rw [if_neg (by omega)]
    have hm : minusB s = false := by rw [minus_head, e]; exact digits_nominus (digits_all _)
    have hw : wholeB s = true := by rw [whole_list, e]; exact digits_whole _
    have hv : numV s = k.toNat := by unfold numV; rw [e]; exact dec_digits _
    rw [hm, if_neg (by decide), if_neg (by decide), hw, hv]
    exact ⟨rfl, by omega⟩
theorem pow_back {s : ByteArray} (h : powB s = true) : s.toList = Lib.itoa (powV s) := by
  unfold powB at h
  unfold powV
  cases hm : minusB s
  · rw [hm, if_neg (by decide)] at h
    rw [if_neg (by decide), Lib.itoa_nonneg]
    rw [whole_list] at h
    exact (whole_digits h).symm
  · rw [hm, if_pos rfl, Bool.and_eq_true] at h
    rw [if_pos rfl]
    have h1 := h.1
    rw [whole_list] at h1
    have hd := whole_digits h1
    have hz : (s.extract 1 s.size).toList ≠ [48] := by
      have := h.2; simpa using this
    have hn : 1 ≤ numV (s.extract 1 s.size) := by
      rcases Nat.eq_zero_or_pos (numV (s.extract 1 s.size)) with h0 | h0
      · exfalso
        have h0' : dec 0 (s.extract 1 s.size).toList = 0 := h0
        rw [h0', Lib.decDigits_one (by decide)] at hd
        exact hz hd.symm
      · exact h0
    rw [Lib.itoa_neg _ hn]
    unfold numV
    rw [hd, rest_list]
    rw [minus_head] at hm
    cases hc : s.toList with
    | nil => rw [hc] at hm; cases hm
    | cons c r =>
      rw [hc] at hm
      have : c = 45 := by simpa using hm
      rw [this]; rfl
theorem at_list (s : ByteArray) (i : Nat) (h : i < s.size) : s[i]! = s.toList[i]'(by rw [size_list]; exact h) := by
  rw [getElem!_pos s i h]
  simp only [ByteArray.toList_eq]
  rfl
/-- the place of the first p -/
theorem first_at {s : ByteArray} {lo lp : List UInt8} (h : s.toList = lo ++ 112 :: lp) (hd : lo.all digB = true) : firstIdx s 112 = (lo.length : Int) := by
  have hs : s.size = lo.length + 1 + lp.length := by rw [← size_list, h]; simp; omega
  unfold firstIdx
  have hf : (List.range s.size).find? (fun i => s[i]! == 112) = some lo.length := by
    rw [List.find?_range_eq_some]
    refine ⟨?_, ?_, ?_⟩
    · show (s[lo.length]! == 112) = true
      rw [at_list s _ (by omega)]
      simp [h]
    · rw [List.mem_range]; omega
    · intro j hj
      show (!(s[j]! == 112)) = true
      rw [at_list s j (by omega)]
      have e : s.toList[j]'(by rw [size_list]; omega) = lo[j] := by simp [h, hj]
      rw [e]
      have := dig_val (List.all_eq_true.mp hd _ (List.getElem_mem hj))
      have hne : lo[j] ≠ 112 := fun e2 => by rw [e2] at this; revert this; decide
      simpa using hne
  rw [hf]
theorem first_split {s : ByteArray} {i : Nat} (h : firstIdx s 112 = (i : Int)) : i < s.size ∧ s.toList = (s.extract 0 i).toList ++ 112 :: (s.extract (i + 1) s.size).toList := by
  unfold firstIdx at h
  cases hf : (List.range s.size).find? (fun i => s[i]! == 112) with
  | none => rw [hf] at h; simp at h
  | some j =>
    rw [hf] at h
    have hj : j = i := by
      have h' : (j : Int) = (i : Int) := h
      omega
    subst hj
    have hm := List.mem_of_find?_eq_some hf
    rw [List.mem_range] at hm
    have hp := List.find?_some hf
    have hp2 : s[j]! = 112 := by simpa using hp
    rw [at_list s j hm] at hp2
    refine ⟨hm, ?_⟩
    have hlen : j < s.toList.length := by rw [size_list]; exact hm
    rw [Lib.extract_toList, Lib.extract_toList, ← ByteArray.toList_eq, List.drop_zero, Nat.sub_zero, List.take_of_length_le (l := s.toList.drop (j + 1)) (by rw [List.length_drop, size_list]; exact Nat.le_refl _)]
    conv => lhs; rw [← List.take_append_drop j s.toList, List.drop_eq_getElem_cons hlen, hp2]
end Go.Proofs.YteokcgclmgleiaaDoor
