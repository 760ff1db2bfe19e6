import Derived.Test.YteokcgclmgleiaaDoorPsB
namespace Go.Proofs.YteokcgclmgleiaaDoor
open Go.RowKit

/-- what digits spell -/
def dec (acc : Nat) : List UInt8 → Nat
  | [] => acc
  | c :: r => dec (acc * 10 + (c.toNat - 48)) r
theorem dig_val {c : UInt8} (h : digB c = true) : 48 ≤ c.toNat ∧ c.toNat ≤ 57 := by
  unfold digB at h
  simp only [Bool.and_eq_true, decide_eq_true_eq] at h
  exact h
theorem decFrom_dig : ∀ (l : List UInt8) (acc : Nat), l.all digB = true → Lib.decFrom acc l = some (dec acc l)
  | [], acc, _ => rfl
  | c :: r, acc, h => by
    simp only [List.all_cons, Bool.and_eq_true] at h
    have hd := dig_val h.1
    have e : Lib.digitVal c = some (c.toNat - 48) := if_pos hd
    rw [Lib.decFrom, e]
    show Lib.decFrom (acc * 10 + (c.toNat - 48)) r = some (dec (acc * 10 + (c.toNat - 48)) r)
    exact decFrom_dig r _ h.2
theorem dec_lt : ∀ (l : List UInt8) (acc j : Nat), l.all digB = true → acc < 10 ^ j → dec acc l < 10 ^ (j + l.length)
  | [], acc, j, _, ha => ha
  | c :: r, acc, j, h, ha => by
    simp only [List.all_cons, Bool.and_eq_true] at h
    have hd := dig_val h.1
    have h1 : acc * 10 + (c.toNat - 48) < 10 ^ (j + 1) := by rw [Nat.pow_succ]; omega
    have h2 := dec_lt r _ (j + 1) h.2 h1
    rw [List.length_cons, show j + (r.length + 1) = j + 1 + r.length by omega]
    exact h2
theorem pu_dig (M : Nat) (hM : 9999999999999999999 ≤ M) : ∀ (l : List UInt8) (acc j : Nat), l.all digB = true → acc < 10 ^ j → j + l.length ≤ 18 → Lib.parseUintM M acc l = .ok (dec acc l)
  | [], acc, j, _, _, _ => rfl
  | c :: r, acc, j, h, ha, hl => by
    simp only [List.all_cons, Bool.and_eq_true] at h
    rw [List.length_cons] at hl
    have hd := dig_val h.1
    have hp : 10 ^ j ≤ 10 ^ 17 := Nat.pow_le_pow_right (by omega) (by omega)
    have hq : (10 : Nat) ^ 17 = 100000000000000000 := by decide
    have h1 : acc * 10 + (c.toNat - 48) < 10 ^ (j + 1) := by rw [Nat.pow_succ]; omega
    rw [Lib.parseUintM, if_pos hd, if_neg (by omega), if_neg (by omega)]
    show _ = Lib.NumEnd.ok (dec (acc * 10 + (c.toNat - 48)) r)
    exact pu_dig M hM r _ (j + 1) h.2 h1 (by omega)
theorem len_log {n : Nat} (h0 : 1 ≤ n) (h : n < 18446744073709551616) : Lib.bitLen n = n.log2 + 1 := by
  have hl : 2 ^ n.log2 ≤ n := Nat.log2_self_le (by omega)
  have hu : n < 2 ^ (n.log2 + 1) := Nat.lt_log2_self
  rw [Lib.bitLen_shift n.log2 n hl h]
  have e : n / 2 ^ n.log2 = 1 := by
    have := Nat.two_pow_pos n.log2
    rw [Nat.pow_succ] at hu
    exact Nat.div_eq_of_lt_le (by omega) (by omega)
  rw [e]; rfl
/-- the number that a text of a whole number, of a power spells -/
def numV (s : ByteArray) : Nat := dec 0 s.toList
def powV (s : ByteArray) : Int := if minusB s then -(numV (s.extract 1 s.size) : Int) else numV s
theorem whole_all {s : ByteArray} (h : wholeB s = true) : s.toList.all digB = true := by
  unfold wholeB at h
  simp only [Bool.and_eq_true] at h
  exact h.1
theorem size_list (s : ByteArray) : s.toList.length = s.size := by rw [ByteArray.toList_eq]; rfl
theorem pu_whole {s : ByteArray} (h : wholeB s = true) (hl : s.size ≤ 16) : Lib.parseUintB 64 s.data.toList = .ok (numV s) := by
  have hs := whole_size h
  have ha := whole_all h
  unfold numV
  have hl2 := size_list s
  rw [ByteArray.toList_eq] at *
  unfold Lib.parseUintB
  rw [if_neg (fun e => by rw [e] at hl2; simp at hl2; omega)]
  exact pu_dig _ (by decide) _ 0 0 ha (by decide) (by omega)
theorem numV_lt {s : ByteArray} (h : wholeB s = true) : numV s < 10 ^ s.size := by
  have := dec_lt s.toList 0 0 (whole_all h) (by decide)
  rw [size_list, Nat.zero_add] at this
  exact this
theorem decNat_whole {s : ByteArray} (h : wholeB s = true) : Lib.decNat s.data.toList = some (numV s) := by
  have hs := whole_size h
  have ha := whole_all h
  have hl2 := size_list s
  unfold numV
  rw [ByteArray.toList_eq] at *
  unfold Lib.decNat
  rw [if_neg (fun e => by rw [List.isEmpty_iff.1 e] at hl2; simp at hl2; omega)]
  exact decFrom_dig _ 0 ha
theorem atoi_pow {s : ByteArray} (h : powB s = true) : Lib.atoi s.data.toList = some (powV s) := by
  unfold powB at h
  unfold powV
  cases hm : minusB s
  · rw [hm] at h
    have hw : wholeB s = true := h
    have hd := decNat_whole hw
    have ha := whole_all hw
    have hs := whole_size hw
    rw [ByteArray.toList_eq] at ha
    have hl : s.data.toList.length = s.size := rfl
    cases hc : s.data.toList with
    | nil => rw [hc] at hl; simp at hl; omega
    | cons c r =>
      rw [hc] at hd ha
      simp only [List.all_cons, Bool.and_eq_true] at ha
      have hv := dig_val ha.1
      have n1 : (c == 45) = false := by
        rw [beq_eq_false_iff_ne]; intro e; subst e; revert hv; decide
      have n2 : (c == 43) = false := by
        rw [beq_eq_false_iff_ne]; intro e; subst e; revert hv; decide
      unfold Lib.atoi
      simp only [n1, n2, hd, Option.map_some, if_false, Bool.false_eq_true]
  · rw [hm] at h
    have hw : wholeB (s.extract 1 s.size) = true := by
      simp only [if_true, Bool.and_eq_true] at h; exact h.1
    have hd := decNat_whole hw
    have he : (s.extract 1 s.size).data.toList = s.data.toList.drop 1 := by
      rw [← ByteArray.toList_eq, Lib.extract_toList, List.take_of_length_le]
      rw [List.length_drop]; exact Nat.le_refl _
    rw [he] at hd
    unfold minusB at hm
    rw [Lib.extract_toList] at hm
    cases hc : s.data.toList with
    | nil => rw [hc] at hm; cases hm
    | cons c r =>
      rw [hc] at hm hd
      have e1 : (c == 45) = true := by simpa using hm
      unfold Lib.atoi
      simp only [e1, if_true]
      rw [show r = (c :: r).drop 1 from rfl, hd]; rfl
end Go.Proofs.YteokcgclmgleiaaDoor
