import Derived.Test.YteokcgclmgleiaaDoorPsC
namespace Go.Proofs.YteokcgclmgleiaaDoor
open Go.RowKit

def xw (n : Nat) : Nat := floatOfInt .f64 (n : Int)
theorem xw_is (n : Nat) : floatOfInt .f64 (n : Int) = xw n := rfl
/-- what parseAmount answers -/
def valP (n : Nat) (k : Int) : Nat × Int := if 9007199254740992 ≤ n ∨ k < -1074 ∨ 1024 < k + (Lib.bitLen n : Int) then (0, 11) else (Gn.rn (n * 2 ^ (k + 1074).toNat), 0)
def cutP (o p : ByteArray) : Nat × Int := if (oddB o && powB p) = false then (0, 10) else if 16 < o.size ∨ 5 < p.size then (0, 11) else valP (numV o) (powV p)
def amtP (s : ByteArray) : Nat × Int := if s.toList = [105, 110, 102] then (9218868437227405312, 0) else if s.toList = [48] then (0, 0) else if firstIdx s 112 < 0 then (0, 10) else cutP (s.extract 0 (firstIdx s 112).toNat) (s.extract ((firstIdx s 112).toNat + 1) s.size)
theorem dec_append : ∀ (l : List UInt8) (acc : Nat) (c : UInt8), dec acc (l ++ [c]) = dec acc l * 10 + (c.toNat - 48)
  | [], _, _ => rfl
  | d :: r, acc, c => by
    show dec (acc * 10 + (d.toNat - 48)) (r ++ [c]) = dec (acc * 10 + (d.toNat - 48)) r * 10 + (c.toNat - 48)
    exact dec_append r _ c
theorem odd_whole {s : ByteArray} (h : oddB s = true) : wholeB s = true := by
  unfold oddB at h; simp only [Bool.and_eq_true] at h; exact h.1
theorem odd_num {s : ByteArray} (h : oddB s = true) : numV s % 2 = 1 := by
  have hw := odd_whole h
  have ha := whole_all hw
  have hs := whole_size hw
  have hl := size_list s
  unfold oddB at h
  simp only [Bool.and_eq_true, beq_iff_eq] at h
  have h2 := h.2
  unfold numV
  have hne : s.toList ≠ [] := fun e => by rw [e] at hl; simp at hl; omega
  rw [← List.dropLast_concat_getLast hne] at ha ⊢
  rw [List.all_append, Bool.and_eq_true] at ha
  have hd : digB (s.toList.getLast hne) = true := by simpa using ha.2
  have hv := dig_val hd
  rw [List.getLastD_eq_getLast?, List.getLast?_eq_some_getLast hne, Option.getD_some] at h2
  rw [dec_append]
  omega
theorem first_cases (s : ByteArray) (c : UInt8) : firstIdx s c = -1 ∨ ∃ i : Nat, firstIdx s c = (i : Int) ∧ i + 1 ≤ s.size := by
  unfold firstIdx
  cases h : (List.range s.size).find? fun i => s[i]! == c with
  | none => exact Or.inl rfl
  | some i =>
    have := List.mem_of_find?_eq_some h
    rw [List.mem_range] at this
    exact Or.inr ⟨i, rfl, this⟩
theorem list_mk {s : ByteArray} {l : List UInt8} (h : s.toList = l) : s = ⟨l.toArray⟩ := by
  rw [ByteArray.toList_eq] at h
  cases s with | mk d => cases d; simp at h; rw [h]
set_option maxHeartbeats 400000 in
theorem pa_inf (w : World) : Calls Tryd.prog 21 #[.string ⟨#[105, 110, 102]⟩] w fun e w' => e = .returned (.tuple #[.int .u64 9218868437227405312, .int .i64 0]) ∧ w' = w := by
  go_enter Tryd.func21, Tryd.ntmps21
  go_wp2_with fail
  go_ret2
  exact ⟨rfl, rfl⟩
set_option maxHeartbeats 400000 in
theorem pa_zero (w : World) : Calls Tryd.prog 21 #[.string ⟨#[48]⟩] w fun e w' => e = .returned (.tuple #[.int .u64 0, .int .i64 0]) ∧ w' = w := by
  go_enter Tryd.func21, Tryd.ntmps21
  go_wp2_with fail
  go_ret2
  exact ⟨rfl, rfl⟩
set_option maxHeartbeats 400000 in
theorem pa_nop (s : ByteArray) (h1 : (s.toList == [105, 110, 102]) = false) (h2 : (s.toList == [48]) = false) (hi : firstIdx s 112 = -1) (w : World) : Calls Tryd.prog 21 #[.string s] w fun e w' => e = .returned (.tuple #[.int .u64 0, .int .i64 10]) ∧ w' = w := by
  have HC := Lib.hid (cut_no s hi)
  clear hi
  go_enter Tryd.func21, Tryd.ntmps21
  go_wp2_with fail
  refine (HC.out _).mono ?_
  rintro e w1 ⟨rfl, e1⟩
  subst e1
  go_wp2_with fail
  go_ret2
  exact ⟨rfl, rfl⟩

set_option maxHeartbeats 400000 in
set_option maxRecDepth 8000 in
theorem pa_odd (s o p : ByteArray) (h1 : (s.toList == [105, 110, 102]) = false) (h2 : (s.toList == [48]) = false) (HC : Hid (∀ w : World, Calls Tryd.prog 33 #[.string s, .string ⟨#[112]⟩] w fun e w' => e = .returned (.tuple #[.string o, .string p, .bool true]) ∧ ∃ n, w' = w.drewN n)) (HO : Hid (∀ w : World, Calls Tryd.prog 34 #[.string o] w fun e w' => e = .returned (.bool false) ∧ w' = w)) (w : World) : Calls Tryd.prog 21 #[.string s] w fun e w' => e = .returned (.tuple #[.int .u64 0, .int .i64 10]) ∧ Below w.heap.size w w' := by
  go_enter Tryd.func21, Tryd.ntmps21
  go_wp2_with fail
  refine (HC.out _).mono ?_
  rintro e w1 ⟨rfl, n1, e1⟩
  subst e1
  go_wp2_with fail
  refine (HO.out _).mono ?_
  rintro e w2 ⟨rfl, e2⟩
  subst e2
  go_wp2_with fail
  go_ret2
  exact ⟨rfl, bd _ _⟩

set_option maxHeartbeats 400000 in
set_option maxRecDepth 8000 in
theorem pa_pow (s o p : ByteArray) (h1 : (s.toList == [105, 110, 102]) = false) (h2 : (s.toList == [48]) = false) (HC : Hid (∀ w : World, Calls Tryd.prog 33 #[.string s, .string ⟨#[112]⟩] w fun e w' => e = .returned (.tuple #[.string o, .string p, .bool true]) ∧ ∃ n, w' = w.drewN n)) (HO : Hid (∀ w : World, Calls Tryd.prog 34 #[.string o] w fun e w' => e = .returned (.bool true) ∧ w' = w)) (HP : Hid (∀ w : World, Calls Tryd.prog 35 #[.string p] w fun e w' => e = .returned (.bool false) ∧ w' = w)) (w : World) : Calls Tryd.prog 21 #[.string s] w fun e w' => e = .returned (.tuple #[.int .u64 0, .int .i64 10]) ∧ Below w.heap.size w w' := by
  go_enter Tryd.func21, Tryd.ntmps21
  go_wp2_with fail
  refine (HC.out _).mono ?_
  rintro e w1 ⟨rfl, n1, e1⟩
  subst e1
  go_wp2_with fail
  refine (HO.out _).mono ?_
  rintro e w2 ⟨rfl, e2⟩
  subst e2
  go_wp2_with fail
  refine (HP.out _).mono ?_
  rintro e w3 ⟨rfl, e3⟩
  subst e3
  go_wp2_with fail
  go_ret2
  exact ⟨rfl, bd _ _⟩

set_option maxHeartbeats 400000 in
set_option maxRecDepth 8000 in
theorem pa_long (s o p : ByteArray) (h1 : (s.toList == [105, 110, 102]) = false) (h2 : (s.toList == [48]) = false) (HC : Hid (∀ w : World, Calls Tryd.prog 33 #[.string s, .string ⟨#[112]⟩] w fun e w' => e = .returned (.tuple #[.string o, .string p, .bool true]) ∧ ∃ n, w' = w.drewN n)) (HO : Hid (∀ w : World, Calls Tryd.prog 34 #[.string o] w fun e w' => e = .returned (.bool true) ∧ w' = w)) (HP : Hid (∀ w : World, Calls Tryd.prog 35 #[.string p] w fun e w' => e = .returned (.bool true) ∧ w' = w)) (hl : 16 < o.size) (w : World) : Calls Tryd.prog 21 #[.string s] w fun e w' => e = .returned (.tuple #[.int .u64 0, .int .i64 11]) ∧ Below w.heap.size w w' := by
  go_enter Tryd.func21, Tryd.ntmps21
  go_wp2_with fail
  refine (HC.out _).mono ?_
  rintro e w1 ⟨rfl, n1, e1⟩
  subst e1
  go_wp2_with fail
  refine (HO.out _).mono ?_
  rintro e w2 ⟨rfl, e2⟩
  subst e2
  go_wp2_with fail
  refine (HP.out _).mono ?_
  rintro e w3 ⟨rfl, e3⟩
  subst e3
  go_wp2_with fail
  go_ret2
  exact ⟨rfl, bd _ _⟩

set_option maxHeartbeats 400000 in
set_option maxRecDepth 8000 in
theorem pa_longp (s o p : ByteArray) (h1 : (s.toList == [105, 110, 102]) = false) (h2 : (s.toList == [48]) = false) (HC : Hid (∀ w : World, Calls Tryd.prog 33 #[.string s, .string ⟨#[112]⟩] w fun e w' => e = .returned (.tuple #[.string o, .string p, .bool true]) ∧ ∃ n, w' = w.drewN n)) (HO : Hid (∀ w : World, Calls Tryd.prog 34 #[.string o] w fun e w' => e = .returned (.bool true) ∧ w' = w)) (HP : Hid (∀ w : World, Calls Tryd.prog 35 #[.string p] w fun e w' => e = .returned (.bool true) ∧ w' = w)) (hl : o.size ≤ 16) (hl2 : 5 < p.size) (w : World) : Calls Tryd.prog 21 #[.string s] w fun e w' => e = .returned (.tuple #[.int .u64 0, .int .i64 11]) ∧ Below w.heap.size w w' := by
  go_enter Tryd.func21, Tryd.ntmps21
  go_wp2_with fail
  refine (HC.out _).mono ?_
  rintro e w1 ⟨rfl, n1, e1⟩
  subst e1
  go_wp2_with fail
  refine (HO.out _).mono ?_
  rintro e w2 ⟨rfl, e2⟩
  subst e2
  go_wp2_with fail
  refine (HP.out _).mono ?_
  rintro e w3 ⟨rfl, e3⟩
  subst e3
  go_wp2_with fail
  go_ret2
  exact ⟨rfl, bd _ _⟩

set_option maxHeartbeats 400000 in
set_option maxRecDepth 8000 in
theorem pa_big (s o p : ByteArray) (n : Nat) (k : Int) (h1 : (s.toList == [105, 110, 102]) = false) (h2 : (s.toList == [48]) = false) (HC : Hid (∀ w : World, Calls Tryd.prog 33 #[.string s, .string ⟨#[112]⟩] w fun e w' => e = .returned (.tuple #[.string o, .string p, .bool true]) ∧ ∃ n, w' = w.drewN n)) (HO : Hid (∀ w : World, Calls Tryd.prog 34 #[.string o] w fun e w' => e = .returned (.bool true) ∧ w' = w)) (HP : Hid (∀ w : World, Calls Tryd.prog 35 #[.string p] w fun e w' => e = .returned (.bool true) ∧ w' = w)) (HU : Hid (∀ w : World, Calls Tryd.prog 36 #[.string o, .int .i64 10, .int .i64 64] w fun e w' => e = .returned (.tuple #[.int .u64 (n : Int), .nilIface]) ∧ Below w.heap.size w w')) (HT : Hid (∀ w : World, Calls Tryd.prog 37 #[.string p] w fun e w' => e = .returned (.tuple #[.int .i64 k, .nilIface]) ∧ Below w.heap.size w w')) (hl : o.size ≤ 16) (hl2 : p.size ≤ 5) (hn : (9007199254740992 : Int) ≤ (n : Int)) (w : World) : Calls Tryd.prog 21 #[.string s] w fun e w' => e = .returned (.tuple #[.int .u64 0, .int .i64 11]) ∧ Below w.heap.size w w' := by
  go_enter Tryd.func21, Tryd.ntmps21
  go_wp2_with fail
  refine (HC.out _).mono ?_
  rintro e w1 ⟨rfl, n1, e1⟩
  subst e1
  go_wp2_with fail
  refine (HO.out _).mono ?_
  rintro e w2 ⟨rfl, e2⟩
  subst e2
  go_wp2_with fail
  refine (HP.out _).mono ?_
  rintro e w3 ⟨rfl, e3⟩
  subst e3
  go_wp2_with fail
  refine (HU.out _).mono ?_
  rintro e w4 ⟨rfl, b4⟩
  have B4 := Lib.hid b4
  clear b4
  go_wp2_with fail
  refine (HT.out _).mono ?_
  rintro e w5 ⟨rfl, b5⟩
  have B5 := Lib.hid b5
  clear b5
  go_wp2_with fail
  go_ret2
  exact ⟨rfl, bt (bt (bd _ _) B4.out) B5.out⟩

set_option maxHeartbeats 400000 in
set_option maxRecDepth 8000 in
theorem pa_low (s o p : ByteArray) (n : Nat) (k : Int) (h1 : (s.toList == [105, 110, 102]) = false) (h2 : (s.toList == [48]) = false) (HC : Hid (∀ w : World, Calls Tryd.prog 33 #[.string s, .string ⟨#[112]⟩] w fun e w' => e = .returned (.tuple #[.string o, .string p, .bool true]) ∧ ∃ n, w' = w.drewN n)) (HO : Hid (∀ w : World, Calls Tryd.prog 34 #[.string o] w fun e w' => e = .returned (.bool true) ∧ w' = w)) (HP : Hid (∀ w : World, Calls Tryd.prog 35 #[.string p] w fun e w' => e = .returned (.bool true) ∧ w' = w)) (HU : Hid (∀ w : World, Calls Tryd.prog 36 #[.string o, .int .i64 10, .int .i64 64] w fun e w' => e = .returned (.tuple #[.int .u64 (n : Int), .nilIface]) ∧ Below w.heap.size w w')) (HT : Hid (∀ w : World, Calls Tryd.prog 37 #[.string p] w fun e w' => e = .returned (.tuple #[.int .i64 k, .nilIface]) ∧ Below w.heap.size w w')) (hl : o.size ≤ 16) (hl2 : p.size ≤ 5) (HK : Hid (¬ (9007199254740992 : Int) ≤ (n : Int) ∧ k < -1074)) (w : World) : Calls Tryd.prog 21 #[.string s] w fun e w' => e = .returned (.tuple #[.int .u64 0, .int .i64 11]) ∧ Below w.heap.size w w' := by
  go_enter Tryd.func21, Tryd.ntmps21
  go_wp2_with fail
  refine (HC.out _).mono ?_
  rintro e w1 ⟨rfl, n1, e1⟩
  subst e1
  go_wp2_with fail
  refine (HO.out _).mono ?_
  rintro e w2 ⟨rfl, e2⟩
  subst e2
  go_wp2_with fail
  refine (HP.out _).mono ?_
  rintro e w3 ⟨rfl, e3⟩
  subst e3
  go_wp2_with fail
  refine (HU.out _).mono ?_
  rintro e w4 ⟨rfl, b4⟩
  have B4 := Lib.hid b4
  clear b4
  go_wp2_with fail
  refine (HT.out _).mono ?_
  rintro e w5 ⟨rfl, b5⟩
  have B5 := Lib.hid b5
  clear b5
  obtain ⟨hn, hk⟩ := HK.out
  go_wp2_with fail
  go_ret2
  exact ⟨rfl, bt (bt (bd _ _) B4.out) B5.out⟩

set_option maxHeartbeats 400000 in
set_option maxRecDepth 8000 in
theorem pa_high (s o p : ByteArray) (n : Nat) (k : Int) (L : Nat) (h1 : (s.toList == [105, 110, 102]) = false) (h2 : (s.toList == [48]) = false) (HC : Hid (∀ w : World, Calls Tryd.prog 33 #[.string s, .string ⟨#[112]⟩] w fun e w' => e = .returned (.tuple #[.string o, .string p, .bool true]) ∧ ∃ n, w' = w.drewN n)) (HO : Hid (∀ w : World, Calls Tryd.prog 34 #[.string o] w fun e w' => e = .returned (.bool true) ∧ w' = w)) (HP : Hid (∀ w : World, Calls Tryd.prog 35 #[.string p] w fun e w' => e = .returned (.bool true) ∧ w' = w)) (HU : Hid (∀ w : World, Calls Tryd.prog 36 #[.string o, .int .i64 10, .int .i64 64] w fun e w' => e = .returned (.tuple #[.int .u64 (n : Int), .nilIface]) ∧ Below w.heap.size w w')) (HT : Hid (∀ w : World, Calls Tryd.prog 37 #[.string p] w fun e w' => e = .returned (.tuple #[.int .i64 k, .nilIface]) ∧ Below w.heap.size w w')) (HN : Hid (∀ w : World, Calls Tryd.prog 38 #[.int .u64 (n : Int)] w fun e w' => e = .returned (.int .i64 (L : Int)) ∧ w' = w)) (hl : o.size ≤ 16) (hl2 : p.size ≤ 5) (HK : Hid (¬ (9007199254740992 : Int) ≤ (n : Int) ∧ ¬ k < -1074 ∧ 1024 < k + (L : Int) ∧ k ≤ 100000 ∧ L ≤ 64)) (w : World) : Calls Tryd.prog 21 #[.string s] w fun e w' => e = .returned (.tuple #[.int .u64 0, .int .i64 11]) ∧ Below w.heap.size w w' := by
  go_enter Tryd.func21, Tryd.ntmps21
  go_wp2_with fail
  refine (HC.out _).mono ?_
  rintro e w1 ⟨rfl, n1, e1⟩
  subst e1
  go_wp2_with fail
  refine (HO.out _).mono ?_
  rintro e w2 ⟨rfl, e2⟩
  subst e2
  go_wp2_with fail
  refine (HP.out _).mono ?_
  rintro e w3 ⟨rfl, e3⟩
  subst e3
  go_wp2_with fail
  refine (HU.out _).mono ?_
  rintro e w4 ⟨rfl, b4⟩
  have B4 := Lib.hid b4
  clear b4
  go_wp2_with fail
  refine (HT.out _).mono ?_
  rintro e w5 ⟨rfl, b5⟩
  have B5 := Lib.hid b5
  clear b5
  obtain ⟨hn, hk, hh, hk2, hL⟩ := HK.out
  go_wp2_with fail
  refine (HN.out _).mono ?_
  rintro e w6 ⟨rfl, e6⟩
  subst e6
  go_wp2_with fail
  go_ret2
  exact ⟨rfl, bt (bt (bd _ _) B4.out) B5.out⟩

end Go.Proofs.YteokcgclmgleiaaDoor
