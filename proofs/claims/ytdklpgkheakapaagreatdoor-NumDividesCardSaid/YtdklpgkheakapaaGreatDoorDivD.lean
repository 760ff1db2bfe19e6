import Derived.Test.YtdklpgkheakapaaGreatDoorDivC
namespace Go.Proofs.YtdklpgkheakapaaGreatDoor
open Go.RowKit Gn

theorem pow_split (m j K : Nat) (hm : m ≠ 0) (hl : m.log2 ≤ 52) (hK : K = 123 - m.log2) : (j < K → m * 2 ^ j < 2 ^ 123) ∧ (K ≤ j → 2 ^ 123 ≤ m * 2 ^ j) ∧ (j ≤ K → m * 2 ^ j < 2 ^ 124) := by
  have h1 : 2 ^ m.log2 ≤ m := Nat.log2_self_le hm
  have h2 : m < 2 ^ (m.log2 + 1) := Nat.lt_log2_self
  refine ⟨fun h => ?_, fun h => ?_, fun h => ?_⟩
  · exact shift_lt m.log2 123 h2 (by omega)
  · refine Nat.le_trans ?_ (Nat.mul_le_mul_right _ h1)
    rw [← Nat.pow_add]
    exact Nat.pow_le_pow_right (by omega) (by omega)
  · exact shift_lt m.log2 124 h2 (by omega)
theorem top_zero (V : Nat) (h : V < 2 ^ 123) : hiN V / 576460752303423488 = 0 := by
  have e : (2 : Nat) ^ 123 = 576460752303423488 * 18446744073709551616 := by decide
  unfold hiN
  omega
theorem top_one (V : Nat) (h : 2 ^ 123 ≤ V) (h2 : V < 2 ^ 124) : hiN V / 576460752303423488 = 1 := by
  have e : (2 : Nat) ^ 123 = 576460752303423488 * 18446744073709551616 := by decide
  have e2 : (2 : Nat) ^ 124 = 2 * 576460752303423488 * 18446744073709551616 := by decide
  unfold hiN
  omega
set_option maxHeartbeats 2000000 in
set_option maxRecDepth 8000 in
theorem rdiv_num (a b x y z m n W K : Nat) (e f : Int) (ha : a < 18446744073709551616) (hb : b < 18446744073709551616) (F : MulF a b x y z) (h : x < 9218868437227405312 ∧ y < 9218868437227405312 ∧ x ≠ 0 ∧ y ≠ 0) (hm : tkM a = m) (he : tkE a = e) (hn : tkM b = n) (hf : tkE b = f)
    (he1 : -1074 ≤ e) (he2 : e ≤ 971) (hf1 : -1074 ≤ f) (hf2 : f ≤ 971) (hm0 : m ≠ 0) (hml : m.log2 ≤ 52) (hm2 : m < 18446744073709551616) (hn0 : 0 < n) (hn2 : n < 9007199254740992) (hK : K = 123 - m.log2)
    (HR : Hid (∀ w1 : World, Calls Tryz.prog 48 #[.int .u64 (z : Int), wn (m * 2 ^ K / n), .int .i64 (e - K - f), .bool (decide (0 < m * 2 ^ K % n))] w1 fun e' w' => e' = .returned (.int .u64 (W : Int)) ∧ Below w1.heap.size w1 w')) (w : World) :
    Calls Tryz.prog 17 #[.int .u64 (a : Int), .int .u64 (b : Int)] w fun e w' => e = .returned (.int .u64 (W : Int)) ∧ Below w.heap.size w w' := by
  obtain ⟨hx, hy, hz⟩ := F
  have b1 : decide ((9218868437227405312 : Int) < (x : Int)) = false := by simp; omega
  have b2 : decide ((9218868437227405312 : Int) < (y : Int)) = false := by simp; omega
  have b3 : ((x : Int) == 9218868437227405312) = false := beqN_f (y := 9218868437227405312) (by omega)
  have b4 : ((x : Int) == 0) = false := beqN_f (y := 0) (by omega)
  have b5 : ((y : Int) == 9218868437227405312) = false := beqN_f (y := 9218868437227405312) (by omega)
  have b6 : ((y : Int) == 0) = false := beqN_f (y := 0) (by omega)
  have HA : Hid (∀ w1 : World, Calls Tryz.prog 46 #[.int .u64 (a : Int)] w1 fun e' w' => e' = .returned (.tuple #[.int .u64 (m : Int), .int .i64 e]) ∧ w' = w1) := fun w1 => taken_as a m e ha hm he w1
  have HB : Hid (∀ w1 : World, Calls Tryz.prog 46 #[.int .u64 (b : Int)] w1 fun e' w' => e' = .returned (.tuple #[.int .u64 (n : Int), .int .i64 f]) ∧ w' = w1) := fun w1 => taken_as b n f hb hn hf w1
  have HS := (show Hid (∀ j, (j < K → m * 2 ^ j < 2 ^ 123) ∧ (K ≤ j → 2 ^ 123 ≤ m * 2 ^ j) ∧ (j ≤ K → m * 2 ^ j < 2 ^ 124)) from fun j => pow_split m j K hm0 hml hK)
  have hK2 : K ≤ 123 := by omega
  have hz0 : (hiN m : Int) = 0 := by unfold hiN; omega
  have hz1 : (loN m : Int) = (m : Int) := by unfold loN; omega
  clear h hm he hn hf hK
  go_enter Tryz.func17, Tryz.ntmps17
  go_wp2_with fail
  refine (HA.out w).mono ?_
  rintro e1 w1 ⟨rfl, rfl⟩
  go_wp2_with fail
  refine (HB.out _).mono ?_
  rintro e1 w1 ⟨rfl, rfl⟩
  go_wp2_with fail
  go_loopw [9] (fun v wr => ∃ j : Nat, v = .int .i64 (e - (j : Int)) ∧ j ≤ K ∧ Hid (Box wr w1.heap.size (m * 2 ^ j)) ∧ Hid (Below w1.heap.size w1 wr)) (fun v _ => (intOf v - (e - (K : Int))).toNat)
  case atStart =>
    refine ⟨0, by simp, by omega, ?_, ?_⟩
    · rw [Nat.pow_zero, Nat.mul_one]
      exact ⟨by rw [hz0]; simp [go_sem], by rw [hz1]; simp [go_sem], by simp [go_sem], by simp [go_sem], by simp⟩
    · exact (Below.refl _ _).alloc (Nat.le_refl _) _
  case round =>
    obtain ⟨j, rfl, hj, HB, HBL⟩ := hrel
    obtain ⟨V, hV⟩ : ∃ V, V = m * 2 ^ j := ⟨_, rfl⟩
    have hs := HS.out j
    rw [← hV] at HB hs
    obtain ⟨x0, x1, x2, x3, x4⟩ := HB.out
    have HVV := (show Hid (V = m * 2 ^ j) from hV)
    clear hV
    by_cases hjK : j < K
    · have ht := top_zero V (hs.1 hjK)
      have hti : (hiN V : Int) / 576460752303423488 = 0 := by omega
      have hlt : Hid (V < 2 ^ 124) := hs.2.2 hj
      clear hs ht
      go_wp2_with fail
      refine (left_one V hlt.out _).mono ?_
      rintro e' w2 ⟨rfl, hb2⟩
      have M := HB.out.keep hb2 HB.out.lt
      have S := (show Hid (Box w2 w1.heap.size V) from M)
      have MB := (show Hid (Below w1.heap.size w1 w2) from bt HBL.out hb2)
      obtain ⟨z0, z1, z2, z3, z4⟩ := M
      clear x0 x1 x2 x3 x4 hb2 HB HBL
      go_wp2_with fail
      refine ⟨⟨j + 1, by first | rfl | (congr 1; omega), by omega, ?_, ?_⟩, by simp [intOf]; omega⟩
      · have e9 : m * 2 ^ (j + 1) = 2 * V := by rw [HVV.out, Nat.pow_succ, ← Nat.mul_assoc, Nat.mul_comm]
        rw [e9]; exact box_set S.out
      · exact (MB.out.setCell (by simp) _).setCell (by simp) _
    · have hjj : j = K := by omega
      have ht := top_one V (hs.2.1 (by omega)) (hs.2.2 hj)
      have hti : (hiN V : Int) / 576460752303423488 = 1 := by omega
      have hlt : Hid (V < 2 ^ 124) := hs.2.2 hj
      clear hs ht
      subst hjj
      rw [← HVV.out] at HR
      have HQ : Hid (∀ w9 : World, Calls Tryz.prog 52 #[wn V, .int .u64 (n : Int)] w9 fun e w' => e = .returned (.tuple #[wn (V / n), .bool (decide (0 < V % n))]) ∧ Below w9.heap.size w9 w') := fun w9 => by_any V n hlt.out hn0 hn2 w9
      generalize V / n = Q at HR HQ
      generalize decide (0 < V % n) = R at HR HQ
      go_wp2_with fail
      refine (HQ.out _).mono ?_
      rintro e' w2 ⟨rfl, hb2⟩
      have MB := (show Hid (Below w1.heap.size w1 w2) from bt HBL.out hb2)
      have hle : w1.heap.size ≤ w2.heap.size := MB.out.size
      clear x0 x1 x2 x3 x4 hb2 HB HBL HQ
      go_wp2_with fail
      refine (HR.out _).mono ?_
      rintro e' w3 ⟨rfl, hb3⟩
      go_wp2_with fail
      go_ret
      exact ⟨rfl, (MB.out.alloc hle _).trans (hb3.mono (by simp; omega))⟩
end Go.Proofs.YtdklpgkheakapaaGreatDoor
