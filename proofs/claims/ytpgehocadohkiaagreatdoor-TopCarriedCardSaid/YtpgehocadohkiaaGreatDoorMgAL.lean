import Derived.Test.YtpgehocadohkiaaGreatDoorMgAK

section
namespace Go.Proofs.YtpgehocadohkiaaGreatDoor
open Go.RowKit

set_option maxHeartbeats 400000 in
set_option maxRecDepth 8000 in
theorem pa_ok (s o p : ByteArray) (n : Nat) (k : Int) (L r : Nat) (h1 : (s.toList == [105, 110, 102]) = false) (h2 : (s.toList == [48]) = false) (HC : Hid (∀ w : World, Calls Tryz.prog 193 #[.string s, .string ⟨#[112]⟩] w fun e w' => e = .returned (.tuple #[.string o, .string p, .bool true]) ∧ ∃ n, w' = w.drewN n)) (HO : Hid (∀ w : World, Calls Tryz.prog 194 #[.string o] w fun e w' => e = .returned (.bool true) ∧ w' = w)) (HP : Hid (∀ w : World, Calls Tryz.prog 195 #[.string p] w fun e w' => e = .returned (.bool true) ∧ w' = w)) (HU : Hid (∀ w : World, Calls Tryz.prog 104 #[.string o, .int .i64 10, .int .i64 64] w fun e w' => e = .returned (.tuple #[.int .u64 (n : Int), .nilIface]) ∧ Below w.heap.size w w')) (HT : Hid (∀ w : World, Calls Tryz.prog 196 #[.string p] w fun e w' => e = .returned (.tuple #[.int .i64 k, .nilIface]) ∧ Below w.heap.size w w')) (HN : Hid (∀ w : World, Calls Tryz.prog 153 #[.int .u64 (n : Int)] w fun e w' => e = .returned (.int .i64 (L : Int)) ∧ w' = w)) (HF : Hid (∀ w : World, Calls Tryz.prog 197 #[.float .f64 (xw n), .int .i64 k] w fun e w' => e = .returned (.float .f64 r) ∧ w' = w)) (HB : Hid (∀ w : World, Calls Tryz.prog 168 #[.float .f64 r] w fun e w' => e = .returned (.int .u64 (r : Int)) ∧ w' = w)) (hl : o.size ≤ 16) (hl2 : p.size ≤ 5) (HK : Hid (¬ (9007199254740992 : Int) ≤ (n : Int) ∧ ¬ k < -1074 ∧ ¬ 1024 < k + (L : Int) ∧ k ≤ 100000 ∧ L ≤ 64)) (w : World) : Calls Tryz.prog 164 #[.string s] w fun e w' => e = .returned (.tuple #[.int .u64 (r : Int), .int .i64 0]) ∧ Below w.heap.size w w' := by
  go_enter Tryz.func164, Tryz.ntmps164
  go_wp2_with fail
  refine (HC.out _).mono ?_
  rintro e w1 ⟨rfl, n1, e1⟩
  subst e1
  go_wp2_with fail
  refine (HO.out _).mono ?_
  rintro e w2 ⟨rfl, e2⟩
  subst e2
  go_wp2_with fail
  refine (HP.out _).mono ?_
  rintro e w3 ⟨rfl, e3⟩
  subst e3
  go_wp2_with fail
  refine (HU.out _).mono ?_
  rintro e w4 ⟨rfl, b4⟩
  have B4 := Lib.hid b4
  clear b4
  go_wp2_with fail
  refine (HT.out _).mono ?_
  rintro e w5 ⟨rfl, b5⟩
  have B5 := Lib.hid b5
  clear b5
  obtain ⟨hn, hk, hh, hk2, hL⟩ := HK.out
  clear HK
  go_wp2_with fail
  refine (HN.out _).mono ?_
  rintro e w6 ⟨rfl, e6⟩
  subst e6
  have hof := xw_is n
  have hk' : -1074 ≤ k := by omega
  have hh' : k + (L : Int) ≤ 1024 := by omega
  have hn' : decide ((9007199254740992 : Int) ≤ (n : Int)) = false := by simpa using hn
  clear hk hh hn
  go_wp2_with fail
  refine (HF.out _).mono ?_
  rintro e w7 ⟨rfl, e7⟩
  subst e7
  go_wp2_with fail
  refine (HB.out _).mono ?_
  rintro e w8 ⟨rfl, e8⟩
  subst e8
  go_wp2_with fail
  go_ret2
  exact ⟨rfl, bt (bt (bd _ _) B4.out) B5.out⟩


theorem pow_bound {s : ByteArray} (h : powB s = true) (hl : s.size ≤ 5) : -100000 ≤ powV s ∧ powV s ≤ 100000 := by
  have h5 : (10 : Nat) ^ 5 = 100000 := by decide
  unfold powB at h
  unfold powV
  cases hm : minusB s
  · rw [hm] at h
    have hw : wholeB s = true := h
    have h1 : numD s < 10 ^ 5 := Nat.lt_of_lt_of_le (numD_lt hw) (Nat.pow_le_pow_right (by omega) hl)
    rw [if_neg (by decide)]
    omega
  · rw [hm] at h
    have hw : wholeB (s.extract 1 s.size) = true := by
      simp only [if_true, Bool.and_eq_true] at h; exact h.1
    have h1 : numD (s.extract 1 s.size) < 10 ^ 5 := Nat.lt_of_lt_of_le (numD_lt hw) (Nat.pow_le_pow_right (by omega) (by rw [ByteArray.size_extract]; omega))
    rw [if_pos rfl]
    omega
theorem canon_rn (N : Nat) : Gn.canonW (Gn.rn N) = Gn.rn N := by
  have := Gn.rn_le N
  unfold Gn.canonW
  rw [if_neg (by omega)]
theorem cut_any (s o p : ByteArray) (h1 : (s.toList == [105, 110, 102]) = false) (h2 : (s.toList == [48]) = false) (HC : Hid (∀ w : World, Calls Tryz.prog 193 #[.string s, .string ⟨#[112]⟩] w fun e w' => e = .returned (.tuple #[.string o, .string p, .bool true]) ∧ ∃ n, w' = w.drewN n))
    (ho : o.size ≤ 9223372036854775807) (hp : p.size ≤ 9223372036854775807) (w : World) :
    Calls Tryz.prog 164 #[.string s] w fun e w' => e = .returned (.tuple #[.int .u64 ((cutP o p).1 : Int), .int .i64 (cutP o p).2]) ∧ Below w.heap.size w w' := by
  have HO := Lib.hid (isOdd_any o ho)
  have HP := Lib.hid (isPower_any p hp)
  unfold cutP
  cases hb : oddB o
  · rw [hb] at HO
    exact pa_odd s o p h1 h2 HC HO w
  rw [hb] at HO
  cases hb2 : powB p
  · rw [hb2] at HP
    exact pa_pow s o p h1 h2 HC HO HP w
  rw [hb2] at HP
  rw [if_neg (by decide)]
  by_cases hl : 16 < o.size
  · rw [if_pos (Or.inl hl)]
    exact pa_long s o p h1 h2 HC HO HP hl w
  by_cases hl2 : 5 < p.size
  · rw [if_pos (Or.inr hl2)]
    exact pa_longp s o p h1 h2 HC HO HP (by omega) hl2 w
  rw [if_neg (by omega)]
  have hw := odd_whole hb
  have hodd := odd_num hb
  have HU := Lib.hid (pu_any o (numD o) (by omega) (pu_whole hw (by omega)))
  have HT := Lib.hid (atoi_any p (powV p) (by omega) (atoi_pow hb2))
  have hkb := pow_bound hb2 (by omega)
  have hnb : numD o < 10 ^ 16 := Nat.lt_of_lt_of_le (numD_lt hw) (Nat.pow_le_pow_right (by omega) (by omega))
  have h16 : (10 : Nat) ^ 16 = 10000000000000000 := by decide
  generalize numD o = n at *
  generalize powV p = k at *
  unfold valP
  by_cases c1 : 9007199254740992 ≤ n
  · rw [if_pos (Or.inl c1)]
    exact pa_big s o p n k h1 h2 HC HO HP HU HT (by omega) (by omega) (by omega) w
  by_cases c2 : k < -1074
  · rw [if_pos (Or.inr (Or.inl c2))]
    exact pa_low s o p n k h1 h2 HC HO HP HU HT (by omega) (by omega) ⟨by omega, c2⟩ w
  have hlen := len_log (n := n) (by omega) (by omega)
  have HN : Hid (∀ w : World, Calls Tryz.prog 153 #[.int .u64 (n : Int)] w fun e w' => e = .returned (.int .i64 (Lib.bitLen n : Int)) ∧ w' = w) := fun w => by
    have := Tryz.bits_Len64 (n : Int) w (by omega) (by omega)
    rw [Int.toNat_natCast] at this
    exact this
  have hl53 : n.log2 ≤ 52 := by
    have := (Nat.log2_lt (n := n) (k := 53) (by omega)).2 (by omega)
    omega
  by_cases c3 : 1024 < k + (Lib.bitLen n : Int)
  · rw [if_pos (Or.inr (Or.inr c3))]
    exact pa_high s o p n k (Lib.bitLen n) h1 h2 HC HO HP HU HT HN (by omega) (by omega) ⟨by omega, c2, c3, by omega, by omega⟩ w
  rw [if_neg (by omega)]
  obtain ⟨x, hx1, hx2, hx3⟩ := Gn.of_wd (n : Int) (by omega)
  rw [show decide ((n : Int) < 0) = false from decide_eq_false (by omega), Gn.wd_f] at hx3
  rw [Int.natAbs_natCast] at hx2
  have hxw : xw n = x := hx3
  have HF : Hid (∀ w : World, Calls Tryz.prog 197 #[.float .f64 (xw n), .int .i64 k] w fun e w' => e = .returned (.float .f64 (Gn.rn (n * 2 ^ (k + 1074).toNat))) ∧ w' = w) := by
    rw [hxw]
    exact ldexp_any n x k (by omega) hx1 hx2 (by omega) (by omega) (by omega)
  have HB : Hid (∀ w : World, Calls Tryz.prog 168 #[.float .f64 (Gn.rn (n * 2 ^ (k + 1074).toNat))] w fun e w' => e = .returned (.int .u64 (Gn.rn (n * 2 ^ (k + 1074).toNat) : Int)) ∧ w' = w) := fun w => by
    have h := Gn.rn_le (n * 2 ^ (k + 1074).toNat)
    have := bitsOf_any (Gn.rn (n * 2 ^ (k + 1074).toNat)) (by omega) w
    rw [canon_rn] at this
    exact this
  exact pa_ok s o p n k (Lib.bitLen n) _ h1 h2 HC HO HP HU HT HN HF HB (by omega) (by omega) ⟨by omega, c2, c3, by omega, by omega⟩ w
/-- parseAmount at every text -/
theorem parseAmount_any (s : ByteArray) (hm : s.size ≤ 9223372036854775807) (w : World) :
    Calls Tryz.prog 164 #[.string s] w fun e w' => e = .returned (.tuple #[.int .u64 ((amtP s).1 : Int), .int .i64 (amtP s).2]) ∧ Below w.heap.size w w' := by
  unfold amtP
  by_cases e1 : s.toList = [105, 110, 102]
  · rw [if_pos e1, list_mk e1]
    exact (pa_inf w).mono fun e w' ⟨a, b⟩ => ⟨a, by rw [b]; exact Below.refl _ _⟩
  rw [if_neg e1]
  by_cases e2 : s.toList = [48]
  · rw [if_pos e2, list_mk e2]
    exact (pa_zero w).mono fun e w' ⟨a, b⟩ => ⟨a, by rw [b]; exact Below.refl _ _⟩
  rw [if_neg e2]
  have b1 : (s.toList == [105, 110, 102]) = false := beq_eq_false_iff_ne.mpr e1
  have b2 : (s.toList == [48]) = false := beq_eq_false_iff_ne.mpr e2
  rcases first_cases s 112 with hi | ⟨i, hi, hs⟩
  · rw [if_pos (by omega)]
    exact (pa_nop s b1 b2 hi w).mono fun e w' ⟨a, b⟩ => ⟨a, by rw [b]; exact Below.refl _ _⟩
  · rw [if_neg (by omega), show (firstIdx s 112).toNat = i by omega]
    exact cut_any s _ _ b1 b2 (cut_yes s i hi hs (by omega)) (by rw [ByteArray.size_extract]; omega) (by rw [ByteArray.size_extract]; omega) w
end Go.Proofs.YtpgehocadohkiaaGreatDoor
end
