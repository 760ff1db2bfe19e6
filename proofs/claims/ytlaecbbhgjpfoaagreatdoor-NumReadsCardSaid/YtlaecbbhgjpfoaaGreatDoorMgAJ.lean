import Derived.Test.YtlaecbbhgjpfoaaGreatDoorMgAG
import Derived.Test.YtlaecbbhgjpfoaaGreatDoorMgAB
import Derived.Deep.RegionWith

section
namespace Go.Proofs.YtlaecbbhgjpfoaaGreatDoor
open Go.RowKit

set_option maxHeartbeats 400000 in
set_option maxRecDepth 8000 in
theorem pa_ok (s o p : ByteArray) (n : Nat) (k : Int) (L r : Nat) (h1 : (s.toList == [105, 110, 102]) = false) (h2 : (s.toList == [48]) = false) (HC : Hid (∀ w : World, Calls Tryz.prog 15 #[.string s, .string ⟨#[112]⟩] w fun e w' => e = .returned (.tuple #[.string o, .string p, .bool true]) ∧ ∃ n, w' = w.drewN n)) (HO : Hid (∀ w : World, Calls Tryz.prog 16 #[.string o] w fun e w' => e = .returned (.bool true) ∧ w' = w)) (HP : Hid (∀ w : World, Calls Tryz.prog 17 #[.string p] w fun e w' => e = .returned (.bool true) ∧ w' = w)) (HU : Hid (∀ w : World, Calls Tryz.prog 18 #[.string o, .int .i64 10, .int .i64 64] w fun e w' => e = .returned (.tuple #[.int .u64 (n : Int), .nilIface]) ∧ Below w.heap.size w w')) (HT : Hid (∀ w : World, Calls Tryz.prog 19 #[.string p] w fun e w' => e = .returned (.tuple #[.int .i64 k, .nilIface]) ∧ Below w.heap.size w w')) (HN : Hid (∀ w : World, Calls Tryz.prog 20 #[.int .u64 (n : Int)] w fun e w' => e = .returned (.int .i64 (L : Int)) ∧ w' = w)) (HF : Hid (∀ w : World, Calls Tryz.prog 22 #[.float .f64 (xw n), .int .i64 k] w fun e w' => e = .returned (.float .f64 r) ∧ w' = w)) (HB : Hid (∀ w : World, Calls Tryz.prog 21 #[.float .f64 r] w fun e w' => e = .returned (.int .u64 (r : Int)) ∧ w' = w)) (hl : o.size ≤ 16) (hl2 : p.size ≤ 5) (HK : Hid (¬ (9007199254740992 : Int) ≤ (n : Int) ∧ ¬ k < -1074 ∧ ¬ 1024 < k + (L : Int) ∧ k ≤ 100000 ∧ L ≤ 64)) (w : World) : Calls Tryz.prog 8 #[.string s] w fun e w' => e = .returned (.tuple #[.int .u64 (r : Int), .int .i64 0]) ∧ Below w.heap.size w w' := by
  go_enter Tryz.func8, Tryz.ntmps8
  go_wp2_with fail
  refine (HC.out _).mono ?_
  rintro e w1 ⟨rfl, n1, e1⟩
  subst e1
  go_wp2_with fail
  refine (HO.out _).mono ?_
  rintro e w2 ⟨rfl, e2⟩
  subst e2
  go_wp2_with fail
  refine (HP.out _).mono ?_
  rintro e w3 ⟨rfl, e3⟩
  subst e3
  go_wp2_with fail
  refine (HU.out _).mono ?_
  rintro e w4 ⟨rfl, b4⟩
  have B4 := Lib.hid b4
  clear b4
  go_wp2_with fail
  refine (HT.out _).mono ?_
  rintro e w5 ⟨rfl, b5⟩
  have B5 := Lib.hid b5
  clear b5
  obtain ⟨hn, hk, hh, hk2, hL⟩ := HK.out
  clear HK
  go_wp2_with fail
  refine (HN.out _).mono ?_
  rintro e w6 ⟨rfl, e6⟩
  subst e6
  have hof := xw_is n
  have hk' : -1074 ≤ k := by omega
  have hh' : k + (L : Int) ≤ 1024 := by omega
  have hn' : decide ((9007199254740992 : Int) ≤ (n : Int)) = false := by simpa using hn
  clear hk hh hn
  go_wp2_with fail
  refine (HF.out _).mono ?_
  rintro e w7 ⟨rfl, e7⟩
  subst e7
  go_wp2_with fail
  refine (HB.out _).mono ?_
  rintro e w8 ⟨rfl, e8⟩
  subst e8
  go_wp2_with fail
  go_ret2
  exact ⟨rfl, bt (bt (bd _ _) B4.out) B5.out⟩


theorem pow_bound {s : ByteArray} (h : powB s = true) (hl : s.size ≤ 5) : -100000 ≤ powV s ∧ powV s ≤ 100000 := by
  have h5 : (10 : Nat) ^ 5 = 100000 := by decide
  unfold powB at h
  unfold powV
  cases hm : minusB s
  · rw [hm] at h
    have hw : wholeB s = true := h
    have h1 : numD s < 10 ^ 5 := Nat.lt_of_lt_of_le (numD_lt hw) (Nat.pow_le_pow_right (by omega) hl)
    rw [if_neg (by decide)]
    omega
  · rw [hm] at h
    have hw : wholeB (s.extract 1 s.size) = true := by
      simp only [if_true, Bool.and_eq_true] at h; exact h.1
    have h1 : numD (s.extract 1 s.size) < 10 ^ 5 := Nat.lt_of_lt_of_le (numD_lt hw) (Nat.pow_le_pow_right (by omega) (by rw [ByteArray.size_extract]; omega))
    rw [if_pos rfl]
    omega
theorem canon_rn (N : Nat) : Gn.canonW (Gn.rn N) = Gn.rn N := by
  have := Gn.rn_le N
  unfold Gn.canonW
  rw [if_neg (by omega)]
theorem cut_any (s o p : ByteArray) (h1 : (s.toList == [105, 110, 102]) = false) (h2 : (s.toList == [48]) = false) (HC : Hid (∀ w : World, Calls Tryz.prog 15 #[.string s, .string ⟨#[112]⟩] w fun e w' => e = .returned (.tuple #[.string o, .string p, .bool true]) ∧ ∃ n, w' = w.drewN n))
    (ho : o.size ≤ 9223372036854775807) (hp : p.size ≤ 9223372036854775807) (w : World) :
    Calls Tryz.prog 8 #[.string s] w fun e w' => e = .returned (.tuple #[.int .u64 ((cutP o p).1 : Int), .int .i64 (cutP o p).2]) ∧ Below w.heap.size w w' := by
  have HO := Lib.hid (isOdd_any o ho)
  have HP := Lib.hid (isPower_any p hp)
  unfold cutP
  cases hb : oddB o
  · rw [hb] at HO
    exact pa_odd s o p h1 h2 HC HO w
  rw [hb] at HO
  cases hb2 : powB p
  · rw [hb2] at HP
    exact pa_pow s o p h1 h2 HC HO HP w
  rw [hb2] at HP
  rw [if_neg (by decide)]
  by_cases hl : 16 < o.size
  · rw [if_pos (Or.inl hl)]
    exact pa_long s o p h1 h2 HC HO HP hl w
  by_cases hl2 : 5 < p.size
  · rw [if_pos (Or.inr hl2)]
    exact pa_longp s o p h1 h2 HC HO HP (by omega) hl2 w
  rw [if_neg (by omega)]
  have hw := odd_whole hb
  have hodd := odd_num hb
  have HU := Lib.hid (pu_any o (numD o) (by omega) (pu_whole hw (by omega)))
  have HT := Lib.hid (atoi_any p (powV p) (by omega) (atoi_pow hb2))
  have hkb := pow_bound hb2 (by omega)
  have hnb : numD o < 10 ^ 16 := Nat.lt_of_lt_of_le (numD_lt hw) (Nat.pow_le_pow_right (by omega) (by omega))
  have h16 : (10 : Nat) ^ 16 = 10000000000000000 := by decide
  generalize numD o = n at *
  generalize powV p = k at *
  unfold valP
  by_cases c1 : 9007199254740992 ≤ n
  · rw [if_pos (Or.inl c1)]
    exact pa_big s o p n k h1 h2 HC HO HP HU HT (by omega) (by omega) (by omega) w
  by_cases c2 : k < -1074
  · rw [if_pos (Or.inr (Or.inl c2))]
    exact pa_low s o p n k h1 h2 HC HO HP HU HT (by omega) (by omega) ⟨by omega, c2⟩ w
  have hlen := len_log (n := n) (by omega) (by omega)
  have HN : Hid (∀ w : World, Calls Tryz.prog 20 #[.int .u64 (n : Int)] w fun e w' => e = .returned (.int .i64 (Lib.bitLen n : Int)) ∧ w' = w) := fun w => by
    have := Tryz.bits_Len64 (n : Int) w (by omega) (by omega)
    rw [Int.toNat_natCast] at this
    exact this
  have hl53 : n.log2 ≤ 52 := by
    have := (Nat.log2_lt (n := n) (k := 53) (by omega)).2 (by omega)
    omega
  by_cases c3 : 1024 < k + (Lib.bitLen n : Int)
  · rw [if_pos (Or.inr (Or.inr c3))]
    exact pa_high s o p n k (Lib.bitLen n) h1 h2 HC HO HP HU HT HN (by omega) (by omega) ⟨by omega, c2, c3, by omega, by omega⟩ w
  rw [if_neg (by omega)]
  obtain ⟨x, hx1, hx2, hx3⟩ := Gn.of_wd (n : Int) (by omega)
  rw [show decide ((n : Int) < 0) = false from decide_eq_false (by omega), Gn.wd_f] at hx3
  rw [Int.natAbs_natCast] at hx2
  have hxw : xw n = x := hx3
  have HF : Hid (∀ w : World, Calls Tryz.prog 22 #[.float .f64 (xw n), .int .i64 k] w fun e w' => e = .returned (.float .f64 (Gn.rn (n * 2 ^ (k + 1074).toNat))) ∧ w' = w) := by
    rw [hxw]
    exact ldexp_any n x k (by omega) hx1 hx2 (by omega) (by omega) (by omega)
  have HB : Hid (∀ w : World, Calls Tryz.prog 21 #[.float .f64 (Gn.rn (n * 2 ^ (k + 1074).toNat))] w fun e w' => e = .returned (.int .u64 (Gn.rn (n * 2 ^ (k + 1074).toNat) : Int)) ∧ w' = w) := fun w => by
    have h := Gn.rn_le (n * 2 ^ (k + 1074).toNat)
    have := bitsOf_any (Gn.rn (n * 2 ^ (k + 1074).toNat)) (by omega) w
    rw [canon_rn] at this
    exact this
  exact pa_ok s o p n k (Lib.bitLen n) _ h1 h2 HC HO HP HU HT HN HF HB (by omega) (by omega) ⟨by omega, c2, c3, by omega, by omega⟩ w
/-- parseAmount at every text -/
theorem parseAmount_any (s : ByteArray) (hm : s.size ≤ 9223372036854775807) (w : World) :
    Calls Tryz.prog 8 #[.string s] w fun e w' => e = .returned (.tuple #[.int .u64 ((amtP s).1 : Int), .int .i64 (amtP s).2]) ∧ Below w.heap.size w w' := by
  unfold amtP
  by_cases e1 : s.toList = [105, 110, 102]
  · rw [if_pos e1, list_mk e1]
    exact (pa_inf w).mono fun e w' ⟨a, b⟩ => ⟨a, by rw [b]; exact Below.refl _ _⟩
  rw [if_neg e1]
  by_cases e2 : s.toList = [48]
  · rw [if_pos e2, list_mk e2]
    exact (pa_zero w).mono fun e w' ⟨a, b⟩ => ⟨a, by rw [b]; exact Below.refl _ _⟩
  rw [if_neg e2]
  have b1 : (s.toList == [105, 110, 102]) = false := beq_eq_false_iff_ne.mpr e1
  have b2 : (s.toList == [48]) = false := beq_eq_false_iff_ne.mpr e2
  rcases first_cases s 112 with hi | ⟨i, hi, hs⟩
  · rw [if_pos (by omega)]
    exact (pa_nop s b1 b2 hi w).mono fun e w' ⟨a, b⟩ => ⟨a, by rw [b]; exact Below.refl _ _⟩
  · rw [if_neg (by omega), show (firstIdx s 112).toNat = i by omega]
    exact cut_any s _ _ b1 b2 (cut_yes s i hi hs (by omega)) (by rw [ByteArray.size_extract]; omega) (by rw [ByteArray.size_extract]; omega) w
end Go.Proofs.YtlaecbbhgjpfoaaGreatDoor
end

section
namespace Go.Proofs.YtlaecbbhgjpfoaaGreatDoor
open Go.RowKit

theorem add_11 (w : World) : Calls Tryz.prog 32 #[.int .u64 4607182418800017408, .int .u64 4607182418800017408] w fun e w' => e = .returned (.int .u64 4611686018427387904) ∧ ∃ n, w' = w.drewN n := by
  have e : Gn.addW 4607182418800017408 4607182418800017408 = 4611686018427387904 := by decide
  have := add_any 4607182418800017408 4607182418800017408 w
  rw [e] at this; exact this
theorem int_10 (w : World) : Calls Tryz.prog 31 #[.int .u64 4621819117588971520] w fun e w' => e = .returned (.tuple #[.int .i64 10, .int .i64 0]) ∧ w' = w := by
  have e : intR 4621819117588971520 = .tuple #[.int .i64 10, .int .i64 0] := by
    unfold intR
    rw [show Gn.intOk 4621819117588971520 = true from by decide, show Gn.intV 4621819117588971520 = 10 from by decide]; rfl
  have := int_any 4621819117588971520 (by decide) w
  rw [e] at this; exact this
theorem int_inf (w : World) : Calls Tryz.prog 31 #[.int .u64 9218868437227405312] w fun e w' => e = .returned (.tuple #[.int .i64 0, .int .i64 11]) ∧ w' = w := by
  have e : intR 9218868437227405312 = .tuple #[.int .i64 0, .int .i64 11] := int_no (by decide)
  have := int_any 9218868437227405312 (by decide) w
  rw [e] at this; exact this
theorem canon_x (w : World) : Calls Tryz.prog 34 #[.int .u64 9221120237041090566] w fun e w' => e = .returned (.int .u64 9221120237041090561) ∧ w' = w := by
  have e : Gn.canonW 9221120237041090566 = 9221120237041090561 := by decide
  have := canon_any 9221120237041090566 (by decide) w
  rw [e] at this; exact this

theorem tab_below {a b : World} (h : TabC a) (hg : 4 < a.heap.size) (k : Below a.heap.size a b) : TabC b := by
  unfold TabC at *
  rw [k.cell (p := ⟨4, tabPlace, none⟩) hg]; exact h
theorem tab_size {a : World} (h : TabC a) : 4 < a.heap.size := by
  unfold TabC World.cell? at h
  rcases Nat.lt_or_ge 4 a.heap.size with h1 | h1
  · exact h1
  · have e : a.heap[4]? = none := Array.getElem?_eq_none h1
    simp only [e] at h
    cases h
theorem tab_drew {a : World} (h : TabC a) (n : Nat) : TabC (a.drewN n) := h

set_option maxHeartbeats 1000000 in
theorem known_true (w : World) (h : TabC w) : Calls Tryz.prog 12 #[] w fun e w' => e = .returned (.bool true) ∧ Below w.heap.size w w' := by
  go_enter Tryz.func12, Tryz.ntmps12
  go_wp2_with (first
    | (go_at_call 4; refine (parse_5p1 _).mono ?_; rintro e w1 ⟨rfl, hb1⟩)
    | (go_at_call 31; refine (int_10 _).mono ?_; rintro e w2 ⟨rfl, rfl⟩)
    | (go_at_call 32; refine (add_11 _).mono ?_; rintro e w2 ⟨rfl, n, rfl⟩)
    | (go_at_call 33; refine (text_5 _ (tab_drew (tab_below h (tab_size h) hb1) _)).mono ?_; rintro e w3 ⟨rfl, rfl⟩)
    | (go_at_call 34; refine (canon_x _).mono ?_; rintro e w2 ⟨rfl, rfl⟩))
  go_ret
  exact ⟨rfl, bt hb1 (bd _ _)⟩
theorem class_one (w : World) : Calls Tryz.prog 35 #[.int .u64 4607182418800017408] w fun e w' => e = .returned (.int .i64 4) ∧ w' = w := by
  have e : clsN 4607182418800017408 = 4 := by decide
  have := class_any 4607182418800017408 (by decide) w
  rw [e] at this; exact this
theorem sub_11 (w : World) : Calls Tryz.prog 36 #[.int .u64 4607182418800017408, .int .u64 4607182418800017408] w fun e w' => e = .returned (.int .u64 0) ∧ ∃ n, w' = w.drewN n := by
  have e : Gn.subW 4607182418800017408 4607182418800017408 = 0 := by decide
  have := sub_any 4607182418800017408 4607182418800017408 (by decide) w
  rw [e] at this; exact this
theorem mul_1i (w : World) : Calls Tryz.prog 37 #[.int .u64 4607182418800017408, .int .u64 9218868437227405312] w fun e w' => e = .returned (.int .u64 9218868437227405312) ∧ ∃ n, w' = w.drewN n := by
  have e : Gn.mulW 4607182418800017408 9218868437227405312 = 9218868437227405312 := by decide
  have := mul_any 4607182418800017408 9218868437227405312 w
  rw [e] at this; exact this
theorem div_10 (w : World) : Calls Tryz.prog 38 #[.int .u64 4607182418800017408, .int .u64 0] w fun e w' => e = .returned (.int .u64 9218868437227405312) ∧ ∃ n, w' = w.drewN n := by
  have e : Gn.divW 4607182418800017408 0 = 9218868437227405312 := by decide
  have := div_any 4607182418800017408 0 w
  rw [e] at this; exact this
theorem min_1i (w : World) : Calls Tryz.prog 39 #[.int .u64 4607182418800017408, .int .u64 9218868437227405312] w fun e w' => e = .returned (.int .u64 4607182418800017408) ∧ w' = w := by
  have e : minW 4607182418800017408 9218868437227405312 = 4607182418800017408 := by decide
  have := min_any 4607182418800017408 9218868437227405312 (by decide) (by decide) w
  rw [e] at this; exact this
theorem max_1i (w : World) : Calls Tryz.prog 40 #[.int .u64 4607182418800017408, .int .u64 9218868437227405312] w fun e w' => e = .returned (.int .u64 9218868437227405312) ∧ w' = w := by
  have e : maxW 4607182418800017408 9218868437227405312 = 9218868437227405312 := by decide
  have := max_any 4607182418800017408 9218868437227405312 (by decide) (by decide) w
  rw [e] at this; exact this
theorem neg_0 (w : World) : Calls Tryz.prog 41 #[.int .u64 0] w fun e w' => e = .returned (.int .u64 9223372036854775808) ∧ w' = w := by
  have e : Gn.negW 0 = 9223372036854775808 := by decide
  have := neg_any 0 (by decide) w
  rw [e] at this; exact this
theorem abs_s (w : World) : Calls Tryz.prog 42 #[.int .u64 9223372036854775808] w fun e w' => e = .returned (.int .u64 0) ∧ w' = w := by
  have e : Gn.absW 9223372036854775808 = 0 := by decide
  have := abs_any 9223372036854775808 (by decide) w
  rw [e] at this; exact this
theorem floor_1 (w : World) : Calls Tryz.prog 43 #[.int .u64 4607182418800017408] w fun e w' => e = .returned (.int .u64 4607182418800017408) ∧ ∃ n, w' = w.drewN n := by
  have e : floorW 4607182418800017408 = 4607182418800017408 := by decide
  have := floor_any 4607182418800017408 (by decide) w
  rw [e] at this; exact this
theorem less_01 (w : World) : Calls Tryz.prog 44 #[.int .u64 0, .int .u64 4607182418800017408] w fun e w' => e = .returned (.bool true) ∧ w' = w := by
  have e : ltW 0 4607182418800017408 = true := by decide
  have := less_any 0 4607182418800017408 w
  rw [e] at this; exact this
theorem equal_00 (w : World) : Calls Tryz.prog 45 #[.int .u64 0, .int .u64 9223372036854775808] w fun e w' => e = .returned (.bool true) ∧ w' = w := by
  have e : eqW 0 9223372036854775808 = true := by decide
  have := equal_any 0 9223372036854775808 w
  rw [e] at this; exact this
theorem order_01 (w : World) : Calls Tryz.prog 46 #[.int .u64 0, .int .u64 4607182418800017408] w fun e w' => e = .returned (.int .i64 (-1)) ∧ w' = w := by
  have e : ordW 0 4607182418800017408 = (-1) := by decide
  have := order_any 0 4607182418800017408 (by decide) (by decide) w
  rw [e] at this; exact this
theorem of_1 (w : World) : Calls Tryz.prog 47 #[.int .i64 1] w fun e w' => e = .returned (.int .u64 4607182418800017408) ∧ w' = w := by
  have e : ofW 1 = 4607182418800017408 := by decide
  have := of_any 1 w
  rw [e] at this; exact this

set_option maxHeartbeats 1000000 in
theorem names_true (w : World) (h : TabC w) : Calls Tryz.prog 13 #[] w fun e w' => e = .returned (.bool true) ∧ Below w.heap.size w w' := by
  have hg := tab_size h
  go_enter Tryz.func13, Tryz.ntmps13
  go_wp2_with fail
  refine (parse_2p0 _).mono ?_
  rintro e w1 ⟨rfl, hb1⟩
  go_wp2_with fail
  refine (parse_1p1024 _).mono ?_
  rintro e w2 ⟨rfl, hb2⟩
  have hb := bt hb1 hb2
  have ht := tab_below h hg hb
  clear hb1 hb2
  go_wp2_with (first
    | (go_at_call 31; refine (int_inf _).mono ?_; rintro e w3 ⟨rfl, rfl⟩)
    | (go_at_call 12; refine (known_true _ (by assumption)).mono ?_; rintro e w3 ⟨rfl, hb3⟩)
    | (go_at_call 35; refine (class_one _).mono ?_; rintro e w4 ⟨rfl, rfl⟩)
    | (go_at_call 36; refine (sub_11 _).mono ?_; rintro e w4 ⟨rfl, n1, rfl⟩)
    | (go_at_call 37; refine (mul_1i _).mono ?_; rintro e w4 ⟨rfl, n2, rfl⟩)
    | (go_at_call 38; refine (div_10 _).mono ?_; rintro e w4 ⟨rfl, n3, rfl⟩)
    | (go_at_call 39; refine (min_1i _).mono ?_; rintro e w4 ⟨rfl, rfl⟩)
    | (go_at_call 40; refine (max_1i _).mono ?_; rintro e w4 ⟨rfl, rfl⟩)
    | (go_at_call 41; refine (neg_0 _).mono ?_; rintro e w4 ⟨rfl, rfl⟩)
    | (go_at_call 42; refine (abs_s _).mono ?_; rintro e w4 ⟨rfl, rfl⟩)
    | (go_at_call 43; refine (floor_1 _).mono ?_; rintro e w4 ⟨rfl, n4, rfl⟩)
    | (go_at_call 44; refine (less_01 _).mono ?_; rintro e w4 ⟨rfl, rfl⟩)
    | (go_at_call 45; refine (equal_00 _).mono ?_; rintro e w4 ⟨rfl, rfl⟩)
    | (go_at_call 46; refine (order_01 _).mono ?_; rintro e w4 ⟨rfl, rfl⟩)
    | (go_at_call 47; refine (of_1 _).mono ?_; rintro e w4 ⟨rfl, rfl⟩))

  go_ret
  exact ⟨rfl, bt (bt hb hb3) (bd _ _)⟩

set_option maxHeartbeats 1000000 in
theorem awake_true (w : World) (h : TabC w) : Calls Tryz.prog 6 #[] w fun e w' => e = .returned (.bool true) ∧ Below w.heap.size w w' := by
  have hg := tab_size h
  go_enter Tryz.func6, Tryz.ntmps6
  go_wp2_with fail
  refine (known_true _ h).mono ?_
  rintro e w1 ⟨rfl, hb1⟩
  have ht := tab_below h hg hb1
  go_wp2_with fail
  refine (names_true _ ht).mono ?_
  rintro e w2 ⟨rfl, hb2⟩
  go_wp2_with fail
  go_ret
  exact ⟨rfl, bt hb1 hb2⟩
end Go.Proofs.YtlaecbbhgjpfoaaGreatDoor
end

section
namespace Go.Proofs.YtlaecbbhgjpfoaaGreatDoor
open Go.RowKit

/-- a whole number of 128 bits as the struct of its two halves -/
abbrev wv (hi lo : Nat) : Value := .agg #[.int .u64 (hi : Int), .int .u64 (lo : Int)]
def wW (W : Nat) : Value := wv (W / 18446744073709551616) (W % 18446744073709551616)
theorem wW_of (hi lo : Nat) (h : lo < 18446744073709551616) : wW (hi * 18446744073709551616 + lo) = wv hi lo := by
  unfold wW
  rw [show (hi * 18446744073709551616 + lo) / 18446744073709551616 = hi from by omega, show (hi * 18446744073709551616 + lo) % 18446744073709551616 = lo from by omega]
theorem wrap_nat (x : Nat) (h : x < 18446744073709551616) : IntKind.u64.wrap (x : Int) = (x : Int) := by
  rw [IntKind.wrap_u64]; omega
theorem wrap_mod (x : Nat) : IntKind.u64.wrap (x : Int) = ((x % 18446744073709551616 : Nat) : Int) := by
  rw [IntKind.wrap_u64]; omega
theorem pow64 (n : Nat) (h : n ≤ 64) : 2 ^ n * 2 ^ (64 - n) = 18446744073709551616 := by
  rw [← Nat.pow_add, show n + (64 - n) = 64 from by omega]

set_option maxHeartbeats 400000 in
theorem left_big (hi lo n x : Nat) (h1 : (64 : Int) ≤ (n : Int)) (h2 : (n : Int) ≤ 127) (hx : IntKind.u64.wrap ((lo : Int) * 2 ^ (n - 64)) = (x : Int)) (w : World) :
    Calls Tryz.prog 27 #[wv hi lo, .int .i64 (n : Int)] w fun e w' => e = .returned (wv x 0) ∧ Below w.heap.size w w' := by
  go_enter Tryz.func27, Tryz.ntmps27
  go_wp2
  exact bodyPost_ret (v := wv x 0) (by simp [results, Tryz.results27, go_sem]) rfl ⟨rfl, ((Below.refl _ _).alloc (Nat.le_refl _) _).alloc (by simp) _⟩
set_option maxHeartbeats 400000 in
theorem left_zero (hi lo : Nat) (w : World) :
    Calls Tryz.prog 27 #[wv hi lo, .int .i64 0] w fun e w' => e = .returned (wv hi lo) ∧ Below w.heap.size w w' := by
  go_enter Tryz.func27, Tryz.ntmps27
  go_wp2
  exact bodyPost_ret (v := wv hi lo) (by simp [results, Tryz.results27, go_sem]) rfl ⟨rfl, ((Below.refl _ _).alloc (Nat.le_refl _) _).alloc (by simp) _⟩
set_option maxHeartbeats 400000 in
theorem left_mid (hi lo n x y : Nat) (h1 : (n : Int) < 64) (h2 : ((n : Int) == 0) = false) (hx : bits .or .u64 (IntKind.u64.wrap ((hi : Int) * 2 ^ n)) ((lo : Int) / 2 ^ (64 - n)) = (x : Int)) (hy : IntKind.u64.wrap ((lo : Int) * 2 ^ n) = (y : Int)) (w : World) :
    Calls Tryz.prog 27 #[wv hi lo, .int .i64 (n : Int)] w fun e w' => e = .returned (wv x y) ∧ Below w.heap.size w w' := by
  go_enter Tryz.func27, Tryz.ntmps27
  go_wp2
  go_region
  all_goals go_wp2
  exact bodyPost_ret (v := wv x y) (by simp [results, Tryz.results27, go_sem]) rfl ⟨rfl, (((Below.refl _ _).alloc (Nat.le_refl _) _).alloc (by simp) _).drew⟩
set_option maxHeartbeats 400000 in
theorem right_big (hi lo n x : Nat) (h1 : (64 : Int) ≤ (n : Int)) (h2 : (n : Int) ≤ 127) (hx : (hi : Int) / 2 ^ (n - 64) = (x : Int)) (w : World) :
    Calls Tryz.prog 28 #[wv hi lo, .int .i64 (n : Int)] w fun e w' => e = .returned (wv 0 x) ∧ Below w.heap.size w w' := by
  go_enter Tryz.func28, Tryz.ntmps28
  go_wp2
  exact bodyPost_ret (v := wv 0 x) (by simp [results, Tryz.results28, go_sem]) rfl ⟨rfl, ((Below.refl _ _).alloc (Nat.le_refl _) _).alloc (by simp) _⟩
set_option maxHeartbeats 400000 in
theorem right_mid (hi lo n x y : Nat) (h1 : (n : Int) < 64) (h2 : ((n : Int) == 0) = false) (hx : (hi : Int) / 2 ^ n = (x : Int)) (hy : bits .or .u64 ((lo : Int) / 2 ^ n) (IntKind.u64.wrap ((hi : Int) * 2 ^ (64 - n))) = (y : Int)) (w : World) :
    Calls Tryz.prog 28 #[wv hi lo, .int .i64 (n : Int)] w fun e w' => e = .returned (wv x y) ∧ Below w.heap.size w w' := by
  go_enter Tryz.func28, Tryz.ntmps28
  go_wp2
  go_region
  all_goals go_wp2
  exact bodyPost_ret (v := wv x y) (by simp [results, Tryz.results28, go_sem]) rfl ⟨rfl, (((Below.refl _ _).alloc (Nat.le_refl _) _).alloc (by simp) _).drew⟩
end Go.Proofs.YtlaecbbhgjpfoaaGreatDoor
end

section
namespace Go.Proofs.YtlaecbbhgjpfoaaGreatDoor
open Go.RowKit

theorem cast_mul_pow (a n : Nat) : (a : Int) * 2 ^ n = ((a * 2 ^ n : Nat) : Int) := by simp
theorem cast_div_pow (a n : Nat) : (a : Int) / 2 ^ n = ((a / 2 ^ n : Nat) : Int) := by simp

theorem mul_add_mod_lt {q b r : Nat} (h : r < b) : (q * b + r) % b = r := by
  rw [Nat.mul_comm, Nat.mul_add_mod, Nat.mod_eq_of_lt h]
/-- the halves of a product by P, P Q being 2^64 -/
theorem left_math (hi lo P Q B : Nat) (hB : P * Q = B) (hQ : 0 < Q) (hlo : lo < B) (h : (hi * B + lo) * P < B * B) :
    hi * P < B ∧ lo / Q < P ∧ (hi * B + lo) * P = (hi * P + lo / Q) * B + lo * P % B ∧ hi * P + lo / Q < B := by
  have hBp : 0 < B := by omega
  have e1 : (hi * B + lo) * P = hi * P * B + lo * P := by
    rw [Nat.add_mul, Nat.mul_right_comm]
  have h1 : hi * P < B := by
    rcases Nat.lt_or_ge (hi * P) B with k | k
    · exact k
    · have := Nat.mul_le_mul_right B k; omega
  have h2 : lo / Q < P := (Nat.div_lt_iff_lt_mul hQ).2 (by rw [hB]; exact hlo)
  have e2 := Nat.div_add_mod lo Q
  have e3 : lo * P = lo / Q * B + lo % Q * P := by
    conv => lhs; rw [← e2]
    rw [Nat.add_mul, Nat.mul_comm Q, Nat.mul_assoc, Nat.mul_comm Q P, hB]
  have h3 : lo % Q * P < B := by
    have := Nat.mul_lt_mul_of_pos_right (Nat.mod_lt lo hQ) (Nat.lt_of_le_of_lt (Nat.zero_le _) h2)
    rw [Nat.mul_comm Q P, hB] at this; exact this
  have e4 : lo * P % B = lo % Q * P := by
    rw [e3, mul_add_mod_lt h3]
  have e5 : (hi * B + lo) * P = (hi * P + lo / Q) * B + lo * P % B := by
    rw [e1, e4, Nat.add_mul]; omega
  refine ⟨h1, h2, e5, ?_⟩
  rcases Nat.lt_or_ge (hi * P + lo / Q) B with k | k
  · exact k
  · have := Nat.mul_le_mul_right B k; omega
theorem right_math (hi lo P Q B : Nat) (hB : P * Q = B) (hP : 0 < P) (hQ : 0 < Q) (hlo : lo < B) :
    hi * Q % B = hi % P * Q ∧ lo / P < Q ∧ (hi * B + lo) / P = hi / P * B + (hi % P * Q + lo / P) ∧ hi % P * Q + lo / P < B := by
  have h2 : lo / P < Q := (Nat.div_lt_iff_lt_mul hP).2 (by rw [Nat.mul_comm, hB]; exact hlo)
  have e2 := Nat.div_add_mod hi P
  have h3 : hi % P * Q + Q ≤ B := by
    have := Nat.mul_le_mul_right Q (Nat.succ_le_of_lt (Nat.mod_lt hi hP))
    rw [Nat.succ_mul, hB] at this; exact this
  have e3 : hi * Q = hi / P * B + hi % P * Q := by
    conv => lhs; rw [← e2]
    rw [Nat.add_mul, Nat.mul_comm P, Nat.mul_assoc, hB]
  have e4 : hi * Q % B = hi % P * Q := by
    rw [e3, mul_add_mod_lt (by omega)]
  have e5 : (hi * B + lo) / P = hi * Q + lo / P := by
    rw [← hB, show hi * (P * Q) + lo = lo + P * (hi * Q) from by rw [Nat.mul_left_comm]; omega, Nat.add_mul_div_left _ _ hP]; omega
  exact ⟨e4, h2, by rw [e5, e3]; omega, by omega⟩

theorem B64 : (18446744073709551616 : Nat) = 2 ^ 64 := by decide
theorem left_W (W n : Nat) (hn : n ≤ 127) (hW : W * 2 ^ n < 18446744073709551616 * 18446744073709551616) (w : World) :
    Calls Tryz.prog 27 #[wW W, .int .i64 (n : Int)] w fun e w' => e = .returned (wW (W * 2 ^ n)) ∧ Below w.heap.size w w' := by
  have hlo : W % 18446744073709551616 < 18446744073709551616 := Nat.mod_lt _ (by decide)
  have hWd : W = W / 18446744073709551616 * 18446744073709551616 + W % 18446744073709551616 := by omega
  by_cases h1 : 64 ≤ n
  · have e0 : 2 ^ n = 2 ^ (n - 64) * 18446744073709551616 := by rw [B64, ← Nat.pow_add]; congr 1; omega
    have hp := Nat.two_pow_pos (n - 64)
    have hlt : W * 2 ^ (n - 64) < 18446744073709551616 := by
      rw [e0, ← Nat.mul_assoc] at hW
      exact Nat.lt_of_mul_lt_mul_right hW
    have hWs : W < 18446744073709551616 := by
      have := Nat.mul_le_mul_left W hp; omega
    have e1 : wW (W * 2 ^ n) = wv (W * 2 ^ (n - 64)) 0 := by
      have := wW_of (W * 2 ^ (n - 64)) 0 (by decide)
      rw [Nat.add_zero] at this
      rw [e0, ← Nat.mul_assoc]; exact this
    rw [e1]
    unfold wW
    rw [Nat.div_eq_of_lt hWs, Nat.mod_eq_of_lt hWs]
    exact left_big 0 W n _ (by omega) (by omega) (by rw [cast_mul_pow, wrap_nat _ hlt]) w
  · by_cases h2 : n = 0
    · subst h2
      rw [Nat.pow_zero, Nat.mul_one, show ((0 : Nat) : Int) = 0 from rfl]
      unfold wW
      exact left_zero (W / 18446744073709551616) (W % 18446744073709551616) w
    · have hPQ := pow64 n (by omega)
      have hW' := hW
      rw [hWd] at hW'
      obtain ⟨a1, a2, a3, a4⟩ := left_math _ _ _ _ _ hPQ (Nat.two_pow_pos _) hlo hW'
      rw [← hWd] at a3
      have e1 : wW (W * 2 ^ n) = wv (W / 18446744073709551616 * 2 ^ n + W % 18446744073709551616 / 2 ^ (64 - n)) (W % 18446744073709551616 * 2 ^ n % 18446744073709551616) := by
        rw [a3]; exact wW_of _ _ (Nat.mod_lt _ (by decide))
      rw [e1]
      refine left_mid _ _ n _ _ (by omega) (beqN_f (y := 0) h2) ?_ ?_ w
      · rw [cast_mul_pow, cast_div_pow, wrap_nat _ a1, u64_or_nat _ _ a1 (by omega), nat_join n _ _ (Nat.mul_mod_left _ _) a2]
      · rw [cast_mul_pow, wrap_mod]
theorem right_W (W n : Nat) (hn : n ≤ 127) (h0 : 1 ≤ n) (hW : W < 18446744073709551616 * 18446744073709551616) (w : World) :
    Calls Tryz.prog 28 #[wW W, .int .i64 (n : Int)] w fun e w' => e = .returned (wW (W / 2 ^ n)) ∧ Below w.heap.size w w' := by
  have hlo : W % 18446744073709551616 < 18446744073709551616 := Nat.mod_lt _ (by decide)
  have hhi : W / 18446744073709551616 < 18446744073709551616 := (Nat.div_lt_iff_lt_mul (by decide)).2 hW
  have hWd : W = W / 18446744073709551616 * 18446744073709551616 + W % 18446744073709551616 := by omega
  by_cases h1 : 64 ≤ n
  · have e0 : 2 ^ n = 18446744073709551616 * 2 ^ (n - 64) := by rw [B64, ← Nat.pow_add]; congr 1; omega
    have hlt : W / 18446744073709551616 / 2 ^ (n - 64) < 18446744073709551616 := Nat.lt_of_le_of_lt (Nat.div_le_self _ _) hhi
    have e1 : wW (W / 2 ^ n) = wv 0 (W / 18446744073709551616 / 2 ^ (n - 64)) := by
      rw [e0, ← Nat.div_div_eq_div_mul]
      have := wW_of 0 _ hlt
      rw [Nat.zero_mul, Nat.zero_add] at this; exact this
    rw [e1]
    exact right_big _ _ n _ (by omega) (by omega) (cast_div_pow _ _) w
  · have hPQ := pow64 n (by omega)
    obtain ⟨a1, a2, a3, a4⟩ := right_math (W / 18446744073709551616) (W % 18446744073709551616) _ _ _ hPQ (Nat.two_pow_pos _) (Nat.two_pow_pos _) hlo
    rw [← hWd] at a3
    have e1 : wW (W / 2 ^ n) = wv (W / 18446744073709551616 / 2 ^ n) (W / 18446744073709551616 % 2 ^ n * 2 ^ (64 - n) + W % 18446744073709551616 / 2 ^ n) := by
      rw [a3]; exact wW_of _ _ a4
    rw [e1]
    refine right_mid _ _ n _ _ (by omega) (beqN_f (y := 0) (by omega)) (cast_div_pow _ _) ?_ w
    rw [cast_mul_pow, cast_div_pow, wrap_mod, a1, u64_or_nat _ _ (by omega) (by omega), Nat.or_comm, nat_join (64 - n) _ _ (Nat.mul_mod_left _ _) a2]
end Go.Proofs.YtlaecbbhgjpfoaaGreatDoor
end

section
namespace Go.Proofs.YtlaecbbhgjpfoaaGreatDoor
open Go.RowKit

set_option maxHeartbeats 400000 in
theorem minus_v (h1 l1 h2 l2 x y : Nat) (hy : IntKind.u64.wrap ((l1 : Int) - (l2 : Int)) = (y : Int)) (w : World) (hc : (l1 : Int) < (l2 : Int) ∧ IntKind.u64.wrap (IntKind.u64.wrap ((h1 : Int) - (h2 : Int)) - 1) = (x : Int) ∨ ¬ (l1 : Int) < (l2 : Int) ∧ IntKind.u64.wrap ((h1 : Int) - (h2 : Int)) = (x : Int)) :
    Calls Tryz.prog 29 #[wv h1 l1, wv h2 l2] w fun e w' => e = .returned (wv x y) ∧ Below w.heap.size w w' := by
  rcases hc with ⟨c1, c2⟩ | ⟨c1, c2⟩
  all_goals
    go_enter Tryz.func29, Tryz.ntmps29
    go_wp2
    exact bodyPost_ret (v := wv x y) (by simp [results, Tryz.results29, go_sem]) rfl ⟨rfl, (((Below.refl _ _).alloc (Nat.le_refl _) _).alloc (by simp) _).alloc (by simp; omega) _⟩
theorem minus_W (W V : Nat) (h : V ≤ W) (hW : W < 18446744073709551616 * 18446744073709551616) (w : World) :
    Calls Tryz.prog 29 #[wW W, wW V] w fun e w' => e = .returned (wW (W - V)) ∧ Below w.heap.size w w' := by
  have a1 : W = W / 18446744073709551616 * 18446744073709551616 + W % 18446744073709551616 := by omega
  have a2 : V = V / 18446744073709551616 * 18446744073709551616 + V % 18446744073709551616 := by omega
  have b1 : W % 18446744073709551616 < 18446744073709551616 := Nat.mod_lt _ (by decide)
  have b2 : V % 18446744073709551616 < 18446744073709551616 := Nat.mod_lt _ (by decide)
  generalize hh1 : W / 18446744073709551616 = h1 at *
  generalize hh2 : V / 18446744073709551616 = h2 at *
  generalize hl1 : W % 18446744073709551616 = l1 at *
  generalize hl2 : V % 18446744073709551616 = l2 at *
  have eW : wW W = wv h1 l1 := by unfold wW; rw [hh1, hl1]
  have eV : wW V = wv h2 l2 := by unfold wW; rw [hh2, hl2]
  rw [eW, eV]
  by_cases hc : l1 < l2
  · have e : wW (W - V) = wv (h1 - h2 - 1) (l1 + 18446744073709551616 - l2) := by
      rw [show W - V = (h1 - h2 - 1) * 18446744073709551616 + (l1 + 18446744073709551616 - l2) from by omega]; exact wW_of _ _ (by omega)
    rw [e]
    refine minus_v h1 l1 h2 l2 _ _ ?_ w (.inl ⟨by omega, ?_⟩)
    · rw [IntKind.wrap_u64]; omega
    · rw [IntKind.wrap_u64, IntKind.wrap_u64]; omega
  · have e : wW (W - V) = wv (h1 - h2) (l1 - l2) := by
      rw [show W - V = (h1 - h2) * 18446744073709551616 + (l1 - l2) from by omega]; exact wW_of _ _ (by omega)
    rw [e]
    refine minus_v h1 l1 h2 l2 _ _ ?_ w (.inr ⟨by omega, ?_⟩)
    · rw [IntKind.wrap_u64]; omega
    · rw [IntKind.wrap_u64]; omega

set_option maxHeartbeats 400000 in
theorem less_v (h1 l1 h2 l2 : Nat) (b : Bool) (w : World) (hc : h1 < h2 ∧ b = true ∨ (h2 ≤ h1 ∧ ((h1 : Int) == (h2 : Int)) = false ∧ b = false) ∨ (h2 ≤ h1 ∧ ((h1 : Int) == (h2 : Int)) = true ∧ decide (l1 < l2) = b)) :
    Calls Tryz.prog 30 #[wv h1 l1, wv h2 l2] w fun e w' => e = .returned (.bool b) ∧ Below w.heap.size w w' := by
  rcases hc with ⟨c1, rfl⟩ | ⟨c1, c2, rfl⟩ | ⟨c1, c2, c3⟩
  all_goals
    go_enter Tryz.func30, Tryz.ntmps30
    go_wp2
    go_ret
    refine ⟨?_, ((Below.refl _ _).alloc (Nat.le_refl _) _).alloc (by simp) _⟩
    first | rfl | exact congrArg (fun b => Ending.returned (Value.bool b)) (by simp; omega) | (refine congrArg (fun b => Ending.returned (Value.bool b)) ?_; rw [← c3, Bool.eq_iff_iff]; simp; omega)
theorem less_W (W V : Nat) (w : World) :
    Calls Tryz.prog 30 #[wW W, wW V] w fun e w' => e = .returned (.bool (decide (W < V))) ∧ Below w.heap.size w w' := by
  have a1 : W = W / 18446744073709551616 * 18446744073709551616 + W % 18446744073709551616 := by omega
  have a2 : V = V / 18446744073709551616 * 18446744073709551616 + V % 18446744073709551616 := by omega
  have b1 : W % 18446744073709551616 < 18446744073709551616 := Nat.mod_lt _ (by decide)
  have b2 : V % 18446744073709551616 < 18446744073709551616 := Nat.mod_lt _ (by decide)
  generalize hh1 : W / 18446744073709551616 = h1 at *
  generalize hh2 : V / 18446744073709551616 = h2 at *
  generalize hl1 : W % 18446744073709551616 = l1 at *
  generalize hl2 : V % 18446744073709551616 = l2 at *
  have eW : wW W = wv h1 l1 := by unfold wW; rw [hh1, hl1]
  have eV : wW V = wv h2 l2 := by unfold wW; rw [hh2, hl2]
  rw [eW, eV]
  refine less_v h1 l1 h2 l2 _ w ?_
  rcases Nat.lt_trichotomy h1 h2 with k | k | k
  · exact .inl ⟨k, decide_eq_true (by omega)⟩
  · refine .inr (.inr ⟨by omega, beqN_t k, ?_⟩)
    rw [Bool.eq_iff_iff]; simp; omega
  · exact .inr (.inl ⟨by omega, beqN_f (by omega), decide_eq_false (by omega)⟩)
end Go.Proofs.YtlaecbbhgjpfoaaGreatDoor
end

section
namespace Go.Proofs.YtlaecbbhgjpfoaaGreatDoor
open Go.RowKit

/-- how many bits -/
def bl (W : Nat) : Nat := if W = 0 then 0 else W.log2 + 1
def hiN (V : Nat) : Nat := V / 18446744073709551616
def loN (V : Nat) : Nat := V % 18446744073709551616
theorem right_h (V : Nat) (hV : V < 18446744073709551616 * 18446744073709551616) (w : World) :
    Calls Tryz.prog 28 #[wv (hiN V) (loN V), .int .i64 1] w fun e w' => e = .returned (wv (hiN (V / 2)) (loN (V / 2))) ∧ Below w.heap.size w w' := by
  have := right_W V 1 (by decide) (by decide) hV w
  unfold wW at this
  rw [Nat.pow_one] at this
  exact this
theorem p128 : (2 : Nat) ^ 128 = 18446744073709551616 * 18446744073709551616 := by decide
theorem bl_of (W k : Nat) (h1 : W / 2 ^ k = 0) (h2 : k = 0 ∨ W / 2 ^ (k - 1) ≠ 0) : bl W = k := by
  have hp := Nat.two_pow_pos k
  have hlt : W < 2 ^ k := by
    rcases Nat.lt_or_ge W (2 ^ k) with h | h
    · exact h
    · have := Nat.div_pos h hp; omega
  unfold bl
  rcases h2 with h2 | h2
  · subst h2; rw [if_pos (by simpa using hlt)]
  · have hne : W ≠ 0 := by intro e; subst e; simp at h2
    rw [if_neg hne]
    have hge : 2 ^ (k - 1) ≤ W := by
      rcases Nat.lt_or_ge W (2 ^ (k - 1)) with h | h
      · exact absurd (Nat.div_eq_of_lt h) h2
      · exact h
    have hk : k ≠ 0 := by intro e; subst e; simp at hlt hge; omega
    have := Gn.log2_of (m := W) (k := k - 1) hge (by rw [show k - 1 + 1 = k from by omega]; exact hlt)
    omega
theorem hl_zero {V : Nat} (h : V = 0) : (hiN V : Int) = 0 ∧ (loN V : Int) = 0 := by subst h; exact ⟨rfl, rfl⟩
theorem hl_pos {V : Nat} (h : V ≠ 0) : 0 < hiN V ∨ (hiN V = 0 ∧ 0 < loN V) := by unfold hiN loN; omega
theorem cells2 {w1 : World} {B : Nat} {a b c d : Value} (h0 : w1.cell? ⟨B, 0, none⟩ = some a) (h1 : w1.cell? ⟨B, 1, none⟩ = some b) :
    ((w1.setCell ⟨B, 0, none⟩ c).setCell ⟨B, 1, none⟩ d).cell? ⟨B, 0, none⟩ = some c ∧ ((w1.setCell ⟨B, 0, none⟩ c).setCell ⟨B, 1, none⟩ d).cell? ⟨B, 1, none⟩ = some d := by
  constructor
  · simp [h0, go_sem]
  · simp [h1, go_sem]
set_option maxHeartbeats 1000000 in
theorem length_W (W : Nat) (hW : W < 18446744073709551616 * 18446744073709551616) (w : World) :
    Calls Tryz.prog 26 #[wW W] w fun e w' => e = .returned (.int .i64 (bl W : Int)) ∧ Below w.heap.size w w' := by
  have eW : wW W = wv (hiN W) (loN W) := rfl
  rw [eW]
  have HW : Hid (W < 18446744073709551616 * 18446744073709551616) := hW
  clear eW hW
  go_enter Tryz.func26, Tryz.ntmps26
  go_wp2
  go_loopw [3] (fun c wr => ∃ k : Nat, c = .int .i64 (k : Int) ∧ k ≤ 128 ∧ (k = 0 ∨ W / 2 ^ (k - 1) ≠ 0) ∧ Below w.heap.size w wr ∧ w.heap.size < wr.heap.size ∧ wr.cell? ⟨w.heap.size, 0, none⟩ = some (.int .u64 (hiN (W / 2 ^ k) : Int)) ∧ wr.cell? ⟨w.heap.size, 1, none⟩ = some (.int .u64 (loN (W / 2 ^ k) : Int)) ∧ wr.frozen? ⟨w.heap.size, 0, none⟩ = false ∧ wr.frozen? ⟨w.heap.size, 1, none⟩ = false) (fun c _ => 200 - (intOf c).toNat)
  case atStart =>
    exact ⟨0, rfl, by omega, .inl rfl, (Below.refl _ _).alloc (Nat.le_refl _) _, by simp, by simp, by simp, by simp, by simp⟩
  case round =>
    obtain ⟨k, rfl, hk, hk2, hb, hs, c0, c1, f0, f1⟩ := hrel
    by_cases hz : W / 2 ^ k = 0
    · obtain ⟨z0, z1⟩ := hl_zero hz
      have hl := bl_of W k hz hk2
      rw [z0] at c0
      rw [z1] at c1
      clear hz hk2 z0 z1
      go_wp2
      go_ret
      exact ⟨by rw [hl]; rfl, hb⟩
    · have hVlt : W / 2 ^ k < 18446744073709551616 * 18446744073709551616 := Nat.lt_of_le_of_lt (Nat.div_le_self _ _) HW.out
      have HV : Hid (W / 2 ^ k < 18446744073709551616 * 18446744073709551616) := hVlt
      have HZ : Hid (∀ j, j = k + 1 → W / 2 ^ (j - 1) ≠ 0) := fun j hj => by subst hj; rw [Nat.add_sub_cancel]; exact hz
      have hk3 : k < 128 := by
        rcases Nat.lt_or_ge k 128 with h | h
        · exact h
        · exfalso; apply hz
          have : k = 128 := by omega
          subst this
          have h128 := HW.out
          rw [← p128] at h128
          exact Nat.div_eq_of_lt h128
      have hpos := hl_pos hz
      have HD : Hid (W / 2 ^ k / 2 = W / 2 ^ (k + 1)) := by
        show _ = _
        rw [Nat.div_div_eq_div_mul, ← Nat.pow_succ]
      clear hVlt hk2 hz
      generalize W / 2 ^ k = V at *
      have hr : (0 < hiN V ∧ ∀ wx, Calls Tryz.prog 28 #[wv (hiN V) (loN V), .int .i64 1] wx fun e w' => e = .returned (wv (hiN (V / 2)) (loN (V / 2))) ∧ Below wx.heap.size wx w') ∨ (hiN V = 0 ∧ 0 < loN V ∧ ∀ wx, Calls Tryz.prog 28 #[wv 0 (loN V), .int .i64 1] wx fun e w' => e = .returned (wv (hiN (V / 2)) (loN (V / 2))) ∧ Below wx.heap.size wx w') := by
        rcases hpos with hp | ⟨hp0, hp⟩
        · exact .inl ⟨hp, fun wx => right_h V HV.out wx⟩
        · refine .inr ⟨hp0, hp, fun wx => ?_⟩
          have := right_h V HV.out wx
          rw [hp0] at this; exact this
      clear hpos
      rcases hr with ⟨hp, hr⟩ | ⟨hp0, hp, hr⟩
      all_goals
        have HR : Hid _ := hr
        clear hr
        go_wp2_with fail
        refine (HR.out _).mono ?_
        rintro e w1 ⟨rfl, hb1⟩
        have hc0 := hb1.cell (p := ⟨w.heap.size, 0, none⟩) hs
        have hc1 := hb1.cell (p := ⟨w.heap.size, 1, none⟩) hs
        have hf0 := hb1.frozen (p := ⟨w.heap.size, 0, none⟩) hs
        have hf1 := hb1.frozen (p := ⟨w.heap.size, 1, none⟩) hs
        have hs1 : w.heap.size < w1.heap.size := by have := hb1.size; omega
        rw [c0] at hc0
        rw [c1] at hc1
        rw [f0] at hf0
        rw [f1] at hf1
        clear c0 c1 f0 f1
        go_wp2
        go_roundw
        case rel =>
          obtain ⟨q0, q1⟩ := cells2 (c := .int .u64 (hiN (V / 2) : Int)) (d := .int .u64 (loN (V / 2) : Int)) hc0 hc1
          rw [HD.out] at q0 q1 ⊢
          exact ⟨k + 1, by go_num, by omega, .inr (HZ.out (k + 1) rfl), ((hb.trans (hb1.mono (by omega))).setCell (Nat.le_refl _) _).setCell (Nat.le_refl _) _, by simp; exact hs1, q0, q1, by simp [hf0], by simp [hf1]⟩
        case measure => simp [intOf]; omega
end Go.Proofs.YtlaecbbhgjpfoaaGreatDoor
end

section
namespace Go.Proofs.YtlaecbbhgjpfoaaGreatDoor
open Go.RowKit

abbrev wn (V : Nat) : Value := .agg #[.int .u64 (hiN V : Int), .int .u64 (loN V : Int)]
theorem wW_wn (V : Nat) : wW V = wn V := rfl
theorem length_n (W : Nat) (hW : W < 18446744073709551616 * 18446744073709551616) (w : World) :
    Calls Tryz.prog 26 #[wn W] w fun e w' => e = .returned (.int .i64 (bl W : Int)) ∧ Below w.heap.size w w' := by
  have := length_W W hW w; rw [wW_wn] at this; exact this
theorem left_n (W n : Nat) (hn : n ≤ 127) (hW : W * 2 ^ n < 18446744073709551616 * 18446744073709551616) (w : World) :
    Calls Tryz.prog 27 #[wn W, .int .i64 (n : Int)] w fun e w' => e = .returned (wn (W * 2 ^ n)) ∧ Below w.heap.size w w' := by
  have := left_W W n hn hW w; rw [wW_wn, wW_wn] at this; exact this
theorem right_n (W n : Nat) (hn : n ≤ 127) (h0 : 1 ≤ n) (hW : W < 18446744073709551616 * 18446744073709551616) (w : World) :
    Calls Tryz.prog 28 #[wn W, .int .i64 (n : Int)] w fun e w' => e = .returned (wn (W / 2 ^ n)) ∧ Below w.heap.size w w' := by
  have := right_W W n hn h0 hW w; rw [wW_wn, wW_wn] at this; exact this
theorem minus_n (W V : Nat) (h : V ≤ W) (hW : W < 18446744073709551616 * 18446744073709551616) (w : World) :
    Calls Tryz.prog 29 #[wn W, wn V] w fun e w' => e = .returned (wn (W - V)) ∧ Below w.heap.size w w' := by
  have := minus_W W V h hW w; rw [wW_wn, wW_wn, wW_wn] at this; exact this
theorem less_n (W V : Nat) (w : World) :
    Calls Tryz.prog 30 #[wn W, wn V] w fun e w' => e = .returned (.bool (decide (W < V))) ∧ Below w.heap.size w w' := by
  have := less_W W V w; rw [wW_wn, wW_wn] at this; exact this

/-- the facts of a box that a later world keeps -/
theorem keep2 {a b : World} {B : Nat} {x y : Value} (hb : Below a.heap.size a b) (hB : B < a.heap.size) (h0 : a.cell? ⟨B, 0, none⟩ = some x) (h1 : a.cell? ⟨B, 1, none⟩ = some y) (f0 : a.frozen? ⟨B, 0, none⟩ = false) (f1 : a.frozen? ⟨B, 1, none⟩ = false) :
    b.cell? ⟨B, 0, none⟩ = some x ∧ b.cell? ⟨B, 1, none⟩ = some y ∧ b.frozen? ⟨B, 0, none⟩ = false ∧ b.frozen? ⟨B, 1, none⟩ = false ∧ B < b.heap.size :=
  ⟨by rw [hb.cell (p := ⟨B, 0, none⟩) hB]; exact h0, by rw [hb.cell (p := ⟨B, 1, none⟩) hB]; exact h1, by rw [hb.frozen (p := ⟨B, 0, none⟩) hB]; exact f0, by rw [hb.frozen (p := ⟨B, 1, none⟩) hB]; exact f1, Nat.lt_of_lt_of_le hB hb.size⟩

set_option maxHeartbeats 2000000 in
theorem rounded_far (s W : Nat) (e : Int) (rest : Bool) (h1 : -4400 ≤ e) (h2 : e ≤ 4400) (hL : bl W ≤ 128) (HW : Hid (W < 18446744073709551616 * 18446744073709551616))
    (hq : e + (bl W : Int) - 53 < -1074) (hn : (127 : Int) < -1074 - e) (w : World) :
    Calls Tryz.prog 11 #[.int .u64 (s : Int), wn W, .int .i64 e, .bool rest] w fun e' w' => e' = .returned (.int .u64 (s : Int)) ∧ Below w.heap.size w w' := by
  go_enter Tryz.func11, Tryz.ntmps11
  go_wp2_with fail
  refine (length_n W HW.out _).mono ?_
  rintro e' w1 ⟨rfl, hb1⟩
  go_wp2_with fail
  go_ret
  exact ⟨rfl, ((Below.refl _ _).alloc (Nat.le_refl _) _).trans (hb1.mono (by simp))⟩
set_option maxHeartbeats 2000000 in
/-- without rounding: the amount is shifted up -/
theorem rounded_left (s W n : Nat) (e q : Int) (rest : Bool) (b : Nat) (_h1 : -4400 ≤ e) (_h2 : e ≤ 4400) (hL : bl W ≤ 128) (HW : Hid (W < 18446744073709551616 * 18446744073709551616)) (w : World)
    (hq : e + (bl W : Int) - 53 = q) (hq1 : -1074 ≤ q) (hq2 : q ≤ 971) (hqe : q - e = -(n : Int)) (hn : n ≤ 127) (HN : Hid (W * 2 ^ n < 18446744073709551616 * 18446744073709551616))
    (x : Nat) (hx : (q + 1074) * 4503599627370496 = (x : Int)) (hx2 : IntKind.u64.wrap (x : Int) = (x : Int)) (m : Nat) (hmw : loN (W * 2 ^ n) = m) (hb : IntKind.u64.wrap ((x : Int) + (m : Int)) = (b : Int)) (hbi : decide ((9218868437227405312 : Int) ≤ (b : Int)) = false) (r : Nat) (hr : bits .or .u64 (s : Int) (b : Int) = (r : Int)) :
    Calls Tryz.prog 11 #[.int .u64 (s : Int), wn W, .int .i64 e, .bool rest] w fun e' w' => e' = .returned (.int .u64 (r : Int)) ∧ Below w.heap.size w w' := by
  go_enter Tryz.func11, Tryz.ntmps11
  go_wp2_with fail
  refine (length_n W HW.out _).mono ?_
  rintro e' w1 ⟨rfl, hb1⟩
  obtain ⟨p0, p1, p2, p3, p4⟩ := keep2 (B := w.heap.size) hb1 (by simp) (by simp; rfl) (by simp; rfl) (by simp) (by simp)
  go_wp2_with fail
  refine (left_n W n hn HN.out _).mono ?_
  rintro e' w2 ⟨rfl, hb2⟩
  clear HN HW
  generalize W * 2 ^ n = V at *
  obtain ⟨t0, t1, t2, t3, t4⟩ := keep2 (B := w1.heap.size) hb2 (by simp) (by simp; rfl) (by simp; rfl) (by simp) (by simp)
  go_wp2_with fail
  go_ret
  have B1 := ((Below.refl w.heap.size w).alloc (Nat.le_refl _) _).trans (hb1.mono (by simp))
  have hs1 := B1.size
  have B3 := (B1.alloc hs1 _).trans (hb2.mono (by simp; omega))
  exact ⟨rfl, (B3.setCell (p := ⟨w1.heap.size, 0, none⟩) hs1 _).setCell (p := ⟨w1.heap.size, 1, none⟩) hs1 _⟩
end Go.Proofs.YtlaecbbhgjpfoaaGreatDoor
end
