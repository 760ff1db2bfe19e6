import Derived.Test.YtdklpgkheakapaaGreatDoorRoundG
import Derived.Test.YtdklpgkheakapaaGreatDoorRefE
namespace Go.Proofs.YtdklpgkheakapaaGreatDoor
open Go.RowKit

theorem plus_n (W V : Nat) (h : W + V < 18446744073709551616 * 18446744073709551616) (w : World) :
    Calls Tryz.prog 49 #[wn W, wn V] w fun e w' => e = .returned (wn (W + V)) ∧ Below w.heap.size w w' := by
  have := plus_W W V h w; rw [wW_wn, wW_wn, wW_wn] at this; exact this
theorem left_lit (a i : Nat) (ha : a < 18446744073709551616) (hi : i ≤ 63) (w : World) :
    Calls Tryz.prog 47 #[.agg #[.int .u64 0, .int .u64 (a : Int)], .int .i64 (i : Int)] w fun e w' => e = .returned (wn (a * 2 ^ i)) ∧ Below w.heap.size w w' := by
  have h1 : a * 2 ^ i < 18446744073709551616 * 18446744073709551616 := by
    have h2 : (2 : Nat) ^ i ≤ 2 ^ 63 := Nat.pow_le_pow_right (by decide) hi
    have e : (2 : Nat) ^ 63 = 9223372036854775808 := by decide
    have : a * 2 ^ i ≤ 18446744073709551615 * 9223372036854775808 := Nat.mul_le_mul (by omega) (by omega)
    omega
  have := left_n a i (by omega) h1 w
  have e : wn a = .agg #[.int .u64 0, .int .u64 (a : Int)] := by
    show Value.agg #[.int .u64 (hiN a : Int), .int .u64 (loN a : Int)] = _
    rw [show hiN a = 0 by unfold hiN; omega, show loN a = a by unfold loN; omega]; rfl
  rw [e] at this
  exact this
theorem bit_and (b i : Nat) (hb : b < 18446744073709551616) : bits .and .u64 ((b : Int) / 2 ^ i) 1 = ((b / 2 ^ i % 2 : Nat) : Int) := by
  rw [show (b : Int) / 2 ^ i = ((b / 2 ^ i : Nat) : Int) by simp]
  exact odd_and _ (Nat.lt_of_le_of_lt (Nat.div_le_self _ _) hb)
theorem mod_next (b i : Nat) : b % 2 ^ (i + 1) = b % 2 ^ i + b / 2 ^ i % 2 * 2 ^ i := by
  rw [Nat.pow_succ, Nat.mod_mul, Nat.mul_comm (2 ^ i)]
theorem box_set {w1 : World} {B V C : Nat} (h : Box w1 B V) : Box ((w1.setCell ⟨B, 0, none⟩ (.int .u64 (hiN C : Int))).setCell ⟨B, 1, none⟩ (.int .u64 (loN C : Int))) B C :=
  ⟨(cells2 h.c0 h.c1).1, (cells2 h.c0 h.c1).2, by simp [h.f0], by simp [h.f1], by simp [h.lt]⟩
theorem box_other {w1 : World} {B V D : Nat} (h : Box w1 B V) (hne : B ≠ D) (x y : Value) : Box ((w1.setCell ⟨D, 0, none⟩ x).setCell ⟨D, 1, none⟩ y) B V := by
  have e : ((w1.setCell ⟨D, 0, none⟩ x).setCell ⟨D, 1, none⟩ y).heap[B]? = w1.heap[B]? := (Below.heap_setCell _ ⟨D, 1, none⟩ _ B hne).trans (Below.heap_setCell _ ⟨D, 0, none⟩ _ B hne)
  exact ⟨(World.cell?_of_block e).trans h.c0, (World.cell?_of_block e).trans h.c1, (World.frozen?_of_block e).trans h.f0, (World.frozen?_of_block e).trans h.f1, by simp [h.lt]⟩

set_option maxHeartbeats 2000000 in
set_option maxRecDepth 8000 in
theorem times_any (a b : Nat) (ha : a < 18446744073709551616) (hb : b < 18446744073709551616) (w : World) :
    Calls Tryz.prog 51 #[.int .u64 (a : Int), .int .u64 (b : Int)] w fun e w' => e = .returned (wn (a * b)) ∧ Below w.heap.size w w' := by
  go_enter Tryz.func51, Tryz.ntmps51
  go_wp2_with fail
  go_loopw [6] (fun v wr => ∃ i : Nat, v = .int .i64 (i : Int) ∧ i ≤ 64 ∧ Box wr w.heap.size 0 ∧ Box wr (w.heap.size + 1) (a * (b % 2 ^ i)) ∧ Below w.heap.size w wr) (fun v _ => 64 - (intOf v).toNat)
  case atStart =>
    have hz0 : (hiN 0 : Int) = 0 := rfl
    have hz1 : (loN 0 : Int) = 0 := rfl
    refine ⟨0, rfl, by omega, ⟨by rw [hz0]; simp [go_sem], by rw [hz1]; simp [go_sem], by simp [go_sem], by simp [go_sem], by simp; omega⟩, ?_, ((Below.refl _ _).alloc (Nat.le_refl _) _).alloc (by simp) _⟩
    rw [show a * (b % 2 ^ 0) = 0 by rw [Nat.pow_zero, Nat.mod_one, Nat.mul_zero]]
    exact ⟨by rw [hz0]; simp [go_sem], by rw [hz1]; simp [go_sem], by simp [go_sem], by simp [go_sem], by simp⟩
  case round =>
    obtain ⟨i, rfl, hi, hB4, hB5, hbel⟩ := hrel
    by_cases hi2 : i < 64
    · have hbit := bit_and b i hb
      have hlt5 := hB5.lt
      obtain ⟨z0, z1, z2, z3, z4⟩ := hB5
      rcases Nat.mod_two_eq_zero_or_one (b / 2 ^ i) with hm | hm
      · rw [hm] at hbit
        have HV : Hid (a * (b % 2 ^ (i + 1)) = a * (b % 2 ^ i)) := (show _ = _ by rw [mod_next, hm]; simp)
        have HB5 : Hid (Box wr (w.heap.size + 1) (a * (b % 2 ^ i))) := ⟨z0, z1, z2, z3, z4⟩
        have HB4 := (show Hid (Box wr w.heap.size 0) from hB4)
        clear z0 z1 z2 z3 hB4
        go_wp2_with fail
        exact ⟨⟨i + 1, by go_num, by omega, HB4.out, by rw [HV.out]; exact HB5.out, hbel⟩, by simp [intOf]; omega⟩
      · rw [hm] at hbit
        have HV : Hid (a * (b % 2 ^ (i + 1)) = a * (b % 2 ^ i) + a * 2 ^ i) := (show _ = _ by rw [mod_next, hm, Nat.one_mul, Nat.mul_add])
        have hsum : a * (b % 2 ^ i) + a * 2 ^ i < 18446744073709551616 * 18446744073709551616 := by
          rw [← HV.out]
          have h1 : b % 2 ^ (i + 1) ≤ b := Nat.mod_le _ _
          have : a * (b % 2 ^ (i + 1)) ≤ 18446744073709551615 * 18446744073709551615 := Nat.mul_le_mul (by omega) (by omega)
          omega
        have HS := (show Hid (a * (b % 2 ^ i) + a * 2 ^ i < 18446744073709551616 * 18446744073709551616) from hsum)
        have HB5 : Hid (Box wr (w.heap.size + 1) (a * (b % 2 ^ i))) := ⟨z0, z1, z2, z3, z4⟩
        have HB4 := (show Hid (Box wr w.heap.size 0) from hB4)
        clear z0 z1 z2 z3 z4 hB4 hsum hm
        generalize a * (b % 2 ^ i) = V at *
        go_wp2_with fail
        have bu : Below wr.heap.size wr (wr.alloc (.cells #[.int .u64 0, .int .u64 (a : Int)] 40)) := (Below.refl _ _).alloc (Nat.le_refl _) _
        have x5 := HB5.out.keep bu (by omega)
        have x4 := HB4.out.keep bu (by omega)
        have hv0 : (wr.alloc (.cells #[.int .u64 0, .int .u64 (a : Int)] 40)).cell? ⟨wr.heap.size, 0, none⟩ = some (.int .u64 0) := by rw [World.cell?_alloc_at _ _ _ _ rfl]; rfl
        have hv1 : (wr.alloc (.cells #[.int .u64 0, .int .u64 (a : Int)] 40)).cell? ⟨wr.heap.size, 1, none⟩ = some (.int .u64 (a : Int)) := by rw [World.cell?_alloc_at _ _ _ _ rfl]; rfl
        have hbu : Below w.heap.size w (wr.alloc (.cells #[.int .u64 0, .int .u64 (a : Int)] 40)) := hbel.alloc hbel.size _
        generalize wr.alloc (.cells #[.int .u64 0, .int .u64 (a : Int)] 40) = u at *
        have HX4 := (show Hid (Box u w.heap.size 0) from x4)
        have HBU := (show Hid (Below w.heap.size w u) from hbu)
        obtain ⟨m0, m1, m2, m3, m4⟩ := x5
        clear bu x4 hbu hbel HB4 HB5
        go_region_with (first
          | (go_at_call 47; refine (left_lit a i ha (by omega) _).mono ?_; rintro e w3 ⟨rfl, hb3⟩; have bx : Below u.heap.size u w3 := (Below.refl u.heap.size u).drew.trans (hb3.mono (by simp)); obtain ⟨y0, y1, y2, y3, y4⟩ := Box.keep (⟨m0, m1, m2, m3, m4⟩ : Box u (w.heap.size + 1) V) bx m4)
          | (go_at_call 49; refine (plus_n V (a * 2 ^ i) HS.out _).mono ?_; rintro e w4 ⟨rfl, hb4⟩; obtain ⟨t0, t1, t2, t3, t4⟩ := Box.keep (⟨y0, y1, y2, y3, y4⟩ : Box w3 (w.heap.size + 1) V) hb4 y4))
        all_goals
          have h9 : Below u.heap.size u w4 := bx.trans (hb4.mono bx.size)
          have h4 := HX4.out.keep h9 HX4.out.lt
          have b9 : Below w.heap.size w w4 := HBU.out.trans (h9.mono HBU.out.size)
          have H5 : Hid (Box w4 (w.heap.size + 1) V) := ⟨t0, t1, t2, t3, t4⟩
          have H4 := (show Hid (Box w4 w.heap.size 0) from h4)
          have HB9 := (show Hid (Below w.heap.size w w4) from b9)
          go_wp2
          go_roundw
          case rel => exact ⟨i + 1, by go_num, by omega, box_other H4.out (by omega) _ _, by rw [HV.out]; exact box_set H5.out, (HB9.out.setCell (by simp) _).setCell (by simp) _⟩
          case measure => simp [intOf]; omega
    · have hi64 : i = 64 := by omega
      obtain ⟨V, hVV⟩ : ∃ V, V = a * b := ⟨_, rfl⟩
      have hV : a * (b % 2 ^ i) = V := by rw [hVV, hi64, show (2 : Nat) ^ 64 = 18446744073709551616 by decide, Nat.mod_eq_of_lt hb]
      rw [hV] at hB5
      obtain ⟨z0, z1, z2, z3, z4⟩ := hB5
      obtain ⟨y0, y1, y2, y3, y4⟩ := hB4
      have b0 : decide ((i : Int) < 64) = false := by simp; omega
      have HVV := (show Hid (V = a * b) from hVV)
      have HBL := (show Hid (Below w.heap.size w wr) from hbel)
      clear hV hi64 hVV hbel
      go_wp2
      have c9 := cells2 (c := .int .u64 (hiN V : Int)) (d := .int .u64 (loN V : Int)) y0 y1
      exact bodyPost_ret (v := wn V) (by simp [results, Tryz.results51, go_sem, c9.1, c9.2]) rfl ⟨by rw [HVV.out], (HBL.out.setCell (Nat.le_refl _) _).setCell (Nat.le_refl _) _⟩
end Go.Proofs.YtdklpgkheakapaaGreatDoor
