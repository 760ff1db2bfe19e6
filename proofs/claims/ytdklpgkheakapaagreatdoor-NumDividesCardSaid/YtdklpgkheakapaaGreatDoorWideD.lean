import Derived.Test.YtdklpgkheakapaaGreatDoorWideC
namespace Go.Proofs.YtdklpgkheakapaaGreatDoor
open Go.RowKit

/-- how many bits -/
def bl (W : Nat) : Nat := if W = 0 then 0 else W.log2 + 1
def hiN (V : Nat) : Nat := V / 18446744073709551616
def loN (V : Nat) : Nat := V % 18446744073709551616
theorem right_h (V : Nat) (hV : V < 18446744073709551616 * 18446744073709551616) (w : World) :
    Calls Tryz.prog 65 #[wv (hiN V) (loN V), .int .i64 1] w fun e w' => e = .returned (wv (hiN (V / 2)) (loN (V / 2))) ∧ Below w.heap.size w w' := by
  have := right_W V 1 (by decide) (by decide) hV w
  unfold wW at this
  rw [Nat.pow_one] at this
  exact this
theorem p128 : (2 : Nat) ^ 128 = 18446744073709551616 * 18446744073709551616 := by decide
theorem bl_of (W k : Nat) (h1 : W / 2 ^ k = 0) (h2 : k = 0 ∨ W / 2 ^ (k - 1) ≠ 0) : bl W = k := by
  have hp := Nat.two_pow_pos k
  have hlt : W < 2 ^ k := by
    rcases Nat.lt_or_ge W (2 ^ k) with h | h
    · exact h
    · have := Nat.div_pos h hp; omega
  unfold bl
  rcases h2 with h2 | h2
  · subst h2; rw [if_pos (by simpa using hlt)]
  · have hne : W ≠ 0 := by intro e; subst e; simp at h2
    rw [if_neg hne]
    have hge : 2 ^ (k - 1) ≤ W := by
      rcases Nat.lt_or_ge W (2 ^ (k - 1)) with h | h
      · exact absurd (Nat.div_eq_of_lt h) h2
      · exact h
    have hk : k ≠ 0 := by intro e; subst e; simp at hlt hge; omega
    have := Gn.log2_of (m := W) (k := k - 1) hge (by rw [show k - 1 + 1 = k from by omega]; exact hlt)
    omega
theorem hl_zero {V : Nat} (h : V = 0) : (hiN V : Int) = 0 ∧ (loN V : Int) = 0 := by subst h; exact ⟨rfl, rfl⟩
theorem hl_pos {V : Nat} (h : V ≠ 0) : 0 < hiN V ∨ (hiN V = 0 ∧ 0 < loN V) := by unfold hiN loN; omega
theorem cells2 {w1 : World} {B : Nat} {a b c d : Value} (h0 : w1.cell? ⟨B, 0, none⟩ = some a) (h1 : w1.cell? ⟨B, 1, none⟩ = some b) :
    ((w1.setCell ⟨B, 0, none⟩ c).setCell ⟨B, 1, none⟩ d).cell? ⟨B, 0, none⟩ = some c ∧ ((w1.setCell ⟨B, 0, none⟩ c).setCell ⟨B, 1, none⟩ d).cell? ⟨B, 1, none⟩ = some d := by
  constructor
  · simp [h0, go_sem]
  · simp [h1, go_sem]
set_option maxHeartbeats 1000000 in
theorem length_W (W : Nat) (hW : W < 18446744073709551616 * 18446744073709551616) (w : World) :
    Calls Tryz.prog 64 #[wW W] w fun e w' => e = .returned (.int .i64 (bl W : Int)) ∧ Below w.heap.size w w' := by
  have eW : wW W = wv (hiN W) (loN W) := rfl
  rw [eW]
  have HW : Hid (W < 18446744073709551616 * 18446744073709551616) := hW
  clear eW hW
  go_enter Tryz.func64, Tryz.ntmps64
  go_wp2
  go_loopw [3] (fun c wr => ∃ k : Nat, c = .int .i64 (k : Int) ∧ k ≤ 128 ∧ (k = 0 ∨ W / 2 ^ (k - 1) ≠ 0) ∧ Below w.heap.size w wr ∧ w.heap.size < wr.heap.size ∧ wr.cell? ⟨w.heap.size, 0, none⟩ = some (.int .u64 (hiN (W / 2 ^ k) : Int)) ∧ wr.cell? ⟨w.heap.size, 1, none⟩ = some (.int .u64 (loN (W / 2 ^ k) : Int)) ∧ wr.frozen? ⟨w.heap.size, 0, none⟩ = false ∧ wr.frozen? ⟨w.heap.size, 1, none⟩ = false) (fun c _ => 200 - (intOf c).toNat)
  case atStart =>
    exact ⟨0, rfl, by omega, .inl rfl, (Below.refl _ _).alloc (Nat.le_refl _) _, by simp, by simp, by simp, by simp, by simp⟩
  case round =>
    obtain ⟨k, rfl, hk, hk2, hb, hs, c0, c1, f0, f1⟩ := hrel
    by_cases hz : W / 2 ^ k = 0
    · obtain ⟨z0, z1⟩ := hl_zero hz
      have hl := bl_of W k hz hk2
      rw [z0] at c0
      rw [z1] at c1
      clear hz hk2 z0 z1
      go_wp2
      go_ret
      exact ⟨by rw [hl]; rfl, hb⟩
    · have hVlt : W / 2 ^ k < 18446744073709551616 * 18446744073709551616 := Nat.lt_of_le_of_lt (Nat.div_le_self _ _) HW.out
      have HV : Hid (W / 2 ^ k < 18446744073709551616 * 18446744073709551616) := hVlt
      have HZ : Hid (∀ j, j = k + 1 → W / 2 ^ (j - 1) ≠ 0) := fun j hj => by subst hj; rw [Nat.add_sub_cancel]; exact hz
      have hk3 : k < 128 := by
        rcases Nat.lt_or_ge k 128 with h | h
        · exact h
        · exfalso; apply hz
          have : k = 128 := by omega
          subst this
          have h128 := HW.out
          rw [← p128] at h128
          exact Nat.div_eq_of_lt h128
      have hpos := hl_pos hz
      have HD : Hid (W / 2 ^ k / 2 = W / 2 ^ (k + 1)) := by
        show _ = _
        rw [Nat.div_div_eq_div_mul, ← Nat.pow_succ]
      clear hVlt hk2 hz
      generalize W / 2 ^ k = V at *
      have hr : (0 < hiN V ∧ ∀ wx, Calls Tryz.prog 65 #[wv (hiN V) (loN V), .int .i64 1] wx fun e w' => e = .returned (wv (hiN (V / 2)) (loN (V / 2))) ∧ Below wx.heap.size wx w') ∨ (hiN V = 0 ∧ 0 < loN V ∧ ∀ wx, Calls Tryz.prog 65 #[wv 0 (loN V), .int .i64 1] wx fun e w' => e = .returned (wv (hiN (V / 2)) (loN (V / 2))) ∧ Below wx.heap.size wx w') := by
        rcases hpos with hp | ⟨hp0, hp⟩
        · exact .inl ⟨hp, fun wx => right_h V HV.out wx⟩
        · refine .inr ⟨hp0, hp, fun wx => ?_⟩
          have := right_h V HV.out wx
          rw [hp0] at this; exact this
      clear hpos
      rcases hr with ⟨hp, hr⟩ | ⟨hp0, hp, hr⟩
      all_goals
        have HR : Hid _ := hr
        clear hr
        go_wp2_with fail
        refine (HR.out _).mono ?_
        rintro e w1 ⟨rfl, hb1⟩
        have hc0 := hb1.cell (p := ⟨w.heap.size, 0, none⟩) hs
        have hc1 := hb1.cell (p := ⟨w.heap.size, 1, none⟩) hs
        have hf0 := hb1.frozen (p := ⟨w.heap.size, 0, none⟩) hs
        have hf1 := hb1.frozen (p := ⟨w.heap.size, 1, none⟩) hs
        have hs1 : w.heap.size < w1.heap.size := by have := hb1.size; omega
        rw [c0] at hc0
        rw [c1] at hc1
        rw [f0] at hf0
        rw [f1] at hf1
        clear c0 c1 f0 f1
        go_wp2
        go_roundw
        case rel =>
          obtain ⟨q0, q1⟩ := cells2 (c := .int .u64 (hiN (V / 2) : Int)) (d := .int .u64 (loN (V / 2) : Int)) hc0 hc1
          rw [HD.out] at q0 q1 ⊢
          exact ⟨k + 1, by go_num, by omega, .inr (HZ.out (k + 1) rfl), ((hb.trans (hb1.mono (by omega))).setCell (Nat.le_refl _) _).setCell (Nat.le_refl _) _, by simp; exact hs1, q0, q1, by simp [hf0], by simp [hf1]⟩
        case measure => simp [intOf]; omega
end Go.Proofs.YtdklpgkheakapaaGreatDoor
