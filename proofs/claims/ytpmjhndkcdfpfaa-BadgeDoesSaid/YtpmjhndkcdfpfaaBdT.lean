import Derived.Test.YtpmjhndkcdfpfaaBdC
namespace Go.Proofs.Ytpmjhndkcdfpfaa
open Go.RowKit

/-- one counter that the law made -/
structure Ct (w0 : World) (b : Nat) (c : Bc) (w : World) : Prop where
  ok : c.ok
  cm : Cm 47 w b c
  low : w0.heap.size ≤ b
  bel : Below w0.heap.size w0 w
theorem Ct.next {w0 w w' : World} {b : Nat} {c : Bc} (h : Ct w0 b c w) (hc : Cm 47 w' b c.next.c) (ho : On b w w') : Ct w0 b c.next.c w' :=
  ⟨Bc.next_ok h.ok, hc, h.low, h.bel.trans (ho.below h.low h.bel.size)⟩
theorem Ct.new {w : World} {x y : Int} (h : bnewE x y = 0) : Ct w w.heap.size (bnew x y) (w.alloc (.cells #[.int .i64 x, .int .i64 y, .int .i64 y] 47 (0, 0))) :=
  ⟨bnew_ok h, Cm.new _ _ _ _, Nat.le_refl _, (Below.refl _ w).alloc (Nat.le_refl _) _⟩
/-- a counter and its clone -/
structure Ct2 (w0 : World) (b d : Nat) (c : Bc) (w : World) : Prop where
  ok : c.ok
  cm : Cm 47 w b c
  dm : Cm 47 w d c
  ne : b ≠ d
  low : w0.heap.size ≤ b
  lod : w0.heap.size ≤ d
  bel : Below w0.heap.size w0 w
theorem bnewE_or (x y : Int) : bnewE x y = 0 ∨ bnewE x y = 100 ∨ bnewE x y = 1 := by
  unfold bnewE; split
  · exact .inr (.inl rfl)
  · split
    · exact .inr (.inr rfl)
    · exact .inl rfl

set_option maxHeartbeats 4000000 in
set_option maxRecDepth 8000 in
theorem badgeTwins_walk {w : World} {x y z : Int} (hx : -9223372036854775808 ≤ x ∧ x ≤ 9223372036854775807) (hy : -9223372036854775808 ≤ y ∧ y ≤ 9223372036854775807) (hz : -9223372036854775808 ≤ z ∧ z ≤ 9223372036854775807) :
    Calls Try.prog 6 #[.int .i64 x, .int .i64 y, .int .i64 z] w fun e w' => e = .returned (.bool true) ∧ Below w.heap.size w w' := by
  have HN := hide (bnew_any w hx hy)
  have HZ := hide hz
  clear hx hy hz
  go_enter Try.func6, Try.ntmps6
  go_wp2_with fail
  refine HN.out.mono ?_
  rintro e w1 (⟨h, rfl, hw1⟩ | ⟨h, rfl, hw1⟩)
  · subst hw1
    clear HN
    rcases bnewE_or x y with e | e | e
    · exact absurd e h
    all_goals
      rw [e]
      clear e h
      go_wp2_with fail
      refine (fixed_any _).mono ?_
      rintro e w1 ⟨rfl, hB1⟩
      go_wp2_with fail
      go_ret
      exact ⟨rfl, hB1⟩
  have HC : Hid (Ct w w.heap.size (bnew x y) w1) := by rw [hw1]; exact Ct.new h
  generalize bnew x y = c0 at *
  clear hw1 HN h
  obtain ⟨b, hb⟩ : ∃ b, w.heap.size = b := ⟨_, rfl⟩
  have HBB := hide hb
  have HC : Hid (Ct w b c0 w1) := by rw [← hb]; exact HC
  rw [show (Value.pointer (some ⟨w.heap.size, 0, none⟩)) = Value.pointer (some ⟨b, 0, none⟩) by rw [hb]]
  clear hb
  have hp : pl z 20 < 20 := pl_lt (by decide)
  have HP : Hid (∀ w, Calls Try.prog 10 #[.int .i64 z, .int .i64 20] w fun e w' => e = .returned (.int .i64 (pl z 20 : Int)) ∧ w' = w) := hide fun w => place_any (m := 20) (by decide) (by decide) HZ.out
  generalize pl z 20 = p at *
  clear HZ
  go_wp2_with fail
  go_loopw [9] (fun s wr => ∃ (i : Nat) (c : Bc), i ≤ p ∧ s = .int .i64 (i : Int) ∧ Hid (Ct w b c wr)) (fun s _ => p - (intOf s).toNat)
  case atStart => exact ⟨0, c0, Nat.zero_le _, rfl, HC⟩
  case round =>
    obtain ⟨i, c, hi, rfl, HK⟩ := hrel
    clear HC
    go_wp2_with fail
    refine (HP.out _).mono ?_
    rintro e w2 ⟨rfl, rfl⟩
    by_cases hip : i < p
    · have hii : (i : Int) < (p : Int) := by omega
      go_wp2_with fail
      refine (next_any HK.out.ok HK.out.cm).mono ?_
      rintro e w3 ⟨rfl, hC3, hO3⟩
      have HK3 := hide (HK.out.next hC3 hO3)
      clear hC3 hO3 HK
      go_wp2_with fail
      go_roundw
      case rel => exact ⟨i + 1, _, by omega, by go_num, HK3⟩
      case measure => simp only [intOf]; omega
    · have hii : ¬ (i : Int) < (p : Int) := by omega
      go_wp2_with fail
      refine (clone_any HK.out.cm).mono ?_
      rintro e w3 ⟨rfl, hC3, hB3⟩
      have hlt := HK.out.cm.lt
      have HK3 : Hid (Ct2 w b w2.heap.size c w3) := hide ⟨HK.out.ok, HK.out.cm.below hB3, hC3, by omega, HK.out.low, HK.out.bel.size, HK.out.bel.trans (hB3.mono HK.out.bel.size)⟩
      obtain ⟨d, hd⟩ : ∃ d, w2.heap.size = d := ⟨_, rfl⟩
      rw [hd] at HK3
      rw [show (Value.pointer (some ⟨w2.heap.size, 0, none⟩)) = Value.pointer (some ⟨d, 0, none⟩) by rw [hd]]
      clear hC3 hB3 HK hlt hd HP hip hii hi hp
      go_wp2_with fail
      go_loopw [11] (fun s wr => ∃ (i : Nat) (c : Bc), i ≤ 20 ∧ s = .int .i64 (i : Int) ∧ Hid (Ct2 w b d c wr)) (fun s _ => 20 - (intOf s).toNat)
      case atStart => exact ⟨0, c, Nat.zero_le _, rfl, HK3⟩
      case round =>
        obtain ⟨i, c, hi, rfl, HK⟩ := hrel
        clear HK3
        by_cases hip : i < 20
        · have hii : (i : Int) < 20 := by omega
          go_wp2_with fail
          refine (last_any HK.out.dm).mono ?_
          rintro e w4 ⟨rfl, rfl⟩
          go_wp2_with fail
          refine (reserved_any HK.out.dm).mono ?_
          rintro e w5 ⟨rfl, rfl⟩
          go_wp2_with fail
          refine (next_any HK.out.ok HK.out.cm).mono ?_
          rintro e w6 ⟨rfl, hC6, hO6⟩
          have HD6 := hide (HK.out.dm.on hO6 (Ne.symm HK.out.ne))
          have HC6 := hide hC6
          have HB6 := hide (HK.out.bel.trans (hO6.below HK.out.low HK.out.bel.size))
          clear hC6 hO6
          go_wp2_with fail
          refine (last_any HD6.out).mono ?_
          rintro e w7 ⟨rfl, rfl⟩
          go_wp2_with fail
          refine (reserved_any HD6.out).mono ?_
          rintro e w8 ⟨rfl, rfl⟩
          go_wp2_with fail
          refine (next_any HK.out.ok HD6.out).mono ?_
          rintro e w9 ⟨rfl, hC9, hO9⟩
          have HK9 : Hid (Ct2 w b d c.next.c w9) := hide ⟨Bc.next_ok HK.out.ok, HC6.out.on hO9 HK.out.ne, hC9, HK.out.ne, HK.out.low, HK.out.lod, HB6.out.trans (hO9.below HK.out.lod HB6.out.size)⟩
          clear hC9 hO9 HK HD6 HC6 HB6
          go_wp2_with fail
          go_roundw
          case rel => exact ⟨i + 1, _, by omega, by go_num, HK9⟩
          case measure => simp only [intOf]; omega
        · have hii : ¬ (i : Int) < 20 := by omega
          have HB := hide HK.out.bel
          clear HK
          go_wp2_with fail
          refine (fixed_any _).mono ?_
          rintro e w4 ⟨rfl, hB4⟩
          go_wp2_with fail
          go_ret
          exact ⟨rfl, HB.out.trans (hB4.mono HB.out.size)⟩
end Go.Proofs.Ytpmjhndkcdfpfaa
