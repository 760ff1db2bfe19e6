import Derived.Test.YtpmjhndkcdfpfaaBdO
import Derived.Test.YtpmjhndkcdfpfaaBdT
namespace Go.Proofs.Ytpmjhndkcdfpfaa
open Go.RowKit

set_option maxHeartbeats 4000000 in
set_option maxRecDepth 8000 in
theorem badgeRises_walk {w : World} {x : Int} (hx : -9223372036854775808 ≤ x ∧ x ≤ 9223372036854775807) {ad : Option Addr} {ab ao cap : Nat} {Q : List OpV} (hQ : Ro w ad ab ao Q) (hQl : Q.length ≤ 8796093021952) :
    Calls Try.prog 4 #[.int .i64 x, .slice ad Q.length cap] w fun e w' => e = .returned (.bool true) ∧ Below w.heap.size w w' := by
  by_cases h0 : x < 0
  · have HN := hide (bnew_any w (x := 1) (by decide) hx)
    have HE : Hid (bnewE 1 x = 1) := bnewE_r (by decide) (.inl h0)
    clear hQ
    go_enter Try.func4, Try.ntmps4
    go_wp2_with fail
    refine HN.out.mono ?_
    rintro e w1 (⟨h, rfl, hw1⟩ | ⟨h, rfl, hw1⟩)
    · subst hw1
      rw [HE.out]
      clear HN h
      go_wp2_with fail
      refine (fixed_any _).mono ?_
      rintro e w2 ⟨rfl, hB2⟩
      go_wp2_with fail
      go_ret
      exact ⟨rfl, hB2⟩
    · rw [HE.out] at h; cases h
  by_cases h1 : 1099511627776 < x
  · have HN := hide (bnew_any w (x := 1) (by decide) hx)
    have HE : Hid (bnewE 1 x = 1) := bnewE_r (by decide) (.inr h1)
    clear hQ
    go_enter Try.func4, Try.ntmps4
    go_wp2_with fail
    refine HN.out.mono ?_
    rintro e w1 (⟨h, rfl, hw1⟩ | ⟨h, rfl, hw1⟩)
    · subst hw1
      rw [HE.out]
      clear HN h
      go_wp2_with fail
      refine (fixed_any _).mono ?_
      rintro e w2 ⟨rfl, hB2⟩
      go_wp2_with fail
      go_ret
      exact ⟨rfl, hB2⟩
    · rw [HE.out] at h; cases h
  have HQ := hide hQ
  clear hQ
  go_enter Try.func4, Try.ntmps4
  go_wp2_with fail
  go_loopw [7, 8, 9] (fun s t u wr => ∃ (i : Nat) (r : Int), i ≤ Q.length ∧ s = .int .i64 r ∧ t = .int .i64 r ∧ u = .int .i64 (i : Int) ∧ 0 ≤ r ∧ r ≤ 1099511627776 ∧ Hid (Below w.heap.size w wr)) (fun _ _ u _ => Q.length - (intOf u).toNat)
  case atStart => exact ⟨0, x, Nat.zero_le _, rfl, rfl, rfl, by omega, by omega, hide (Below.refl _ w)⟩
  case round =>
    obtain ⟨i, r, hi, rfl, rfl, rfl, hr0, hr1, HB⟩ := hrel
    by_cases hiq : i < Q.length
    · have hii : (i : Int) < (Q.length : Int) := by omega
      have hat := HQ.out.at_ (by omega)
      subst hat
      have HW : Hid (∀ V, Below w.heap.size w V → Ro V (some ⟨ab, ao, none⟩) ab ao Q) := hide fun V hV => HQ.out.below hV
      have hR := HW.out _ HB.out
      have q0 := hR.on i hiq
      have q1 := hR.k i hiq
      have b0 := HQ.out.bo i hiq
      have b1 := HQ.out.bk i hiq
      have hlt := hR.lt (by omega)
      have hlw := HQ.out.lt (by omega)
      have HI : Hid (∀ V, Below w.heap.size w V → V.cell? ⟨ab, ao + i * 2, none⟩ = some (.int .i64 Q[i].on)) := hide fun V hV => (HW.out V hV).on i hiq
      clear hR
      generalize Q[i].on = qo at *
      generalize Q[i].k = qk at *
      go_wp2_with fail
      refine (place_any (m := 16) (by decide) (by decide) b1).mono ?_
      rintro e w2 ⟨rfl, rfl⟩
      have hp : pl qk 16 < 16 := pl_lt (by decide)
      generalize pl qk 16 = p at *
      go_wp2_with fail
      refine (bnew_any _ (x := 1 + (p : Int)) (by omega) (by omega)).mono ?_
      have HE : Hid (bnewE (1 + (p : Int)) r = 0) := bnewE_0 (by omega) (by omega)
      rintro e w3 (⟨h, rfl, hw1⟩ | ⟨h, rfl, hw1⟩)
      · exact absurd HE.out h
      have HC : Hid (Ct w2 w2.heap.size (bnew (1 + (p : Int)) r) w3) := by rw [hw1]; exact Ct.new h
      obtain ⟨b, hb⟩ : ∃ b, w2.heap.size = b := ⟨_, rfl⟩
      rw [hb] at HC ⊢
      have HL : Hid (w.heap.size ≤ b) := by rw [← hb]; exact HB.out.size
      have HC2 : Hid (Ct w b (bnew (1 + (p : Int)) r) w3) := hide ⟨HC.out.ok, HC.out.cm, HL.out, HB.out.trans (HC.out.bel.mono HB.out.size)⟩
      clear hw1 h HC hb HE HB q0 q1 HL
      have l0 : (bnew (1 + (p : Int)) r).last = r := rfl
      have l1 : (bnew (1 + (p : Int)) r).res = r := rfl
      generalize bnew (1 + (p : Int)) r = c0 at *
      go_wp2_with fail
      refine (last_any HC2.out.cm).mono ?_
      rintro e w4 ⟨rfl, rfl⟩
      rw [l0]
      go_wp2_with fail
      refine (reserved_any HC2.out.cm).mono ?_
      rintro e w4 ⟨rfl, rfl⟩
      rw [l1]
      have q0 := HI.out _ HC2.out.bel
      have hl3 := Nat.lt_of_lt_of_le hlw HC2.out.bel.size
      go_wp2_with fail
      refine (place_any (m := 40) (by decide) (by decide) b0).mono ?_
      rintro e w4 ⟨rfl, rfl⟩
      have hp2 : pl qo 40 < 40 := pl_lt (by decide)
      generalize pl qo 40 = p2 at *
      clear q0 hl3 HI b0 b1
      have HL0 := hide l0
      have HL1 := hide l1
      clear l0 l1
      go_wp2_with fail
      go_loopw [7, 8, 12] (fun s t u wr => ∃ (k : Nat) (c : Bc), k ≤ p2 ∧ s = .int .i64 c.last ∧ t = .int .i64 c.res ∧ u = .int .i64 (k : Int) ∧ Hid (Ct w b c wr)) (fun _ _ u _ => (intOf u).toNat)
      case atStart => exact ⟨p2, c0, Nat.le_refl _, by rw [HL0.out], by rw [HL1.out], rfl, HC2⟩
      case round =>
        obtain ⟨k, c, hk, rfl, rfl, rfl, HK⟩ := hrel
        clear HC2 HL0 HL1
        by_cases hkk : 0 < k
        · have hki : 0 < (k : Int) := by omega
          go_wp2_with fail
          refine (next_any HK.out.ok HK.out.cm).mono ?_
          rintro e w5 ⟨rfl, hC5, hO5⟩
          have HK5 := hide (HK.out.next hC5 hO5)
          obtain ⟨o1, o2, o3, o4, o5⟩ := HK.out.ok
          clear hC5 hO5 HK
          by_cases hn0 : c.last = 1099511627776
          · rw [Bc.next_end hn0] at HK5 ⊢
            simp only at HK5 ⊢
            have HB5 := hide HK5.out.bel
            clear HK5
            go_wp2_with fail
            refine (fixed_any _).mono ?_
            rintro e w6 ⟨rfl, hB6⟩
            go_wp2_with fail
            go_ret
            exact ⟨rfl, HB5.out.trans (hB6.mono HB5.out.size)⟩
          · by_cases hn1 : c.last + 1 ≤ c.res
            · rw [Bc.next_in hn0 hn1] at HK5 ⊢
              simp only at HK5 ⊢
              have HLa := hide (last_any HK5.out.cm)
              have HRe := hide (reserved_any HK5.out.cm)
              simp only at HLa HRe
              go_wp2_with fail
              refine HLa.out.mono ?_
              rintro e w6 ⟨rfl, rfl⟩
              go_wp2_with fail
              refine HRe.out.mono ?_
              rintro e w6 ⟨rfl, rfl⟩
              clear HLa HRe
              go_wp2_with fail
              go_roundw
              case rel => exact ⟨k - 1, ⟨c.blk, c.last + 1, c.res⟩, by omega, rfl, rfl, by congr 1; omega, HK5⟩
              case measure => simp only [intOf]; omega
            · rw [Bc.next_up hn0 hn1] at HK5 ⊢
              have hu0 : c.res < up c.res c.blk := by unfold up; split <;> omega
              have hu1 : c.last + 1 ≤ up c.res c.blk := by omega
              have hu2 : up c.res c.blk ≠ 0 := by omega
              generalize up c.res c.blk = u at *
              simp only at HK5 ⊢
              have HLa := hide (last_any HK5.out.cm)
              have HRe := hide (reserved_any HK5.out.cm)
              simp only at HLa HRe
              go_wp2_with fail
              refine HLa.out.mono ?_
              rintro e w6 ⟨rfl, rfl⟩
              go_wp2_with fail
              refine HRe.out.mono ?_
              rintro e w6 ⟨rfl, rfl⟩
              clear HLa HRe
              go_wp2_with fail
              go_roundw
              case rel => exact ⟨k - 1, ⟨c.blk, c.last + 1, u⟩, by omega, rfl, rfl, by congr 1; omega, HK5⟩
              case measure => simp only [intOf]; omega
        · have hki : ¬ 0 < (k : Int) := by omega
          have HB := hide HK.out.bel
          have o5 := HK.out.ok.r1
          have o6 : 0 ≤ c.res := Int.le_trans HK.out.ok.l0 HK.out.ok.lr
          clear HK
          go_wp2_with fail
          go_roundw
          case rel => exact ⟨i + 1, c.res, by omega, rfl, rfl, by go_num, o6, o5, HB⟩
          case measure => simp only [intOf]; omega
    · have hii : ¬ (i : Int) < (Q.length : Int) := by omega
      go_wp2_with fail
      refine (fixed_any _).mono ?_
      rintro e w4 ⟨rfl, hB4⟩
      go_wp2_with fail
      go_ret
      exact ⟨rfl, HB.out.trans (hB4.mono HB.out.size)⟩
end Go.Proofs.Ytpmjhndkcdfpfaa
