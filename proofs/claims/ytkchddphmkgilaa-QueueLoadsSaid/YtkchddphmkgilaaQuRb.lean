import Derived.Test.YtkchddphmkgilaaQuRa
namespace Go.Proofs.Ytkchddphmkgilaa
open Go.RowKit

theorem rok_doc {m : Int} (hm : 1 ≤ m) {L : List Rr} (hl : L.length ≤ 8) : ROk m L ↔ ∀ j (hj : j < L.length), (L[j]).job = (j : Int) + 1 ∧ rMay m L[j] ∧ ∀ k (hk : k < j), ¬ (0 < (L[k]).bdg ∧ (L[k]).bdg = (L[j]).bdg) := by
  constructor
  · intro h j hj
    refine ⟨h.job j hj, (rMay_iff hm).2 ⟨?_, h.st j hj, h.bd j hj⟩, fun k hk hx => ?_⟩
    · rw [h.job j hj]; exact h.form j hj
    · have := h.uni k j (by omega) hj hx.1 hx.2; omega
  · intro h
    refine ⟨hl, fun i hi => ?_, fun i hi => ((rMay_iff hm).1 (h i hi).2.1).2.1, fun i hi => ((rMay_iff hm).1 (h i hi).2.1).2.2, fun i j hi hj hp he => ?_⟩
    · have := ((rMay_iff hm).1 (h i hi).2.1).1
      rw [(h i hi).1] at this; exact this
    · rcases Nat.lt_trichotomy i j with hlt | heq | hgt
      · exact absurd ⟨hp, he⟩ ((h j hj).2.2 i hlt)
      · exact heq
      · exact absurd ⟨by omega, he.symm⟩ ((h i hi).2.2 j hgt)
set_option maxHeartbeats 4000000 in
set_option maxRecDepth 8000 in
theorem rrows_any {w : World} {ad : Option Addr} {ab ao cap : Nat} {L : List Rr} {m : Int} (h : Rs w ad ab ao L) (hm : 1 ≤ m) :
    Calls Try.prog 12 #[.int .i64 m, .slice ad L.length cap] w fun e w' => (ROk m L ∧ e = .returned (.bool true) ∨ ¬ ROk m L ∧ e = .returned (.bool false)) ∧ Below w.heap.size w w' := by
  by_cases hl : 8 < L.length
  · have hi : (8 : Int) < (L.length : Int) := by omega
    have HX : Hid (¬ ROk m L) := hide fun x => by have := x.len; omega
    clear h
    go_enter Try.func12, Try.ntmps12
    go_wp2
    go_ret
    exact ⟨.inr ⟨HX.out, rfl⟩, Below.refl _ _⟩
  have hi8 : ¬ (8 : Int) < (L.length : Int) := by omega
  have HR := hide h
  have HD := hide (rok_doc hm (show L.length ≤ 8 by omega))
  clear h
  go_enter Try.func12, Try.ntmps12
  go_wp2_with fail
  go_loopw [5] (fun s wr => ∃ (i : Nat), i ≤ L.length ∧ s = .int .i64 (i : Int) ∧ Hid (∀ j (hj : j < L.length), j < i → (L[j]).job = (j : Int) + 1 ∧ rMay m L[j] ∧ ∀ k (hk : k < j), ¬ (0 < (L[k]).bdg ∧ (L[k]).bdg = (L[j]).bdg)) ∧ Hid (Below w.heap.size w wr)) (fun s _ => L.length - (intOf s).toNat)
  case atStart => exact ⟨0, Nat.zero_le _, rfl, hide (fun j _ hj => absurd hj (by omega)), hide (Below.refl _ _)⟩
  case round =>
    obtain ⟨i, hi, rfl, HP, HB⟩ := hrel
    by_cases hii : i < L.length
    · have hik : (i : Int) < (L.length : Int) := by omega
      have hat := HR.out.at_ (by omega)
      subst hat
      have hR := HR.out.below HB.out
      obtain ⟨c0, c1, c2, c3, c4, c5, c6, c7⟩ := hR.eight hii
      have hlt := hR.lt (by omega)
      clear hR
      by_cases hj : (L[i]).job = (i : Int) + 1
      · have bj : ((L[i]).job != (i : Int) + 1) = false := by simpa using hj
        have HJ := hide hj
        clear hj
        have HMy := hide (fun V => rmay_any V m L[i])
        by_cases hr : rMay m L[i]
        · rw [decide_eq_true hr] at HMy
          have HRm := hide hr
          clear hr
          generalize hri : L[i] = r at *
          have HRi := hide hri
          clear hri
          go_wp2_with fail
          refine (HMy.out _).mono ?_
          rintro e w2 ⟨rfl, hB2⟩
          have HB2 := hide (HB.out.trans (hB2.mono HB.out.size))
          clear hB2 HB c0 c1 c2 c3 c4 c5 c6 c7 HMy
          go_wp2_with fail
          go_loopw [6] (fun s wq => ∃ (k : Nat), k ≤ i ∧ s = .int .i64 (k : Int) ∧ Hid (∀ t (ht : t < L.length), t < k → ¬ (0 < (L[t]).bdg ∧ (L[t]).bdg = r.bdg)) ∧ Hid (Below w.heap.size w wq)) (fun s _ => i - (intOf s).toNat)
          case atStart => exact ⟨0, Nat.zero_le _, rfl, hide (fun t _ ht => absurd ht (by omega)), HB2⟩
          case round =>
            clear HB2
            obtain ⟨k, hk, rfl, HU, HB⟩ := hrel
            by_cases hkk : k < i
            · have hkI : (k : Int) < (i : Int) := by omega
              have hkL : (k : Int) < (L.length : Int) := by omega
              have hR := HR.out.below HB.out
              obtain ⟨c0, c1, c2, c3, c4, c5, c6, c7⟩ := hR.eight hii
              obtain ⟨d0, d1, d2, d3, d4, d5, d6, d7⟩ := hR.eight (show k < L.length by omega)
              rw [HRi.out] at c3
              have hlq := hR.lt (by omega)
              clear hR c0 c1 c2 c4 c5 c6 c7 d0 d1 d2 d4 d5 d6 d7
              have HKb : Hid (∀ b : Int, (L[k]).bdg = b → ¬ (0 < b ∧ b = r.bdg) → ∀ t (ht : t < L.length), t < k + 1 → ¬ (0 < (L[t]).bdg ∧ (L[t]).bdg = r.bdg)) := hide fun b hb hn t ht htk => by
                by_cases e : t = k
                · subst e; rw [hb]; exact hn
                · exact HU.out t ht (by omega)
              have HKy : Hid (∀ b : Int, (L[k]).bdg = b → (0 < b ∧ b = r.bdg) → ¬ ROk m L) := hide fun b hb hy hx => by
                have h1 := (HD.out.1 hx i hii).2.2 k hkk
                rw [HRi.out, hb] at h1
                exact h1 hy
              generalize hbk : (L[k]).bdg = bk at *
              have HKb2 := hide (HKb.out bk rfl)
              have HKy2 := hide (HKy.out bk rfl)
              clear hbk HKb HKy HU
              by_cases h0 : 0 < bk
              · by_cases h1 : bk = r.bdg
                · have b1 : (bk == r.bdg) = true := by simpa using h1
                  have HN := hide (HKy2.out ⟨h0, h1⟩)
                  clear h1 HKb2 HKy2
                  go_wp2_with fail
                  go_quiet (fail)
                  go_wp2
                  go_ret
                  exact ⟨.inr ⟨HN.out, rfl⟩, below_drewN HB.out _⟩
                · have b1 : (bk == r.bdg) = false := by simpa using h1
                  have HN := hide (HKb2.out fun x => h1 x.2)
                  clear h1 HKb2 HKy2
                  go_wp2_with fail
                  go_quiet (fail)
                  go_wp2_with fail
                  go_roundw
                  case rel => exact ⟨k + 1, by omega, by go_num, HN, hide (below_drewN HB.out _)⟩
                  case measure => simp only [intOf]; omega
              · have HN := hide (HKb2.out fun x => h0 x.1)
                have b0 : decide (0 < bk) = false := decide_eq_false h0
                clear HKb2 HKy2 h0
                go_wp2_with fail
                go_quiet (fail)
                go_wp2_with fail
                go_roundw
                case rel => exact ⟨k + 1, by omega, by go_num, HN, hide (below_drewN HB.out _)⟩
                case measure => simp only [intOf]; omega
            · have hkI : ¬ (k : Int) < (i : Int) := by omega
              obtain rfl : k = i := by omega
              have HP2 : Hid (∀ j (hj : j < L.length), j < k + 1 → (L[j]).job = (j : Int) + 1 ∧ rMay m L[j] ∧ ∀ t (ht : t < j), ¬ (0 < (L[t]).bdg ∧ (L[t]).bdg = (L[j]).bdg)) := hide fun j hj hjk => by
                by_cases e : j = k
                · subst e
                  rw [HRi.out]
                  exact ⟨HJ.out, HRm.out, fun t ht => HU.out t (by omega) ht⟩
                · exact HP.out j hj (by omega)
              clear HU HP
              go_wp2_with fail
              go_roundw
              case rel => exact ⟨k + 1, by omega, by go_num, HP2, HB⟩
              case measure => simp only [intOf]; omega
        · rw [decide_eq_false hr] at HMy
          have HN : Hid (¬ ROk m L) := hide fun hx => hr (HD.out.1 hx i hii).2.1
          clear hr
          generalize L[i] = r at *
          go_wp2_with fail
          refine (HMy.out _).mono ?_
          rintro e w2 ⟨rfl, hB2⟩
          have HB2 := hide (HB.out.trans (hB2.mono HB.out.size))
          clear hB2
          go_wp2
          go_ret
          exact ⟨.inr ⟨HN.out, rfl⟩, HB2.out⟩
      · have bj : ((L[i]).job != (i : Int) + 1) = true := by simpa using hj
        have HN : Hid (¬ ROk m L) := hide fun hx => hj (HD.out.1 hx i hii).1
        clear hj
        generalize L[i] = r at *
        go_wp2
        go_ret
        exact ⟨.inr ⟨HN.out, rfl⟩, HB.out⟩
    · have hik : ¬ (i : Int) < (L.length : Int) := by omega
      have HY : Hid (ROk m L) := hide (HD.out.2 fun j hj => HP.out j hj (by omega))
      go_wp2_with fail
      go_ret
      exact ⟨.inl ⟨HY.out, rfl⟩, HB.out⟩
end Go.Proofs.Ytkchddphmkgilaa
