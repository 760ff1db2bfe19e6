import Derived.Test.YtkchddphmkgilaaQuRg
import Derived.Test.YtkchddphmkgilaaQuSt
namespace Go.Proofs.Ytkchddphmkgilaa
open Go.RowKit

theorem gb_iff {L : List Rr} {g : Int} : g ≤ gb L ↔ (g < 1 ∨ ∃ i, ∃ hi : i < L.length, g ≤ (L[i]).bdg) := by
  have h1 := gb_ge L
  constructor
  · intro h
    rcases gb_at L with e | ⟨i, hi, e⟩
    · left; omega
    · right; exact ⟨i, hi, by omega⟩
  · rintro (h | ⟨i, hi, h⟩)
    · omega
    · have := h1.2 i hi; omega
section
variable {w w' : World} {x : Nat} {ad : Option Addr} {ab cap : Nat} {m : Int} {L : List Rr}
theorem XPost.same (h : Xm w' x ad ab cap m L) (ho : On x w w') : XPost x m w L ab L w' := ⟨_, _, _, h, .inl ⟨rfl, rfl⟩, ho⟩
set_option maxHeartbeats 4000000 in
set_option maxRecDepth 8000 in
theorem rgrant_any (h : Xm w x ad ab cap m L) (hk : Ok m L) (j g n l : Int) : Calls Try.prog 51 #[.pointer (some ⟨x, 0, none⟩), .int .i64 j, .int .i64 g, .agg #[.int .i64 n, .int .i64 l]] w fun e w' => e = .returned (.int .i64 (grE L j g n l)) ∧ XPost x m w (grL L j g n l) ab L w' := by
  have hl := hk.len
  have hlt := h.lt
  have m8 := hk.m8
  have HL0 : Hid (∀ e, grE L j g n l = e → e ≠ 0 → grL L j g n l = L) := hide fun e h1 h2 => by unfold grL; rw [h1, if_neg h2]
  have HX0 := hide (h.below (below_alloc w (.cells #[.int .i64 n, .int .i64 l] 25)))
  have HB0 := hide (below_alloc w (.cells #[.int .i64 n, .int .i64 l] 25))
  have HA0 : Hid (Ad (w.alloc (.cells #[.int .i64 n, .int .i64 l] 25)) w.heap.size n l) := hide (heap_alloc_new w _)
  have hsz := World.size_alloc w (.cells #[.int .i64 n, .int .i64 l] 25)
  have c1 := h.c1
  have HR := hide h.rs
  clear h
  by_cases hj1 : j < 1
  · have HE : Hid (grE L j g n l = 111) := if_pos (by omega)
    have HL := hide (HL0.out _ HE.out (by decide))
    go_enter Try.func51, Try.ntmps51
    go_wp2
    go_ret
    rw [HE.out, HL.out]
    exact ⟨rfl, XPost.same HX0.out (On.of_below HB0.out)⟩
  by_cases hj2 : (L.length : Int) < j
  · have HE : Hid (grE L j g n l = 111) := if_pos (by omega)
    have HL := hide (HL0.out _ HE.out (by decide))
    go_enter Try.func51, Try.ntmps51
    go_wp2
    go_ret
    rw [HE.out, HL.out]
    exact ⟨rfl, XPost.same HX0.out (On.of_below HB0.out)⟩
  obtain ⟨k, rfl⟩ : ∃ k : Nat, j = (k : Int) + 1 := ⟨(j - 1).toNat, by omega⟩
  have hkL : k < L.length := by omega
  have hkI : (k : Int) < (L.length : Int) := by omega
  have hat := HR.out.at_ (by omega)
  subst hat
  have hlr := HR.out.lt (by omega)
  obtain ⟨k0, k1, k2, k3, k4, k5, k6, k7⟩ := HR.out.eight0 hkL
  have hro := rowR_at hkL
  have HJ := hide (hk.job k hkL)
  have hatt := hk.att k hkL
  have hin : ¬ ¬ (1 ≤ (k : Int) + 1 ∧ (k : Int) + 1 ≤ (L.length : Int)) := by omega
  have Hg1 : Hid ((L[k]).st ≠ 1 → grE L ((k : Int) + 1) g n l = 112) := hide fun h1 => by unfold grE; rw [if_neg hin, hro, if_pos h1]
  have Hg2 : Hid ((L[k]).st = 1 → (g ≤ gb L ∨ 1099511627776 < g) → grE L ((k : Int) + 1) g n l = 113) := hide fun h1 h2 => by unfold grE; rw [if_neg hin, hro, if_neg (not_not_intro h1), if_pos h2]
  have Hg3 : Hid ((L[k]).st = 1 → ¬ (g ≤ gb L ∨ 1099511627776 < g) → ¬ hMay n l → grE L ((k : Int) + 1) g n l = 1) := hide fun h1 h2 h3 => by unfold grE; rw [if_neg hin, hro, if_neg (not_not_intro h1), if_neg h2, if_pos h3]
  have Hg4 : Hid ((L[k]).st = 1 → ¬ (g ≤ gb L ∨ 1099511627776 < g) → hMay n l → grE L ((k : Int) + 1) g n l = 0 ∧ grL L ((k : Int) + 1) g n l = L.set k ⟨(k : Int) + 1, 2, (L[k]).att + 1, g, n, l, 0, 0⟩) := hide fun h1 h2 h3 => by
    have e0 : grE L ((k : Int) + 1) g n l = 0 := by unfold grE; rw [if_neg hin, hro, if_neg (not_not_intro h1), if_neg h2, if_neg (not_not_intro h3)]
    refine ⟨e0, ?_⟩
    have h5 := (fm_same (hk.form k hkL)).2 (by rw [h1]; decide)
    have h6 := hk.job k hkL
    unfold grL; rw [e0, if_pos rfl, hro, show ((k : Int) + 1 - 1).toNat = k by omega]
    unfold grt
    rw [h5.1, h5.2, h6]
  clear hro hin hk hj1 hj2
  generalize L[k] = r at *
  have e1 : (k : Int) + 1 - 1 = (k : Int) := by omega
  have hj1 : ¬ (k : Int) + 1 < 1 := by omega
  have hj2 : ¬ (L.length : Int) < (k : Int) + 1 := by omega
  have HX1 := hide (HX0.out.below (below_alloc _ r.obj))
  have HB1 := hide (HB0.out.trans ((below_alloc _ r.obj).mono (by omega)))
  have HA1 := hide (HA0.out.below (below_alloc _ r.obj))
  have HY1 : Hid (Bx ((w.alloc (.cells #[.int .i64 n, .int .i64 l] 25)).alloc r.obj) (w.heap.size + 1) r) := by rw [← hsz]; exact hide (heap_alloc_new _ _)
  have hs1 : ((w.alloc (.cells #[.int .i64 n, .int .i64 l] 25)).alloc r.obj).heap.size = w.heap.size + 2 := by rw [World.size_alloc, hsz]
  by_cases h1 : r.st ≠ 1
  · have b1 : (r.st != 1) = true := by simpa using h1
    have HE := hide (Hg1.out h1)
    have HL := hide (HL0.out _ HE.out (by decide))
    clear h1 Hg1 Hg2 Hg3 Hg4
    go_enter Try.func51, Try.ntmps51
    go_wp2
    go_ret
    rw [HE.out, HL.out]
    exact ⟨rfl, XPost.same HX1.out (On.of_below HB1.out)⟩
  have h1 := Classical.not_not.1 h1
  have b1 : (r.st != 1) = false := by simp [h1]
  have H1 := hide h1
  clear h1
  by_cases h2 : 1099511627776 < g
  · have HE := hide (Hg2.out H1.out (.inr h2))
    have HL := hide (HL0.out _ HE.out (by decide))
    clear Hg1 Hg2 Hg3 Hg4
    go_enter Try.func51, Try.ntmps51
    go_wp2
    go_ret
    rw [HE.out, HL.out]
    exact ⟨rfl, XPost.same HX1.out (On.of_below HB1.out)⟩
  by_cases h3 : g < 1
  · have HE := hide (Hg2.out H1.out (.inl (gb_iff.2 (.inl h3))))
    have HL := hide (HL0.out _ HE.out (by decide))
    clear Hg1 Hg2 Hg3 Hg4
    go_enter Try.func51, Try.ntmps51
    go_wp2
    go_ret
    rw [HE.out, HL.out]
    exact ⟨rfl, XPost.same HX1.out (On.of_below HB1.out)⟩
  go_enter Try.func51, Try.ntmps51
  go_wp2_with fail
  clear k0 k1 k2 k3 k4 k5 k6 k7 c1
  generalize (w.alloc (.cells #[.int .i64 n, .int .i64 l] 25)).alloc r.obj = W1 at *
  go_loopw [10] (fun s wr => ∃ (i : Nat), i ≤ L.length ∧ s = .int .i64 (i : Int) ∧ wr = W1 ∧ Hid (∀ t (_ : t < i) (ht : t < L.length), ¬ g ≤ (L[t]).bdg)) (fun s _ => L.length - (intOf s).toNat)
  case atStart => exact ⟨0, Nat.zero_le _, rfl, rfl, hide (fun t ht => absurd ht (by omega))⟩
  case round =>
    obtain ⟨i, hi, rfl, rfl, HP⟩ := hrel
    have c1 := HX1.out.c1
    by_cases hii : i < L.length
    · have hik : (i : Int) < (L.length : Int) := by omega
      obtain ⟨k0, k1, k2, k3, _⟩ := HX1.out.rs.eight0 hii
      by_cases h4 : g ≤ (L[i]).bdg
      · have HE := hide (Hg2.out H1.out (.inl (gb_iff.2 (.inr ⟨i, hii, h4⟩))))
        have HL := hide (HL0.out _ HE.out (by decide))
        clear Hg1 Hg2 Hg3 Hg4
        generalize (L[i]).bdg = t at *
        go_wp2
        go_ret
        rw [HE.out, HL.out]
        exact ⟨rfl, XPost.same HX1.out (On.of_below HB1.out)⟩
      · have HP2 : Hid (∀ t (_ : t < i + 1) (ht : t < L.length), ¬ g ≤ (L[t]).bdg) := hide fun t ht htl => by
          by_cases e : t = i
          · subst e; exact h4
          · exact HP.out t (by omega) htl
        clear HP
        generalize (L[i]).bdg = t at *
        go_wp2_with fail
        go_roundw
        case rel => exact ⟨i + 1, by omega, by go_num, by first | rfl | trivial, HP2⟩
        case measure => simp only [intOf]; omega
    · have hik : ¬ (i : Int) < (L.length : Int) := by omega
      have H2 : Hid (¬ (g ≤ gb L ∨ 1099511627776 < g)) := hide fun hx => by
        rcases hx with hx | hx
        · rcases gb_iff.1 hx with e | ⟨t, ht, e⟩
          · omega
          · exact HP.out t (by omega) ht e
        · omega
      clear HP
      have HHo := hide (fun V => rholder_any V n l)
      have a0 := HA1.out.c0
      have a1 := HA1.out.c1
      by_cases h5 : ¬ hMay n l
      · have HE := hide (Hg3.out H1.out H2.out h5)
        have HL := hide (HL0.out _ HE.out (by decide))
        rw [decide_eq_false h5] at HHo
        clear Hg1 Hg2 Hg3 Hg4 h5
        go_wp2_with fail
        refine (HHo.out _).mono ?_
        rintro e w3 ⟨rfl, hB3⟩
        go_wp2
        go_ret
        rw [HE.out, HL.out]
        exact ⟨rfl, XPost.same (HX1.out.below hB3) ((On.of_below HB1.out).trans (On.of_below hB3))⟩
      · have h5 := Classical.not_not.1 h5
        obtain ⟨e0, e2⟩ := Hg4.out H1.out H2.out h5
        have HE := hide e0
        have HL := hide e2
        rw [decide_eq_true h5] at HHo
        clear Hg1 Hg2 Hg3 Hg4 h5 e0 e2
        go_wp2_with fail
        refine (HHo.out _).mono ?_
        rintro e w3 ⟨rfl, hB3⟩
        have HX3 := hide (HX1.out.below hB3)
        have HO3 : Hid (On x w w3) := hide ((On.of_below HB1.out).trans (On.of_below hB3))
        have hy3 : Bx w3 (w.heap.size + 1) r := HY1.out.keep (hB3.block _ HY1.out.lt)
        obtain ⟨d0, d1, d2, _⟩ := hy3.cells
        have hA3 := HA1.out.below hB3
        have n0 := hA3.c0
        have n1 := hA3.c1
        have hs3 : w.heap.size ≤ w3.heap.size := HO3.out.size
        clear hB3 hy3 hA3 a0 a1 c1
        go_wp2_with fail
        refine (rset_any HX3.out hl hkL ⟨(k : Int) + 1, 2, r.att + 1, g, n, l, 0, 0⟩ rfl).mono ?_
        rintro e w4 ⟨rfl, ad4, ab4, cap4, hX4, hlo4, hO4⟩
        have HF : Hid (XPost x m w (L.set k ⟨(k : Int) + 1, 2, r.att + 1, g, n, l, 0, 0⟩) ab L w4) := hide ⟨ad4, ab4, cap4, hX4, .inr (Nat.le_trans hs3 hlo4), HO3.out.trans hO4⟩
        clear hX4 hO4
        go_wp2
        go_ret
        rw [HE.out, HL.out]
        exact ⟨rfl, HF.out⟩
set_option maxHeartbeats 2000000 in
set_option maxRecDepth 8000 in
theorem rexpire_any (h : Xm w x ad ab cap m L) (hk : Ok m L) (g : Int) : Calls Try.prog 53 #[.pointer (some ⟨x, 0, none⟩), .int .i64 g] w fun e w' => e = .returned (.tuple #[.int .i64 (exJ L g), .int .i64 (exE L g)]) ∧ XPost x m w (exL m L g) ab L w' := by
  have hl := hk.len
  have hlt := h.lt
  have HX := hide h
  have HH := hide (rheld_any h hk g)
  cases hx : hix g L with
  | none =>
    have e1 : exJ L g = 0 := by unfold exJ; rw [hx]
    have HE2 : Hid (exE L g = 113) := by show exE L g = 113; unfold exE; rw [hx]
    have HE3 : Hid (exL m L g = L) := by show exL m L g = L; unfold exL; rw [hx]
    have HE1 := hide e1
    rw [e1] at HH
    clear h hk hx e1
    go_enter Try.func53, Try.ntmps53
    go_wp2_with fail
    refine HH.out.mono ?_
    rintro e w1 ⟨rfl, rfl⟩
    go_wp2
    go_ret2
    rw [HE1.out, HE2.out, HE3.out]
    exact ⟨rfl, XPost.same HX.out (On.of_below (Below.refl _ _))⟩
  | some i =>
    obtain ⟨hi, e, h2, hb, ha1, ha2, hb1, hb2⟩ := hk.held hx
    have e1 : exJ L g = (i : Int) + 1 := by unfold exJ; rw [hx]
    have HE2 : Hid (exE L g = 0) := by show exE L g = _; unfold exE; rw [hx]
    have HE3 : Hid (exL m L g = L.set i (xp m L[i])) := by show exL m L g = _; unfold exL; rw [hx, ← e]
    have HE1 := hide e1
    rw [e1] at HH
    have HJ := hide (hk.job i hi)
    have hat := HX.out.rs.at_ (by omega)
    subst hat
    have hlr := HX.out.rs.lt (by omega)
    obtain ⟨k0, k1, k2, k3, k4, k5, k6, k7⟩ := HX.out.rs.eight0 hi
    have c0 := HX.out.c0
    have c1 := HX.out.c1
    have hiI : (i : Int) < (L.length : Int) := by omega
    have n0 : ((i : Int) + 1 == 0) = false := by simp; omega
    have e9 : (i : Int) + 1 - 1 = (i : Int) := by omega
    clear h hk hx e1 e h2 hb ha1 ha2 hb1 hb2
    generalize L[i] = r at *
    go_enter Try.func53, Try.ntmps53
    go_wp2_with fail
    refine HH.out.mono ?_
    rintro e w1 ⟨rfl, rfl⟩
    by_cases ha : r.att = m
    · have ba : (r.att == m) = true := by simpa using ha
      have HXp : Hid (xp m r = ⟨r.job, 4, r.att, r.bdg, 0, 0, r.code, r.bits⟩) := by show xp m r = _; unfold xp; rw [if_pos ha]
      rw [HXp.out] at HE3
      clear ha
      go_wp2_with fail
      go_quiet (fail)
      go_wp2_with fail
      refine (rset_any (Xm.below (w' := World.setCell ((w1.alloc (.cells #[.int .i64 r.job, .int .i64 1, .int .i64 r.att, .int .i64 r.bdg, .int .i64 0, .int .i64 0, .int .i64 r.code, .int .u64 r.bits] 30)).drewN nq) ⟨w1.heap.size, 1, none⟩ (.int .i64 4)) HX.out (below_set (below_drewN (below_alloc w1 _) nq) (Nat.le_refl _) 1 _)) hl hi ⟨r.job, 4, r.att, r.bdg, 0, 0, r.code, r.bits⟩ HJ.out).mono ?_
      rintro e w4 ⟨rfl, ad4, ab4, cap4, hX4, hlo4, hO4⟩
      have HF : Hid (XPost x m w1 (L.set i ⟨r.job, 4, r.att, r.bdg, 0, 0, r.code, r.bits⟩) ab L w4) := hide ⟨ad4, ab4, cap4, hX4, .inr (Nat.le_trans (below_set (below_drewN (below_alloc w1 (.cells #[.int .i64 r.job, .int .i64 1, .int .i64 r.att, .int .i64 r.bdg, .int .i64 0, .int .i64 0, .int .i64 r.code, .int .u64 r.bits] 30)) nq) (Nat.le_refl _) 1 (.int .i64 4)).size hlo4), (On.of_below (below_set (below_drewN (below_alloc w1 _) nq) (Nat.le_refl _) 1 _)).trans hO4⟩
      clear hX4 hO4 hlo4 k0 k1 k2 k3 k4 k5 k6 k7 c0 c1
      go_wp2
      go_ret2
      rw [HE1.out, HE2.out, HE3.out]
      exact ⟨rfl, HF.out⟩
    · have ba : (r.att == m) = false := by simpa using ha
      have HXp : Hid (xp m r = ⟨r.job, 1, r.att, r.bdg, 0, 0, r.code, r.bits⟩) := by show xp m r = _; unfold xp; rw [if_neg ha]
      rw [HXp.out] at HE3
      clear ha
      go_wp2_with fail
      go_quiet (fail)
      go_wp2_with fail
      refine (rset_any (Xm.below (w' := (w1.alloc (.cells #[.int .i64 r.job, .int .i64 1, .int .i64 r.att, .int .i64 r.bdg, .int .i64 0, .int .i64 0, .int .i64 r.code, .int .u64 r.bits] 30)).drewN nq) HX.out (below_drewN (below_alloc w1 _) nq)) hl hi ⟨r.job, 1, r.att, r.bdg, 0, 0, r.code, r.bits⟩ HJ.out).mono ?_
      rintro e w4 ⟨rfl, ad4, ab4, cap4, hX4, hlo4, hO4⟩
      have HF : Hid (XPost x m w1 (L.set i ⟨r.job, 1, r.att, r.bdg, 0, 0, r.code, r.bits⟩) ab L w4) := hide ⟨ad4, ab4, cap4, hX4, .inr (Nat.le_trans (below_drewN (below_alloc w1 (.cells #[.int .i64 r.job, .int .i64 1, .int .i64 r.att, .int .i64 r.bdg, .int .i64 0, .int .i64 0, .int .i64 r.code, .int .u64 r.bits] 30)) nq).size hlo4), (On.of_below (below_drewN (below_alloc w1 _) nq)).trans hO4⟩
      clear hX4 hO4 hlo4 k0 k1 k2 k3 k4 k5 k6 k7 c0 c1
      go_wp2
      go_ret2
      rw [HE1.out, HE2.out, HE3.out]
      exact ⟨rfl, HF.out⟩
end
end Go.Proofs.Ytkchddphmkgilaa
