import Derived.Test.YtonoogiadgjodaaSeE
namespace Go.Proofs.Ytonoogiadgjodaa
open Go.RowKit

def Cl.hear (c : Cl) (m : Sm) : CR :=
  if c.mns m = 1 then ⟨1, { c with se := m.se, gr := m.se, la := 0, m := zS 0, ti := 0 }⟩
  else if c.mns m = 2 then ⟨2, { c with se := 0, m := zS 0, ti := 0 }⟩
  else if c.mns m = 3 then ⟨3, { c with m := zS 0, ti := 0 }⟩ else ⟨0, c⟩
theorem Cl.mns_1 {c : Cl} {m : Sm} (h : c.mns m = 1) : c.m.k = 1 ∧ m.k = 7 ∧ c.gr < m.se := by
  unfold Cl.mns at h
  split at h
  · assumption
  · split at h
    · cases h
    · split at h <;> cases h
theorem Cl.mns_or (c : Cl) (m : Sm) : c.mns m = 1 ∨ c.mns m = 2 ∨ c.mns m = 3 ∨ c.mns m = 0 := by
  unfold Cl.mns
  split
  · exact .inl rfl
  · split
    · exact .inr (.inl rfl)
    · split
      · exact .inr (.inr (.inl rfl))
      · exact .inr (.inr (.inr rfl))
theorem Cl.hear_ok {c : Cl} (h : c.ok) {m : Sm} (hm : m.se ≤ 9223372036854775807) : (c.hear m).c.ok := by
  have r0 : (0 : Int) ≤ c.rs := by have := h.r1; omega
  unfold Cl.hear
  split
  · have := (Cl.mns_1 (by assumption)).2.2
    have := h.g0
    exact ⟨h.r1, h.r2, Int.le_refl _, r0, by show 0 ≤ m.se; omega, hm, by show 0 ≤ m.se; omega, hm, Int.le_refl _, by show (0 : Int) ≤ _; decide, .inl ⟨.inl rfl, rfl⟩⟩
  · split
    · exact ⟨h.r1, h.r2, Int.le_refl _, r0, Int.le_refl _, by show (0 : Int) ≤ _; decide, h.g0, h.g1, h.l0, h.l1, .inl ⟨.inl rfl, rfl⟩⟩
    · split
      · exact ⟨h.r1, h.r2, Int.le_refl _, r0, h.s0, h.s1, h.g0, h.g1, h.l0, h.l1, .inl ⟨.inl rfl, rfl⟩⟩
      · exact h
set_option maxHeartbeats 2000000 in
set_option maxRecDepth 8000 in
theorem hear_any {w : World} {b : Nat} {c : Cl} (hk : c.ok) (h : Cb w b c) (m : Sm) :
    Calls Try.prog 25 #[.pointer (some ⟨b, 0, none⟩), .agg (smC m)] w fun e w' => e = .returned (.int .i64 (c.hear m).e) ∧ Cb w' b (c.hear m).c ∧ On b w w' := by
  have hl := h.lt
  have HMe := hide (means_any hk (h.alloc (.cells (smC m) 36)) m)
  have HC := hide (h.alloc (.cells (smC m) 36))
  have HM := hide (Mx.new w m)
  have HO := hide (below_alloc w (.cells (smC m) 36))
  have HNE : Hid (w.heap.size ≠ b) := hide (by omega)
  unfold Cl.hear
  unfold smC at HMe HC HM HO ⊢
  clear h hk
  rcases Cl.mns_or c m with hm | hm | hm | hm
  · rw [if_pos hm]
    rw [hm] at HMe
    clear hm
    go_enter Try.func25, Try.ntmps25
    go_wp2_with fail
    refine HMe.out.mono ?_
    rintro e W ⟨rfl, hB⟩
    have HC1 := hide (HC.out.below hB)
    have HM1 := hide (HM.out.below hB)
    have HB1 := hide (HO.out.trans (hB.mono HO.out.size))
    clear hB HMe HC HM HO
    obtain ⟨X, hX⟩ : ∃ X, w.heap.size = X := ⟨_, rfl⟩
    rw [hX] at HM1 HNE ⊢
    clear hX hl
    obtain ⟨k0, k1, k2, k3, k4, k5, k6, k7, k8, k9, k10⟩ := HM1.out.cells
    have c13 := HC1.out.c13
    have c14 := HC1.out.c14
    have c15 := HC1.out.c15
    have z13 := HC1.out.z 13
    have z14 := HC1.out.z 14
    have z15 := HC1.out.z 15
    have hne := HNE.out
    go_wp2_with fail
    go_region
    have HX := hide (end_any (c := { c with se := m.se, gr := m.se, la := 0 }) (show Cb ((((W.setCell ⟨b, 13, none⟩ (.int .i64 m.se)).setCell ⟨b, 14, none⟩ (.int .i64 m.se)).setCell ⟨b, 15, none⟩ (.int .i64 0)).drew) b _ from ((HC1.out.se m.se).gr m.se).la 0))
    have HO3 : Hid (On b w ((((W.setCell ⟨b, 13, none⟩ (.int .i64 m.se)).setCell ⟨b, 14, none⟩ (.int .i64 m.se)).setCell ⟨b, 15, none⟩ (.int .i64 0)).drew)) := hide (((((On.of_below HB1.out).set 13 _).set 14 _).set 15 _).drew)
    generalize ((W.setCell ⟨b, 13, none⟩ (.int .i64 m.se)).setCell ⟨b, 14, none⟩ (.int .i64 m.se)).setCell ⟨b, 15, none⟩ (.int .i64 0) = W1 at *
    clear HC1 HM1 HB1 k0 k1 k2 k3 k4 k5 k6 k7 k8 k9 k10 c13 c14 c15 z13 z14 z15
    go_wp2_with fail
    refine HX.out.mono ?_
    rintro e W2 ⟨rfl, h1, h2⟩
    have H1 := hide h1
    have H2 := hide (HO3.out.trans h2)
    clear h1 h2 HX
    go_wp2_with fail
    go_ret
    exact ⟨rfl, H1.out, H2.out⟩
  · rw [if_neg (by omega), if_pos hm]
    rw [hm] at HMe
    clear hm
    go_enter Try.func25, Try.ntmps25
    go_wp2_with fail
    refine HMe.out.mono ?_
    rintro e W ⟨rfl, hB⟩
    have HC1 := hide (HC.out.below hB)
    have HB1 := hide (HO.out.trans (hB.mono HO.out.size))
    have c13 := HC1.out.c13
    have z13 := HC1.out.z 13
    have HX := hide (end_any (HC1.out.se 0))
    clear hB HMe HC HM HO hl
    go_wp2_with fail
    refine HX.out.mono ?_
    rintro e W2 ⟨rfl, h1, h2⟩
    have H1 := hide h1
    have H2 := hide (((On.of_below HB1.out).set 13 (.int .i64 0)).trans h2)
    clear h1 h2 HX
    go_wp2_with fail
    go_ret
    exact ⟨rfl, H1.out, H2.out⟩
  · rw [if_neg (by omega), if_neg (by omega), if_pos hm]
    rw [hm] at HMe
    clear hm
    go_enter Try.func25, Try.ntmps25
    go_wp2_with fail
    refine HMe.out.mono ?_
    rintro e W ⟨rfl, hB⟩
    have HC1 := hide (HC.out.below hB)
    have HB1 := hide (HO.out.trans (hB.mono HO.out.size))
    have HX := hide (end_any HC1.out)
    clear hB HMe HC HM HO hl
    go_wp2_with fail
    refine HX.out.mono ?_
    rintro e W2 ⟨rfl, h1, h2⟩
    have H1 := hide h1
    have H2 := hide ((On.of_below HB1.out).trans h2)
    clear h1 h2 HX
    go_wp2_with fail
    go_ret
    exact ⟨rfl, H1.out, H2.out⟩
  · rw [if_neg (by omega), if_neg (by omega), if_neg (by omega)]
    rw [hm] at HMe
    clear hm
    go_enter Try.func25, Try.ntmps25
    go_wp2_with fail
    refine HMe.out.mono ?_
    rintro e W ⟨rfl, hB⟩
    have HC1 := hide (HC.out.below hB)
    have HB1 := hide (HO.out.trans (hB.mono HO.out.size))
    clear hB HMe HC HM HO hl
    go_wp2_with fail
    go_ret
    exact ⟨rfl, HC1.out, On.of_below HB1.out⟩
end Go.Proofs.Ytonoogiadgjodaa
