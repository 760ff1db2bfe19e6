import Derived.Test.YtnhibcadenmglaaDkZ
namespace Go.Proofs.Ytnhibcadenmglaa
open Go.RowKit

theorem rs_nil (w : World) : Rs w Option.none 0 0 [] := ⟨fun h => absurd h (by simp), fun i h => absurd h (by simp)⟩

set_option maxHeartbeats 1000000 in
set_option maxRecDepth 8000 in
theorem diskCuts_walk {w : World} {ad ad2 : Option Addr} {ab ao cap ab2 ao2 cap2 : Nat} {l : List ByteArray} {R : List Wr} {n m : Int} (h : Rs w ad ab ao l) (h2 : Rw w ad2 ab2 ao2 R) (hl : l.length ≤ 8796093021952) (hR : R.length ≤ 5864062014634) (_ : -9223372036854775808 ≤ n ∧ n ≤ 9223372036854775807) (_ : -9223372036854775808 ≤ m ∧ m ≤ 9223372036854775807) :
    Calls Try.prog 5 #[.agg #[.slice ad l.length cap, .slice ad2 R.length cap2, .int .i64 n, .int .i64 m]] w fun e w' => e = .returned (.bool true) ∧ Below w.heap.size w w' := by
  obtain ⟨iS, hiS, zS0, zS1, zS2⟩ := info_parts Try.infoS
  obtain ⟨iW, hiW, zW0, zW1, zW2⟩ := info_parts Try.infoW
  obtain ⟨W0, hW0⟩ : ∃ W0, w.alloc (.cells #[.slice ad l.length cap, .slice ad2 R.length cap2, .int .i64 n, .int .i64 m] 42) = W0 := ⟨_, rfl⟩
  have hb0 : Below w.heap.size w W0 := by rw [← hW0]; exact (Below.refl _ w).alloc (Nat.le_refl _) _
  have hsz0 : W0.heap.size = w.heap.size + 1 := by rw [← hW0]; exact World.size_alloc _ _
  have hblk : W0.heap[w.heap.size]? = some (.cells #[.slice ad l.length cap, .slice ad2 R.length cap2, .int .i64 n, .int .i64 m] 42 (0, 0)) := by rw [← hW0]; exact heap_alloc_new w _
  have KC : Hid (∀ w1, Below W0.heap.size W0 w1 → w1.cell? ⟨w.heap.size, 0, none⟩ = some (.slice ad l.length cap) ∧ w1.cell? ⟨w.heap.size, 1, none⟩ = some (.slice ad2 R.length cap2) ∧ w1.cell? ⟨w.heap.size, 2, none⟩ = some (.int .i64 n) ∧ w1.cell? ⟨w.heap.size, 3, none⟩ = some (.int .i64 m)) := fun w1 hb => by
    have e := (hb.block _ (by omega)).trans hblk
    exact ⟨by simp [World.cell?, e], by simp [World.cell?, e], by simp [World.cell?, e], by simp [World.cell?, e]⟩
  have H0 := hide (h.below hb0)
  have H20 := hide (h2.below hb0)
  have HB0 := hide hb0
  have HSZ := hide hsz0
  have KA : Hid (∀ o, (W0.alloc o).cell? ⟨w.heap.size, 0, none⟩ = some (.slice ad l.length cap)) := fun o => (KC.out (W0.alloc o) ((Below.refl _ W0).alloc (Nat.le_refl _) o)).1
  have ka := KA.out
  clear h h2 hsz0 hblk hb0
  go_enter Try.func5, Try.ntmps5
  go_upto_region 1 with fail
  clear hW0
  go_upto_region 2 with (at_builtin; refine wpList_append_read rfl _ _ 35 rfl W0.heap.size 9 iS (.string ByteArray.empty) 1 16 Try.underlying35 hiS zS0 zS1 zS2 rfl (by decide) (.slice (some ⟨W0.heap.size, 0, none⟩) 0 0) 0 [] rfl (World.ownsRow_made W0 #[] 0 (Nat.le_refl _) (by decide) rfl) ad l.length cap (l.map .string) rfl (by rw [List.length_map, Nat.mul_one]) H0.out.none (fun a0 ha j u hu => Lib.cell?_alloc_some _ (H0.out.src a0 ha j u hu)) (strs_one _) (by unfold maxLen; omega) (by omega) (by rw [World.size_alloc]; omega) ?_; intro v1 w1 hown1 hgrow1)
  rw [Nat.zero_add, List.nil_append] at hown1
  have hb1 : Below W0.heap.size W0 w1 := ((Below.refl _ W0).alloc (Nat.le_refl _) _).grown hgrow1 (by rw [World.size_alloc]; omega) (fun k hk => by simp only [Value.ownBlock] at hk; injection hk with hk; omega)
  obtain ⟨ad5, cap5, rfl⟩ := own_slice hown1
  obtain ⟨ab5, hr1⟩ := (Rs.own hown1).2
  have HR1 := hide hr1
  have HB1 := hide hb1
  have ka1 : ∀ o, (w1.alloc o).cell? ⟨w.heap.size, 1, none⟩ = some (.slice ad2 R.length cap2) := fun o => (KC.out (w1.alloc o) (hb1.alloc hb1.size o)).2.1
  clear hown1 hgrow1 hr1 hb1 ka KA
  have hsz1 : W0.heap.size ≤ w1.heap.size := HB1.out.size
  go_upto_region 3 with (at_builtin; refine wpList_append_read rfl _ _ 40 rfl w1.heap.size 50 iW (.agg #[.int .i64 0, .string ByteArray.empty]) 2 24 Try.underlying40 hiW zW0 zW1 zW2 rfl (by decide) (.slice (some ⟨w1.heap.size, 0, none⟩) 0 0) 0 [] rfl (World.ownsRow_made w1 #[] 0 (Nat.le_refl _) (by decide) rfl) ad2 R.length cap2 (wcs R) rfl (wcs_len R) H20.out.none (fun a0 ha j u hu => Lib.cell?_alloc_some _ ((H20.out.below HB1.out).src a0 ha j u hu)) (wcs_ones _) (by unfold maxLen; omega) (by omega) (by rw [World.size_alloc]; omega) ?_; intro v2 w2 hown2 hgrow2)
  rw [Nat.zero_add, List.nil_append] at hown2
  have hb2 : Below w1.heap.size w1 w2 := ((Below.refl _ w1).alloc (Nat.le_refl _) _).grown hgrow2 (by rw [World.size_alloc]; omega) (fun k hk => by simp only [Value.ownBlock] at hk; injection hk with hk; omega)
  obtain ⟨ad6, cap6, rfl, hcap6, hcm6⟩ : ∃ ad6 cap6, v2 = .slice ad6 R.length cap6 ∧ R.length ≤ cap6 ∧ cap6 ≤ 9223372036854775807 := by
    rcases own_form hown2 with ⟨h1, h0⟩ | ⟨g, c, h1, _, h3, h4⟩
    · exact ⟨none, 0, by rw [h0]; exact h1, by omega, by omega⟩
    · exact ⟨_, _, h1, h3, h4⟩
  obtain ⟨ab6, hr2⟩ := (Rw.own hown2).2
  have HR2 := hide hr2
  have HB2 := hide (HB1.out.trans (below_up hb2 HB1.out.size))
  have HRs2 := hide (HR1.out.below hb2)
  clear hown2 hgrow2 hr2 hb2 ka1 HR1 hsz1
  obtain ⟨c0, c1, c2, c3⟩ := KC.out w2 HB2.out
  by_cases hE : cutE l R n m = 0
  · have hnn : 0 ≤ n ∧ 0 ≤ m := by
      have := (cutE_ok hE).2.2.2
      unfold cutN at this
      omega
    obtain ⟨p, rfl⟩ : ∃ p : Nat, n = (p : Int) := ⟨n.toNat, by omega⟩
    obtain ⟨q, rfl⟩ : ∃ q : Nat, m = (q : Int) := ⟨m.toNat, by omega⟩
    have HCt := hide (cut_yes (cap := cap5) HRs2.out HR2.out hl hR hcap6 hcm6 hE)
    have HE := hide hE
    clear hE hnn
    go_wp2_with fail
    refine HCt.out.mono ?_
    rintro e w3 ⟨ad3, cap3, ab3, rfl, hr3, _, hb3⟩
    have HR3 := hide hr3
    have HB3 := hide (HB2.out.trans (below_up hb3 HB2.out.size))
    have HRs3 := hide (HRs2.out.below hb3)
    have HRw3 := hide (HR2.out.below hb3)
    have hrc := rcut_any (cap := cap) (cap2 := cap2) (n := (p : Int)) (b := (q : Int)) (H0.out.below HB3.out) (H20.out.below HB3.out) hl hR
    rw [Int.toNat_natCast, Int.toNat_natCast] at hrc
    have HRC := hide hrc
    clear hr3 hb3 hrc HCt HRs2 HR2 c0 c1 c2 c3
    obtain ⟨c0, c1, c2, c3⟩ := KC.out w3 HB3.out
    go_wp2_with fail
    refine HRC.out.mono ?_
    rintro e w4 ⟨_, hy, hb4⟩
    obtain ⟨ad4, cap4, ab4, rfl, hr4, _⟩ := hy HE.out
    have HSm := hide (same_len (cap := cap3) (cap' := cap4) (HR3.out.below hb4) hr4 (cutS_len _ _ _ _) hl)
    have HB4 := hide (HB3.out.trans (below_up hb4 HB3.out.size))
    have HRs4 := hide (HRs3.out.below hb4)
    have HRw4 := hide (HRw3.out.below hb4)
    clear hy hb4 hr4 HRC HR3 HRs3 HRw3 c0 c1 c2 c3
    go_wp2_with fail
    refine HSm.out.mono ?_
    rintro e w5 ⟨rfl, hb5⟩
    have HB5 := hide (HB4.out.trans (below_up hb5 HB4.out.size))
    have HSm2 := hide (same_len (cap := cap5) (cap' := cap) (HRs4.out.below hb5) (H0.out.below HB5.out) rfl hl)
    have HRw5 := hide (HRw4.out.below hb5)
    clear hb5 HSm HB4 HRs4 HRw4
    obtain ⟨c0, c1, c2, c3⟩ := KC.out w5 HB5.out
    go_wp2_with fail
    refine HSm2.out.mono ?_
    rintro e w6 ⟨rfl, hb6⟩
    have HB6 := hide (HB5.out.trans (below_up hb6 HB5.out.size))
    have HSm3 := hide (sameRaw_len (cap := cap6) (cap' := cap2) (HRw5.out.below hb6) (H20.out.below HB6.out) rfl hR)
    clear hb6 HSm2 HB5 HRw5 c0 c1 c2 c3
    obtain ⟨c0, c1, c2, c3⟩ := KC.out w6 HB6.out
    go_wp2_with (first
      | (go_at_call 18; refine HSm3.out.mono ?_; rintro e w7 ⟨rfl, hb7⟩; have HB7 := hide (HB6.out.trans (below_up hb7 HB6.out.size)); clear hb7)
      | (go_at_call 12; refine (fixed_true w7).mono ?_; rintro e w8 ⟨rfl, hb8⟩; have HB8 := hide (HB7.out.trans (below_up hb8 HB7.out.size)); clear hb8))
    go_ret
    exact ⟨rfl, HB0.out.trans (below_up HB8.out (by have := HSZ.out; omega))⟩
  · have HCt := hide (cut_no (cap := cap5) (cap2 := cap6) HRs2.out HR2.out hl hR hE)
    have HE := hide hE
    clear hE
    go_wp2_with fail
    refine HCt.out.mono ?_
    rintro e w3 ⟨rfl, hb3⟩
    have HB3 := hide (HB2.out.trans (below_up hb3 HB2.out.size))
    have HRs3 := hide (HRs2.out.below hb3)
    have HRw3 := hide (HR2.out.below hb3)
    have HRC := hide (rcut_any (cap := cap) (cap2 := cap2) (n := n) (b := m) (H0.out.below HB3.out) (H20.out.below HB3.out) hl hR)
    clear hb3 HCt HRs2 HR2 c0 c1 c2 c3
    obtain ⟨c0, c1, c2, c3⟩ := KC.out w3 HB3.out
    generalize cutE l R n m = E at *
    go_wp2_with fail
    refine HRC.out.mono ?_
    rintro e w4 ⟨hy, _, hb4⟩
    obtain rfl := hy HE.out
    have HSm := hide (same_len (w := w4) (cap := 0) (cap' := 0) (L := 0) (rs_nil w4) (rs_nil w4) rfl (by decide))
    have HB4 := hide (HB3.out.trans (below_up hb4 HB3.out.size))
    have HRs4 := hide (HRs3.out.below hb4)
    have HRw4 := hide (HRw3.out.below hb4)
    clear hy hb4 HRC HRs3 HRw3 c0 c1 c2 c3
    go_wp2_with fail
    refine HSm.out.mono ?_
    rintro e w5 ⟨rfl, hb5⟩
    have HB5 := hide (HB4.out.trans (below_up hb5 HB4.out.size))
    have HSm2 := hide (same_len (cap := cap5) (cap' := cap) (HRs4.out.below hb5) (H0.out.below HB5.out) rfl hl)
    have HRw5 := hide (HRw4.out.below hb5)
    clear hb5 HSm HB4 HRs4 HRw4
    obtain ⟨c0, c1, c2, c3⟩ := KC.out w5 HB5.out
    go_wp2_with fail
    refine HSm2.out.mono ?_
    rintro e w6 ⟨rfl, hb6⟩
    have HB6 := hide (HB5.out.trans (below_up hb6 HB5.out.size))
    have HSm3 := hide (sameRaw_len (cap := cap6) (cap' := cap2) (HRw5.out.below hb6) (H20.out.below HB6.out) rfl hR)
    clear hb6 HSm2 HB5 HRw5 c0 c1 c2 c3
    obtain ⟨c0, c1, c2, c3⟩ := KC.out w6 HB6.out
    go_wp2_with (first
      | (go_at_call 18; refine HSm3.out.mono ?_; rintro e w7 ⟨rfl, hb7⟩; have HB7 := hide (HB6.out.trans (below_up hb7 HB6.out.size)); clear hb7)
      | (go_at_call 12; refine (fixed_true w7).mono ?_; rintro e w8 ⟨rfl, hb8⟩; have HB8 := hide (HB7.out.trans (below_up hb8 HB7.out.size)); clear hb8))
    go_ret
    exact ⟨rfl, HB0.out.trans (below_up HB8.out (by have := HSZ.out; omega))⟩
end Go.Proofs.Ytnhibcadenmglaa
