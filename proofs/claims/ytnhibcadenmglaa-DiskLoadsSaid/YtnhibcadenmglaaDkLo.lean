import Derived.Test.YtnhibcadenmglaaDkRg
namespace Go.Proofs.Ytnhibcadenmglaa
open Go.RowKit

theorem Pr.mvs {B : Nat} {w w' : World} {b c : Nat} {F G : Nat → Prop} {d e : DS} (h : Pr B w b c F G d e) {T T' : Nat → Prop} (hm : Mv T T' w w') (h1 : ∀ k, F k → ¬ T k) (h2 : ¬ T c) (h3 : ∀ k, G k → ¬ T k) : Pr B w' b c F G d e :=
  ⟨h.hd.mv hm h1, h.hr.mv hm h2 h3, h.cf, h.fg⟩

set_option maxHeartbeats 1000000 in
set_option maxRecDepth 8000 in
theorem diskLoads_walk {w : World} {ad : Option Addr} {ab ao cap : Nat} {l : List ByteArray} {ad3 : Option Addr} {ab3 ao3 cap3 : Nat} {Q : List OpV} (h : Rs w ad ab ao l) (hl : l.length ≤ 8796093021952) (h3 : Ro w ad3 ab3 ao3 Q) (hQ : Q.length ≤ 5864062014634) :
    Calls Try.prog 4 #[.slice ad l.length cap, .slice ad3 Q.length cap3] w fun e w' => e = .returned (.bool true) ∧ Below w.heap.size w w' := by
  obtain ⟨iS, hiS, zS0, zS1, zS2⟩ := info_parts Try.infoS
  have H := hide h
  have H3 := hide h3
  obtain ⟨BE, hBE⟩ : ∃ BE : ByteArray, (⟨#[98, 101, 104, 105, 110, 100]⟩ : ByteArray) = BE := ⟨_, rfl⟩
  clear h h3
  go_enter Try.func4, Try.ntmps4
  go_upto_region 2 with (first
    | (at_builtin; refine wpList_append_read rfl (.tmp 11) (.tmp 12) 35 rfl w.heap.size 9 iS (.string ByteArray.empty) 1 16 Try.underlying35 hiS zS0 zS1 zS2 rfl (by decide) (.slice (some ⟨w.heap.size, 0, none⟩) 0 0) 0 [] rfl (World.ownsRow_made w #[] 0 (Nat.le_refl _) (by decide) rfl) ad l.length cap (l.map .string) rfl (by rw [List.length_map, Nat.mul_one]) H.out.none (fun a0 ha j u hu => Lib.cell?_alloc_some _ (H.out.src a0 ha j u hu)) (strs_one _) (by unfold maxLen; omega) (by omega) (by rw [World.size_alloc]; omega) ?_; intro v7 w7 hown7 hgrow7; rw [Nat.zero_add, List.nil_append] at hown7; have hb7 : Below w.heap.size w w7 := ((Below.refl _ w).alloc (Nat.le_refl _) _).grown hgrow7 (by rw [World.size_alloc]; omega) (fun k hk => by simp only [Value.ownBlock] at hk; injection hk with hk; omega); have HO7 := hide hown7; have HB7 := hide hb7; clear hown7 hgrow7 hb7)
    | (at_builtin; refine wpList_append_lies _ rfl (.tmp 13) (.tmp 14) 35 rfl w.heap.size 9 iS (.string ByteArray.empty) 1 16 Try.underlying35 hiS zS0 zS1 zS2 rfl (by decide) v7 l.length (l.map .string) rfl (HO7.out.alloc _) ⟨w7.heap.size, 0, none⟩ 1 1 [.string BE] rfl rfl (one_new _ _ _) (by intro u hu; simp at hu; subst hu; rfl) (by decide) (by unfold maxLen; omega) (by omega) (by rw [World.size_alloc]; have := HB7.out.size; omega) _ rfl ?_; intro g c1 w1 hown1 hgrow1 _ _; have hb1 : Below w.heap.size w w1 := (HB7.out.alloc HB7.out.size _).grown hgrow1 (by rw [World.size_alloc]; have := HB7.out.size; omega) (fun k hk => (HO7.out.lt k hk).1); have HO1 := hide hown1; have HB1 := hide hb1; obtain ⟨hc1, hc2⟩ : l.length + 1 ≤ c1 ∧ c1 ≤ 9223372036854775807 := by { rcases own_form hown1 with ⟨h1, _⟩ | ⟨g', c', h1, _, h4, h5⟩; cases h1; injection h1 with _ _ h1; rw [h1]; exact ⟨h4, h5⟩ }; clear hown1 hgrow1 hb1))
  have hgl : w.heap.size ≤ g ∧ g < w1.heap.size := HO1.out.lt g rfl
  have HGL : Hid (w.heap.size ≤ g) := hgl.1
  have HGU : Hid (g < w1.heap.size) := hgl.2
  have hcells : ∀ i (hi : i < l.length), w1.cell? ⟨g, 0 + i, none⟩ = some (.string l[i]) := fun i hi => by
    have := HO1.out.cells (g := g) rfl i (.string l[i]) (by rw [List.getElem?_append_left (by rw [List.length_map]; exact hi), List.getElem?_map, List.getElem?_eq_getElem hi]; rfl)
    rwa [Addr.add_lit] at this
  have HRo : Hid (Rs w1 (some ⟨g, 0, none⟩) g 0 l) := ⟨fun _ => rfl, hcells⟩
  have hlast : w1.cell? ⟨g, l.length, none⟩ = some (.string BE) := by
    have := HO1.out.cells (g := g) rfl l.length (.string BE) (by rw [List.getElem?_append_right (by rw [List.length_map]; omega), List.length_map, Nat.sub_self]; rfl)
    rwa [Addr.add_lit, Nat.zero_add] at this
  have KE : Hid (∀ w2, Below w1.heap.size w1 w2 → w2.cell? ⟨g, l.length, none⟩ = some (.string BE)) := fun w2 hb => (World.cell?_of_block (hb.block g HGU.out)).trans hlast
  have HX1 : Hid (∀ w2, Below w1.heap.size w1 w2 → ∃ xs, w2.ownsRow w.heap.size 9 1 (.slice (some ⟨g, 0, none⟩) (l.length + 1) c1) (l.length + 1) xs) := fun w2 hb => ⟨_, own_keep HO1.out (fun k hk => hb.block k (HO1.out.lt k hk).2)⟩
  clear hgl hcells hlast HO1 HO7 HB7
  have hIl : (l.length : Int) + 1 ≤ (c1 : Int) := by omega
  by_cases hE : loadE l = 0
  · have HE := hide hE
    have HLo := hide (load_yes (cap := c1) HRo.out hE)
    clear hE
    go_wp2_with fail
    refine HLo.out.mono ?_
    rintro e w2 ⟨b, F, rfl, hD2, hb2⟩
    have HD2 := hide hD2
    have HL2 := hide hb2
    have HB2 := hide (HB1.out.trans (below_up hb2 HB1.out.size))
    have HRL := hide (rload_yes (cap := cap) (H.out.below HB2.out) HE.out)
    clear hD2 hb2 HLo
    go_wp2_with fail
    refine HRL.out.mono ?_
    rintro e w3 ⟨c, G, rfl, hR3, hb3⟩
    have HP3 : Hid (Pr w.heap.size w3 b c F G (fresh l) (fresh l)) := ⟨(HD2.out.below hb3).lower HB1.out.size, hR3.lower HB2.out.size, fun hf => absurd (HD2.out.ftlt _ hf).2 (by have := hR3.low; omega), fun k hk hg => absurd (HD2.out.ftlt k hk).2 (by have := (hR3.glt k hg).1; omega)⟩
    have HN1 : Hid (∀ k, F k → ¬ Is g k) := fun k hk e => absurd (HD2.out.ftlt k hk).1 (by have e' : k = g := e; have := HGU.out; omega)
    have HN2 : Hid (¬ Is g c) := fun e => by have e' : c = g := e; have := hR3.low; have := HGU.out; have := HL2.out.size; omega
    have HN3 : Hid (∀ k, G k → ¬ Is g k) := fun k hk e => absurd (hR3.glt k hk).1 (by have e' : k = g := e; have := HGU.out; have := HL2.out.size; omega)
    have HL3 := hide (HL2.out.trans (below_up hb3 HL2.out.size))
    have HB3 := hide (HB2.out.trans (below_up hb3 HB2.out.size))
    have HSm := hide (same_b (cap := c1) (cap' := cap) (HRo.out.below HL3.out) (H.out.below HB3.out) hl)
    clear hR3 hb3 HRL HD2 HL2 HB2
    go_wp2_with fail
    refine HSm.out.mono ?_
    rintro e w4 ⟨rfl, hb4⟩
    have HL4 := hide (HL3.out.trans (below_up hb4 HL3.out.size))
    have HB4 := hide (HB3.out.trans (below_up hb4 HB3.out.size))
    have HP4 := hide (HP3.out.below hb4)
    have HX4 := hide (HX1.out w4 HL4.out)
    have ke := KE.out w4 HL4.out
    clear hb4 HSm HP3 HB3 HL3
    go_wp2_with fail
    go_loopw [10] (fun u wr => ∃ i : Nat, u = .int .i64 (i : Int) ∧ i ≤ l.length ∧ Hid (∃ xs, wr.ownsRow w.heap.size 9 1 (.slice (some ⟨g, 0, none⟩) (l.length + 1) c1) (l.length + 1) xs) ∧ Hid (Pr w.heap.size wr b c F G (fresh l) (fresh l)) ∧ Hid (Below w.heap.size w wr)) (fun u _ => (l.length - (intOf u).toNat))
    case atStart => exact ⟨0, rfl, Nat.zero_le _, HX4, HP4, HB4⟩
    case round =>
      clear HP4 HX4 HB4
      obtain ⟨i, rfl, hi, HX, HP, HB⟩ := hrel
      by_cases hil : i < l.length
      · obtain ⟨xs, hxs⟩ := HX.out
        have e1 := hxs.cellAt i (by omega)
        have hxl := hxs.1
        rw [List.getElem?_eq_getElem (by omega)] at e1
        obtain ⟨ya, e1'⟩ : ∃ y, wr.cell? ⟨g, i, none⟩ = some y := ⟨_, e1⟩
        clear e1
        have e2 := hxs.frozenAt i
        have HX' : Hid (∃ xs, (wr.setCell ⟨g, i, none⟩ (.string ⟨#[120]⟩)).ownsRow w.heap.size 9 1 (.slice (some ⟨g, 0, none⟩) (l.length + 1) c1) (l.length + 1) xs) := ⟨_, (hxs.stored i (.string ⟨#[120]⟩)).1⟩
        have HP' := hide (HP.out.mvs ((Mv.refl (F := Is g) wr).set (a := ⟨g, i, none⟩) (show Is g g from rfl) (.string ⟨#[120]⟩)) HN1.out HN2.out HN3.out)
        have HB' : Hid (Below w.heap.size w (wr.setCell ⟨g, i, none⟩ (.string ⟨#[120]⟩))) := HB.out.setCell HGL.out _
        clear hxs hxl
        go_wp2_with fail
        exact ⟨⟨i + 1, by go_num, by omega, HX', HP', HB'⟩, by simp [intOf]; omega⟩
      · have ei : l.length = i := by omega
        have HPL := hide (played_any (cap3 := cap3) HP.out (Nat.le_refl 0) (H3.out.below HB.out) (fun h0 => H3.out.lt h0) hQ)
        subst ei
        go_wp2_with (first
          | (go_at_call 11; refine HPL.out.mono ?_; rintro e w8 ⟨rfl, hb8⟩; have HB8 := hide (HB.out.trans hb8); clear hb8)
          | (go_at_call 12; refine (fixed_true w8).mono ?_; rintro e w9 ⟨rfl, hb9⟩; have HB9 := hide (HB8.out.trans (below_up hb9 HB8.out.size)); clear hb9))
        go_ret
        exact ⟨rfl, HB9.out⟩
  · have HLo := hide (load_no (cap := c1) HRo.out hE hl)
    have HRL := hide (rload_no (cap := cap) (H.out.below HB1.out) hE hl)
    have HSm := hide (same_b (cap := c1) (cap' := cap) HRo.out (H.out.below HB1.out) hl)
    generalize loadE l = E at *
    clear hE
    go_wp2_with (first
      | (go_at_call 13; refine HLo.out.mono ?_; rintro e w2 ⟨rfl, e1⟩; have e1' := e1.symm; subst e1'; clear e1)
      | (go_at_call 14; refine HRL.out.mono ?_; rintro e w2 ⟨rfl, e1⟩; have e1' := e1.symm; subst e1'; clear e1)
      | fail)
    refine HSm.out.mono ?_
    rintro e w4 ⟨rfl, hb4⟩
    have HB4 := hide (HB1.out.trans (below_up hb4 HB1.out.size))
    have HX4 := hide (HX1.out w4 hb4)
    have ke := KE.out w4 hb4
    clear hb4 HSm HLo HRL
    go_wp2_with fail
    go_loopw [10] (fun u wr => ∃ i : Nat, u = .int .i64 (i : Int) ∧ i ≤ l.length ∧ Hid (∃ xs, wr.ownsRow w.heap.size 9 1 (.slice (some ⟨g, 0, none⟩) (l.length + 1) c1) (l.length + 1) xs) ∧ Hid (Below w.heap.size w wr)) (fun u _ => (l.length - (intOf u).toNat))
    case atStart => exact ⟨0, rfl, Nat.zero_le _, HX4, HB4⟩
    case round =>
      clear HX4 HB4
      obtain ⟨i, rfl, hi, HX, HB⟩ := hrel
      by_cases hil : i < l.length
      · obtain ⟨xs, hxs⟩ := HX.out
        have e1 := hxs.cellAt i (by omega)
        have hxl := hxs.1
        rw [List.getElem?_eq_getElem (by omega)] at e1
        obtain ⟨ya, e1'⟩ : ∃ y, wr.cell? ⟨g, i, none⟩ = some y := ⟨_, e1⟩
        clear e1
        have e2 := hxs.frozenAt i
        have HX' : Hid (∃ xs, (wr.setCell ⟨g, i, none⟩ (.string ⟨#[120]⟩)).ownsRow w.heap.size 9 1 (.slice (some ⟨g, 0, none⟩) (l.length + 1) c1) (l.length + 1) xs) := ⟨_, (hxs.stored i (.string ⟨#[120]⟩)).1⟩
        have HB' : Hid (Below w.heap.size w (wr.setCell ⟨g, i, none⟩ (.string ⟨#[120]⟩))) := HB.out.setCell HGL.out _
        clear hxs hxl
        go_wp2_with fail
        exact ⟨⟨i + 1, by go_num, by omega, HX', HB'⟩, by simp [intOf]; omega⟩
      · have ei : l.length = i := by omega
        subst ei
        go_wp2_with (go_at_call 12; refine (fixed_true wr).mono ?_; rintro e w9 ⟨rfl, hb9⟩; have HB9 := hide (HB.out.trans (below_up hb9 HB.out.size)); clear hb9)
        go_ret
        exact ⟨rfl, HB9.out⟩
end Go.Proofs.Ytnhibcadenmglaa
