import Derived.Test.YtnbmgddkaclneaaNtO
import Derived.Test.YtnbmgddkaclneaaNtH
namespace Go.Proofs.Ytnbmgddkaclneaa
open Go.RowKit Go.Shelf

attribute [local go_sem] Oper.semAt_some

set_option maxRecDepth 100000 in
set_option maxHeartbeats 2000000 in
theorem same_any {base : Nat} {w : World} {b b2 : Nat} {v v2 : Value} {l : List Dg} {s : Int} (hB : Bag 58 base w b v l s) (hR : Bag 30 base w b2 v2 l s) (hl : l.length * 56 ≤ 140737488355328) :
    Calls Try.prog 12 #[.pointer (some ⟨b, 0, none⟩), .pointer (some ⟨b2, 0, none⟩)] w fun e w' => e = .returned (.bool true) ∧ Below w.heap.size w w' := by
  refine (callsIn_wide (n := 6)).1 ?_
  refine callsIn_of_wp_marks Try.func12 rfl trivial ?_ rfl
  simp only [Try.ntmps12, List.size_toArray, List.length_cons, List.length_nil, Nat.reduceAdd, Nat.reduceSub, Array.replicate_succ, Array.replicate_zero, List.push_toArray, List.append_toArray, List.nil_append, List.cons_append]
  have HB := hide hB
  have HR := hide hR
  have hbl := hB.lt
  have hrl := hR.lt
  clear hB hR
  gi_wp2_with fail
  have HB1 := hide ((HB.out.alloc (.cells #[.pointer (some ⟨b2, 0, none⟩)] 27)).alloc (.cells #[.bool false] 4))
  have HR1 := hide ((HR.out.alloc (.cells #[.pointer (some ⟨b2, 0, none⟩)] 27)).alloc (.cells #[.bool false] 4))
  have HL1 := hide (((Below.refl _ w).alloc (Nat.le_refl _) (.cells #[.pointer (some ⟨b2, 0, none⟩)] 27)).alloc (by simp) (.cells #[.bool false] 4))
  have hx3 : ((w.alloc (.cells #[.pointer (some ⟨b2, 0, none⟩)] 27)).alloc (.cells #[.bool false] 4)).heap[w.heap.size]? = some (.cells #[.pointer (some ⟨b2, 0, none⟩)] 27 (0, 0)) := (Below.heap_alloc _ _ _ (by simp)).trans (heap_alloc_new w _)
  have hx4 : ((w.alloc (.cells #[.pointer (some ⟨b2, 0, none⟩)] 27)).alloc (.cells #[.bool false] 4)).heap[w.heap.size + 1]? = some (.cells #[.bool false] 4 (0, 0)) := by have := heap_alloc_new (w.alloc (.cells #[.pointer (some ⟨b2, 0, none⟩)] 27)) (.cells #[.bool false] 4); rw [World.size_alloc] at this; exact this
  have hsz : ((w.alloc (.cells #[.pointer (some ⟨b2, 0, none⟩)] 27)).alloc (.cells #[.bool false] 4)).heap.size = w.heap.size + 2 := by simp
  generalize (w.alloc (.cells #[.pointer (some ⟨b2, 0, none⟩)] 27)).alloc (.cells #[.bool false] 4) = W1 at *
  have HX3 := hide hx3
  have HX4 := hide hx4
  have HSZ := hide hsz
  have d3 : W1.cell? ⟨w.heap.size, 0, none⟩ = some (.pointer (some ⟨b2, 0, none⟩)) := Boxed.cell hx3
  obtain ⟨ad2, cap2, hv2, _, _, _⟩ := HR1.out.form
  have e0 := HR1.out.c0
  have e1 := HR1.out.c1
  rw [hv2] at e0
  have HV2 := hide hv2
  clear hx3 hx4 hsz hv2
  have bq1 : ((l.length : Int) != (l.length : Int)) = false := by simp
  have bq2 : (s != s) = false := by simp
  refine wpIn_wide.2 ?_
  go_quiet ((first | (go_at_call 18; exact Calls.quiet_of_same (len_any (HB1.out.keep (w' := W1.drewN _) (fun _ _ => rfl)))) | (go_at_call 20; exact Calls.quiet_of_same (sent_any (HB1.out.keep (w' := W1.drewN _) (fun _ _ => rfl))))))
  have HB2 := hide (HB1.out.keep (w' := W1.drewN nq) (fun _ _ => rfl))
  have HR2 := hide (HR1.out.keep (w' := W1.drewN nq) (fun _ _ => rfl))
  have HL2 : Hid (Below w.heap.size w (W1.drewN nq)) := ⟨HL1.out.os, HL1.out.tape, HL1.out.output, HL1.out.size, HL1.out.block⟩
  have HX32 : Hid (Boxed (W1.drewN nq) w.heap.size 27 (.pointer (some ⟨b2, 0, none⟩))) := HX3.out
  have HX42 : Hid (Boxed (W1.drewN nq) (w.heap.size + 1) 4 (.bool false)) := HX4.out
  have hsz : (W1.drewN nq).heap.size = w.heap.size + 2 := HSZ.out
  generalize W1.drewN nq = W2 at *
  clear HB1 HR1 HL1 HX3 HX4 HSZ d3 e0 e1 bq1 bq2
  gi_wp2_with fail
  refine ⟨trivial, (all_in _ b _).mono ?_⟩
  rintro e w' ⟨rfl, rfl⟩
  gi_wp2_with fail
  have HBl := hide ((HB2.out.alloc (.cells #[.int .i64 0] 3)).alloc (.cells #[.pointer (some ⟨b, 0, none⟩)] 23))
  have HRl := hide ((HR2.out.alloc (.cells #[.int .i64 0] 3)).alloc (.cells #[.pointer (some ⟨b, 0, none⟩)] 23))
  have HLl := hide ((HL2.out.alloc HL2.out.size (.cells #[.int .i64 0] 3)).alloc (by rw [World.size_alloc]; exact Nat.le_succ_of_le HL2.out.size) (.cells #[.pointer (some ⟨b, 0, none⟩)] 23))
  have X3 := hide ((HX32.out.alloc (.cells #[.int .i64 0] 3)).alloc (.cells #[.pointer (some ⟨b, 0, none⟩)] 23))
  have X4 := hide ((HX42.out.alloc (.cells #[.int .i64 0] 3)).alloc (.cells #[.pointer (some ⟨b, 0, none⟩)] 23))
  have X5 : Hid (Boxed ((W2.alloc (.cells #[.int .i64 0] 3)).alloc (.cells #[.pointer (some ⟨b, 0, none⟩)] 23)) (w.heap.size + 2) 3 (.int .i64 0)) := by
    have := (Boxed.new W2 3 (.int .i64 0)).alloc (.cells #[.pointer (some ⟨b, 0, none⟩)] 23)
    rw [hsz] at this
    exact this
  have X6 : Hid (Boxed ((W2.alloc (.cells #[.int .i64 0] 3)).alloc (.cells #[.pointer (some ⟨b, 0, none⟩)] 23)) (w.heap.size + 3) 23 (.pointer (some ⟨b, 0, none⟩))) := by
    have := Boxed.new (W2.alloc (.cells #[.int .i64 0] 3)) 23 (.pointer (some ⟨b, 0, none⟩))
    rw [World.size_alloc, hsz] at this
    exact this
  have SZ : Hid (((W2.alloc (.cells #[.int .i64 0] 3)).alloc (.cells #[.pointer (some ⟨b, 0, none⟩)] 23)).heap.size = w.heap.size + 4) := by show _ = _; rw [World.size_alloc, World.size_alloc, hsz]
  generalize (W2.alloc (.cells #[.int .i64 0] 3)).alloc (.cells #[.pointer (some ⟨b, 0, none⟩)] 23) = Wl at *
  clear HB2 HR2 HL2 HX32 HX42 hsz
  refine wpIn_rangeFunc_ownH rfl (by decide) (gf := 28) (lb := #[.pointer (some ⟨w.heap.size + 3, 0, none⟩)]) rfl trivial (enters_of Try.func28 (by kernel_rfl) rfl)
    (all_stops 5 (by decide) (w.heap.size + 3) b base v l s (fun _ k => k = w.heap.size + 2) Wl (fun _ _ _ _ _ _ h => h) (fun A A' hA hA' k hk e => by have h1 := hA.size; have h2 := SZ.out; omega) X6.out.lt X6.out.cell HBl.out hl)
    Kc.trans (fun W k o o' hk ho hc _ => ⟨by simp, fun j p hj hp _ => (World.putObj_heap_other (fun e => by subst e; rw [hj] at ho; injection ho with ho; rw [ho, hc] at hp; cases hp)).trans hj, fun _ h => .inl h⟩) (Below.refl _ _) (fun _ => rfl)
    (fun pre W => pre = List.range pre.length ∧ (Boxed W (w.heap.size + 2) 3 (.int .i64 (pre.length : Int)) ∧ Boxed W (w.heap.size + 1) 4 (.bool false) ∧ Boxed W w.heap.size 27 (.pointer (some ⟨b2, 0, none⟩))) ∧ Below w.heap.size w W)
    (fun _ pre _ => pre ≠ List.range pre.length)
    (OwnFrom.and (ownFrom_pure _ _) (OwnFrom.and (OwnFrom.and (Own.from (boxed_own _ _ _) _) (OwnFrom.and (Own.from (boxed_own _ _ _) _) (Own.from (boxed_own _ _ _) _))) (ownFrom_below (Nat.le_refl _) HLl.out.size)))
    (fun _ => ownFrom_pure _ _)
    ⟨rfl, ⟨X5.out, X4.out, X3.out⟩, HLl.out⟩
    (fun x a' W => ∃ Bx, W.heap[Bx]? = some (.cells #[.int .i64 (l[x]?.getD dg0).num, .int .i64 (l[x]?.getD dg0).fn, .int .i64 (l[x]?.getD dg0).fl, .int .i64 (l[x]?.getD dg0).tn, .int .i64 (l[x]?.getD dg0).tl, .string (l[x]?.getD dg0).data] 46 (0, 0)) ∧ a' = { tmps := #[.pointer (some ⟨b, 0, none⟩), .pointer (some ⟨b2, 0, none⟩), undef, .pointer (some ⟨w.heap.size, 0, none⟩), .pointer (some ⟨w.heap.size + 1, 0, none⟩), .pointer (some ⟨w.heap.size + 2, 0, none⟩), .int .i64 (x : Int), .pointer (some ⟨Bx, 0, none⟩), .pointer (some ⟨b, 0, none⟩), .int .i64 (l.length : Int), .pointer (some ⟨b2, 0, none⟩), .pointer (some ⟨b2, 0, none⟩), .pointer (some ⟨b2, 0, none⟩), .slice ad2 l.length cap2, .int .i64 (l.length : Int), .bool false, .bool false, .pointer (some ⟨b, 0, none⟩), .int .i64 s, .pointer (some ⟨b2, 0, none⟩), .pointer (some ⟨b2, 0, none⟩), .pointer (some ⟨b2, 1, none⟩), .int .i64 s, .bool false, .bool false, .pointer (some ⟨b, 0, none⟩), .func (.func 28) #[] #[.pointer (some ⟨w.heap.size + 3, 0, none⟩)], .int .i64 (x : Int), (l[x]?.getD dg0).val, undef, undef, undef, undef, undef, undef, undef, undef, undef, undef, undef, undef, undef, undef, undef, undef, undef, undef, undef, undef, undef, undef, undef, undef, undef, undef, undef, undef, undef, undef, undef, undef], defers := [] })
    ?hAx ?assign ?body ?done ?stop
  case hAx =>
    rintro x a' _ X Y row ⟨Bx, h2, h3⟩ hg hr
    refine ⟨Bx, (hg.block Bx (lt_of_block h2) (fun e => ?_)).trans h2, h3⟩
    obtain ⟨_, o, ho, hc⟩ := hr Bx e.symm
    rw [h2] at ho
    cases ho
    cases hc
  case assign =>
    rintro k pre x W K ⟨hp, ⟨b5, b4, b3⟩, hBw⟩ hK
    gi_wp2
    exact hK _ _ ((KeepsOthers.alloc _ _).from _) ⟨by simp, fun j p hj _ _ => (Below.heap_alloc W _ j (lt_of_block hj)).trans hj, fun _ h => .inl h⟩ ⟨hp, ⟨b5.alloc _, b4.alloc _, b3.alloc _⟩, hBw.alloc hBw.size _⟩ ⟨W.heap.size, heap_alloc_new W _, rfl⟩
  case body =>
    rintro k pre x a' W hk ⟨r, hr⟩ ⟨hp, ⟨b5, b4, b3⟩, hBw⟩ ⟨Bx, hx, rfl⟩ hlen
    have HRw := hide (HR.out.below hBw)
    have e0 := HRw.out.c0
    have hv2 := HV2.out
    rw [hv2] at e0
    have d5 := b5.cell
    have f5 := b5.frozen
    have d3 := b3.cell
    have d4 := b4.cell
    have f4 := b4.frozen
    obtain ⟨⟨x0, x1, x2, x3, x4, x5⟩, xz⟩ := six_of hx
    have H5 := hide b5
    have H4 := hide b4
    have H3 := hide b3
    have HP := hide hp
    have HW := hide hBw
    clear b5 b4 b3 hp hBw hv2 hr
    have hge : decide (l.length ≤ pre.length) = false := by simp; omega
    by_cases hxe : x = pre.length
    · subst hxe
      have hR0 := HRw.out
      rw [HV2.out] at hR0
      obtain ⟨g2, hg2⟩ : ∃ g, ad2 = some ⟨g, 0, none⟩ := by
        rcases own_form hR0.row with ⟨h1, h2⟩ | ⟨g, cap, h1, _⟩
        · omega
        · injection h1 with h1; exact ⟨g, h1⟩
      subst hg2
      obtain ⟨y0, y1, y2, y3, y4, y5⟩ := own_get hR0.row hlen
      have HXX := hide hx
      clear hR0 hx
      have hlI : (pre.length : Int) < (l.length : Int) := by omega
      generalize l[pre.length]?.getD dg0 = d at *
      have hq : ∀ W, (binOp .neq 46 (.agg #[.int .i64 d.num, .int .i64 d.fn, .int .i64 d.fl, .int .i64 d.tn, .int .i64 d.tl, .string d.data]) (.agg #[.int .i64 d.num, .int .i64 d.fn, .int .i64 d.fl, .int .i64 d.tn, .int .i64 d.tl, .string d.data])).run Try.prog W = .ok (.bool false) W := fun W => neqD_self d W
      have hgd : ∀ y z w, (eqGuard .neq 46 y z (.agg #[.int .i64 d.num, .int .i64 d.fn, .int .i64 d.fl, .int .i64 d.tn, .int .i64 d.tl, .string d.data]) (.agg #[.int .i64 d.num, .int .i64 d.fn, .int .i64 d.fl, .int .i64 d.tn, .int .i64 d.tl, .string d.data])).run Try.prog w = .ok () w := fun y z w => guardD _ _ _ _ _ w
      gi_wp2_with fail
      refine quiet_round (by kernel_rfl) (by kernel_rfl) (by kernel_rfl) ?_
      repeat (gi_big_quiet_step (fail))
      refine wpQuietIn_nil ?_
      intro _ hw'
      obtain ⟨nq, hw''⟩ := hw'
      subst hw''
      gi_wp2_with fail
      have h5 : Boxed (W.drewN nq) (w.heap.size + 2) 3 (.int .i64 (pre.length : Int)) := H5.out
      have h4 : Boxed (W.drewN nq) (w.heap.size + 1) 4 (.bool false) := H4.out
      have h3 : Boxed (W.drewN nq) w.heap.size 27 (.pointer (some ⟨b2, 0, none⟩)) := H3.out
      have hB : Below w.heap.size w (W.drewN nq) := ⟨HW.out.os, HW.out.tape, HW.out.output, HW.out.size, HW.out.block⟩
      refine ⟨((⟨Nat.le_refl _, fun _ _ h _ => h⟩ : KeepsOthers W (W.drewN nq)).trans (KeepsOthers.setCell _ _ _)).from _, ⟨by show W.heap.size ≤ ((W.drewN nq).heap.modify _ _).size; rw [Array.size_modify]; exact Nat.le_refl _, fun j p hj _ hn => (Below.heap_setCell (W.drewN nq) ⟨w.heap.size + 2, 0, none⟩ _ j hn).trans hj, fun _ h => .inl h⟩, ?_, ⟨?_, h4.other (by omega) _, h3.other (by omega) _⟩, hB.setCell (p := ⟨w.heap.size + 2, 0, none⟩) (by simp) _⟩
      · rw [List.length_append, List.length_singleton, List.range_succ, ← HP.out]
      · have := h5.set (.int .i64 ((pre.length : Int) + 1))
        rw [List.length_append, List.length_singleton]
        exact this
    · have hne1 : ((x : Int) != (pre.length : Int)) = true := by simp; omega
      have hne2 : (x == pre.length) = false := by simp; exact hxe
      have HXE := hide hxe
      clear hx
      gi_wp2_with fail
      refine quiet_round (by kernel_rfl) (by kernel_rfl) (by kernel_rfl) ?_
      repeat (gi_big_quiet_step (fail))
      refine wpQuietIn_nil ?_
      intro _ hw'
      obtain ⟨nq, hw''⟩ := hw'
      subst hw''
      gi_wp2_with fail
      refine ⟨((⟨Nat.le_refl _, fun _ _ h _ => h⟩ : KeepsOthers W (W.drewN nq)).trans (KeepsOthers.setCell _ _ _)).from _, fun e => ?_⟩
      rw [List.length_append, List.length_singleton, List.range_succ, ← HP.out] at e
      have := List.append_cancel_left e
      simp at this
      exact HXE.out this
  case done =>
    rintro D ys W hD rfl ⟨_, ⟨b5, b4, b3⟩, hBw⟩ hK
    have HRw := hide (HR.out.below hBw)
    have e0 := HRw.out.c0
    have hv2 := HV2.out
    rw [hv2] at e0
    rw [List.length_range] at b5
    have d5 := b5.cell
    have d3 := b3.cell
    have d4 := b4.cell
    have f4 := b4.frozen
    have H4 := hide b4
    have HW := hide hBw
    have HK := hide hK
    clear b5 b4 b3 hBw hv2 hK
    have hne : b2 ≠ w.heap.size + 1 := by omega
    have hkp : ∀ u, (W.setCell ⟨w.heap.size + 1, 0, none⟩ u).drew.cell? ⟨b2, 0, none⟩ = some (.slice ad2 l.length cap2) := fun u => (World.cell?_setCell_far W ⟨w.heap.size + 1, 0, none⟩ ⟨b2, 0, none⟩ u (Ne.symm hne)).trans e0
    gi_wp2_with fail
    refine wpIn_wide.2 ?_
    go_region_held3 (fun w' => w'.cell? ⟨w.heap.size + 2, 0, none⟩ = some (.int .i64 (l.length : Int)) ∧ w'.cell? ⟨w.heap.size, 0, none⟩ = some (.pointer (some ⟨b2, 0, none⟩)) ∧ w'.cell? ⟨b2, 0, none⟩ = some (.slice ad2 l.length cap2)) (go_keep) (fail)
    gi_wp2_with fail
    have hB : Below w.heap.size w (W.setCell ⟨w.heap.size + 1, 0, none⟩ (.bool true)).drew := (HW.out.setCell (p := ⟨w.heap.size + 1, 0, none⟩) (by simp) _).drew
    have hK' : (W.setCell ⟨w.heap.size + 1, 0, none⟩ (.bool true)).drew.heap[D]? = some (.deferred (some [])) := (KeepsOthers.setCell W ⟨w.heap.size + 1, 0, none⟩ (.bool true)).same D _ HK.out rfl
    refine ⟨by simp, .inl ⟨_, _, rfl, run_takeDeferred hK', ?_⟩⟩
    have h4 : Boxed (W.setCell ⟨w.heap.size + 1, 0, none⟩ (.bool true)).drew (w.heap.size + 1) 4 (.bool true) := H4.out.set (.bool true)
    have hc5 := cell_kept h4.cell (grownBy_putObj' _ D (.deferred none)) (fun r e => by cases e; exact ⟨_, hK', rfl⟩)
    refine ⟨.bool true, ?_, rfl, hB.trans (belowK_b (w := w) (Nat.le_refl _) _ D _ _ (by have := SZ.out; omega) hK' rfl rfl)⟩
    simp [results, Try.f12, go_sem, hc5]
  case stop =>
    rintro D c pre W hD ⟨k, hk, rfl⟩ h hK
    exact absurd (by simp) h
end Go.Proofs.Ytnbmgddkaclneaa
