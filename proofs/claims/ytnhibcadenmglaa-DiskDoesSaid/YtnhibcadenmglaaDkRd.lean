import Derived.Test.YtnhibcadenmglaaDkRc
import Derived.Deep.DeepCutAuto
namespace Go.Proofs.Ytnhibcadenmglaa
open Go.RowKit

/-- what answers leaves -/
def Left (B : Nat) (w w' : World) (b c : Nat) (F G : Nat → Prop) (d : DS) : Prop := ∃ d' F' G', Pr B w' b c F' G' d' d' ∧ d'.R.length ≤ d.R.length + 1 ∧ Mv (Tn F c) (Tn F' c) w w' ∧ ∀ k, G' k → G k ∨ w.heap.size ≤ k
/-- midway: the two boxes of answers stand, and what has been done -/
structure Md (B : Nat) (w : World) (b c : Nat) (F G : Nat → Prop) (x0 x1 x2 x3 : Int) (x4 : ByteArray) (W : World) (F' G' : Nat → Prop) (d e : DS) : Prop where
  pr : Pr B W b c F' G' d e
  mv : Mv (Tn F c) (Tn F' c) w W
  gg : ∀ k, G' k → G k ∨ w.heap.size ≤ k
  k0 : W.heap[w.heap.size]? = some (.cells #[.pointer (some ⟨b, 0, none⟩), .pointer (some ⟨c, 0, none⟩)] 32 (0, 0))
  k1 : W.heap[w.heap.size + 1]? = some (.cells #[.int .i64 x0, .int .i64 x1, .int .i64 x2, .int .i64 x3, .string x4] 58 (0, 0))
  n0 : ¬ Tn F' c w.heap.size
  n1 : ¬ Tn F' c (w.heap.size + 1)
section
variable {B : Nat} {w : World} {b c : Nat} {F G : Nat → Prop} {x0 x1 x2 x3 : Int} {x4 : ByteArray} {W W' : World} {F' G' : Nat → Prop} {d e : DS}
theorem Md.p0 (h : Md B w b c F G x0 x1 x2 x3 x4 W F' G' d e) : W.cell? ⟨w.heap.size, 0, none⟩ = some (.pointer (some ⟨b, 0, none⟩)) := by have := h.k0; simp [World.cell?, this]
theorem Md.p1 (h : Md B w b c F G x0 x1 x2 x3 x4 W F' G' d e) : W.cell? ⟨w.heap.size, 1, none⟩ = some (.pointer (some ⟨c, 0, none⟩)) := by have := h.k0; simp [World.cell?, this]
theorem Md.o1 (h : Md B w b c F G x0 x1 x2 x3 x4 W F' G' d e) : W.cell? ⟨w.heap.size + 1, 1, none⟩ = some (.int .i64 x1) := by have := h.k1; simp [World.cell?, this]
theorem Md.o2 (h : Md B w b c F G x0 x1 x2 x3 x4 W F' G' d e) : W.cell? ⟨w.heap.size + 1, 2, none⟩ = some (.int .i64 x2) := by have := h.k1; simp [World.cell?, this]
theorem Md.o3 (h : Md B w b c F G x0 x1 x2 x3 x4 W F' G' d e) : W.cell? ⟨w.heap.size + 1, 3, none⟩ = some (.int .i64 x3) := by have := h.k1; simp [World.cell?, this]
theorem Md.o4 (h : Md B w b c F G x0 x1 x2 x3 x4 W F' G' d e) : W.cell? ⟨w.heap.size + 1, 4, none⟩ = some (.string x4) := by have := h.k1; simp [World.cell?, this]
theorem Md.lt (h : Md B w b c F G x0 x1 x2 x3 x4 W F' G' d e) : w.heap.size + 1 < W.heap.size := lt_of_block h.k1
theorem Md.below (h : Md B w b c F G x0 x1 x2 x3 x4 W F' G' d e) (hb : Below W.heap.size W W') : Md B w b c F G x0 x1 x2 x3 x4 W' F' G' d e := by
  have := h.lt
  exact ⟨h.pr.below hb, h.mv.trans (Mv.of_below hb), h.gg, (hb.block _ (by omega)).trans h.k0, (hb.block _ this).trans h.k1, h.n0, h.n1⟩
theorem Md.drew (h : Md B w b c F G x0 x1 x2 x3 x4 W F' G' d e) : Md B w b c F G x0 x1 x2 x3 x4 W.drew F' G' d e :=
  ⟨h.pr.drew, ⟨h.mv.os, h.mv.tape, h.mv.output, h.mv.size, h.mv.block, h.mv.foot⟩, h.gg, h.k0, h.k1, h.n0, h.n1⟩
theorem Md.stepd (h : Md B w b c F G x0 x1 x2 x3 x4 W F' G' d e) {F2 : Nat → Prop} {d' : DS} (hD : Dk B W' b F2 d') (hm : Mv F' F2 W W') : Md B w b c F G x0 x1 x2 x3 x4 W' F2 G' d' e := by
  have hl := h.lt
  have far : ∀ k, k < W.heap.size → ¬ Tn F' c k → ¬ Tn F2 c k := fun k hk hn ht => ht.elim (fun hf => (hm.foot k hf).elim (fun h1 => hn (.inl h1)) (fun h1 => absurd hk (by omega))) (fun e => hn (.inr e))
  exact ⟨h.pr.stepd hD hm, h.mv.trans (hm.tn c), h.gg, (hm.block _ (by omega) (fun hf => h.n0 (.inl hf))).trans h.k0, (hm.block _ hl (fun hf => h.n1 (.inl hf))).trans h.k1, far _ (by omega) h.n0, far _ hl h.n1⟩
theorem Md.stepr (h : Md B w b c F G x0 x1 x2 x3 x4 W F' G' d e) {G2 : Nat → Prop} {e' : DS} (hR : Rk B W' c G2 e') (hm : Mv (Is c) (Is c) W W') (hg : ∀ k, G2 k → G' k ∨ W.heap.size ≤ k) : Md B w b c F G x0 x1 x2 x3 x4 W' F' G2 d e' := by
  have hl := h.lt
  exact ⟨h.pr.stepr hR hm hg, h.mv.trans (hm.tnc F'), fun k hk => (hg k hk).elim (h.gg k) (fun h1 => .inr (by omega)), (hm.block _ (by omega) (fun hf => h.n0 (.inr hf))).trans h.k0, (hm.block _ hl (fun hf => h.n1 (.inr hf))).trans h.k1, h.n0, h.n1⟩
theorem Md.first (h : Pr B w b c F G d e) : Md B w b c F G x0 x1 x2 x3 x4 ((w.alloc (.cells #[.pointer (some ⟨b, 0, none⟩), .pointer (some ⟨c, 0, none⟩)] 32)).alloc (.cells #[.int .i64 x0, .int .i64 x1, .int .i64 x2, .int .i64 x3, .string x4] 58)) F G d e := by
  have hb : Below w.heap.size w ((w.alloc (.cells #[.pointer (some ⟨b, 0, none⟩), .pointer (some ⟨c, 0, none⟩)] 32)).alloc (.cells #[.int .i64 x0, .int .i64 x1, .int .i64 x2, .int .i64 x3, .string x4] 58)) := ((Below.refl _ w).alloc (Nat.le_refl _) _).alloc (by rw [World.size_alloc]; omega) _
  have far : ∀ k, w.heap.size ≤ k → ¬ Tn F c k := fun k hk ht => ht.elim (fun hf => absurd (h.hd.ftlt k hf).2 (by omega)) (fun e => absurd h.hr.lt (by omega))
  refine ⟨h.below hb, Mv.of_below hb, fun k hk => .inl hk, ?_, ?_, far _ (Nat.le_refl _), far _ (by omega)⟩
  · rw [Below.heap_alloc _ _ _ (by rw [World.size_alloc]; omega)]; exact heap_alloc_new w _
  · rw [show w.heap.size + 1 = (w.alloc (.cells #[.pointer (some ⟨b, 0, none⟩), .pointer (some ⟨c, 0, none⟩)] 32)).heap.size from (World.size_alloc _ _).symm]; exact heap_alloc_new _ _
theorem Md.left (h : Md B w b c F G x0 x1 x2 x3 x4 W F' G' e e) {d : DS} (hl : e.R.length ≤ d.R.length + 1) : Left B w W b c F G d := ⟨e, F', G', h.pr, hl, h.mv, h.gg⟩
end

set_option maxHeartbeats 2000000 in
set_option maxRecDepth 8000 in
theorem answers_any {B : Nat} {w : World} {b c : Nat} {F G : Nat → Prop} {d : DS} (h : Pr B w b c F G d d) (x0 x1 x2 x3 : Int) (x4 : ByteArray) (hx2 : -9223372036854775808 ≤ x2 ∧ x2 ≤ 9223372036854775807) (hRl : d.R.length ≤ 5864062014634) :
    Calls Try.prog 31 #[.agg #[.pointer (some ⟨b, 0, none⟩), .pointer (some ⟨c, 0, none⟩)], .agg #[.int .i64 x0, .int .i64 x1, .int .i64 x2, .int .i64 x3, .string x4]] w fun e w' => e = .returned (.bool true) ∧ Left B w w' b c F G d := by
  have HM := hide (Md.first (x0 := x0) (x1 := x1) (x2 := x2) (x3 := x3) (x4 := x4) h)
  obtain ⟨W0, hW0⟩ : ∃ W0, ((w.alloc (.cells #[.pointer (some ⟨b, 0, none⟩), .pointer (some ⟨c, 0, none⟩)] 32)).alloc (.cells #[.int .i64 x0, .int .i64 x1, .int .i64 x2, .int .i64 x3, .string x4] 58)) = W0 := ⟨_, rfl⟩
  rw [hW0] at HM
  have p0 := HM.out.p0
  have p1 := HM.out.p1
  have o1 := HM.out.o1
  have o2 := HM.out.o2
  have o3 := HM.out.o3
  have o4 := HM.out.o4
  have hSl := h.hd.ok.s1
  clear h
  by_cases e0 : x1 = 0
  · subst e0
    have HA := hide (read_any HM.out.pr.hd x2)
    have HB := hide (rread_any HM.out.pr.hr x2)
    have HFIN := hide (HM.out.left (d := d) (Nat.le_succ _))
    generalize d.read x2 = rr at *
    go_enter Try.func31, Try.ntmps31
    go_wp2_with (first
      | (go_at_call 25; clear hW0; refine HA.out.mono ?_; rintro e w1 ⟨rfl, e1⟩; have e1' := e1.symm; subst e1'; clear e1)
      | (go_at_call 44; refine HB.out.mono ?_; rintro e w1 ⟨rfl, e1⟩; have e1' := e1.symm; subst e1'; clear e1))
    go_ret
    exact ⟨rfl, HFIN.out⟩
  · have t0 : (x1 == 0) = false := by simpa using e0
    by_cases e1 : x1 = 1
    · subst e1
      have HWa := hide (write_any HM.out.drew.pr.hd x2 x4 (by omega))
      have HWb : Hid (∀ (W5 : World) (F5 : Nat → Prop), Md B w b c F G x0 1 x2 x3 x4 W5 F5 G (d.write x2 x4).2 d → _) := fun W5 F5 (hT : Md B w b c F G x0 1 x2 x3 x4 W5 F5 G (d.write x2 x4).2 d) => rwrite_any hT.pr.hr x2 x4 (by omega)
      have HLEN := hide (d.write_len x2 x4)
      generalize (d.write x2 x4).1 = X at *
      generalize (d.write x2 x4).2 = d2 at *
      go_enter Try.func31, Try.ntmps31
      go_wp2_with fail
      clear hW0
      go_region_held3 (fun w' => w'.cell? ⟨w.heap.size, 0, none⟩ = some (.pointer (some ⟨b, 0, none⟩)) ∧ w'.cell? ⟨w.heap.size, 1, none⟩ = some (.pointer (some ⟨c, 0, none⟩)) ∧ w'.cell? ⟨w.heap.size + 1, 2, none⟩ = some (.int .i64 x2) ∧ w'.cell? ⟨w.heap.size + 1, 4, none⟩ = some (.string x4)) (go_keep) (first
        | (go_at_call 20; refine HWa.out.mono ?_; rintro e w5 ⟨rfl, F5, hD5, hM5⟩; have HM5 := hide (HM.out.drew.stepd hD5 hM5); have a0 := HM5.out.p0; have a1 := HM5.out.p1; have a2 := HM5.out.o2; have a4 := HM5.out.o4; clear hD5 hM5)
        | (go_at_call 45; refine (HWb.out w5 F5 HM5.out).mono ?_; rintro e w6 ⟨rfl, G6, hR6, hM6, hg6⟩; have HM6 := hide (HM5.out.stepr hR6 hM6 hg6); have z0 := HM6.out.p0; have z1 := HM6.out.p1; have z2 := HM6.out.o2; have z4 := HM6.out.o4; clear hR6 hM6 hg6))
      have HFIN := hide (HM6.out.left (d := d) HLEN.out)
      go_wp2_with fail
      go_ret
      exact ⟨rfl, HFIN.out⟩
    · have t1 : (x1 == 1) = false := by simpa using e1
      by_cases e2 : x1 = 2
      · subst e2
        have HWa := hide (arm_any HM.out.drew.pr.hd x2 x3 hx2.2)
        have HWb : Hid (∀ (W5 : World) (F5 : Nat → Prop), Md B w b c F G x0 2 x2 x3 x4 W5 F5 G (d.arm x2 x3).2 d → _) := fun W5 F5 (hT : Md B w b c F G x0 2 x2 x3 x4 W5 F5 G (d.arm x2 x3).2 d) => rarm_any hT.pr.hr x2 x3 hx2.2
        have HLEN : Hid ((d.arm x2 x3).2.R.length ≤ d.R.length + 1) := show _ ≤ _ by
          unfold DS.arm
          split
          · exact Nat.le_succ _
          · split <;> exact Nat.le_succ _
        generalize (d.arm x2 x3).1 = X at *
        generalize (d.arm x2 x3).2 = d2 at *
        go_enter Try.func31, Try.ntmps31
        go_wp2_with fail
        clear hW0
        go_region_held3 (fun w' => w'.cell? ⟨w.heap.size, 0, none⟩ = some (.pointer (some ⟨b, 0, none⟩)) ∧ w'.cell? ⟨w.heap.size, 1, none⟩ = some (.pointer (some ⟨c, 0, none⟩)) ∧ w'.cell? ⟨w.heap.size + 1, 2, none⟩ = some (.int .i64 x2) ∧ w'.cell? ⟨w.heap.size + 1, 3, none⟩ = some (.int .i64 x3)) (go_keep) (first
          | (go_at_call 19; refine HWa.out.mono ?_; rintro e w5 ⟨rfl, hD5, hM5⟩; have HM5 := hide (HM.out.drew.stepd hD5 hM5); have a0 := HM5.out.p0; have a1 := HM5.out.p1; have a2 := HM5.out.o2; have a4 := HM5.out.o3; clear hD5 hM5)
          | (go_at_call 46; refine (HWb.out w5 F HM5.out).mono ?_; rintro e w6 ⟨rfl, hR6, hM6⟩; have HM6 := hide (HM5.out.stepr hR6 hM6 (fun k hk => .inl hk)); have z0 := HM6.out.p0; have z1 := HM6.out.p1; have z2 := HM6.out.o2; have z4 := HM6.out.o3; clear hR6 hM6))
        have HFIN := hide (HM6.out.left (d := d) HLEN.out)
        go_wp2_with fail
        go_ret
        exact ⟨rfl, HFIN.out⟩
      · have t2 : (x1 == 2) = false := by simpa using e2
        by_cases e3 : x1 = 3
        · subst e3
          have HWa := hide (revive_any HM.out.pr.hd)
          go_enter Try.func31, Try.ntmps31
          go_wp2_with fail
          clear hW0
          refine HWa.out.mono ?_
          rintro e w5 ⟨rfl, hD5, hM5⟩
          have HM5 := hide (HM.out.stepd hD5 hM5)
          have a0 := HM5.out.p0
          have a1 := HM5.out.p1
          have HWb := hide (rrevive_any HM5.out.pr.hr)
          clear hD5 hM5 HWa p0 p1 o1 o2 o3 o4
          go_wp2_with fail
          refine HWb.out.mono ?_
          rintro e w6 ⟨rfl, hR6, hM6⟩
          have HM6 := hide (HM5.out.stepr hR6 hM6 (fun k hk => .inl hk))
          have HLEN : Hid (d.revive.R.length ≤ d.R.length + 1) := Nat.le_succ d.R.length
          clear hR6 hM6 HWb a0 a1 HM5
          generalize d.revive = d2 at *
          obtain ⟨adS, cS, abS, adR, cR, abR, r0, r1, r4, _, _, hv, _⟩ := HM6.out.pr.hr.cells
          have HV := hide hv
          clear hv r1
          have q0 := HM6.out.p0
          have q1 := HM6.out.p1
          have HDD := hide (dead_any HM6.out.drew.pr.hd)
          have HSZ := hide (size_any HM6.out.drew.pr.hd)
          have HFIN := hide (HM6.out.drew.left (d := d) (HLEN.out))
          go_wp2_with fail
          first | (go_region_held3 (fun w' => w'.cell? ⟨w.heap.size, 0, none⟩ = some (.pointer (some ⟨b, 0, none⟩)) ∧ w'.cell? ⟨w.heap.size, 1, none⟩ = some (.pointer (some ⟨c, 0, none⟩)) ∧ w'.cell? ⟨c, 0, none⟩ = some (.slice adS (d2).S.length cS) ∧ w'.cell? ⟨c, 4, none⟩ = some (.bool (d2).dead)) (go_keep) (first
            | (go_at_call 23; refine HDD.out.mono ?_; rintro e w8 ⟨rfl, rfl⟩)
            | (go_at_call 26; refine HSZ.out.mono ?_; rintro e w8 ⟨rfl, rfl⟩))) | fail
          go_wp2_with fail
          go_ret
          exact ⟨rfl, HFIN.out⟩
        · have t3 : (x1 == 3) = false := by simpa using e3
          by_cases e4 : x1 = 4
          · subst e4
            have HWa := hide (raw_rw HM.out.drew.pr.hd (by omega))
            obtain ⟨adS, cS, abS, adR, cR, abR, r0, r1, r4, _, hrr, hv, _⟩ := HM.out.pr.hr.cells
            have HV := hide hv
            have HRR := hide hrr
            have HRV : Hid (∀ W5, Below W0.heap.size W0 W5 → W5.cell? ⟨c, 1, none⟩ = some (.slice adR d.R.length cR) ∧ Rw W5 adR abR 0 d.R) := fun W5 hb => ⟨(HV.out.below hb).c1, HRR.out.below hb⟩
            clear hv hrr r0 r4
            go_enter Try.func31, Try.ntmps31
            go_wp2_with fail
            clear hW0
            go_region_held3 (fun w' => w'.cell? ⟨w.heap.size, 0, none⟩ = some (.pointer (some ⟨b, 0, none⟩)) ∧ w'.cell? ⟨w.heap.size, 1, none⟩ = some (.pointer (some ⟨c, 0, none⟩)) ∧ w'.cell? ⟨c, 1, none⟩ = some (.slice adR d.R.length cR)) (go_keep) (first
              | (go_at_call 21; refine HWa.out.mono ?_; rintro e w5 ⟨ad5, cap5, ab5, rfl, hr5, _, hb5⟩; have HR5 := hide hr5; have HB5 := hide (below_drew hb5); have HM5 := hide (HM.out.drew.below hb5); have a0 := HM5.out.p0; have a1 := HM5.out.p1; have a2 := (HRV.out w5 (below_drew hb5)).1; clear hr5 hb5)
              | (go_at_call 18; refine (sameRaw_b (l := d.R) HR5.out (HRV.out w5 HB5.out).2 hRl).mono ?_; rintro e w6 ⟨rfl, hb6⟩; have HM6 := hide (HM5.out.below hb6); have z0 := HM6.out.p0; have z1 := HM6.out.p1; have z2 := (HRV.out w6 (HB5.out.trans (below_up hb6 HB5.out.size))).1; clear hb6))
            have HFIN := hide (HM6.out.left (d := d) (Nat.le_succ _))
            go_wp2_with fail
            go_ret
            exact ⟨rfl, HFIN.out⟩
          · have t4 : (x1 == 4) = false := by simpa using e4
            by_cases e5 : x1 = 5
            · subst e5
              have HWa := hide (forget_any HM.out.pr.hd)
              go_enter Try.func31, Try.ntmps31
              go_wp2_with fail
              clear hW0
              refine HWa.out.mono ?_
              rintro e w5 ⟨rfl, F5, hD5, hM5⟩
              have HM5 := hide (HM.out.stepd hD5 hM5)
              have a0 := HM5.out.p0
              have a1 := HM5.out.p1
              obtain ⟨adS, cS, abS, adR, cR, abR, r0, r1, r4, _, hrr, hv, _⟩ := HM5.out.pr.hr.cells
              have rz := hv.z
              obtain ⟨G6, hR6, hM6, hg6⟩ := rk_forget HM5.out.pr.hr
              have HM6 := hide (HM5.out.stepr hR6 hM6 (fun k hk => .inl (hg6 k hk)))
              have HLEN : Hid (d.forget.R.length ≤ d.R.length + 1) := Nat.zero_le _
              clear hD5 hM5 HWa p0 p1 o1 o2 o3 o4 hv hR6 hM6 hg6 hrr
              generalize d.forget = d2 at *
              go_upto_region 20 with fail
              clear r0 r1 r4 a0 a1 rz
              generalize w5.setCell ⟨c, 1, none⟩ (.slice none 0 0) = w6 at *
              obtain ⟨adS, cS, abS, adR, cR, abR, r0, r1, r4, _, _, hv, _⟩ := HM6.out.pr.hr.cells
              have HV := hide hv
              clear hv r1
              have q0 := HM6.out.p0
              have q1 := HM6.out.p1
              have HDD := hide (dead_any HM6.out.drew.pr.hd)
              have HSZ := hide (size_any HM6.out.drew.pr.hd)
              have HFIN := hide (HM6.out.drew.left (d := d) (HLEN.out))
              go_wp2_with fail
              first | (go_region_held3 (fun w' => w'.cell? ⟨w.heap.size, 0, none⟩ = some (.pointer (some ⟨b, 0, none⟩)) ∧ w'.cell? ⟨w.heap.size, 1, none⟩ = some (.pointer (some ⟨c, 0, none⟩)) ∧ w'.cell? ⟨c, 0, none⟩ = some (.slice adS (d2).S.length cS) ∧ w'.cell? ⟨c, 4, none⟩ = some (.bool (d2).dead)) (go_keep) (first
                | (go_at_call 23; refine HDD.out.mono ?_; rintro e w8 ⟨rfl, rfl⟩)
                | (go_at_call 26; refine HSZ.out.mono ?_; rintro e w8 ⟨rfl, rfl⟩))) | fail
              go_wp2_with fail
              go_ret
              exact ⟨rfl, HFIN.out⟩
            · have t5 : (x1 == 5) = false := by simpa using e5
              by_cases e6 : x1 = 6
              · subst e6
                have HWa := hide (sectors_rs HM.out.drew.pr.hd)
                obtain ⟨adS, cS, abS, adR, cR, abR, r0, r1, r4, hrs, _, hv, _⟩ := HM.out.pr.hr.cells
                have HV := hide hv
                have HRR := hide hrs
                have HRV : Hid (∀ W5, Below W0.heap.size W0 W5 → W5.cell? ⟨c, 0, none⟩ = some (.slice adS d.S.length cS) ∧ Rs W5 adS abS 0 d.S) := fun W5 hb => ⟨(HV.out.below hb).c0, HRR.out.below hb⟩
                clear hv hrs r1 r4
                go_enter Try.func31, Try.ntmps31
                go_wp2_with fail
                clear hW0
                go_region_held3 (fun w' => w'.cell? ⟨w.heap.size, 0, none⟩ = some (.pointer (some ⟨b, 0, none⟩)) ∧ w'.cell? ⟨w.heap.size, 1, none⟩ = some (.pointer (some ⟨c, 0, none⟩)) ∧ w'.cell? ⟨c, 0, none⟩ = some (.slice adS d.S.length cS)) (go_keep) (first
                  | (go_at_call 22; refine HWa.out.mono ?_; rintro e w5 ⟨ad5, cap5, ab5, rfl, hr5, _, hb5⟩; have HR5 := hide hr5; have HB5 := hide (below_drew hb5); have HM5 := hide (HM.out.drew.below hb5); have a0 := HM5.out.p0; have a1 := HM5.out.p1; have a2 := (HRV.out w5 (below_drew hb5)).1; clear hr5 hb5)
                  | (go_at_call 15; refine (same_b (l := d.S) HR5.out (HRV.out w5 HB5.out).2 (by omega)).mono ?_; rintro e w6 ⟨rfl, hb6⟩; have HM6 := hide (HM5.out.below hb6); have z0 := HM6.out.p0; have z1 := HM6.out.p1; have z2 := (HRV.out w6 (HB5.out.trans (below_up hb6 HB5.out.size))).1; clear hb6))
                have HFIN := hide (HM6.out.left (d := d) (Nat.le_succ _))
                go_wp2_with fail
                go_ret
                exact ⟨rfl, HFIN.out⟩
              · have t6 : (x1 == 6) = false := by simpa using e6
                have HLEN : Hid (d.R.length ≤ d.R.length + 1) := Nat.le_succ _
                go_enter Try.func31, Try.ntmps31
                go_upto_region 20 with fail
                clear hW0 p0 p1 o1 o2 o3 o4
                obtain ⟨adS, cS, abS, adR, cR, abR, r0, r1, r4, _, _, hv, _⟩ := HM.out.pr.hr.cells
                have HV := hide hv
                clear hv r1
                have q0 := HM.out.p0
                have q1 := HM.out.p1
                have HDD := hide (dead_any HM.out.drew.pr.hd)
                have HSZ := hide (size_any HM.out.drew.pr.hd)
                have HFIN := hide (HM.out.drew.left (d := d) (HLEN.out))
                go_wp2_with fail
                first | (go_region_held3 (fun w' => w'.cell? ⟨w.heap.size, 0, none⟩ = some (.pointer (some ⟨b, 0, none⟩)) ∧ w'.cell? ⟨w.heap.size, 1, none⟩ = some (.pointer (some ⟨c, 0, none⟩)) ∧ w'.cell? ⟨c, 0, none⟩ = some (.slice adS (d).S.length cS) ∧ w'.cell? ⟨c, 4, none⟩ = some (.bool (d).dead)) (go_keep) (first
                  | (go_at_call 23; refine HDD.out.mono ?_; rintro e w8 ⟨rfl, rfl⟩)
                  | (go_at_call 26; refine HSZ.out.mono ?_; rintro e w8 ⟨rfl, rfl⟩))) | fail
                go_wp2_with fail
                go_ret
                exact ⟨rfl, HFIN.out⟩
end Go.Proofs.Ytnhibcadenmglaa
