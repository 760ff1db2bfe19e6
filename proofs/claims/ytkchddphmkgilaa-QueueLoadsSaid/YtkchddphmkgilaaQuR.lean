import Derived.Test.YtkchddphmkgilaaQuP
namespace Go.Proofs.Ytkchddphmkgilaa
open Go.RowKit

/-- an attempt that ends without a result, with one -/
def xp (m : Int) (r : Rr) : Rr := ⟨r.job, if r.att = m then 4 else 1, r.att, r.bdg, 0, 0, r.code, r.bits⟩
def stl (r : Rr) (c x : Int) : Rr := ⟨r.job, 3, r.att, r.bdg, 0, 0, c, x⟩
def exJ (L : List Rr) (g : Int) : Int := match hix g L with | none => 0 | some i => (i : Int) + 1
def exE (L : List Rr) (g : Int) : Int := match hix g L with | none => 113 | some _ => 0
def exL (m : Int) (L : List Rr) (g : Int) : List Rr := match hix g L with | none => L | some i => L.set i (xp m (L.getD i rr0))
def seJ (L : List Rr) (g c x : Int) : Int := match hix g L with | none => 0 | some i => if xMay c x then (i : Int) + 1 else 0
def seE (L : List Rr) (g c x : Int) : Int := match hix g L with | none => 113 | some _ => if xMay c x then 0 else 1
def seL (L : List Rr) (g c x : Int) : List Rr := match hix g L with | none => L | some i => if xMay c x then L.set i (stl (L.getD i rr0) c x) else L
section
variable {base : Nat} {w : World} {b : Nat} {v : Value} {L : List Rr} {m : Int}
theorem Qm.drewN {T : Nat} (h : Qm T base w b v m L) (n : Nat) : Qm T base (w.drewN n) b v m L := h.keep fun _ _ => rfl
theorem mv_drewN {F F' : Nat → Prop} {w w' : World} (h : Mv F F' w w') (n : Nat) : Mv F F' w (w'.drewN n) := ⟨h.os, h.tape, h.output, h.size, h.block, h.foot⟩
theorem hldB_none (hk : ROk m L) {g : Int} (hx : hix g L = none) : hldB g L = false := by
  unfold hldB
  rw [decide_eq_false (hld_none hk hx), Bool.and_false]
theorem hldB_some (hk : ROk m L) {g : Int} {i : Nat} (hx : hix g L = some i) : ∃ hi : i < L.length, hldB g L = true ∧ fnd g L = L[i] ∧ L.getD i rr0 = L[i] := by
  obtain ⟨hi, h1, h2, h3⟩ := hld_some hk hx
  refine ⟨hi, ?_, h1, by rw [List.getD_eq_getElem?_getD, List.getElem?_eq_getElem hi]; rfl⟩
  have h4 := hk.job i hi
  unfold hldB
  rw [h1, decide_eq_true h2, Bool.and_true, decide_eq_false (fun e => by rw [e] at h4; simp [rr0] at h4; omega)]
  rfl
set_option maxHeartbeats 1000000 in
set_option maxRecDepth 8000 in
theorem expire_any (h : Qm 47 base w b v m L) (hk : Ok m L) (g : Int) : Calls Try.prog 52 #[.pointer (some ⟨b, 0, none⟩), .int .i64 g] w fun e w' => e = .returned (.tuple #[.int .i64 (exJ L g), .int .i64 (exE L g)]) ∧ Qm 47 base w' b v m (exL m L g) ∧ Mv (Ft b v) (Ft b v) w w' := by
  have hl := hk.len
  have hlt := h.lt
  have hvl : ∀ k, Ft b v k → k < w.heap.size := fun k hk => (h.ftlt k hk).2
  have HQ := hide h
  have HH := hide (qheld_any h hl g)
  cases hx : hix g L with
  | none =>
    have HE1 : Hid (exJ L g = 0) := by show exJ L g = 0; unfold exJ; rw [hx]
    have HE2 : Hid (exE L g = 113) := by show exE L g = 113; unfold exE; rw [hx]
    have HE3 : Hid (exL m L g = L) := by show exL m L g = L; unfold exL; rw [hx]
    rw [hldB_none hk.toROk hx] at HH
    clear h hk hx
    go_enter Try.func52, Try.ntmps52
    go_wp2_with fail
    refine HH.out.mono ?_
    rintro e w1 ⟨rfl, hB1⟩
    have HQ1 := hide ((HQ.out.below hB1).alloc (fnd g L).obj)
    have HM1 : Hid (Mv (Ft b v) (Ft b v) w (w1.alloc (fnd g L).obj)) := hide (mv_alloc (Mv.of_below hB1) _)
    clear HQ HH hB1
    go_wp2
    go_ret2
    rw [HE1.out, HE2.out, HE3.out]
    exact ⟨rfl, HQ1.out, HM1.out⟩
  | some i =>
    obtain ⟨hi, e1, e2, e3⟩ := hldB_some hk.toROk hx
    have HE1 : Hid (exJ L g = (i : Int) + 1) := by show exJ L g = _; unfold exJ; rw [hx]
    have HE2 : Hid (exE L g = 0) := by show exE L g = _; unfold exE; rw [hx]
    have HE3 : Hid (exL m L g = L.set i (xp m L[i])) := by show exL m L g = _; unfold exL; rw [hx, ← e3]
    have hj := hk.job i hi
    rw [e1, e2] at HH
    clear h hk hx e1 e2 e3
    generalize L[i] = r at *
    go_enter Try.func52, Try.ntmps52
    go_wp2_with fail
    refine HH.out.mono ?_
    rintro e w1 ⟨rfl, hB1⟩
    have hs1 := hB1.size
    have HQ1 := hide (HQ.out.below hB1)
    have HM1 : Hid (Mv (Ft b v) (Ft b v) w w1) := hide (Mv.of_below hB1)
    have c0 := HQ1.out.c0
    have hlt1 := HQ1.out.lt
    have HJ := hide hj
    clear HQ HH hB1 hj
    by_cases ha : r.att = m
    · have ba : (r.att == m) = true := by simpa using ha
      have HX : Hid (xp m r = ⟨r.job, 4, r.att, r.bdg, 0, 0, r.code, r.bits⟩) := by show xp m r = _; unfold xp; rw [if_pos ha]
      rw [HX.out] at HE3
      clear ha
      go_wp2_with fail
      go_quiet (fail)
      go_wp2_with fail
      have hnF : ¬ Ft b v w1.heap.size := fun hf => absurd (hvl _ hf) (by omega)
      have hq4 := ((HQ1.out.alloc (.cells #[.int .i64 r.job, .int .i64 1, .int .i64 r.att, .int .i64 r.bdg, .int .i64 0, .int .i64 0, .int .i64 r.code, .int .u64 r.bits] 30)).drewN nq).far hnF 1 (.int .i64 4)
      have HM4 := hide (mv_far (mv_drewN (mv_alloc HM1.out (.cells #[.int .i64 r.job, .int .i64 1, .int .i64 r.att, .int .i64 r.bdg, .int .i64 0, .int .i64 0, .int .i64 r.code, .int .u64 r.bits] 30)) nq) hs1 1 (.int .i64 4))
      have HX4 : Hid (Bx (((w1.alloc (.cells #[.int .i64 r.job, .int .i64 1, .int .i64 r.att, .int .i64 r.bdg, .int .i64 0, .int .i64 0, .int .i64 r.code, .int .u64 r.bits] 30)).drewN nq).setCell ⟨w1.heap.size, 1, none⟩ (.int .i64 4)) w1.heap.size ⟨r.job, 4, r.att, r.bdg, 0, 0, r.code, r.bits⟩) := hide (heap_set_self _ _ 1 (.int .i64 4) _ _ _ (heap_alloc_new w1 (.cells #[.int .i64 r.job, .int .i64 1, .int .i64 r.att, .int .i64 r.bdg, .int .i64 0, .int .i64 0, .int .i64 r.code, .int .u64 r.bits] 30)))
      refine (qput_any hq4 hl hi ⟨r.job, 4, r.att, r.bdg, 0, 0, r.code, r.bits⟩ HJ.out).mono ?_
      rintro e w5 ⟨rfl, hq5, hm5⟩
      have HQ5 := hide hq5
      have HM5 := hide (HM4.out.trans hm5)
      have hx5 : Bx w5 w1.heap.size ⟨r.job, 4, r.att, r.bdg, 0, 0, r.code, r.bits⟩ := HX4.out.keep (hm5.block _ HX4.out.lt hnF)
      obtain ⟨d0, _⟩ := hx5.cells
      simp only at d0
      clear hq4 hq5 hm5 HM4 HX4 hx5 c0
      go_wp2
      go_ret2
      rw [HE1.out, HE2.out, HE3.out, ← HJ.out]
      exact ⟨rfl, HQ5.out, HM5.out⟩
    · have ba : (r.att == m) = false := by simpa using ha
      have HX : Hid (xp m r = ⟨r.job, 1, r.att, r.bdg, 0, 0, r.code, r.bits⟩) := by show xp m r = _; unfold xp; rw [if_neg ha]
      rw [HX.out] at HE3
      clear ha
      go_wp2_with fail
      go_quiet (fail)
      go_wp2_with fail
      have hnF : ¬ Ft b v w1.heap.size := fun hf => absurd (hvl _ hf) (by omega)
      have hq4 := (HQ1.out.alloc (.cells #[.int .i64 r.job, .int .i64 1, .int .i64 r.att, .int .i64 r.bdg, .int .i64 0, .int .i64 0, .int .i64 r.code, .int .u64 r.bits] 30)).drewN nq
      have HM4 := hide (mv_drewN (mv_alloc HM1.out (.cells #[.int .i64 r.job, .int .i64 1, .int .i64 r.att, .int .i64 r.bdg, .int .i64 0, .int .i64 0, .int .i64 r.code, .int .u64 r.bits] 30)) nq)
      have HX4 : Hid (Bx ((w1.alloc (.cells #[.int .i64 r.job, .int .i64 1, .int .i64 r.att, .int .i64 r.bdg, .int .i64 0, .int .i64 0, .int .i64 r.code, .int .u64 r.bits] 30)).drewN nq) w1.heap.size ⟨r.job, 1, r.att, r.bdg, 0, 0, r.code, r.bits⟩) := hide (heap_alloc_new w1 (.cells #[.int .i64 r.job, .int .i64 1, .int .i64 r.att, .int .i64 r.bdg, .int .i64 0, .int .i64 0, .int .i64 r.code, .int .u64 r.bits] 30))
      refine (qput_any hq4 hl hi ⟨r.job, 1, r.att, r.bdg, 0, 0, r.code, r.bits⟩ HJ.out).mono ?_
      rintro e w5 ⟨rfl, hq5, hm5⟩
      have HQ5 := hide hq5
      have HM5 := hide (HM4.out.trans hm5)
      have hx5 : Bx w5 w1.heap.size ⟨r.job, 1, r.att, r.bdg, 0, 0, r.code, r.bits⟩ := HX4.out.keep (hm5.block _ HX4.out.lt hnF)
      obtain ⟨d0, _⟩ := hx5.cells
      simp only at d0
      clear hq4 hq5 hm5 HM4 HX4 hx5 c0
      go_wp2
      go_ret2
      rw [HE1.out, HE2.out, HE3.out, ← HJ.out]
      exact ⟨rfl, HQ5.out, HM5.out⟩
set_option maxHeartbeats 1000000 in
set_option maxRecDepth 8000 in
theorem settle_any (h : Qm 47 base w b v m L) (hk : Ok m L) (g c x : Int) : Calls Try.prog 54 #[.pointer (some ⟨b, 0, none⟩), .int .i64 g, .agg #[.int .i64 c, .int .u64 x]] w fun e w' => e = .returned (.tuple #[.int .i64 (seJ L g c x), .int .i64 (seE L g c x)]) ∧ Qm 47 base w' b v m (seL L g c x) ∧ Mv (Ft b v) (Ft b v) w w' := by
  have hl := hk.len
  have hlt := h.lt
  have hvl : ∀ k, Ft b v k → k < w.heap.size := fun k hk => (h.ftlt k hk).2
  have HQ := hide (h.alloc (.cells #[.int .i64 c, .int .u64 x] 28))
  have HM := hide (mv_alloc (mv_refl (Ft b v) w) (.cells #[.int .i64 c, .int .u64 x] 28))
  have HH := hide (qheld_any (h.alloc (.cells #[.int .i64 c, .int .u64 x] 28)) hl g)
  have hsz := World.size_alloc w (.cells #[.int .i64 c, .int .u64 x] 28)
  have HR0 : Hid ((w.alloc (.cells #[.int .i64 c, .int .u64 x] 28)).heap[w.heap.size]? = some (.cells #[.int .i64 c, .int .u64 x] 28 (0, 0))) := hide (heap_alloc_new w _)
  cases hx : hix g L with
  | none =>
    have HE1 : Hid (seJ L g c x = 0) := by show seJ L g c x = 0; unfold seJ; rw [hx]
    have HE2 : Hid (seE L g c x = 113) := by show seE L g c x = 113; unfold seE; rw [hx]
    have HE3 : Hid (seL L g c x = L) := by show seL L g c x = L; unfold seL; rw [hx]
    rw [hldB_none hk.toROk hx] at HH
    clear h hk hx
    go_enter Try.func54, Try.ntmps54
    go_wp2_with fail
    generalize w.alloc (.cells #[.int .i64 c, .int .u64 x] 28) = W0 at *
    refine HH.out.mono ?_
    rintro e w1 ⟨rfl, hB1⟩
    have HQ1 := hide ((HQ.out.below hB1).alloc (fnd g L).obj)
    have HM1 : Hid (Mv (Ft b v) (Ft b v) w (w1.alloc (fnd g L).obj)) := hide (mv_alloc (HM.out.trans (Mv.of_below hB1)) _)
    clear HQ HH hB1 HM
    go_wp2
    go_ret2
    rw [HE1.out, HE2.out, HE3.out]
    exact ⟨rfl, HQ1.out, HM1.out⟩
  | some i =>
    obtain ⟨hi, e1, e2, e3⟩ := hldB_some hk.toROk hx
    have HRa := hide (fun V => result_any V c x)
    have HJ := hide (hk.job i hi)
    rw [e1, e2] at HH
    by_cases hm : xMay c x
    · have HE1 : Hid (seJ L g c x = (i : Int) + 1) := by show seJ L g c x = _; unfold seJ; rw [hx]; exact if_pos hm
      have HE2 : Hid (seE L g c x = 0) := by show seE L g c x = _; unfold seE; rw [hx]; exact if_pos hm
      have HE3 : Hid (seL L g c x = L.set i (stl L[i] c x)) := by show seL L g c x = _; unfold seL; rw [hx, ← e3]; exact if_pos hm
      rw [decide_eq_true hm] at HRa
      clear h hk hx e1 e2 e3 hm
      generalize L[i] = r at *
      go_enter Try.func54, Try.ntmps54
      go_wp2_with fail
      generalize w.alloc (.cells #[.int .i64 c, .int .u64 x] 28) = W0 at *
      refine HH.out.mono ?_
      rintro e w1 ⟨rfl, hB1⟩
      have hs1 := hB1.size
      have HQ1 := hide ((HQ.out.below hB1).alloc r.obj)
      have HM1 : Hid (Mv (Ft b v) (Ft b v) w (w1.alloc r.obj)) := hide (mv_alloc (HM.out.trans (Mv.of_below hB1)) _)
      have hr1 : w1.heap[w.heap.size]? = some (.cells #[.int .i64 c, .int .u64 x] 28 (0, 0)) := (hB1.block _ (lt_of_block HR0.out)).trans HR0.out
      have hrl := lt_of_block hr1
      have r0 : w1.cell? ⟨w.heap.size, 0, none⟩ = some (.int .i64 c) := by simp [World.cell?, hr1]
      have r1 : w1.cell? ⟨w.heap.size, 1, none⟩ = some (.int .u64 x) := by simp [World.cell?, hr1]
      have HR1 : Hid ((w1.alloc r.obj).heap[w.heap.size]? = some (.cells #[.int .i64 c, .int .u64 x] 28 (0, 0))) := hide ((Below.heap_alloc _ _ _ hrl).trans hr1)
      have HX1 : Hid (Bx (w1.alloc r.obj) w1.heap.size r) := hide (heap_alloc_new w1 _)
      clear HQ HH hB1 HM HR0 hr1
      go_wp2_with fail
      refine (HRa.out _).mono ?_
      rintro e w2 ⟨rfl, hB2⟩
      have hnF : ¬ Ft b v w1.heap.size := fun hf => absurd (hvl _ hf) (by omega)
      have hs3 : w.heap.size ≤ w1.heap.size := by omega
      have HQ2 := hide (HQ1.out.below hB2)
      have HM2 := hide (HM1.out.trans (Mv.of_below (F := Ft b v) hB2))
      have hx2 : Bx w2 w1.heap.size r := HX1.out.keep (hB2.block _ HX1.out.lt)
      have HX2 := hide hx2
      have hr2 := (hB2.block _ (lt_of_block HR1.out)).trans HR1.out
      have q0 : w2.cell? ⟨w.heap.size, 0, none⟩ = some (.int .i64 c) := by simp [World.cell?, hr2]
      have q1 : w2.cell? ⟨w.heap.size, 1, none⟩ = some (.int .u64 x) := by simp [World.cell?, hr2]
      obtain ⟨d0, d1, d2, d3, d4, d5, d6, d7⟩ := hx2.cells
      have z1 := hx2.z 1
      have z4 := hx2.z 4
      have z5 := hx2.z 5
      have z6 := hx2.z 6
      have z7 := hx2.z 7
      clear hB2 hx2 hr2 HX1 HR1 HQ1 HM1 r0 r1 HRa
      go_wp2_with fail
      go_region
      go_wp2_with fail
      have hq4 := (((((HQ2.out.far hnF 1 (.int .i64 3)).far hnF 4 (.int .i64 0)).far hnF 5 (.int .i64 0)).far hnF 6 (.int .i64 c)).far hnF 7 (.int .u64 x)).drew
      have HM4 := hide (mv_drew (mv_far (mv_far (mv_far (mv_far (mv_far HM2.out hs3 1 (.int .i64 3)) hs3 4 (.int .i64 0)) hs3 5 (.int .i64 0)) hs3 6 (.int .i64 c)) hs3 7 (.int .u64 x)))
      have hx4 := heap_set_self _ _ 7 (.int .u64 x) _ _ _ (heap_set_self _ _ 6 (.int .i64 c) _ _ _ (heap_set_self _ _ 5 (.int .i64 0) _ _ _ (heap_set_self _ _ 4 (.int .i64 0) _ _ _ (heap_set_self _ _ 1 (.int .i64 3) _ _ _ HX2.out))))
      simp only [List.setIfInBounds_toArray, List.set_cons_zero, List.set_cons_succ] at hx4
      have HX4 := hide hx4
      clear HQ2 HM2 HX2 hx4 d0 d1 d2 d3 d4 d5 d6 d7 z1 z4 z5 z6 z7 q0 q1
      refine (qput_any hq4 hl hi (stl r c x) HJ.out).mono ?_
      rintro e w5 ⟨rfl, hq5, hm5⟩
      have HQ5 := hide hq5
      have HM5 := hide (HM4.out.trans hm5)
      have hx5 : Bx w5 w1.heap.size (stl r c x) := (hm5.block _ (lt_of_block HX4.out) hnF).trans HX4.out
      obtain ⟨d0, _⟩ := hx5.cells
      simp only [stl] at d0
      clear hq4 hq5 hm5 HM4 HX4 hx5
      go_wp2
      go_ret2
      rw [HE1.out, HE2.out, HE3.out, ← HJ.out]
      exact ⟨rfl, HQ5.out, HM5.out⟩
    · have HE1 : Hid (seJ L g c x = 0) := by show seJ L g c x = _; unfold seJ; rw [hx]; exact if_neg hm
      have HE2 : Hid (seE L g c x = 1) := by show seE L g c x = _; unfold seE; rw [hx]; exact if_neg hm
      have HE3 : Hid (seL L g c x = L) := by show seL L g c x = _; unfold seL; rw [hx]; exact if_neg hm
      rw [decide_eq_false hm] at HRa
      clear h hk hx e1 e2 e3 hm
      generalize L[i] = r at *
      go_enter Try.func54, Try.ntmps54
      go_wp2_with fail
      generalize w.alloc (.cells #[.int .i64 c, .int .u64 x] 28) = W0 at *
      refine HH.out.mono ?_
      rintro e w1 ⟨rfl, hB1⟩
      have HQ1 := hide ((HQ.out.below hB1).alloc r.obj)
      have HM1 : Hid (Mv (Ft b v) (Ft b v) w (w1.alloc r.obj)) := hide (mv_alloc (HM.out.trans (Mv.of_below hB1)) _)
      have hr1 : w1.heap[w.heap.size]? = some (.cells #[.int .i64 c, .int .u64 x] 28 (0, 0)) := (hB1.block _ (lt_of_block HR0.out)).trans HR0.out
      have hrl := lt_of_block hr1
      have r0 : w1.cell? ⟨w.heap.size, 0, none⟩ = some (.int .i64 c) := by simp [World.cell?, hr1]
      have r1 : w1.cell? ⟨w.heap.size, 1, none⟩ = some (.int .u64 x) := by simp [World.cell?, hr1]
      clear HQ HH hB1 HM HR0 hr1
      go_wp2_with fail
      refine (HRa.out _).mono ?_
      rintro e w2 ⟨rfl, hB2⟩
      go_wp2
      go_ret2
      rw [HE1.out, HE2.out, HE3.out]
      exact ⟨rfl, HQ1.out.below hB2, HM1.out.trans (Mv.of_below hB2)⟩
end
end Go.Proofs.Ytkchddphmkgilaa
