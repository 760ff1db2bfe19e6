import Derived.Test.YtkchddphmkgilaaQuP
namespace Go.Proofs.Ytkchddphmkgilaa
open Go.RowKit

section
variable {base : Nat} {w : World} {b : Nat} {v : Value} {L : List Rr} {m : Int}
/-- the greatest badge -/
def gb (L : List Rr) : Int := L.foldl gbF 0
/-- a row that is granted -/
def grt (r : Rr) (g n l : Int) : Rr := ⟨r.job, 2, r.att + 1, g, n, l, r.code, r.bits⟩
def grE (L : List Rr) (j g n l : Int) : Int := if ¬ (1 ≤ j ∧ j ≤ (L.length : Int)) then 111 else if (rowR L j).st ≠ 1 then 112 else if g ≤ gb L ∨ 1099511627776 < g then 113 else if ¬ hMay n l then 1 else 0
def grL (L : List Rr) (j g n l : Int) : List Rr := if grE L j g n l = 0 then L.set (j - 1).toNat (grt (rowR L j) g n l) else L
theorem rowR_in {j : Int} (h : 1 ≤ j ∧ j ≤ (L.length : Int)) : ∃ hi : (j - 1).toNat < L.length, rowR L j = L[(j - 1).toNat] := by
  have hi : (j - 1).toNat < L.length := by omega
  refine ⟨hi, ?_⟩
  unfold rowR
  rw [if_pos h, List.getD_eq_getElem?_getD, List.getElem?_eq_getElem hi]; rfl
set_option maxHeartbeats 2000000 in
set_option maxRecDepth 8000 in
theorem grant_any (h : Qm 47 base w b v m L) (hk : Ok m L) (j g n l : Int) : Calls Try.prog 22 #[.pointer (some ⟨b, 0, none⟩), .int .i64 j, .int .i64 g, .agg #[.int .i64 n, .int .i64 l]] w fun e w' => e = .returned (.int .i64 (grE L j g n l)) ∧ Qm 47 base w' b v m (grL L j g n l) ∧ Mv (Ft b v) (Ft b v) w w' := by
  obtain ⟨ad, cap, ab, rfl, _, _⟩ := h.form
  have hl := hk.len
  have hlt := h.lt
  have HW0 := hide (below_alloc w (.cells #[.int .i64 n, .int .i64 l] 25))
  have HQ0 := hide (h.below (below_alloc w (.cells #[.int .i64 n, .int .i64 l] 25)))
  have HRo := hide (qrow_any (h.below (below_alloc w (.cells #[.int .i64 n, .int .i64 l] 25))) hl j)
  have hH : (w.alloc (.cells #[.int .i64 n, .int .i64 l] 25)).heap[w.heap.size]? = some (.cells #[.int .i64 n, .int .i64 l] 25 (0, 0)) := heap_alloc_new w _
  have HH := hide hH
  have hsz := World.size_alloc w (.cells #[.int .i64 n, .int .i64 l] 25)
  clear hH
  have hvl : ∀ k, Ft b (.slice ad L.length cap) k → k < w.heap.size := fun k hk => (h.ftlt k hk).2
  by_cases hj : ¬ (1 ≤ j ∧ j ≤ (L.length : Int))
  · have HE : Hid (grE L j g n l = 111) := if_pos hj
    have HL : Hid (grL L j g n l = L) := by show grL L j g n l = L; unfold grL; rw [HE.out]; rfl
    have hB : rowB L j = false := decide_eq_false hj
    rw [hB] at HRo
    clear hj hB
    go_enter Try.func22, Try.ntmps22
    go_wp2_with fail
    generalize w.alloc (.cells #[.int .i64 n, .int .i64 l] 25) = W0 at *
    refine HRo.out.mono ?_
    rintro e w1 ⟨rfl, hB1⟩
    have HB1 := hide (HW0.out.trans (hB1.mono (by omega)))
    have HQ1 := hide ((HQ0.out.below hB1).alloc (rowR L j).obj)
    have HM1 : Hid (Mv (Ft b (.slice ad L.length cap)) (Ft b (.slice ad L.length cap)) w (w1.alloc (rowR L j).obj)) := hide (mv_alloc (Mv.of_below HB1.out) _)
    clear hB1 HRo HQ0
    go_wp2
    go_ret
    rw [HE.out, HL.out]
    exact ⟨rfl, HQ1.out, HM1.out⟩
  have hj := Classical.not_not.1 hj
  have hB : rowB L j = true := decide_eq_true hj
  obtain ⟨hi, hrr⟩ := rowR_in hj
  have HJ : Hid ((rowR L j).job = ((j - 1).toNat : Int) + 1) := by rw [hrr]; exact hk.job _ hi
  have hat := hk.att _ hi
  rw [← hrr] at hat
  have HI := hide hi
  rw [hB] at HRo
  have HGr : Hid (∀ V, Below (w.alloc (.cells #[.int .i64 n, .int .i64 l] 25)).heap.size (w.alloc (.cells #[.int .i64 n, .int .i64 l] 25)) V → Calls Try.prog 38 #[.slice ad L.length cap] V fun e w' => e = .returned (.int .i64 (gb L)) ∧ Below V.heap.size V w') := hide fun V hV => by
    obtain ⟨ad', cap', ab', he, hR', _⟩ := (HQ0.out.below hV).form
    injection he with he1 he2 he3
    subst he1; subst he3
    exact great_any hR' (by omega)
  have HHo := hide (fun V => holder_any V n l)
  have m8 := hk.m8
  have hg1 : ∀ r : Rr, rowR L j = r → r.st ≠ 1 → grE L j g n l = 112 := fun r e h1 => by unfold grE; rw [if_neg (not_not_intro hj), e, if_pos h1]
  have hg2 : (rowR L j).st = 1 → (g ≤ gb L ∨ 1099511627776 < g) → grE L j g n l = 113 := fun h1 h2 => by unfold grE; rw [if_neg (not_not_intro hj), if_neg (not_not_intro h1), if_pos h2]
  have hg3 : (rowR L j).st = 1 → ¬ (g ≤ gb L ∨ 1099511627776 < g) → ¬ hMay n l → grE L j g n l = 1 := fun h1 h2 h3 => by unfold grE; rw [if_neg (not_not_intro hj), if_neg (not_not_intro h1), if_neg h2, if_pos h3]
  have hg4 : (rowR L j).st = 1 → ¬ (g ≤ gb L ∨ 1099511627776 < g) → hMay n l → grE L j g n l = 0 := fun h1 h2 h3 => by unfold grE; rw [if_neg (not_not_intro hj), if_neg (not_not_intro h1), if_neg h2, if_neg (not_not_intro h3)]
  have HL0 : Hid (∀ e, grE L j g n l = e → e ≠ 0 → grL L j g n l = L) := hide fun e h1 h2 => by unfold grL; rw [h1, if_neg h2]
  have HL1 : Hid (grE L j g n l = 0 → grL L j g n l = L.set (j - 1).toNat (grt (rowR L j) g n l)) := hide fun h1 => by unfold grL; rw [h1]; rfl
  have hg1 := hide (hg1 _ rfl)
  have hg2 := hide hg2
  have hg3 := hide hg3
  have hg4 := hide hg4
  clear h hk hj hB hrr hi
  generalize rowR L j = r at *
  generalize (j - 1).toNat = k at *
  generalize gb L = G at *
  go_enter Try.func22, Try.ntmps22
  go_wp2_with fail
  generalize w.alloc (.cells #[.int .i64 n, .int .i64 l] 25) = W0 at *
  refine HRo.out.mono ?_
  rintro e w1 ⟨rfl, hB1⟩
  have HBa := hide (hB1.alloc hB1.size r.obj)
  have HB1 := hide (HW0.out.trans (hB1.mono (by omega)))
  have HQ1 := hide ((HQ0.out.below hB1).alloc r.obj)
  have HM1 : Hid (Mv (Ft b (.slice ad L.length cap)) (Ft b (.slice ad L.length cap)) w (w1.alloc r.obj)) := hide (mv_alloc (Mv.of_below HB1.out) _)
  have HX1 : Hid (Bx (w1.alloc r.obj) w1.heap.size r) := hide (heap_alloc_new w1 _)
  have hs01 : w.heap.size < w1.heap.size := by have := hB1.size; omega
  have HH1 : Hid ((w1.alloc r.obj).heap[w.heap.size]? = some (.cells #[.int .i64 n, .int .i64 l] 25 (0, 0))) := hide ((Below.heap_alloc _ _ _ hs01).trans ((hB1.block _ (by omega)).trans HH.out))
  have HG1 := hide (HGr.out _ HBa.out)
  have q1 := HQ1.out.c1
  clear hB1 HRo HQ0 HGr HBa HH HW0
  by_cases h1 : r.st ≠ 1
  · have b1 : (r.st != 1) = true := by simpa using h1
    have HE := hide (hg1.out h1)
    have HL := hide (HL0.out _ HE.out (by decide))
    clear h1 hg1 hg2 hg3 hg4 HL0 HL1
    go_wp2
    go_ret
    rw [HE.out, HL.out]
    exact ⟨rfl, HQ1.out, HM1.out⟩
  have h1 := Classical.not_not.1 h1
  have b1 : (r.st != 1) = false := by simp [h1]
  have H1 := hide h1
  clear h1
  go_wp2_with fail
  generalize w1.alloc r.obj = W1 at *
  refine HG1.out.mono ?_
  rintro e w2 ⟨rfl, hB2⟩
  have HQ2 := hide (HQ1.out.below hB2)
  have HM2 := hide (HM1.out.trans (Mv.of_below (F := Ft b (.slice ad L.length cap)) hB2))
  have hx2 : Bx w2 w1.heap.size r := HX1.out.keep (hB2.block _ HX1.out.lt)
  have hh2 : w2.heap[w.heap.size]? = some (.cells #[.int .i64 n, .int .i64 l] 25 (0, 0)) := (hB2.block _ (lt_of_block HH1.out)).trans HH1.out
  have HX2 := hide hx2
  have HH2 := hide hh2
  have n0 : w2.cell? ⟨w.heap.size, 0, none⟩ = some (.int .i64 n) := by simp [World.cell?, hh2]
  have n1 : w2.cell? ⟨w.heap.size, 1, none⟩ = some (.int .i64 l) := by simp [World.cell?, hh2]
  clear hB2 HQ1 HM1 HX1 HH1 HG1 q1 hx2 hh2
  by_cases h2 : g ≤ G ∨ 1099511627776 < g
  · have HE := hide (hg2.out H1.out h2)
    have HL := hide (HL0.out _ HE.out (by decide))
    clear hg1 hg2 hg3 hg4 HL0 HL1
    by_cases h3 : g ≤ G
    · clear h2
      go_wp2
      go_ret
      rw [HE.out, HL.out]
      exact ⟨rfl, HQ2.out, HM2.out⟩
    · have h4 : 1099511627776 < g := by omega
      clear h2
      go_wp2
      go_ret
      rw [HE.out, HL.out]
      exact ⟨rfl, HQ2.out, HM2.out⟩
  have h3 : ¬ g ≤ G := fun x => h2 (.inl x)
  have h4 : ¬ 1099511627776 < g := fun x => h2 (.inr x)
  have H2 := hide h2
  clear h2
  by_cases h5 : ¬ hMay n l
  · have HE := hide (hg3.out H1.out H2.out h5)
    have HL := hide (HL0.out _ HE.out (by decide))
    have hd : decide (hMay n l) = false := decide_eq_false h5
    rw [hd] at HHo
    clear hg1 hg2 hg3 hg4 HL0 HL1 hd h5
    go_wp2_with fail
    refine (HHo.out _).mono ?_
    rintro e w3 ⟨rfl, hB3⟩
    go_wp2
    go_ret
    rw [HE.out, HL.out]
    exact ⟨rfl, HQ2.out.below hB3, HM2.out.trans (Mv.of_below hB3)⟩
  have h5 := Classical.not_not.1 h5
  have HE := hide (hg4.out H1.out H2.out h5)
  have HL := hide (HL1.out HE.out)
  have hd : decide (hMay n l) = true := decide_eq_true h5
  rw [hd] at HHo
  clear hg1 hg2 hg3 hg4 HL0 HL1 hd h5
  go_wp2_with fail
  refine (HHo.out _).mono ?_
  rintro e w3 ⟨rfl, hB3⟩
  have hx3 : Bx w3 w1.heap.size r := HX2.out.keep (hB3.block _ HX2.out.lt)
  have hh3 : w3.heap[w.heap.size]? = some (.cells #[.int .i64 n, .int .i64 l] 25 (0, 0)) := (hB3.block _ (lt_of_block HH2.out)).trans HH2.out
  have hnF : ¬ Ft b (.slice ad L.length cap) w1.heap.size := fun hf => absurd (hvl _ hf) (by omega)
  have HQ3 := hide (HQ2.out.below hB3)
  have HM3 := hide (HM2.out.trans (Mv.of_below (F := Ft b (.slice ad L.length cap)) hB3))
  obtain ⟨d0, d1, d2, d3, d4, d5, d6, d7⟩ := hx3.cells
  have z1 := hx3.z 1
  have z2 := hx3.z 2
  have z3 := hx3.z 3
  have z4 := hx3.z 4
  have z5 := hx3.z 5
  have n0 : w3.cell? ⟨w.heap.size, 0, none⟩ = some (.int .i64 n) := by simp [World.cell?, hh3]
  have n1 : w3.cell? ⟨w.heap.size, 1, none⟩ = some (.int .i64 l) := by simp [World.cell?, hh3]
  clear hB3 hx3 hh3 HHo HX2 HH2 HQ2 HM2
  go_wp2_with fail
  go_region
  go_wp2_with fail
  have hs3 : w.heap.size ≤ w1.heap.size := by omega
  have hq4 := (((((HQ3.out.far hnF 1 (.int .i64 2)).far hnF 2 (.int .i64 (r.att + 1))).far hnF 3 (.int .i64 g)).far hnF 4 (.int .i64 n)).far hnF 5 (.int .i64 l)).drew
  have hm4 := mv_drew (mv_far (mv_far (mv_far (mv_far (mv_far HM3.out hs3 1 (.int .i64 2)) hs3 2 (.int .i64 (r.att + 1))) hs3 3 (.int .i64 g)) hs3 4 (.int .i64 n)) hs3 5 (.int .i64 l))
  have HM4 := hide hm4
  clear HQ3 HM3 d0 d1 d2 d3 d4 d5 d6 d7 z1 z2 z3 z4 z5 n0 n1 hm4
  refine (qput_any hq4 hl HI.out (grt r g n l) HJ.out).mono ?_
  rintro e w5 ⟨rfl, hq5, hm5⟩
  have HQ5 := hide hq5
  have HM5 := hide (HM4.out.trans hm5)
  clear hq4 hq5 hm5 HM4
  go_wp2
  go_ret
  rw [HE.out, HL.out]
  exact ⟨rfl, HQ5.out, HM5.out⟩
end
end Go.Proofs.Ytkchddphmkgilaa
