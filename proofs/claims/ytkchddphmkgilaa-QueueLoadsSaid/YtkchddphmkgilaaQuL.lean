import Derived.Test.YtkchddphmkgilaaQuK
namespace Go.Proofs.Ytkchddphmkgilaa
open Go.RowKit

section
variable {base : Nat} {w : World} {b : Nat} {v : Value} {L : List Rr} {m : Int}
set_option maxHeartbeats 400000 in
set_option maxRecDepth 8000 in
theorem qfind_any (h : Qm 47 base w b v m L) (hl : L.length ≤ 8) (g : Int) : Calls Try.prog 23 #[.pointer (some ⟨b, 0, none⟩), .int .i64 g] w fun e w' => e = .returned (.tuple #[(fnd g L).val, .bool (!decide (fnd g L = rr0))]) ∧ Below w.heap.size w w' := by
  obtain ⟨ad, cap, ab, rfl, hR, _⟩ := h.form
  have hmf : ∀ (fn : Fn) (first cap : Array Value) (w : World), (Instr.makeFunc fn first cap).run Try.prog w = .ok (.func fn first cap) w := fun _ _ _ _ => rfl
  have hlt := h.lt
  have s1 := World.size_alloc w (.cells #[.int .i64 g] 3)
  have hbw : Below w.heap.size w ((w.alloc (.cells #[.int .i64 g] 3)).alloc rr0.obj) := (below_alloc w _).alloc (by simp) _
  have c1 : ((w.alloc (.cells #[.int .i64 g] 3)).alloc rr0.obj).cell? ⟨b, 1, none⟩ = some (.slice ad L.length cap) := Lib.cell?_alloc_some _ (Lib.cell?_alloc_some _ h.c1)
  have hp : ((w.alloc (.cells #[.int .i64 g] 3)).alloc rr0.obj).cell? ⟨w.heap.size, 0, none⟩ = some (.int .i64 g) := by rw [World.cell?_alloc_past _ _ _ (by simp), World.cell?_alloc_at _ _ _ _ rfl]; rfl
  have hy : Bx ((w.alloc (.cells #[.int .i64 g] 3)).alloc rr0.obj) (w.heap.size + 1) rr0 := by rw [← s1]; exact heap_alloc_new _ _
  have HA : Hid (Calls Try.prog 41 #[.slice ad L.length cap, rr0.val, .func (.func 42) #[] #[.pointer (some ⟨w.heap.size, 0, none⟩)]] ((w.alloc (.cells #[.int .i64 g] 3)).alloc rr0.obj) fun e w' => e = .returned (fnd g L).val ∧ Below ((w.alloc (.cells #[.int .i64 g] 3)).alloc rr0.obj).heap.size ((w.alloc (.cells #[.int .i64 g] 3)).alloc rr0.obj) w') :=
    hide (askR_any (cap := cap) (hR.below hbw) (by omega) 42 #[.pointer (some ⟨w.heap.size, 0, none⟩)] (fnF g) rr0 (fun _ _ _ => rfl) (fun w1 i hi a hB => find1_any ((World.cell?_of_block (hB.block _ (World.block_lt_of_cell? _ _ hp))).trans hp) a L[i]))
  have HW := hide hbw
  have HY := hide hy
  have hob : rr0.obj = .cells #[.int .i64 0, .int .i64 0, .int .i64 0, .int .i64 0, .int .i64 0, .int .i64 0, .int .i64 0, .int .u64 0] 30 (0, 0) := rfl
  have hsz := hbw.size
  rw [hob] at HA c1 HW HY hsz
  have hg := guardR
  have hn : ∀ W : World, (binOp .neq 30 (fnd g L).val (.agg #[.int .i64 0, .int .i64 0, .int .i64 0, .int .i64 0, .int .i64 0, .int .i64 0, .int .i64 0, .int .u64 0])).run Try.prog W = .ok (.bool (!decide (fnd g L = rr0))) W := neqR_any (fnd g L) rr0
  obtain ⟨D, hD⟩ : ∃ D, (!decide (fnd g L = rr0)) = D := ⟨_, rfl⟩
  obtain ⟨F, hF⟩ : ∃ F, fnd g L = F := ⟨_, rfl⟩
  have HD := hide hD
  have HF := hide hF
  rw [hD, hF] at hn
  rw [hF] at HA
  clear h hR hp hy hbw hD hF hob s1
  go_enter Try.func23, Try.ntmps23
  go_wp2_with fail
  generalize (w.alloc (.cells #[.int .i64 g] 3)).alloc (.cells #[.int .i64 0, .int .i64 0, .int .i64 0, .int .i64 0, .int .i64 0, .int .i64 0, .int .i64 0, .int .u64 0] 30) = W0 at *
  refine HA.out.mono ?_
  rintro e w2 ⟨rfl, hB2⟩
  have HB2 := hide (HW.out.trans (hB2.mono hsz))
  have hy2 : Bx w2 (w.heap.size + 1) rr0 := HY.out.keep (hB2.block _ HY.out.lt)
  have hylt := hy2.lt
  obtain ⟨d0, d1, d2, d3, d4, d5, d6, d7⟩ := hy2.cells
  have hz : ∀ k, w2.frozen? ⟨w.heap.size + 1, k, none⟩ = false := fun k => hy2.z k
  have z0 := hz 0
  have z1 := hz 1
  have z2 := hz 2
  have z3 := hz 3
  have z4 := hz 4
  have z5 := hz 5
  have z6 := hz 6
  have z7 := hz 7
  have HBf : Hid (Below w.heap.size w ((set8 w2 (w.heap.size + 1) F).alloc F.obj).drew) := hide (below_drew ((set8_below HB2.out _ (by omega) _).alloc (by rw [set8_size]; exact HB2.out.size) _))
  clear c1 HA HW HY hB2 hy2 hz
  go_wp2_with fail
  go_region
  go_wp2
  refine bodyPost_ret (by rw [results_cell_tmp (fn := Try.f23) rfl]; go_simp; rfl) rfl ?_
  exact ⟨by rw [HF.out, ← HD.out, HF.out], HBf.out⟩

/-- held: told by Find -/
def hldB (g : Int) (L : List Rr) : Bool := (!decide (fnd g L = rr0)) && decide ((fnd g L).st = 2)
set_option maxHeartbeats 400000 in
set_option maxRecDepth 8000 in
theorem qheld_any (h : Qm 47 base w b v m L) (hl : L.length ≤ 8) (g : Int) : Calls Try.prog 58 #[.pointer (some ⟨b, 0, none⟩), .int .i64 g] w fun e w' => e = .returned (.tuple #[(fnd g L).val, .bool (hldB g L)]) ∧ Below w.heap.size w w' := by
  have hob : rr0.obj = .cells #[.int .i64 0, .int .i64 0, .int .i64 0, .int .i64 0, .int .i64 0, .int .i64 0, .int .i64 0, .int .u64 0] 30 (0, 0) := rfl
  have HA := hide (qfind_any (h.below (below_alloc w rr0.obj)) hl g)
  have HY : Hid (Bx (w.alloc rr0.obj) w.heap.size rr0) := hide (heap_alloc_new w _)
  have HW := hide (below_alloc w rr0.obj)
  have hsz := World.size_alloc w rr0.obj
  rw [hob] at HA HY HW hsz
  have HE : Hid (hldB g L = ((!decide (fnd g L = rr0)) && decide ((fnd g L).st = 2))) := hide rfl
  generalize hldB g L = E at *
  generalize (!decide (fnd g L = rr0)) = D at *
  generalize fnd g L = F at *
  clear h hob
  go_enter Try.func58, Try.ntmps58
  go_wp2_with fail
  generalize w.alloc (.cells #[.int .i64 0, .int .i64 0, .int .i64 0, .int .i64 0, .int .i64 0, .int .i64 0, .int .i64 0, .int .u64 0] 30) = W0 at *
  refine HA.out.mono ?_
  rintro e w2 ⟨rfl, hB2⟩
  have HB2 := hide (HW.out.trans (hB2.mono (by omega)))
  have hy2 : Bx w2 w.heap.size rr0 := HY.out.keep (hB2.block _ HY.out.lt)
  have hylt := hy2.lt
  obtain ⟨d0, d1, d2, d3, d4, d5, d6, d7⟩ := hy2.cells
  have z0 := hy2.z 0
  have z1 := hy2.z 1
  have z2 := hy2.z 2
  have z3 := hy2.z 3
  have z4 := hy2.z 4
  have z5 := hy2.z 5
  have z6 := hy2.z 6
  have z7 := hy2.z 7
  have HBf : Hid (Below w.heap.size w ((set8 w2 w.heap.size F).alloc F.obj).drew) := hide (below_drew ((set8_below HB2.out _ (Nat.le_refl _) _).alloc (by rw [set8_size]; exact HB2.out.size) _))
  clear HA HW HY hB2 hy2
  cases D with
  | true =>
    by_cases h2 : F.st = 2
    · have b2 : (F.st == 2) = true := by simpa using h2
      have HE2 : Hid (E = true) := by rw [HE.out]; exact hide (by simp [h2])
      clear h2 HE
      go_wp2_with fail
      go_region
      go_wp2
      refine bodyPost_ret (by rw [results_cell_tmp (fn := Try.f58) rfl]; go_simp; rfl) rfl ?_
      exact ⟨by rw [HE2.out], HBf.out⟩
    · have b2 : (F.st == 2) = false := by simpa using h2
      have HE2 : Hid (E = false) := by rw [HE.out]; exact hide (by simp [h2])
      clear h2 HE
      go_wp2_with fail
      go_region
      go_wp2
      refine bodyPost_ret (by rw [results_cell_tmp (fn := Try.f58) rfl]; go_simp; rfl) rfl ?_
      exact ⟨by rw [HE2.out], HBf.out⟩
  | false =>
    have HE2 : Hid (E = false) := by rw [HE.out]; exact hide (by simp)
    clear HE
    go_wp2_with fail
    go_region
    go_wp2
    refine bodyPost_ret (by rw [results_cell_tmp (fn := Try.f58) rfl]; go_simp; rfl) rfl ?_
    exact ⟨by rw [HE2.out], HBf.out⟩
end
end Go.Proofs.Ytkchddphmkgilaa
