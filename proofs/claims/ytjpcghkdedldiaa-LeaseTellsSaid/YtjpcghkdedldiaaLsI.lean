import Derived.Test.YtjpcghkdedldiaaLsH
namespace Go.Proofs.Ytjpcghkdedldiaa
open Go.RowKit Go.Shelf

attribute [local go_sem] Oper.semAt_some

/-- is a lease of that job, or of that badge, there? -/
def thr (j g : Int) (L : List Lz) : Bool := L.any fun x => x.job == j || x.bdg == g
/-- the boxes of 'there' -/
structure Th (w : World) (H : Nat) (j g : Int) (r : Bool) (W : World) : Prop where
  bj : Boxed W H 3 (.int .i64 j)
  bg : Boxed W (H + 1) 3 (.int .i64 g)
  br : Boxed W (H + 2) 4 (.bool r)
  low : Below H w W
theorem box_others {W W' : World} {B : Nat} {t : TypeId} {u : Value} {row : Option Nat} (h : Boxed W B t u) (hg : W.grownBy W' row) (hr : ∀ r, row = some r → ∃ o : Obj, W.heap[r]? = some o ∧ o.isCells = false) : Boxed W' B t u :=
  h.kept hg (fun e => by obtain ⟨o, ho, hc⟩ := hr B e.symm; rw [show W.heap[B]? = _ from h] at ho; cases ho; cases hc)
theorem Th.others {w W W' : World} {H : Nat} {j g : Int} {r : Bool} {row : Option Nat} (h : Th w H j g r W) (hw : H ≤ w.heap.size) (hg : W.grownBy W' row) (hr : ∀ q, row = some q → H ≤ q ∧ ∃ o : Obj, W.heap[q]? = some o ∧ o.isCells = false) : Th w H j g r W' := by
  have hr2 : ∀ q, row = some q → ∃ o : Obj, W.heap[q]? = some o ∧ o.isCells = false := fun q e => (hr q e).2
  exact ⟨box_others h.bj hg hr2, box_others h.bg hg hr2, box_others h.br hg hr2, h.low.grown hg (Nat.le_trans hw h.low.size) (fun k e => (hr k e).1)⟩
theorem not_any {L : List Lz} {j g : Int} (h : ∀ x ∈ L, x.job ≠ j ∧ x.bdg ≠ g) : thr j g L = false := by
  simp only [thr, List.any_eq_false, Bool.or_eq_true, beq_iff_eq, not_or]
  exact h

set_option maxRecDepth 100000 in
set_option maxHeartbeats 4000000 in
theorem there_any {w : World} {b m : Nat} {T : Int} {L : List Lz} (hT : Tb w b m T L) (hl : L.length ≤ 12) (j g : Int) :
    Calls Try.prog 31 #[.pointer (some ⟨b, 0, none⟩), .int .i64 j, .int .i64 g] w fun e w' => e = .returned (.bool (thr j g L)) ∧ Below w.heap.size w w' := by
  refine (callsIn_wide (n := 6)).1 ?_
  refine callsIn_of_wp_marks Try.func31 rfl trivial ?_ rfl
  simp only [Try.ntmps31, List.size_toArray, List.length_cons, List.length_nil, Nat.reduceAdd, Nat.reduceSub, Array.replicate_succ, Array.replicate_zero, List.push_toArray, List.append_toArray, List.nil_append, List.cons_append]
  have HT := hide hT
  clear hT
  gi_wp2_with fail
  have b0 := ((Boxed.new w 3 (.int .i64 j)).alloc (.cells #[.int .i64 g] 3)).alloc (.cells #[.bool false] 4)
  have b1 := (Boxed.new (w.alloc (.cells #[.int .i64 j] 3)) 3 (.int .i64 g)).alloc (.cells #[.bool false] 4)
  have b2 := Boxed.new ((w.alloc (.cells #[.int .i64 j] 3)).alloc (.cells #[.int .i64 g] 3)) 4 (.bool false)
  have hlow := (((Below.refl _ w).alloc (Nat.le_refl _) (.cells #[.int .i64 j] 3)).alloc (by simp) (.cells #[.int .i64 g] 3)).alloc (by simp; omega) (.cells #[.bool false] 4)
  have hsz : (((w.alloc (.cells #[.int .i64 j] 3)).alloc (.cells #[.int .i64 g] 3)).alloc (.cells #[.bool false] 4)).heap.size = w.heap.size + 3 := by simp
  rw [World.size_alloc] at b1
  rw [World.size_alloc, World.size_alloc] at b2
  have HT1 := hide (((HT.out.alloc (.cells #[.int .i64 j] 3)).alloc (.cells #[.int .i64 g] 3)).alloc (.cells #[.bool false] 4))
  have HTh : Hid (Th w w.heap.size j g false (((w.alloc (.cells #[.int .i64 j] 3)).alloc (.cells #[.int .i64 g] 3)).alloc (.cells #[.bool false] 4))) := ⟨b0, b1, b2, hlow⟩
  have HSZ := hide hsz
  clear b0 b1 b2 hlow hsz HT
  generalize ((w.alloc (.cells #[.int .i64 j] 3)).alloc (.cells #[.int .i64 g] 3)).alloc (.cells #[.bool false] 4) = W0 at *
  refine ⟨trivial, (callsIn_wide.2 (all_any b W0)).mono ?_⟩
  rintro e w1 ⟨rfl, rfl⟩
  have hBs : (W0.alloc (.cells #[.pointer (some ⟨b, 0, none⟩)] 23)).cell? ⟨w.heap.size + 3, 0, none⟩ = some (.pointer (some ⟨b, 0, none⟩)) := by
    have := (Boxed.new W0 23 (.pointer (some ⟨b, 0, none⟩))).cell
    rw [HSZ.out] at this
    exact this
  have HBs := hide hBs
  have HT2 := hide (HT1.out.alloc (.cells #[.pointer (some ⟨b, 0, none⟩)] 23))
  have HTh2 := hide (HTh.out.others (Nat.le_refl _) (World.grownBy_alloc W0 (.cells #[.pointer (some ⟨b, 0, none⟩)] 23) none) (fun q e => by cases e))
  have HSZ2 : Hid ((W0.alloc (.cells #[.pointer (some ⟨b, 0, none⟩)] 23)).heap.size = w.heap.size + 4) := by show _ = _; rw [World.size_alloc, HSZ.out]
  have hW0 : W0.heap.size = w.heap.size + 3 := HSZ.out
  rw [hW0]
  clear HT1 HTh HSZ hBs hW0
  generalize W0.alloc (.cells #[.pointer (some ⟨b, 0, none⟩)] 23) = W1 at *
  gi_wp2_with fail
  refine wpIn_rangeFunc_ownH rfl (by decide) (gf := 32) (lb := #[.pointer (some ⟨w.heap.size + 3, 0, none⟩)]) rfl trivial (enters_of Try.func32 (by kernel_rfl) rfl)
    (all_stops 5 (by decide) (w.heap.size + 3) b m T L (fun k => k = w.heap.size + 2) (w.heap.size + 2) W1 (by have := HSZ2.out; omega) (fun k hk => by
      rcases hk with rfl | ⟨v, h1, h2⟩
      · have := HSZ2.out; omega
      · rw [HTh2.out.br.cell] at h1; cases h1; cases h2) HBs.out HT2.out hl)
    Kl.trans (fun W k o o' hk ho hc _ => Kl.put (N := W1.heap.size) (by have := HSZ2.out; omega) hk ho hc) (Below.refl _ _) (fun _ => rfl)
    (fun pre W => Th w w.heap.size j g false W ∧ ∀ x ∈ pre, x.1.job ≠ j ∧ x.1.bdg ≠ g)
    (fun c pre W => c = .ret ∧ Th w w.heap.size j g true W ∧ ∃ x ∈ pre, x.1.job = j ∨ x.1.bdg = g)
    ?hI ?hIx ⟨HTh2.out, fun x hx => absurd hx (by simp)⟩
    (fun x a' W => ∃ Bx, W.heap[Bx]? = some x.1.obj ∧ a' = { tmps := #[.pointer (some ⟨b, 0, none⟩), .int .i64 j, .int .i64 g, undef, .pointer (some ⟨w.heap.size, 0, none⟩), .pointer (some ⟨w.heap.size + 1, 0, none⟩), .pointer (some ⟨w.heap.size + 2, 0, none⟩), .pointer (some ⟨Bx, 0, none⟩), .pointer (some ⟨b, 0, none⟩), .func (.func 32) #[] #[.pointer (some ⟨w.heap.size + 3, 0, none⟩)], x.1.val, undef, undef, undef, undef, undef, undef, undef, undef, undef, undef], defers := [] })
    ?hAx ?assign ?body ?done ?stop
  case hI =>
    rintro pre X Y row ⟨h1, h2⟩ hg hr
    exact ⟨h1.others (Nat.le_refl _) hg (fun q e => ⟨by have := (hr q e).1; have := HSZ2.out; omega, (hr q e).2⟩), h2⟩
  case hIx =>
    rintro c pre X Y row ⟨h0, h1, h2⟩ hg hr
    exact ⟨h0, h1.others (Nat.le_refl _) hg (fun q e => ⟨by have := (hr q e).1; have := HSZ2.out; omega, (hr q e).2⟩), h2⟩
  case hAx =>
    rintro x a' _ X Y row ⟨Bx, h2, h3⟩ hg hr
    refine ⟨Bx, (hg.block Bx (lt_of_block h2) (fun e => ?_)).trans h2, h3⟩
    obtain ⟨_, o, ho, hc⟩ := hr Bx e.symm
    rw [h2] at ho
    cases ho
    cases hc
  case assign =>
    rintro k pre x W K ⟨hA, hpre⟩ hK
    have hbl := hA.br.lt
    gi_wp2
    exact hK _ _ ((KeepsOthers.alloc _ _).from _) (Kl.alloc hbl _) ⟨hA.others (Nat.le_refl _) (World.grownBy_alloc W _ none) (fun r e => by cases e), hpre⟩ ⟨W.heap.size, heap_alloc_new W _, rfl⟩
  case body =>
    rintro k pre x a' W hk ⟨r, hr⟩ ⟨hA, hpre⟩ ⟨Bx, hx, rfl⟩ hlen
    obtain ⟨x0, x1, x2, x3, x4⟩ := five_of hx
    have d0 := hA.bj.cell
    have d1 := hA.bg.cell
    have f2 := hA.br.frozen
    have d2 := hA.br.cell
    have HA := hide hA
    have HP := hide hpre
    clear hA hpre hr hx
    by_cases hj : x.1.job = j
    · have e1 : (x.1.job == j) = true := by simpa using hj
      have HE : Hid (x.1.job = j ∨ x.1.bdg = g) := .inl hj
      clear hj
      gi_wp2_with fail
      exact ⟨(KeepsOthers.setCell _ _ _).from _, rfl, ⟨HA.out.bj.other (by omega) _, HA.out.bg.other (by omega) _, HA.out.br.set _, HA.out.low.setCell (p := ⟨w.heap.size + 2, 0, none⟩) (by simp) _⟩, x, by simp, HE.out⟩
    · have e1 : (x.1.job == j) = false := by simpa using hj
      have HJ := hide hj
      clear hj
      by_cases hg : x.1.bdg = g
      · have e2 : (x.1.bdg == g) = true := by simpa using hg
        have HE : Hid (x.1.job = j ∨ x.1.bdg = g) := .inr hg
        clear hg
        gi_wp2_with fail
        exact ⟨(KeepsOthers.setCell _ _ _).from _, rfl, ⟨HA.out.bj.other (by omega) _, HA.out.bg.other (by omega) _, HA.out.br.set _, HA.out.low.setCell (p := ⟨w.heap.size + 2, 0, none⟩) (by simp) _⟩, x, by simp, HE.out⟩
      · have e2 : (x.1.bdg == g) = false := by simpa using hg
        have HG := hide hg
        clear hg
        gi_wp2_with fail
        refine ⟨KeepsFrom.refl _ _, Kl.refl _ _ _, HA.out, fun y hy => ?_⟩
        rcases List.mem_append.1 hy with hy | hy
        · exact HP.out y hy
        · rw [List.mem_singleton.1 hy]
          exact ⟨HJ.out, HG.out⟩
  case done =>
    rintro D ys W hD hp ⟨hA, hn⟩ hK
    have d2 := hA.br.cell
    have f2 := hA.br.frozen
    have HA := hide hA
    have HK := hide hK
    have HN := hide hn
    have HP := hide hp
    clear hA hK hp hn
    gi_wp2_with fail
    have h4 : Boxed (W.setCell ⟨w.heap.size + 2, 0, none⟩ (.bool false)) (w.heap.size + 2) 4 (.bool false) := HA.out.br.set _
    have hK' : (W.setCell ⟨w.heap.size + 2, 0, none⟩ (.bool false)).heap[D]? = some (.deferred (some [])) := (KeepsOthers.setCell W ⟨w.heap.size + 2, 0, none⟩ (.bool false)).same D _ HK.out rfl
    refine ⟨by simp, .inl ⟨_, _, rfl, run_takeDeferred hK', ?_⟩⟩
    have hc5 := cell_kept h4.cell (grownBy_putObj' _ D (.deferred none)) (fun r e => by cases e; exact ⟨_, hK', rfl⟩)
    have hno : thr j g L = false := not_any fun x hx => by
      rw [← HP.out] at hx
      obtain ⟨y, hy, rfl⟩ := List.mem_map.1 hx
      exact HN.out y hy
    refine ⟨.bool false, ?_, by rw [hno], (HA.out.low.setCell (p := ⟨w.heap.size + 2, 0, none⟩) (by simp) _).trans (belowK_b (w := w) (Nat.le_refl _) _ D _ _ (by have := HSZ2.out; omega) hK' rfl rfl)⟩
    simp [results, Try.f31, go_sem, hc5]
  case stop =>
    rintro D c pre W hD ⟨k, hk, hpk⟩ ⟨rfl, hA, hex⟩ hK
    have HA := hide hA
    have HK := hide hK
    have hyes : thr j g L = true := by
      obtain ⟨x, _, hx⟩ := hex
      simp only [thr, List.any_eq_true, Bool.or_eq_true, beq_iff_eq]
      exact ⟨x.1, x.2, hx⟩
    clear hA hK hex hpk
    gi_wp2_with fail
    refine ⟨by simp, .inl ⟨_, _, rfl, run_takeDeferred HK.out, ?_⟩⟩
    have hc5 := cell_kept HA.out.br.cell (grownBy_putObj' W D (.deferred none)) (fun r e => by cases e; exact ⟨_, HK.out, rfl⟩)
    refine ⟨.bool true, ?_, by rw [hyes], HA.out.low.trans (belowK_b (w := w) (Nat.le_refl _) _ D _ _ (by have := HSZ2.out; omega) HK.out rfl rfl)⟩
    simp [results, Try.f31, go_sem, hc5]
end Go.Proofs.Ytjpcghkdedldiaa
