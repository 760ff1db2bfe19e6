import Derived.Test.YtjfgmdiafhkbgaaAuBf
import Derived.Laws.ResultCell
namespace Go.Proofs.Ytjfgmdiafhkbgaa
open Go.ChangeShapes Go.WideShapes Go.ChangeAt Go.RowKit Go.Deep Go.MapKept
set_option maxRecDepth 8000

theorem results_c3 {fn : Func} {p u x : Tmp} {ty : TypeId} (h : fn.results = #[.cell p ty, .tmp u, .tmp x]) (tmps : Array Value) (P : Program) (w : World) :
    (results fn tmps).run P w =
      ((asAddr (tmps.getD p undef)).run P w).andThen fun a w₁ => ((loadVar ty a).run P w₁).andThen fun v w₂ => .ok (.tuple #[v, tmps.getD u undef, tmps.getD x undef]) w₂ := by
  simp only [results, h]
  simp [Sem.run_bind, Result.andThen]
/-- the first fault -/
def fs (l : List Ev) : Nat × Nat := (allL l).head?.getD (0, 0)
theorem two_of {W : World} {g : Nat} {a b : Value} (h : W.heap[g]? = some (.cells #[a, b] 25 (0, 0))) : W.cell? ⟨g, 0, none⟩ = some a ∧ W.cell? ⟨g, 1, none⟩ = some b ∧ ∀ k, W.frozen? ⟨g, k, none⟩ = false :=
  ⟨by simp [World.cell?, h], by simp [World.cell?, h], fun k => by simp [World.frozen?, h]⟩
set_option maxHeartbeats 1000000 in
theorem first_any {w : World} {v : Value} {l : List Ev} (hr : Rv w v l) (hf : ∀ e ∈ l, e.fit) : Calls Try.prog 7 #[v] w fun e w' => e = .returned (.tuple #[.agg #[.int .i64 ((fs l).1 : Int), .int .i64 ((fs l).2 : Int)], .bool (!(allL l).isEmpty), .int .i64 (allE l)]) ∧ Below w.heap.size w w' := by
  have HA := hide (all_fv (hr.below (below_alloc w (.cells #[.int .i64 0, .int .i64 0] 25))) hf)
  obtain ⟨p, cap, rfl, _⟩ := hr.shape
  have hx : allE l ≠ 0 → allL l = [] := fun h => by unfold allL; rw [if_neg h]
  unfold fs
  clear hr hf
  generalize allE l = AE at *
  generalize allL l = A at *
  generalize hff : A.head?.getD (0, 0) = ff
  generalize hbb : (!A.isEmpty) = bb
  have HX := hide hx
  clear hx
  go_enter Try.func7, Try.ntmps7
  go_wp2_with fail
  refine HA.out.mono ?_
  rintro e w1 ⟨ad, cp, rfl, hv, hb⟩
  have HV := hide hv
  have hbk : w1.heap[w.heap.size]? = some (.cells #[.int .i64 0, .int .i64 0] 25 (0, 0)) := (hb.block _ (by rw [World.size_alloc]; omega)).trans (heap_alloc_new w _)
  obtain ⟨c0, c1, cz⟩ := two_of hbk
  have cz0 := cz 0
  have cz1 := cz 1
  have HB := hide (below_of (below_alloc w _) hb)
  have hsz := HB.out.size
  clear hv hb hbk cz
  by_cases h0 : AE = 0
  · subst h0
    by_cases h1 : A.length = 0
    · have e : A = [] := List.length_eq_zero_iff.1 h1
      subst e
      obtain rfl : ff = (0, 0) := hff.symm
      obtain rfl : bb = false := hbb.symm
      clear h1 HX HV hff hbb
      go_wp2_with fail
      refine bodyPost_ret (by rw [results_c3 rfl]; go_simp; rfl) rfl ?_
      exact ⟨rfl, (HB.out.setCell (p := ⟨w.heap.size, 0, none⟩) (Nat.le_refl _) _).setCell (p := ⟨w.heap.size, 1, none⟩) (Nat.le_refl _) _⟩
    · obtain ⟨b1, o1, rfl, hl1, hc1⟩ := HV.out.at (by omega)
      obtain ⟨d0, d1⟩ := hc1 0 (by omega)
      have hne : ((A.length : Int) == 0) = false := beq_eq_false_iff_ne.2 (by omega)
      have hlt : (0 : Int) < (A.length : Int) := by omega
      have hlt2 : 0 < A.length := by omega
      rw [Nat.zero_mul, Nat.add_zero] at d0 d1
      obtain rfl : ff = A[0]! := by
        rw [← hff]
        cases A with
        | nil => simp at hlt2
        | cons x L => rfl
      obtain rfl : bb = true := by
        rw [← hbb]
        cases A with
        | nil => simp at hlt2
        | cons x L => rfl
      clear HX HV hc1 h1 hff hbb
      go_wp2_with fail
      refine bodyPost_ret (by rw [results_c3 rfl]; go_simp; rfl) rfl ?_
      exact ⟨by rw [getElem!_pos A 0 hlt2], (HB.out.setCell (p := ⟨w.heap.size, 0, none⟩) (Nat.le_refl _) _).setCell (p := ⟨w.heap.size, 1, none⟩) (Nat.le_refl _) _⟩
  · have e := HX.out h0
    subst e
    obtain rfl : ff = (0, 0) := hff.symm
    obtain rfl : bb = false := hbb.symm
    have hne : (AE != 0) = true := by simpa using h0
    clear HX HV h0 hff hbb
    go_wp2_with fail
    refine bodyPost_ret (by rw [results_c3 rfl]; go_simp; rfl) rfl ?_
    exact ⟨rfl, (HB.out.setCell (p := ⟨w.heap.size, 0, none⟩) (Nat.le_refl _) _).setCell (p := ⟨w.heap.size, 1, none⟩) (Nat.le_refl _) _⟩
section
variable {H : Type} {enc : TypeId × Value → H}
/-- one event that comes in -/
theorem event_of {W : World} {base : Nat} {v : Value} {d : DataW H} {ps : List MemPlace} (hv : Value.okWide Try.prog W .any base 43 v) (h : DataW.Trod enc Try.prog W 0 (fun _ => true) true 43 v d ps) (hb : Rows.uptoBulk d ≤ 1048576) :
    ∃ (e : Ev) (q : Option Addr) (cq : Nat), v = e.v (.slice q e.ts.length cq) ∧ Tx W (.slice q e.ts.length cq) e.ts ∧ e.fit := by
  obtain ⟨cs, rfl, hsz⟩ := okWide_struct Try.underlying43 hv
  obtain ⟨fuel, hf⟩ := h
  obtain ⟨e, t, hcs, hT, hF⟩ := event_at hf hb
  obtain ⟨q, cq, rfl, _⟩ := hT.shape
  refine ⟨e, q, cq, ?_, hT, hF⟩
  have : cs.toList = (e.cs (.slice q e.ts.length cq)).toArray.toList := hcs
  rw [Array.toList_inj.mp this]
  rfl
end
end Go.Proofs.Ytjfgmdiafhkbgaa
