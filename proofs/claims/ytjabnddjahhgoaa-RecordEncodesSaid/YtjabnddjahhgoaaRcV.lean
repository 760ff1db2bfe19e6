import Derived.Test.YtjabnddjahhgoaaRcU
namespace Go.Proofs.Ytjabnddjahhgoaa
open Go.RowKit
open Rc (L V Ch)

set_option maxHeartbeats 400000 in
theorem catchD {w : World} {X Z : Nat} {vx vz : Value} (hX : w.cell? ⟨X, 0, none⟩ = some vx) (hZ : w.cell? ⟨Z, 0, none⟩ = some vz) (zX : w.frozen? ⟨X, 0, none⟩ = false) (zZ : w.frozen? ⟨Z, 0, none⟩ = false) (hn : Z ≠ X) (older : List PanicEntry) :
    CallsD Try.prog 18 #[.pointer (some ⟨X, 0, none⟩), .pointer (some ⟨Z, 0, none⟩)] (.panicking ({ v := .iface 30 (.int .i64 83), recovered := false } :: older)) w fun e u' w' =>
      e = .returned (.tuple #[]) ∧ u' = .panicking ({ v := .iface 30 (.int .i64 83), recovered := true } :: older) ∧ w' = (w.setCell ⟨X, 0, none⟩ (.slice none 0 0)).setCell ⟨Z, 0, none⟩ (.int .i64 83) := by
  have c2 : (w.setCell ⟨X, 0, none⟩ (.slice none 0 0)).cell? ⟨Z, 0, none⟩ = some vz := cell_other hZ hn
  have z2 : (w.setCell ⟨X, 0, none⟩ (.slice none 0 0)).frozen? ⟨Z, 0, none⟩ = false := by rw [World.frozen?_setCell]; exact zZ
  refine callsD_of_wpS Try.func18 rfl fun c₀ cs hu => ?_
  apply wpS_seq
  apply wpS_region
  simp [wpOpsS, go_sem, recoverD, hu, Try.ntmps18, Exit.thenS]
  refine wpS_cond (t := true) (by simp [Act.eval, Array.replicate]) ?_
  simp only [if_true]
  refine wpS_of_wp ?_
  simp only [Array.replicate, List.replicate]
  go_wp2
  exact ⟨rfl, _, rfl, _, results_none rfl _ _ _, rfl, rfl, rfl⟩
set_option maxHeartbeats 400000 in
theorem idleD (w : World) (X Z : Nat) :
    CallsD Try.prog 18 #[.pointer (some ⟨X, 0, none⟩), .pointer (some ⟨Z, 0, none⟩)] .returning w fun e u' w' => e = .returned (.tuple #[]) ∧ u' = .returning ∧ w' = w := by
  refine callsD_of_wpS Try.func18 rfl fun c₀ cs hu => ?_
  apply wpS_seq
  apply wpS_region
  simp [wpOpsS, go_sem, recoverD, hu, Try.ntmps18, Exit.thenS]
  refine wpS_cond (t := false) (by simp [Act.eval, Array.replicate]) ?_
  simp only [Bool.false_eq_true, if_false]
  refine wpS_of_wp (wp_skip ?_)
  cases c₀
  simp_all [bodyPostS, results, Try.results18]
/-- Decode's ending -/
def EPost (w0 : World) (x : Option (List Ch)) (e : Ending) (w' : World) : Prop :=
  match x with
  | some l => ∃ A vals, e = .returned (.tuple #[.slice (some ⟨A, 0, none⟩) vals.length vals.length, .int .i64 0]) ∧ vals.map Prod.fst = l ∧ RowN w0 A vals w'
  | none => e = .returned (.tuple #[.slice none 0 0, .int .i64 83]) ∧ Below w0.heap.size w0 w'
theorem RowN.step {w0 w w' : World} {A : Nat} {vals : List (Ch × Value)} (h : RowN w0 A vals w) (hb : Below w0.heap.size w0 w') (hk : ∀ (X : Nat) (cs : Array Value) (ty : TypeId), w.heap[X]? = some (.cells cs ty (0, 0)) → (ty = 29 ∨ ty = 9) → w'.heap[X]? = w.heap[X]?) : RowN w0 A vals w' := by
  refine ⟨(hk A _ _ h.ch (.inl rfl)).trans h.ch, fun x hx => ?_, h.hA, hb⟩
  have o1 := h.own x hx
  refine own_stepS o1 fun X hX => ?_
  rcases o1.2 with ⟨e, _⟩ | ⟨g, cap, cur, e, _, hg, _⟩
  · rw [e] at hX; simp [Value.ownBlock] at hX
  · rw [e] at hX
    simp only [Value.ownBlock, Option.some.injEq] at hX
    subst hX
    exact hk _ _ _ hg (.inr rfl)
theorem RowN.base {w0 w1 w : World} {A : Nat} {vals : List (Ch × Value)} (h : RowN w1 A vals w) (hb : Below w0.heap.size w0 w1) : RowN w0 A vals w := by
  refine ⟨h.ch, fun x hx => ?_, Nat.le_trans hb.size h.hA, hb.trans (h.bel.mono hb.size)⟩
  have o1 := h.own x hx
  refine ⟨o1.1, ?_⟩
  rcases o1.2 with h2 | ⟨g, cap, cur, e, hg1, h2⟩
  · exact .inl h2
  · exact .inr ⟨g, cap, cur, e, Nat.le_trans hb.size hg1, h2⟩
set_option maxHeartbeats 800000 in
theorem decode_any (b : ByteArray) (hb : b.size ≤ 140737488351232) (w : World) : Calls Try.prog 10 #[.string b] w (EPost w (Rc.deco b)) := by
  have hmf : ∀ (fn : Fn) (first cap : Array Value) (w : World), (Instr.makeFunc fn first cap).run Try.prog w = .ok (.func fn first cap) w := fun _ _ _ _ => rfl
  have hX0 : ((w.alloc (.cells #[.slice none 0 0] 22)).alloc (.cells #[.int .i64 0] 30)).heap[w.heap.size]? = some (.cells #[.slice none 0 0] 22 (0, 0)) := (Below.heap_alloc _ _ _ (by simp)).trans (heap_alloc_new w _)
  have hZ0 : ((w.alloc (.cells #[.slice none 0 0] 22)).alloc (.cells #[.int .i64 0] 30)).heap[w.heap.size + 1]? = some (.cells #[.int .i64 0] 30 (0, 0)) := by
    have := heap_alloc_new (w.alloc (.cells #[.slice none 0 0] 22)) (.cells #[.int .i64 0] 30); simpa using this
  have hB0 : Below w.heap.size w ((w.alloc (.cells #[.slice none 0 0] 22)).alloc (.cells #[.int .i64 0] 30)) := (below_alloc w _).alloc (by simp) _
  have HR := hide (readRow_any b hb ((w.alloc (.cells #[.slice none 0 0] 22)).alloc (.cells #[.int .i64 0] 30)))
  have HX0 := hide hX0
  have HZ0 := hide hZ0
  have HB0 := hide hB0
  clear hX0 hZ0 hB0
  generalize hE : Rc.deco b = E at *
  go_enter_defers Try.func10, Try.ntmps10
  go_wp2_with fail
  generalize hW1 : (w.alloc (.cells #[.slice none 0 0] 22)).alloc (.cells #[.int .i64 0] 30) = W1 at *
  refine HR.out.mono ?_
  intro e w2 hP
  cases E with
  | none =>
    obtain ⟨he, hQ⟩ := hP
    have hX2 : w2.heap[w.heap.size]? = _ := (hQ.block _ (lt_of_block HX0.out)).trans HX0.out
    have hZ2 : w2.heap[w.heap.size + 1]? = _ := (hQ.block _ (lt_of_block HZ0.out)).trans HZ0.out
    have cX : w2.cell? ⟨w.heap.size, 0, none⟩ = some (.slice none 0 0) := by simp [World.cell?, hX2]
    have cZ : w2.cell? ⟨w.heap.size + 1, 0, none⟩ = some (.int .i64 0) := by simp [World.cell?, hZ2]
    have zX : w2.frozen? ⟨w.heap.size, 0, none⟩ = false := by simp [World.frozen?, hX2]
    have zZ : w2.frozen? ⟨w.heap.size + 1, 0, none⟩ = false := by simp [World.frozen?, hZ2]
    have HF : Hid (Below w.heap.size w ((w2.setCell ⟨w.heap.size, 0, none⟩ (.slice none 0 0)).setCell ⟨w.heap.size + 1, 0, none⟩ (.int .i64 83))) := hide (((HB0.out.trans (hQ.mono HB0.out.size)).setCell (Nat.le_refl _) _).setCell (Nat.le_succ _) _)
    have cX3 : ((w2.setCell ⟨w.heap.size, 0, none⟩ (.slice none 0 0)).setCell ⟨w.heap.size + 1, 0, none⟩ (.int .i64 83)).cell? ⟨w.heap.size, 0, none⟩ = some (.slice none 0 0) := cell_other (World.cell?_setCell_same _ _ _ cX) (by simp)
    have cZ3 : ((w2.setCell ⟨w.heap.size, 0, none⟩ (.slice none 0 0)).setCell ⟨w.heap.size + 1, 0, none⟩ (.int .i64 83)).cell? ⟨w.heap.size + 1, 0, none⟩ = some (.int .i64 83) := World.cell?_setCell_same _ _ _ (cell_other cZ (by simp))
    unfold Gives at he
    subst he
    clear HR hQ hX2 hZ2 hE
    go_wp2_with fail
    refine leaves_cons (f := 18) (args := #[.pointer (some ⟨w.heap.size, 0, none⟩), .pointer (some ⟨w.heap.size + 1, 0, none⟩)]) (by simp) (by simp [go_sem]) ?_
    refine (catchD cX cZ zX zZ (by omega) []).mono ?_
    rintro e u' w'' ⟨rfl, rfl, rfl⟩
    simp [Leaves, settle, results, Try.results10, go_sem, cX3, cZ3]
    exact ⟨rfl, HF.out⟩
  | some l =>
    obtain ⟨A, vals, rfl, hl, hN⟩ := hP
    have hX2 : w2.heap[w.heap.size]? = _ := (hN.bel.block _ (lt_of_block HX0.out)).trans HX0.out
    have hZ2 : w2.heap[w.heap.size + 1]? = _ := (hN.bel.block _ (lt_of_block HZ0.out)).trans HZ0.out
    have cX : w2.cell? ⟨w.heap.size, 0, none⟩ = some (.slice none 0 0) := by simp [World.cell?, hX2]
    have cZ : w2.cell? ⟨w.heap.size + 1, 0, none⟩ = some (.int .i64 0) := by simp [World.cell?, hZ2]
    have zX : w2.frozen? ⟨w.heap.size, 0, none⟩ = false := by simp [World.frozen?, hX2]
    have zZ : w2.frozen? ⟨w.heap.size + 1, 0, none⟩ = false := by simp [World.frozen?, hZ2]
    generalize hv : Value.slice (some ⟨A, 0, none⟩) vals.length vals.length = vv at *
    have cZ2 : (w2.setCell ⟨w.heap.size, 0, none⟩ vv).cell? ⟨w.heap.size + 1, 0, none⟩ = some (.int .i64 0) := cell_other cZ (by simp)
    have zZ2 : (w2.setCell ⟨w.heap.size, 0, none⟩ vv).frozen? ⟨w.heap.size + 1, 0, none⟩ = false := by rw [World.frozen?_setCell]; exact zZ
    have cX3 : ((w2.setCell ⟨w.heap.size, 0, none⟩ vv).setCell ⟨w.heap.size + 1, 0, none⟩ (.int .i64 0)).cell? ⟨w.heap.size, 0, none⟩ = some vv := cell_other (World.cell?_setCell_same _ _ _ cX) (by simp)
    have cZ3 : ((w2.setCell ⟨w.heap.size, 0, none⟩ vv).setCell ⟨w.heap.size + 1, 0, none⟩ (.int .i64 0)).cell? ⟨w.heap.size + 1, 0, none⟩ = some (.int .i64 0) := World.cell?_setCell_same _ _ _ cZ2
    have HF : Hid (RowN w A vals ((w2.setCell ⟨w.heap.size, 0, none⟩ vv).setCell ⟨w.heap.size + 1, 0, none⟩ (.int .i64 0))) := hide (by
      have hN0 := hN.base HB0.out
      refine hN0.step ((hN0.bel.setCell (Nat.le_refl _) _).setCell (Nat.le_succ _) _) fun X cs ty hX hty => ?_
      have n1 : X ≠ w.heap.size := blk_ne hX hX2 (by rcases hty with rfl | rfl <;> decide)
      have n2 : X ≠ w.heap.size + 1 := blk_ne hX hZ2 (by rcases hty with rfl | rfl <;> decide)
      exact (Below.heap_setCell _ _ _ _ n2).trans (Below.heap_setCell _ _ _ _ n1))
    clear HR hN hX2 hZ2 hE
    subst hv
    go_wp2_with fail
    refine leaves_cons (f := 18) (args := #[.pointer (some ⟨w.heap.size, 0, none⟩), .pointer (some ⟨w.heap.size + 1, 0, none⟩)]) (by simp) (by simp [go_sem]) ?_
    refine (idleD _ _ _).mono ?_
    rintro e u' w'' ⟨rfl, rfl, rfl⟩
    simp [Leaves, settle, results, Try.results10, go_sem, cX3, cZ3]
    exact ⟨A, vals, rfl, hl, HF.out⟩
end Go.Proofs.Ytjabnddjahhgoaa
