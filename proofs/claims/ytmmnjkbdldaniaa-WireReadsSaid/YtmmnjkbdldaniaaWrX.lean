import Derived.Test.YtmmnjkbdldaniaaWrRd
namespace Go.Proofs.Ytmmnjkbdldaniaa
open Go.RowKit Go.Shelf
open Wr (Ms V L)

theorem eleven {W : World} {A : Nat} {m : Ms} (h : Mg W A m) : W.cell? ⟨A, 0, none⟩ = some (.int .i64 m.k) ∧ W.cell? ⟨A, 1, none⟩ = some (.int .i64 m.se) ∧ W.cell? ⟨A, 2, none⟩ = some (.int .i64 m.nu) ∧ W.cell? ⟨A, 3, none⟩ = some (.int .i64 m.jo) ∧ W.cell? ⟨A, 4, none⟩ = some (.int .i64 m.ba) ∧ W.cell? ⟨A, 5, none⟩ = some (.int .i64 m.ix) ∧ W.cell? ⟨A, 6, none⟩ = some (.int .i64 m.co) ∧ W.cell? ⟨A, 7, none⟩ = some (.int .i64 m.rc) ∧ W.cell? ⟨A, 8, none⟩ = some (.int .u64 (m.rb : Int)) ∧ W.cell? ⟨A, 9, none⟩ = some (.string m.tx) ∧ W.cell? ⟨A, 10, none⟩ = some (.string m.pr) :=
  ⟨h.all 0 _ rfl, h.all 1 _ rfl, h.all 2 _ rfl, h.all 3 _ rfl, h.all 4 _ rfl, h.all 5 _ rfl, h.all 6 _ rfl, h.all 7 _ rfl, h.all 8 _ rfl, h.all 9 _ rfl, h.all 10 _ rfl⟩
set_option maxRecDepth 8000 in
set_option maxHeartbeats 4000000 in
theorem wireChecks_walk (m : Ms) (hrb : m.rb < 18446744073709551616) (w : World) : Calls Try.prog 3 #[.agg (msgC m)] w fun e w' => e = .returned (.bool true) ∧ Below w.heap.size w w' := by
  have HC := hide (check_any m hrb)
  have HR := hide (rcheck_any m hrb)
  have HA := hide awake_any
  have HSt : Hid (Below (w.heap.size + 1) (w.alloc (.cells (msgC m) 26)) (w.alloc (.cells (msgC m) 26))) := Below.refl _ _
  generalize Wr.check m = E at *
  have M0 := eleven (mg_in HSt.out)
  have HM0 := hide M0
  clear M0
  unfold msgC at HC HR HSt HM0 ⊢
  go_enter Try.func3, Try.ntmps3
  go_wp2_with fail
  go_region_held3 (fun w' => w'.cell? ⟨w.heap.size, 0, none⟩ = some (.int .i64 m.k) ∧ w'.cell? ⟨w.heap.size, 1, none⟩ = some (.int .i64 m.se) ∧ w'.cell? ⟨w.heap.size, 2, none⟩ = some (.int .i64 m.nu) ∧ w'.cell? ⟨w.heap.size, 3, none⟩ = some (.int .i64 m.jo) ∧ w'.cell? ⟨w.heap.size, 4, none⟩ = some (.int .i64 m.ba) ∧ w'.cell? ⟨w.heap.size, 5, none⟩ = some (.int .i64 m.ix) ∧ w'.cell? ⟨w.heap.size, 6, none⟩ = some (.int .i64 m.co) ∧ w'.cell? ⟨w.heap.size, 7, none⟩ = some (.int .i64 m.rc) ∧ w'.cell? ⟨w.heap.size, 8, none⟩ = some (.int .u64 (m.rb : Int)) ∧ w'.cell? ⟨w.heap.size, 9, none⟩ = some (.string m.tx) ∧ w'.cell? ⟨w.heap.size, 10, none⟩ = some (.string m.pr)) (first | exact HM0.out | exact X2m.out | exact X3m.out | exact X4m.out | go_keep) (first
    | (go_at_call 9; refine (HA.out _).mono ?_; rintro e w2 ⟨rfl, hb2⟩; have X2 := hide (below_in HSt.out ⟨hb2.os, hb2.tape, hb2.output, hb2.size, hb2.block⟩); have X2m := hide (eleven (mg_in X2.out)); clear hb2)
    | (go_at_call 10; first | (refine (HC.out w3).mono ?_; rintro e w4 ⟨rfl, hb4⟩; have X4 := hide (below_in X3.out hb4); have X4m := hide (eleven (mg_in X4.out)); clear hb4) | (refine (HC.out w2).mono ?_; rintro e w3 ⟨rfl, hb3⟩; have X3 := hide (below_in X2.out hb3); have X3m := hide (eleven (mg_in X3.out)); clear hb3))
    | (go_at_call 11; first | (refine (HR.out w3).mono ?_; rintro e w4 ⟨rfl, hb4⟩; have X4 := hide (below_in X3.out hb4); have X4m := hide (eleven (mg_in X4.out)); clear hb4) | (refine (HR.out w2).mono ?_; rintro e w3 ⟨rfl, hb3⟩; have X3 := hide (below_in X2.out hb3); have X3m := hide (eleven (mg_in X3.out)); clear hb3)))
  all_goals
    go_wp2
    go_ret
    exact ⟨by simp, b_out X4.out⟩
end Go.Proofs.Ytmmnjkbdldaniaa
