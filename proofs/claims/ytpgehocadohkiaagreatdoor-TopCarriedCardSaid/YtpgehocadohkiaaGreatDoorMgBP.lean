import Derived.Test.YtpgehocadohkiaaGreatDoorMgBO
import Derived.ProofKit
import Derived.LaidMore
import Derived.OpenShut
import Derived.ShutString
import Derived.Stop.Joined
import Derived.Stop.LaidErr
import Derived.Lib.LaidTab
import Derived.Lay
import Derived.Carry
import Derived.Deep.SlicePairs
import Derived.Lib.SmallJoins

section
namespace Go.Proofs.YtpgehocadohkiaaGreatDoor
open Go.ChangeShapes Go.WideShapes Go.ChangeAt Go.RowKit Go.Deep

theorem own : ownKnob Tryz.prog.godebug = none := by kernel_rfl
theorem Tryz.laidOut : laidOutB Tryz.prog = true := by kernel_rfl
def zs64 : List Int := [0, 1, 56, 2, 57, 49, 28, 3, 61, 58, 42, 50, 38, 29, 17, 4, 62, 47, 59, 36, 45, 43, 51, 22, 53, 39, 33, 30, 24, 18, 12, 5, 63, 55, 48, 27, 60, 41, 37, 16, 46, 35, 44, 21, 52, 32, 23, 11, 54, 26, 40, 15, 34, 20, 31, 10, 25, 14, 19, 9, 13, 8, 7, 6]
theorem g64 : Tryz.prog.globalNamed "math/bits.deBruijn64tab" = some 4 := by kernel_rfl
theorem g10 : Tryz.prog.globalNamed "internal/strconv.uint64pow10" = some 0 := by kernel_rfl
theorem gES : Tryz.prog.globalNamed "strconv.ErrSyntax" = some 5 := by kernel_rfl
abbrev laidL : List (String × DataW Unit) := [("math/bits.deBruijn32tab", Rows.laid_math_bits_deBruijn32tab), ("math/bits.deBruijn64tab", Rows.laid_math_bits_deBruijn64tab), ("internal/strconv.uint64pow10", Rows.laid_internal_strconv_uint64pow10), ("unicode/utf8.acceptRanges", Rows.laid_unicode_utf8_acceptRanges), ("strconv.ErrRange", Rows.laid_strconv_ErrRange), ("strconv.ErrSyntax", Rows.laid_strconv_ErrSyntax), ("unicode/utf8.first", Rows.laid_unicode_utf8_first)]
theorem tab_of {W : World} (h : laidMetH Tryz.prog laidL W) : Lib.TabIs Tryz.prog W "math/bits.deBruijn64tab" .u8 zs64 := by
  rw [MakeChecks.laidMetH_plain _ _ _ (by kernel_rfl)] at h
  exact Lib.tabIs_of_head (zs := zs64) g64 (by kernel_rfl) Tryz.underlying223 Tryz.underlying5 (by kernel_rfl) (by kernel_rfl) (laidMet.tail h)
theorem zs64_is : ∀ j : Fin 64, zs64.getD j.val 0 = ((Lib.deBruijn64tab.getD j.val 0 : Nat) : Int) := by decide
theorem tab64_of {W : World} (h : laidMetH Tryz.prog laidL W) : Tab64 W := fun j hj => by
  have h64 : j < 64 := hj
  have h1 := (tab_of h).cell g64 j (show j < zs64.length from h64)
  rw [zs64_is ⟨j, h64⟩] at h1
  exact h1
theorem tab10_of {W : World} (h : laidMetH Tryz.prog laidL W) : Tab10 W := by
  rw [MakeChecks.laidMetH_plain _ _ _ (by kernel_rfl)] at h
  exact Lib.tabIs_of_head (zs := Lib.pow10Tab) g10 (by kernel_rfl) Tryz.underlying184 Tryz.underlying27 (by kernel_rfl) (by kernel_rfl) (laidMet.tail (laidMet.tail h))
theorem err_of {W : World} (h : laidMetH Tryz.prog laidL W) : ∃ ev, W.cell? ⟨5, 0, none⟩ = some ev ∧ (ev = .nilIface ∨ ∃ te pe, ev = .iface te pe) := by
  rw [MakeChecks.laidMetH_plain _ _ _ (by kernel_rfl)] at h
  have h5 := laidMet.tail (laidMet.tail (laidMet.tail (laidMet.tail (laidMet.tail h))))
  obtain ⟨ps, ⟨g0, t0, cs0, f0, p0, q0, hg0, ht0, hv0, hd0, _, e0⟩, _, hrows⟩ := h5
  obtain rfl := Option.some.inj (gES.symm.trans hg0)
  obtain rfl := Option.some.inj ((show (Tryz.prog.globals[5]?).map (·.type) = some 66 by kernel_rfl).symm.trans ht0)
  obtain ⟨f1, u, v, he, hn, h1⟩ := iface_of_trod Tryz.underlying66 hd0
  refine ⟨.iface u v, ?_, .inr ⟨u, v, rfl⟩⟩
  have hc := World.var?_cell hg0 hv0 0
  rw [hc]
  have : cs0.toList[0]? = some (.iface u v) := by rw [he]; rfl
  simpa using this
theorem libs_of {W : World} (h : laidMetH Tryz.prog laidL W) : Libs W := ⟨⟨tab64_of h, tab10_of h⟩, err_of h⟩
theorem met_all (os : Os) (args : Array Value) : laidMetH Tryz.prog laidL ((World.laidAll Tryz.prog os laidL).forCall (fun _ _ => 0) ⟨#[], args, []⟩).memory := by
  rw [MakeChecks.laidMetH_plain _ _ _ (by kernel_rfl)]; exact laidMet_laidAll _ (by kernel_rfl) (by kernel_rfl)
theorem nat_of_u64 {n : Int} (h : (Lit.int .u64 n).wf = true) : ∃ a : Nat, n = (a : Int) ∧ a < 18446744073709551616 := by
  have := bounds_u64 h
  exact ⟨n.toNat, by omega, by omega⟩
theorem Tryz.cellsI : Tryz.prog.cellsOf 3 = 1 := by kernel_rfl
theorem Tryz.cellsU : Tryz.prog.cellsOf 27 = 1 := by kernel_rfl
theorem Tryz.cellsN : Tryz.prog.cellsOf 71 = 6 := by kernel_rfl
section
variable {H : Type} {enc : TypeId × Value → H}
theorem range_get {α : Type} [Inhabited α] (f : Nat → α) (n i : Nat) (h : i < n) : ((List.range n).map f)[i]! = f i := by
  rw [getElem!_pos _ i (by simpa using h)]; simp
theorem range_len {α : Type} (f : Nat → α) (n : Nat) : ((List.range n).map f).length = n := by simp
set_option maxRecDepth 20000 in
/-- a slice of instructions, opened -/
theorem code_at {W : World} {n : Nat} {v : Value} {x : DataW H × List MemPlace} (h : DataW.trod enc Tryz.prog W 0 (fun _ => true) true n 22 [v] = some x) :
    ∃ l : List In, Cd W v l ∧ ∀ y ∈ l, In.Fits y := by
  rcases open_slice (cs := [v]) Tryz.underlying22 h with ⟨hc, _⟩ | ⟨a, len, cap, m, k, D, Pl, hc, _, hl, hm, hmm, hx, hall⟩
  · simp only [List.cons.injEq, and_true] at hc
    exact ⟨[], by rw [hc]; exact cd_nil W, fun y hy => by cases hy⟩
  · simp only [List.cons.injEq, and_true] at hc
    simp only [if_true] at hmm
    subst hmm
    have each : ∀ i, i < m → ∃ q : In, (W.cell? (a.add (i * 6)) = some (.int .i64 q.op) ∧ W.cell? (a.add (i * 6 + 1)) = some (.int .i64 q.a) ∧ W.cell? (a.add (i * 6 + 2)) = some (.int .i64 q.b) ∧ W.cell? (a.add (i * 6 + 3)) = some (.int .i64 q.c) ∧ W.cell? (a.add (i * 6 + 4)) = some (.int .i64 q.n) ∧ W.cell? (a.add (i * 6 + 5)) = some (.int .u64 (q.k : Int))) ∧ In.Fits q := by
      intro i hi
      obtain ⟨cs', g1, g2⟩ := hall i hi
      rw [Tryz.cellsN] at g1
      obtain ⟨_, hlen, hcell⟩ := World.cells?_some g1
      obtain ⟨xs, m', _, _, _, hlx, hf⟩ := DataW.trod_struct Tryz.underlying71 g2
      match cs', hlen with
      | [c0, c1, c2, c3, c4, c5], hlen =>
        match xs, hlx with
        | [y0, y1, y2, y3, y4, y5], _ =>
          have f0 : DataW.trod enc Tryz.prog W 0 (fun _ => true) true m' 3 (([c0, c1, c2, c3, c4, c5].drop 0).take (Tryz.prog.cellsOf 3)) = some y0 := hf 0 _ rfl
          have f1 : DataW.trod enc Tryz.prog W 0 (fun _ => true) true m' 3 (([c0, c1, c2, c3, c4, c5].drop 1).take (Tryz.prog.cellsOf 3)) = some y1 := hf 1 _ rfl
          have f2 : DataW.trod enc Tryz.prog W 0 (fun _ => true) true m' 3 (([c0, c1, c2, c3, c4, c5].drop 2).take (Tryz.prog.cellsOf 3)) = some y2 := hf 2 _ rfl
          have f3 : DataW.trod enc Tryz.prog W 0 (fun _ => true) true m' 3 (([c0, c1, c2, c3, c4, c5].drop 3).take (Tryz.prog.cellsOf 3)) = some y3 := hf 3 _ rfl
          have f4 : DataW.trod enc Tryz.prog W 0 (fun _ => true) true m' 3 (([c0, c1, c2, c3, c4, c5].drop 4).take (Tryz.prog.cellsOf 3)) = some y4 := hf 4 _ rfl
          have f5 : DataW.trod enc Tryz.prog W 0 (fun _ => true) true m' 27 (([c0, c1, c2, c3, c4, c5].drop 5).take (Tryz.prog.cellsOf 27)) = some y5 := hf 5 _ rfl
          simp only [Tryz.cellsI, Tryz.cellsU, List.drop_succ_cons, List.drop_zero, List.take_succ_cons, List.take_zero] at f0 f1 f2 f3 f4 f5
          obtain ⟨z0, e0, _, wf0⟩ := DataW.trod_int Tryz.underlying3 f0
          obtain ⟨z1, e1, _, wf1⟩ := DataW.trod_int Tryz.underlying3 f1
          obtain ⟨z2, e2, _, wf2⟩ := DataW.trod_int Tryz.underlying3 f2
          obtain ⟨z3, e3, _, wf3⟩ := DataW.trod_int Tryz.underlying3 f3
          obtain ⟨z4, e4, _, wf4⟩ := DataW.trod_int Tryz.underlying3 f4
          obtain ⟨z5, e5, _, wf5⟩ := DataW.trod_int Tryz.underlying27 f5
          obtain ⟨u5, rfl, hu5⟩ := nat_of_u64 wf5
          simp only [List.cons.injEq, and_true] at e0 e1 e2 e3 e4 e5
          subst e0; subst e1; subst e2; subst e3; subst e4; subst e5
          have k0 := hcell 0 (by decide)
          have k1 := hcell 1 (by decide)
          have k2 := hcell 2 (by decide)
          have k3 := hcell 3 (by decide)
          have k4 := hcell 4 (by decide)
          have k5 := hcell 5 (by decide)
          rw [add_add] at k0 k1 k2 k3 k4 k5
          exact ⟨⟨z0, z1, z2, z3, z4, u5⟩, ⟨by simpa using k0, by simpa using k1, by simpa using k2, by simpa using k3, by simpa using k4, by simpa using k5⟩, bounds_i64 wf0, bounds_i64 wf1, bounds_i64 wf2, bounds_i64 wf3, bounds_i64 wf4, hu5⟩
    obtain ⟨q, hq⟩ := choose_lt each
    refine ⟨(List.range len).map q, ⟨some a, m, by rw [range_len]; exact hc, fun h => ?_⟩, fun y hy => ?_⟩
    · rw [range_len] at h
      obtain ⟨ab, ao, spot⟩ := a
      have hspot : spot = none := by simpa [Addr.add] using World.cell?_spot (hq 0 (by omega)).1.1
      subst hspot
      refine ⟨ab, ao, rfl, World.block_lt_of_cell? _ _ (hq 0 (by omega)).1.1, fun j hj i u hi => ?_⟩
      rw [range_len] at hj
      rw [range_get q len j hj] at hi
      obtain ⟨⟨h1, h2, h3, h4, h5, h6⟩, _⟩ := hq j (by omega)
      rw [Addr.add_lit] at h1 h2 h3 h4 h5 h6
      match i, hi with
      | 0, hi => cases hi; exact h1
      | 1, hi => cases hi; exact h2
      | 2, hi => cases hi; exact h3
      | 3, hi => cases hi; exact h4
      | 4, hi => cases hi; exact h5
      | 5, hi => cases hi; exact h6
    · obtain ⟨i, hi, rfl⟩ := List.mem_map.1 hy
      exact (hq i (by have := List.mem_range.1 hi; omega)).2
set_option maxRecDepth 20000 in
/-- a program, opened -/
theorem prog_of {W : World} {base : Nat} {v : Value} {d : DataW H} {ps : List MemPlace} (hv : Value.okWide Tryz.prog W .any base 24 v) (h : DataW.Trod enc Tryz.prog W 0 (fun _ => true) true 24 v d ps) :
    ∃ (f : Int) (u : Value) (l : List In), v = .agg #[.int .i64 f, u] ∧ Cd W u l ∧ (∀ y ∈ l, In.Fits y) ∧ (-9223372036854775808 ≤ f ∧ f ≤ 9223372036854775807) := by
  obtain ⟨v0, v1, y0, y1, k, rfl, rfl, rfl, t0, t1⟩ := Go.Joins.open_agg2 Tryz.underlying24 (by kernel_rfl) (by kernel_rfl) hv h
  obtain ⟨z0, e0, _, wf0⟩ := DataW.trod_int Tryz.underlying3 t0
  obtain ⟨l, hl, hf⟩ := code_at t1
  simp only [List.cons.injEq, and_true] at e0
  subst e0
  exact ⟨z0, v1, l, rfl, hl, hf, bounds_i64 wf0⟩
end
end Go.Proofs.YtpgehocadohkiaaGreatDoor
end
