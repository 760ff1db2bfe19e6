import Derived.Test.YthjngodkpldpfaaGreatDoorMgAY
import Derived.Test.YthjngodkpldpfaaGreatDoorMgBQ
import Derived.SizedLaws

section
namespace Go.Proofs.YthjngodkpldpfaaGreatDoor
open Go.ChangeShapes Go.WideShapes Go.ChangeAt Go.RowKit Go.Deep

theorem Tryz.cellsOp : Tryz.prog.cellsOf 37 = 3 := by kernel_rfl
theorem Tryz.bytesOp : Tryz.prog.bytesOf 37 = 24 := by kernel_rfl
section
variable {H : Type} {enc : TypeId × Value → H}
set_option maxRecDepth 20000 in
/-- a slice of calls, opened -/
theorem ops_of {W : World} {base : Nat} {v : Value} {d : DataW H} {ps : List MemPlace} (hv : Value.okWide Tryz.prog W .any base 25 v) (h : DataW.Trod enc Tryz.prog W 0 (fun _ => true) true 25 v d ps) (hb : ∀ el sp, d = .slice el sp → el.length ≤ 5864062014634) :
    ∃ l : List OpT, Ot W v l := by
  obtain ⟨a0, len0, cap0, rfl⟩ := okWide_slice Tryz.underlying25 hv
  obtain ⟨n, hn⟩ := h
  rcases open_slice (cs := [.slice a0 len0 cap0]) Tryz.underlying25 hn with ⟨hc, _⟩ | ⟨a, len, cap, m, k, D, Pl, hc, _, hl, hm, hmm, hx, hall⟩
  · simp only [List.cons.injEq, and_true] at hc
    rw [hc]
    exact ⟨[], ⟨none, 0, rfl, fun h => absurd h (Nat.lt_irrefl _)⟩, by simp, fun j hj => absurd hj (by simp)⟩
  · simp only [List.cons.injEq, and_true] at hc
    simp only [if_true] at hmm
    subst hmm
    have hle : len ≤ 5864062014634 := by
      have := hb _ _ (congrArg Prod.fst hx)
      rwa [range_len] at this
    have each : ∀ i, i < m → ∃ q : OpT, (W.cell? (a.add (i * 3)) = some (.int .i64 q.kd) ∧ W.cell? (a.add (i * 3 + 1)) = some (.int .i64 q.on) ∧ W.cell? (a.add (i * 3 + 2)) = some (.int .i64 q.n)) ∧
        (-9223372036854775808 ≤ q.on ∧ q.on ≤ 9223372036854775807) ∧ q.n ≤ 9223372036854775807 := by
      intro i hi
      obtain ⟨cs', g1, g2⟩ := hall i hi
      rw [Tryz.cellsOp] at g1
      obtain ⟨_, hlen, hcell⟩ := World.cells?_some g1
      obtain ⟨xs, m', _, _, _, hlx, hf⟩ := DataW.trod_struct Tryz.underlying37 g2
      match cs', hlen with
      | [c0, c1, c2], hlen =>
        match xs, hlx with
        | [y0, y1, y2], _ =>
          have f0 : DataW.trod enc Tryz.prog W 0 (fun _ => true) true m' 3 (([c0, c1, c2].drop 0).take (Tryz.prog.cellsOf 3)) = some y0 := hf 0 _ rfl
          have f1 : DataW.trod enc Tryz.prog W 0 (fun _ => true) true m' 3 (([c0, c1, c2].drop 1).take (Tryz.prog.cellsOf 3)) = some y1 := hf 1 _ rfl
          have f2 : DataW.trod enc Tryz.prog W 0 (fun _ => true) true m' 3 (([c0, c1, c2].drop 2).take (Tryz.prog.cellsOf 3)) = some y2 := hf 2 _ rfl
          simp only [Tryz.cellsI, List.drop_succ_cons, List.drop_zero, List.take_succ_cons, List.take_zero] at f0 f1 f2
          obtain ⟨z0, e0, _, _⟩ := DataW.trod_int Tryz.underlying3 f0
          obtain ⟨z1, e1, _, wf1⟩ := DataW.trod_int Tryz.underlying3 f1
          obtain ⟨z2, e2, _, wf2⟩ := DataW.trod_int Tryz.underlying3 f2
          simp only [List.cons.injEq, and_true] at e0 e1 e2
          subst e0; subst e1; subst e2
          have k0 := hcell 0 (by decide)
          have k1 := hcell 1 (by decide)
          have k2 := hcell 2 (by decide)
          rw [add_add] at k0 k1 k2
          exact ⟨⟨z0, z1, z2⟩, ⟨by simpa using k0, by simpa using k1, by simpa using k2⟩, bounds_i64 wf1, (bounds_i64 wf2).2⟩
    obtain ⟨q, hq⟩ := choose_lt each
    refine ⟨(List.range len).map q, ⟨some a, m, by rw [range_len]; exact hc, fun h => ?_⟩, by rw [range_len]; exact hle, fun j hj => ?_⟩
    · rw [range_len] at h
      obtain ⟨ab, ao, spot⟩ := a
      have hspot : spot = none := by simpa [Addr.add] using World.cell?_spot (hq 0 (by omega)).1.1
      subst hspot
      refine ⟨ab, ao, rfl, World.block_lt_of_cell? _ _ (hq 0 (by omega)).1.1, fun j hj => ?_⟩
      rw [range_len] at hj
      rw [range_get q len j hj]
      obtain ⟨⟨h1, h2, h3⟩, _⟩ := hq j (by omega)
      rw [Addr.add_lit] at h1 h2 h3
      exact ⟨h1, h2, h3⟩
    · rw [range_len] at hj
      rw [range_get q len j hj]
      exact (hq j (by omega)).2
end
end Go.Proofs.YthjngodkpldpfaaGreatDoor
end
