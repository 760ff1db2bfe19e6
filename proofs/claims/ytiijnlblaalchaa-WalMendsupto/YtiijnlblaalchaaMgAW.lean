import Derived.Test.YtiijnlblaalchaaMgAU
import Derived.ProofKit
import Derived.OpenShut
import Derived.ShutString
import Derived.SizedLaws
import Derived.Carry
import Derived.Deep.SlicePairs
import Derived.Deep.Strs
import Derived.Lib.SmallJoins
import Derived.Test.YtiijnlblaalchaaMgAV

section
namespace Go.Proofs.Ytiijnlblaalchaa
open Go.ChangeShapes Go.WideShapes Go.ChangeAt Go.RowKit Go.Deep

theorem own : ownKnob Try.prog.godebug = none := by kernel_rfl
theorem Try.laidOut : laidOutB Try.prog = true := by kernel_rfl
theorem Try.cellsS : Try.prog.cellsOf 9 = 1 := by kernel_rfl
theorem Try.cellsI : Try.prog.cellsOf 3 = 1 := by kernel_rfl
section
variable {H : Type} {enc : TypeId × Value → H}
theorem range_get {α : Type} (f : Nat → α) (n i : Nat) (h : i < ((List.range n).map f).length) : ((List.range n).map f)[i] = f i := by simp
theorem range_len {α : Type} (f : Nat → α) (n : Nat) : ((List.range n).map f).length = n := by simp
theorem bulk_pos (d : DataW H) : 1 ≤ Rows.uptoBulk d := by
  cases d with
  | lit l => cases l <;> simp [Rows.uptoBulk]
  | _ => simp [Rows.uptoBulk]
theorem bulk_len (l : List (DataW H)) : l.length ≤ Rows.uptoBulkAll l := by
  induction l with
  | nil => simp [Rows.uptoBulkAll]
  | cons d l ih => simp only [Rows.uptoBulkAll, List.length_cons]; have := bulk_pos d; omega
theorem bulk_mem {l : List (DataW H)} {d : DataW H} (h : d ∈ l) : Rows.uptoBulk d ≤ Rows.uptoBulkAll l := by
  induction l with
  | nil => cases h
  | cons x l ih =>
    simp only [Rows.uptoBulkAll]
    rcases List.mem_cons.1 h with rfl | h
    · omega
    · have := ih h; omega
/-- a slice of texts, opened, with its bulk -/
theorem strs_small {W : World} {n : Nat} {v : Value} {x : DataW H × List MemPlace} (h : DataW.trod enc Try.prog W 0 (fun _ => true) true n 30 [v] = some x) (hk : Rows.uptoBulk x.1 ≤ 1048576) :
    ∃ (ad : Option Addr) (cap ab ao : Nat) (l : List ByteArray), v = .slice ad l.length cap ∧ D.Rs W ad ab ao l ∧ l.length ≤ 1048576 ∧ ∀ i (h : i < l.length), l[i].size ≤ 1048576 := by
  rcases open_slice (cs := [v]) Try.underlying30 h with ⟨hc, _⟩ | ⟨a, len, cap, m, k, E, Pl, hc, _, hl, hm, hmm, hx, hall⟩
  · simp only [List.cons.injEq, and_true] at hc
    exact ⟨none, 0, 0, 0, [], hc, ⟨fun h => absurd h (by simp), fun i h => absurd h (by simp)⟩, by simp, fun i h => absurd h (by simp)⟩
  · simp only [List.cons.injEq, and_true] at hc
    simp only [if_true] at hmm
    subst hmm
    rw [hx] at hk
    simp only [Rows.uptoBulk] at hk
    have hle : len ≤ 1048576 := by
      have := bulk_len ((List.range len).map E)
      rw [range_len] at this
      omega
    have each : ∀ i, i < m → ∃ q : ByteArray, W.cell? (a.add i) = some (.string q) ∧ E i = .lit (.string q.data.toList) := by
      intro i hi
      obtain ⟨cs', g1, g2⟩ := hall i hi
      rw [Try.cellsS] at g1
      obtain ⟨_, hlen, hcell⟩ := World.cells?_some g1
      obtain ⟨s2, e2, e3, _⟩ := DataW.trod_string Try.underlying9 g2
      subst e2
      have k0 := hcell 0 (by omega)
      rw [add_add] at k0
      simp only [Prod.mk.injEq] at e3
      exact ⟨s2, by simpa using k0, e3.1⟩
    obtain ⟨q, hq⟩ := choose_lt each
    refine ⟨some a, m, a.block, a.off, (List.range len).map q, by rw [range_len]; exact hc, ⟨fun h => ?_, fun i hi => ?_⟩, by rw [range_len]; exact hle, fun i hi => ?_⟩
    · rw [range_len] at h
      obtain ⟨ab, ao, spot⟩ := a
      have hspot : spot = none := by simpa [Addr.add] using World.cell?_spot (hq 0 (by omega)).1
      rw [hspot]
    · have hi' := hi
      rw [range_len] at hi'
      rw [range_get]
      have := (hq i (by omega)).1
      obtain ⟨ab, ao, spot⟩ := a
      have hspot : spot = none := by simpa [Addr.add] using World.cell?_spot (hq 0 (by omega)).1
      subst hspot
      rwa [Addr.add_lit] at this
    · have hi' := hi
      rw [range_len] at hi'
      rw [range_get]
      have h1 := bulk_mem (l := (List.range len).map E) (d := E i) (List.mem_map.2 ⟨i, List.mem_range.2 hi', rfl⟩)
      rw [(hq i (by omega)).2] at h1
      simp only [Rows.uptoBulk] at h1
      have h2 : (q i).size = (q i).data.toList.length := D.size_list _
      omega
/-- a slice of whole numbers, opened, with its bulk -/
theorem ints_small {W : World} {n : Nat} {v : Value} {x : DataW H × List MemPlace} (h : DataW.trod enc Try.prog W 0 (fun _ => true) true n 31 [v] = some x) (hk : Rows.uptoBulk x.1 ≤ 1048576) :
    ∃ (ad : Option Addr) (cap ab ao : Nat) (l : List Int), v = .slice ad l.length cap ∧ Ri W ad ab ao l ∧ l.length ≤ 1048576 := by
  rcases open_slice (cs := [v]) Try.underlying31 h with ⟨hc, _⟩ | ⟨a, len, cap, m, k, E, Pl, hc, _, hl, hm, hmm, hx, hall⟩
  · simp only [List.cons.injEq, and_true] at hc
    exact ⟨none, 0, 0, 0, [], hc, ⟨fun h => absurd h (by simp), fun i h => absurd h (by simp)⟩, by simp⟩
  · simp only [List.cons.injEq, and_true] at hc
    simp only [if_true] at hmm
    subst hmm
    rw [hx] at hk
    simp only [Rows.uptoBulk] at hk
    have hle : len ≤ 1048576 := by
      have := bulk_len ((List.range len).map E)
      rw [range_len] at this
      omega
    have each : ∀ i, i < m → ∃ q : Int, W.cell? (a.add i) = some (.int .i64 q) := by
      intro i hi
      obtain ⟨cs', g1, g2⟩ := hall i hi
      rw [Try.cellsI] at g1
      obtain ⟨_, hlen, hcell⟩ := World.cells?_some g1
      obtain ⟨s2, e2, _, _⟩ := DataW.trod_int Try.underlying3 g2
      subst e2
      have k0 := hcell 0 (by omega)
      rw [add_add] at k0
      exact ⟨s2, by simpa using k0⟩
    obtain ⟨q, hq⟩ := choose_lt each
    refine ⟨some a, m, a.block, a.off, (List.range len).map q, by rw [range_len]; exact hc, ⟨fun h => ?_, fun i hi => ?_⟩, by rw [range_len]; exact hle⟩
    · rw [range_len] at h
      obtain ⟨ab, ao, spot⟩ := a
      have hspot : spot = none := by simpa [Addr.add] using World.cell?_spot (hq 0 (by omega))
      rw [hspot]
    · have hi' := hi
      rw [range_len] at hi'
      rw [range_get]
      have := hq i (by omega)
      obtain ⟨ab, ao, spot⟩ := a
      have hspot : spot = none := by simpa [Addr.add] using World.cell?_spot (hq 0 (by omega))
      subst hspot
      rwa [Addr.add_lit] at this
end
end Go.Proofs.Ytiijnlblaalchaa
end

section
namespace Go.Proofs.Ytiijnlblaalchaa
open Go.ChangeShapes Go.WideShapes Go.ChangeAt Go.RowKit Go.Deep

theorem Try.cellsS1 : Try.prog.cellsOf 30 = 1 := by kernel_rfl
theorem Try.cellsI1 : Try.prog.cellsOf 31 = 1 := by kernel_rfl
theorem Try.cellsL : Try.prog.cellsOf 33 = 4 := by kernel_rfl
section
variable {H : Type} {enc : TypeId × Value → H}
set_option maxRecDepth 20000 in
theorem life_open {W : World} {n : Nat} {cs : List Value} {x : DataW H × List MemPlace} (hl : cs.length = 4) (h : DataW.trod enc Try.prog W 0 (fun _ => true) true n 33 cs = some x) :
    ∃ c0 c1 c2 c3 y0 y1 y2 y3 m, cs = [c0, c1, c2, c3] ∧ x.1 = .agg [y0.1, y1.1, y2.1, y3.1] ∧ DataW.trod enc Try.prog W 0 (fun _ => true) true m 30 [c0] = some y0 ∧ DataW.trod enc Try.prog W 0 (fun _ => true) true m 31 [c1] = some y1 ∧
      DataW.trod enc Try.prog W 0 (fun _ => true) true m 3 [c2] = some y2 ∧ DataW.trod enc Try.prog W 0 (fun _ => true) true m 3 [c3] = some y3 := by
  obtain ⟨xs, m', _, hxx, _, hlx, hf⟩ := DataW.trod_struct Try.underlying33 h
  match cs, hl with
  | [c0, c1, c2, c3], _ =>
    match xs, hlx with
    | [y0, y1, y2, y3], _ =>
      have f0 : DataW.trod enc Try.prog W 0 (fun _ => true) true m' 30 (([c0, c1, c2, c3].drop 0).take (Try.prog.cellsOf 30)) = some y0 := hf 0 _ rfl
      have f1 : DataW.trod enc Try.prog W 0 (fun _ => true) true m' 31 (([c0, c1, c2, c3].drop 1).take (Try.prog.cellsOf 31)) = some y1 := hf 1 _ rfl
      have f2 : DataW.trod enc Try.prog W 0 (fun _ => true) true m' 3 (([c0, c1, c2, c3].drop 2).take (Try.prog.cellsOf 3)) = some y2 := hf 2 _ rfl
      have f3 : DataW.trod enc Try.prog W 0 (fun _ => true) true m' 3 (([c0, c1, c2, c3].drop 3).take (Try.prog.cellsOf 3)) = some y3 := hf 3 _ rfl
      simp only [Try.cellsI, Try.cellsS1, Try.cellsI1, List.drop_succ_cons, List.drop_zero, List.take_succ_cons, List.take_zero] at f0 f1 f2 f3
      exact ⟨c0, c1, c2, c3, y0, y1, y2, y3, m', rfl, by rw [hxx]; rfl, f0, f1, f2, f3⟩
/-- a slice of lives, opened, with its bulk -/
theorem lives_small {W : World} {n : Nat} {v : Value} {x : DataW H × List MemPlace} (h : DataW.trod enc Try.prog W 0 (fun _ => true) true n 22 [v] = some x) (hk : Rows.uptoBulk x.1 ≤ 1048576) :
    ∃ (ad : Option Addr) (cap ab ao : Nat) (Q : List LifeV), v = .slice ad Q.length cap ∧ Rl W ad ab ao Q ∧ Q.length ≤ 1048576 := by
  rcases open_slice (cs := [v]) Try.underlying22 h with ⟨hc, _⟩ | ⟨a, len, cap, m, k, E, Pl, hc, _, hl, hm, hmm, hx, hall⟩
  · simp only [List.cons.injEq, and_true] at hc
    exact ⟨none, 0, 0, 0, [], hc, ⟨fun h => absurd h (by simp), fun i h => absurd h (by simp), fun i h => absurd h (by simp), fun i h => absurd h (by simp), fun i h => absurd h (by simp), fun i h => absurd h (by simp), fun i h => absurd h (by simp), fun i h => absurd h (by simp), fun i h => absurd h (by simp), fun i h => absurd h (by simp), fun i h => absurd h (by simp)⟩, by simp⟩
  · simp only [List.cons.injEq, and_true] at hc
    simp only [if_true] at hmm
    subst hmm
    rw [hx] at hk
    simp only [Rows.uptoBulk] at hk
    have hle : len ≤ 1048576 := by
      have := bulk_len ((List.range len).map E)
      rw [range_len] at this
      omega
    have each : ∀ i, i < len → ∃ q : LifeV, (W.cell? (a.add (i * 4)) = some (.slice q.aT q.T.length q.cT) ∧ W.cell? (a.add (i * 4 + 1)) = some (.slice q.aM q.M.length q.cM) ∧ W.cell? (a.add (i * 4 + 2)) = some (.int .i64 q.n) ∧ W.cell? (a.add (i * 4 + 3)) = some (.int .i64 q.bt)) ∧
        (D.Rs W q.aT q.tb q.tf q.T ∧ Ri W q.aM q.mb q.mf q.M) ∧ (∀ j (hj : j < q.T.length), q.T[j].size ≤ 1048576) ∧ (q.T.length ≤ 1048576 ∧ q.M.length ≤ 1048576) ∧ (-9223372036854775808 ≤ q.n ∧ q.n ≤ 9223372036854775807) ∧ (-9223372036854775808 ≤ q.bt ∧ q.bt ≤ 9223372036854775807) := by
      intro i hi
      obtain ⟨cs', g1, g2⟩ := hall i (by omega)
      have hbi := bulk_mem (l := (List.range len).map E) (d := E i) (List.mem_map.2 ⟨i, List.mem_range.2 hi, rfl⟩)
      rw [Try.cellsL] at g1
      obtain ⟨_, hlen, hcell⟩ := World.cells?_some g1
      obtain ⟨c0, c1, c2, c3, y0, y1, y2, y3, m', rfl, hxx, f0, f1, f2, f3⟩ := life_open hlen g2
      have hxx : E i = .agg [y0.1, y1.1, y2.1, y3.1] := hxx
      rw [hxx] at hbi
      simp only [Rows.uptoBulk, Rows.uptoBulkAll] at hbi
      obtain ⟨aT, cT, tb, tf, T, rfl, hT, hTl, hTs⟩ := strs_small f0 (by omega)
      obtain ⟨aM, cM, mb, mf, M, rfl, hM, hMl⟩ := ints_small f1 (by omega)
      obtain ⟨z2, e2, _, wf2⟩ := DataW.trod_int Try.underlying3 f2
      obtain ⟨z3, e3, _, wf3⟩ := DataW.trod_int Try.underlying3 f3
      simp only [List.cons.injEq, and_true] at e2 e3
      subst e2; subst e3
      have k0 := hcell 0 (by decide)
      have k1 := hcell 1 (by decide)
      have k2 := hcell 2 (by decide)
      have k3 := hcell 3 (by decide)
      rw [add_add] at k0 k1 k2 k3
      exact ⟨⟨aT, cT, tb, tf, T, aM, cM, mb, mf, M, z2, z3⟩, ⟨by simpa using k0, by simpa using k1, by simpa using k2, by simpa using k3⟩, ⟨hT, hM⟩, hTs, ⟨hTl, hMl⟩, bounds_i64 wf2, bounds_i64 wf3⟩
    have hI : Inhabited LifeV := ⟨⟨none, 0, 0, 0, [], none, 0, 0, 0, [], 0, 0⟩⟩
    obtain ⟨q, hq⟩ := choose_lt each
    refine ⟨some a, m, a.block, a.off, (List.range len).map q, by rw [range_len]; exact hc, ?_, by rw [range_len]; exact hle⟩
    by_cases h0 : len = 0
    · subst h0
      exact ⟨fun h => absurd h (by simp), fun i h => absurd h (by simp), fun i h => absurd h (by simp), fun i h => absurd h (by simp), fun i h => absurd h (by simp), fun i h => absurd h (by simp), fun i h => absurd h (by simp), fun i h => absurd h (by simp), fun i h => absurd h (by simp), fun i h => absurd h (by simp), fun i h => absurd h (by simp)⟩
    obtain ⟨ab, ao, spot⟩ := a
    have hspot : spot = none := by simpa [Addr.add] using World.cell?_spot (hq 0 (by omega)).1.1
    subst hspot
    simp only [Addr.add_lit] at hq
    have gt : ∀ i (h : i < ((List.range len).map q).length), ((List.range len).map q)[i] = q i := fun i h => range_get q len i h
    refine ⟨fun _ => rfl, fun i hi => ?_, fun i hi => ?_, fun i hi => ?_, fun i hi => ?_, fun i hi => ?_, fun i hi => ?_, fun i hi j hj => ?_, fun i hi => ?_, fun i hi => ?_, fun i hi => ?_⟩
    all_goals
      have hi' := hi
      rw [range_len] at hi'
      obtain ⟨⟨h1, h2, h3, h4⟩, ⟨h5, h6⟩, h7, h8, h9, h10⟩ := hq i hi'
      first
        | (rw [gt]; first | exact h1 | exact h2 | exact h3 | exact h4 | exact h5 | exact h6 | exact h8 | exact h9 | exact h10)
        | (simp only [gt] at hj ⊢; exact h7 j hj)
end
end Go.Proofs.Ytiijnlblaalchaa
end
