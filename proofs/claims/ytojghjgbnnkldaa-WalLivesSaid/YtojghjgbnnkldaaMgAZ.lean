import Derived.Test.YtojghjgbnnkldaaMgAU
import Derived.ProofKit
import Derived.OpenShut
import Derived.ShutString
import Derived.SizedLaws
import Derived.Carry
import Derived.Deep.SlicePairs
import Derived.Deep.Strs
import Derived.Lib.SmallJoins
import Derived.Test.YtojghjgbnnkldaaMgAV
import Derived.Test.YtojghjgbnnkldaaMgAY

section
namespace Go.Proofs.Ytojghjgbnnkldaa
open Go.ChangeShapes Go.WideShapes Go.ChangeAt Go.RowKit Go.Deep

theorem own : ownKnob Try.prog.godebug = none := by kernel_rfl
theorem Try.laidOut : laidOutB Try.prog = true := by kernel_rfl
theorem Try.cellsS : Try.prog.cellsOf 9 = 1 := by kernel_rfl
theorem Try.cellsI : Try.prog.cellsOf 3 = 1 := by kernel_rfl
section
variable {H : Type} {enc : TypeId × Value → H}
theorem range_get {α : Type} (f : Nat → α) (n i : Nat) (h : i < ((List.range n).map f).length) : ((List.range n).map f)[i] = f i := by simp
theorem range_len {α : Type} (f : Nat → α) (n : Nat) : ((List.range n).map f).length = n := by simp
theorem bulk_pos (d : DataW H) : 1 ≤ Rows.uptoBulk d := by
  cases d with
  | lit l => cases l <;> simp [Rows.uptoBulk]
  | _ => simp [Rows.uptoBulk]
theorem bulk_len (l : List (DataW H)) : l.length ≤ Rows.uptoBulkAll l := by
  induction l with
  | nil => simp [Rows.uptoBulkAll]
  | cons d l ih => simp only [Rows.uptoBulkAll, List.length_cons]; have := bulk_pos d; omega
theorem bulk_mem {l : List (DataW H)} {d : DataW H} (h : d ∈ l) : Rows.uptoBulk d ≤ Rows.uptoBulkAll l := by
  induction l with
  | nil => cases h
  | cons x l ih =>
    simp only [Rows.uptoBulkAll]
    rcases List.mem_cons.1 h with rfl | h
    · omega
    · have := ih h; omega
/-- a slice of texts, opened, with its bulk -/
theorem strs_small {W : World} {n : Nat} {v : Value} {x : DataW H × List MemPlace} (h : DataW.trod enc Try.prog W 0 (fun _ => true) true n 30 [v] = some x) (hk : Rows.uptoBulk x.1 ≤ 1048576) :
    ∃ (ad : Option Addr) (cap ab ao : Nat) (l : List ByteArray), v = .slice ad l.length cap ∧ D.Rs W ad ab ao l ∧ l.length ≤ 1048576 ∧ ∀ i (h : i < l.length), l[i].size ≤ 1048576 := by
  rcases open_slice (cs := [v]) Try.underlying30 h with ⟨hc, _⟩ | ⟨a, len, cap, m, k, E, Pl, hc, _, hl, hm, hmm, hx, hall⟩
  · simp only [List.cons.injEq, and_true] at hc
    exact ⟨none, 0, 0, 0, [], hc, ⟨fun h => absurd h (by simp), fun i h => absurd h (by simp)⟩, by simp, fun i h => absurd h (by simp)⟩
  · simp only [List.cons.injEq, and_true] at hc
    simp only [if_true] at hmm
    subst hmm
    rw [hx] at hk
    simp only [Rows.uptoBulk] at hk
    have hle : len ≤ 1048576 := by
      have := bulk_len ((List.range len).map E)
      rw [range_len] at this
      omega
    have each : ∀ i, i < m → ∃ q : ByteArray, W.cell? (a.add i) = some (.string q) ∧ E i = .lit (.string q.data.toList) := by
      intro i hi
      obtain ⟨cs', g1, g2⟩ := hall i hi
      rw [Try.cellsS] at g1
      obtain ⟨_, hlen, hcell⟩ := World.cells?_some g1
      obtain ⟨s2, e2, e3, _⟩ := DataW.trod_string Try.underlying9 g2
      subst e2
      have k0 := hcell 0 (by omega)
      rw [add_add] at k0
      simp only [Prod.mk.injEq] at e3
      exact ⟨s2, by simpa using k0, e3.1⟩
    obtain ⟨q, hq⟩ := choose_lt each
    refine ⟨some a, m, a.block, a.off, (List.range len).map q, by rw [range_len]; exact hc, ⟨fun h => ?_, fun i hi => ?_⟩, by rw [range_len]; exact hle, fun i hi => ?_⟩
    · rw [range_len] at h
      obtain ⟨ab, ao, spot⟩ := a
      have hspot : spot = none := by simpa [Addr.add] using World.cell?_spot (hq 0 (by omega)).1
      rw [hspot]
    · have hi' := hi
      rw [range_len] at hi'
      rw [range_get]
      have := (hq i (by omega)).1
      obtain ⟨ab, ao, spot⟩ := a
      have hspot : spot = none := by simpa [Addr.add] using World.cell?_spot (hq 0 (by omega)).1
      subst hspot
      rwa [Addr.add_lit] at this
    · have hi' := hi
      rw [range_len] at hi'
      rw [range_get]
      have h1 := bulk_mem (l := (List.range len).map E) (d := E i) (List.mem_map.2 ⟨i, List.mem_range.2 hi', rfl⟩)
      rw [(hq i (by omega)).2] at h1
      simp only [Rows.uptoBulk] at h1
      have h2 : (q i).size = (q i).data.toList.length := D.size_list _
      omega
/-- a slice of whole numbers, opened, with its bulk -/
theorem ints_small {W : World} {n : Nat} {v : Value} {x : DataW H × List MemPlace} (h : DataW.trod enc Try.prog W 0 (fun _ => true) true n 31 [v] = some x) (hk : Rows.uptoBulk x.1 ≤ 1048576) :
    ∃ (ad : Option Addr) (cap ab ao : Nat) (l : List Int), v = .slice ad l.length cap ∧ Ri W ad ab ao l ∧ l.length ≤ 1048576 := by
  rcases open_slice (cs := [v]) Try.underlying31 h with ⟨hc, _⟩ | ⟨a, len, cap, m, k, E, Pl, hc, _, hl, hm, hmm, hx, hall⟩
  · simp only [List.cons.injEq, and_true] at hc
    exact ⟨none, 0, 0, 0, [], hc, ⟨fun h => absurd h (by simp), fun i h => absurd h (by simp)⟩, by simp⟩
  · simp only [List.cons.injEq, and_true] at hc
    simp only [if_true] at hmm
    subst hmm
    rw [hx] at hk
    simp only [Rows.uptoBulk] at hk
    have hle : len ≤ 1048576 := by
      have := bulk_len ((List.range len).map E)
      rw [range_len] at this
      omega
    have each : ∀ i, i < m → ∃ q : Int, W.cell? (a.add i) = some (.int .i64 q) := by
      intro i hi
      obtain ⟨cs', g1, g2⟩ := hall i hi
      rw [Try.cellsI] at g1
      obtain ⟨_, hlen, hcell⟩ := World.cells?_some g1
      obtain ⟨s2, e2, _, _⟩ := DataW.trod_int Try.underlying3 g2
      subst e2
      have k0 := hcell 0 (by omega)
      rw [add_add] at k0
      exact ⟨s2, by simpa using k0⟩
    obtain ⟨q, hq⟩ := choose_lt each
    refine ⟨some a, m, a.block, a.off, (List.range len).map q, by rw [range_len]; exact hc, ⟨fun h => ?_, fun i hi => ?_⟩, by rw [range_len]; exact hle⟩
    · rw [range_len] at h
      obtain ⟨ab, ao, spot⟩ := a
      have hspot : spot = none := by simpa [Addr.add] using World.cell?_spot (hq 0 (by omega))
      rw [hspot]
    · have hi' := hi
      rw [range_len] at hi'
      rw [range_get]
      have := hq i (by omega)
      obtain ⟨ab, ao, spot⟩ := a
      have hspot : spot = none := by simpa [Addr.add] using World.cell?_spot (hq 0 (by omega))
      subst hspot
      rwa [Addr.add_lit] at this
end
end Go.Proofs.Ytojghjgbnnkldaa
end

section
namespace Go.Proofs.Ytojghjgbnnkldaa
open Go.ChangeShapes Go.WideShapes Go.ChangeAt Go.RowKit Go.Deep

theorem Try.cellsS1 : Try.prog.cellsOf 30 = 1 := by kernel_rfl
theorem Try.cellsI1 : Try.prog.cellsOf 31 = 1 := by kernel_rfl
theorem Try.cellsL : Try.prog.cellsOf 33 = 4 := by kernel_rfl
section
variable {H : Type} {enc : TypeId × Value → H}
set_option maxRecDepth 20000 in
theorem life_open {W : World} {n : Nat} {cs : List Value} {x : DataW H × List MemPlace} (hl : cs.length = 4) (h : DataW.trod enc Try.prog W 0 (fun _ => true) true n 33 cs = some x) :
    ∃ c0 c1 c2 c3 y0 y1 y2 y3 m, cs = [c0, c1, c2, c3] ∧ x.1 = .agg [y0.1, y1.1, y2.1, y3.1] ∧ DataW.trod enc Try.prog W 0 (fun _ => true) true m 30 [c0] = some y0 ∧ DataW.trod enc Try.prog W 0 (fun _ => true) true m 31 [c1] = some y1 ∧
      DataW.trod enc Try.prog W 0 (fun _ => true) true m 3 [c2] = some y2 ∧ DataW.trod enc Try.prog W 0 (fun _ => true) true m 3 [c3] = some y3 := by
  obtain ⟨xs, m', _, hxx, _, hlx, hf⟩ := DataW.trod_struct Try.underlying33 h
  match cs, hl with
  | [c0, c1, c2, c3], _ =>
    match xs, hlx with
    | [y0, y1, y2, y3], _ =>
      have f0 : DataW.trod enc Try.prog W 0 (fun _ => true) true m' 30 (([c0, c1, c2, c3].drop 0).take (Try.prog.cellsOf 30)) = some y0 := hf 0 _ rfl
      have f1 : DataW.trod enc Try.prog W 0 (fun _ => true) true m' 31 (([c0, c1, c2, c3].drop 1).take (Try.prog.cellsOf 31)) = some y1 := hf 1 _ rfl
      have f2 : DataW.trod enc Try.prog W 0 (fun _ => true) true m' 3 (([c0, c1, c2, c3].drop 2).take (Try.prog.cellsOf 3)) = some y2 := hf 2 _ rfl
      have f3 : DataW.trod enc Try.prog W 0 (fun _ => true) true m' 3 (([c0, c1, c2, c3].drop 3).take (Try.prog.cellsOf 3)) = some y3 := hf 3 _ rfl
      simp only [Try.cellsI, Try.cellsS1, Try.cellsI1, List.drop_succ_cons, List.drop_zero, List.take_succ_cons, List.take_zero] at f0 f1 f2 f3
      exact ⟨c0, c1, c2, c3, y0, y1, y2, y3, m', rfl, by rw [hxx]; rfl, f0, f1, f2, f3⟩
/-- a slice of lives, opened, with its bulk -/
theorem lives_small {W : World} {n : Nat} {v : Value} {x : DataW H × List MemPlace} (h : DataW.trod enc Try.prog W 0 (fun _ => true) true n 22 [v] = some x) (hk : Rows.uptoBulk x.1 ≤ 1048576) :
    ∃ (ad : Option Addr) (cap ab ao : Nat) (Q : List LifeV), v = .slice ad Q.length cap ∧ Rl W ad ab ao Q ∧ Q.length ≤ 1048576 := by
  rcases open_slice (cs := [v]) Try.underlying22 h with ⟨hc, _⟩ | ⟨a, len, cap, m, k, E, Pl, hc, _, hl, hm, hmm, hx, hall⟩
  · simp only [List.cons.injEq, and_true] at hc
    exact ⟨none, 0, 0, 0, [], hc, ⟨fun h => absurd h (by simp), fun i h => absurd h (by simp), fun i h => absurd h (by simp), fun i h => absurd h (by simp), fun i h => absurd h (by simp), fun i h => absurd h (by simp), fun i h => absurd h (by simp), fun i h => absurd h (by simp), fun i h => absurd h (by simp), fun i h => absurd h (by simp), fun i h => absurd h (by simp)⟩, by simp⟩
  · simp only [List.cons.injEq, and_true] at hc
    simp only [if_true] at hmm
    subst hmm
    rw [hx] at hk
    simp only [Rows.uptoBulk] at hk
    have hle : len ≤ 1048576 := by
      have := bulk_len ((List.range len).map E)
      rw [range_len] at this
      omega
    have each : ∀ i, i < len → ∃ q : LifeV, (W.cell? (a.add (i * 4)) = some (.slice q.aT q.T.length q.cT) ∧ W.cell? (a.add (i * 4 + 1)) = some (.slice q.aM q.M.length q.cM) ∧ W.cell? (a.add (i * 4 + 2)) = some (.int .i64 q.n) ∧ W.cell? (a.add (i * 4 + 3)) = some (.int .i64 q.bt)) ∧
        (D.Rs W q.aT q.tb q.tf q.T ∧ Ri W q.aM q.mb q.mf q.M) ∧ (∀ j (hj : j < q.T.length), q.T[j].size ≤ 1048576) ∧ (q.T.length ≤ 1048576 ∧ q.M.length ≤ 1048576) ∧ (-9223372036854775808 ≤ q.n ∧ q.n ≤ 9223372036854775807) ∧ (-9223372036854775808 ≤ q.bt ∧ q.bt ≤ 9223372036854775807) := by
      intro i hi
      obtain ⟨cs', g1, g2⟩ := hall i (by omega)
      have hbi := bulk_mem (l := (List.range len).map E) (d := E i) (List.mem_map.2 ⟨i, List.mem_range.2 hi, rfl⟩)
      rw [Try.cellsL] at g1
      obtain ⟨_, hlen, hcell⟩ := World.cells?_some g1
      obtain ⟨c0, c1, c2, c3, y0, y1, y2, y3, m', rfl, hxx, f0, f1, f2, f3⟩ := life_open hlen g2
      have hxx : E i = .agg [y0.1, y1.1, y2.1, y3.1] := hxx
      rw [hxx] at hbi
      simp only [Rows.uptoBulk, Rows.uptoBulkAll] at hbi
      obtain ⟨aT, cT, tb, tf, T, rfl, hT, hTl, hTs⟩ := strs_small f0 (by omega)
      obtain ⟨aM, cM, mb, mf, M, rfl, hM, hMl⟩ := ints_small f1 (by omega)
      obtain ⟨z2, e2, _, wf2⟩ := DataW.trod_int Try.underlying3 f2
      obtain ⟨z3, e3, _, wf3⟩ := DataW.trod_int Try.underlying3 f3
      simp only [List.cons.injEq, and_true] at e2 e3
      subst e2; subst e3
      have k0 := hcell 0 (by decide)
      have k1 := hcell 1 (by decide)
      have k2 := hcell 2 (by decide)
      have k3 := hcell 3 (by decide)
      rw [add_add] at k0 k1 k2 k3
      exact ⟨⟨aT, cT, tb, tf, T, aM, cM, mb, mf, M, z2, z3⟩, ⟨by simpa using k0, by simpa using k1, by simpa using k2, by simpa using k3⟩, ⟨hT, hM⟩, hTs, ⟨hTl, hMl⟩, bounds_i64 wf2, bounds_i64 wf3⟩
    have hI : Inhabited LifeV := ⟨⟨none, 0, 0, 0, [], none, 0, 0, 0, [], 0, 0⟩⟩
    obtain ⟨q, hq⟩ := choose_lt each
    refine ⟨some a, m, a.block, a.off, (List.range len).map q, by rw [range_len]; exact hc, ?_, by rw [range_len]; exact hle⟩
    by_cases h0 : len = 0
    · subst h0
      exact ⟨fun h => absurd h (by simp), fun i h => absurd h (by simp), fun i h => absurd h (by simp), fun i h => absurd h (by simp), fun i h => absurd h (by simp), fun i h => absurd h (by simp), fun i h => absurd h (by simp), fun i h => absurd h (by simp), fun i h => absurd h (by simp), fun i h => absurd h (by simp), fun i h => absurd h (by simp)⟩
    obtain ⟨ab, ao, spot⟩ := a
    have hspot : spot = none := by simpa [Addr.add] using World.cell?_spot (hq 0 (by omega)).1.1
    subst hspot
    simp only [Addr.add_lit] at hq
    have gt : ∀ i (h : i < ((List.range len).map q).length), ((List.range len).map q)[i] = q i := fun i h => range_get q len i h
    refine ⟨fun _ => rfl, fun i hi => ?_, fun i hi => ?_, fun i hi => ?_, fun i hi => ?_, fun i hi => ?_, fun i hi => ?_, fun i hi j hj => ?_, fun i hi => ?_, fun i hi => ?_, fun i hi => ?_⟩
    all_goals
      have hi' := hi
      rw [range_len] at hi'
      obtain ⟨⟨h1, h2, h3, h4⟩, ⟨h5, h6⟩, h7, h8, h9, h10⟩ := hq i hi'
      first
        | (rw [gt]; first | exact h1 | exact h2 | exact h3 | exact h4 | exact h5 | exact h6 | exact h8 | exact h9 | exact h10)
        | (simp only [gt] at hj ⊢; exact h7 j hj)
end
end Go.Proofs.Ytojghjgbnnkldaa
end

section
namespace Go.Proofs.Ytojghjgbnnkldaa
open Go.ChangeShapes Go.WideShapes Go.ChangeAt Go.RowKit Go.Deep

theorem Try.bytesS9 : Try.prog.bytesOf 9 = 16 := by kernel_rfl
theorem Try.bytesI9 : Try.prog.bytesOf 3 = 8 := by kernel_rfl
theorem Try.bytesL9 : Try.prog.bytesOf 33 = 64 := by kernel_rfl
structure Rm (w : World) (ad : Option Addr) (ab ao : Nat) (Q : List LifeV) : Prop where
  at_ : 0 < Q.length → ad = some ⟨ab, ao, none⟩
  c0 : ∀ i (h : i < Q.length), w.cell? ⟨ab, ao + i * 4, none⟩ = some (.slice Q[i].aT Q[i].T.length Q[i].cT)
  c1 : ∀ i (h : i < Q.length), w.cell? ⟨ab, ao + i * 4 + 1, none⟩ = some (.slice Q[i].aM Q[i].M.length Q[i].cM)
  c2 : ∀ i (h : i < Q.length), w.cell? ⟨ab, ao + i * 4 + 2, none⟩ = some (.int .i64 Q[i].n)
  c3 : ∀ i (h : i < Q.length), w.cell? ⟨ab, ao + i * 4 + 3, none⟩ = some (.int .i64 Q[i].bt)
  rs : ∀ i (h : i < Q.length), D.Rs w Q[i].aT Q[i].tb Q[i].tf Q[i].T
  ri : ∀ i (h : i < Q.length), Ri w Q[i].aM Q[i].mb Q[i].mf Q[i].M
  sz : ∀ i (h : i < Q.length) j (hj : j < Q[i].T.length), Q[i].T[j].size ≤ 140737488351232
  ln : ∀ i (h : i < Q.length), Q[i].T.length ≤ 8796093021952 ∧ Q[i].M.length ≤ 17592186043904
  bn : ∀ i (h : i < Q.length), -9223372036854775808 ≤ Q[i].n ∧ Q[i].n ≤ 9223372036854775807
  bb : ∀ i (h : i < Q.length), -9223372036854775808 ≤ Q[i].bt ∧ Q[i].bt ≤ 9223372036854775807
theorem Rm.lt {w : World} {ad : Option Addr} {ab ao : Nat} {Q : List LifeV} (h : Rm w ad ab ao Q) (h0 : 0 < Q.length) : ab < w.heap.size := World.block_lt_of_cell? _ _ (h.c0 0 h0)
section
variable {H : Type} {enc : TypeId × Value → H}
theorem weights_all_mem9 {P : Program} {e : TypeId} {d : DataW H} : ∀ {ds : List (DataW H)}, d ∈ ds → ∀ n ∈ d.weights P e, n ∈ DataW.weightsAll P e ds
  | d0 :: ds, h, n, hn => by
    simp only [DataW.weightsAll, List.mem_append]
    rcases List.mem_cons.mp h with rfl | h
    · exact Or.inl hn
    · exact Or.inr (weights_all_mem9 h n hn)
/-- a slice of texts, opened, with its bulk -/
theorem strs_wt {W : World} {n : Nat} {v : Value} {x : DataW H × List MemPlace} (h : DataW.trod enc Try.prog W 0 (fun _ => true) true n 30 [v] = some x) (hw : ∀ k ∈ x.1.weights Try.prog 30, k ≤ reachBytes) :
    ∃ (ad : Option Addr) (cap ab ao : Nat) (l : List ByteArray), v = .slice ad l.length cap ∧ D.Rs W ad ab ao l ∧ l.length ≤ 8796093021952 ∧ ∀ i (h : i < l.length), l[i].size ≤ 140737488351232 := by
  rcases open_slice (cs := [v]) Try.underlying30 h with ⟨hc, _⟩ | ⟨a, len, cap, m, k, E, Pl, hc, _, hl, hm, hmm, hx, hall⟩
  · simp only [List.cons.injEq, and_true] at hc
    exact ⟨none, 0, 0, 0, [], hc, ⟨fun h => absurd h (by simp), fun i h => absurd h (by simp)⟩, by simp, fun i h => absurd h (by simp)⟩
  · simp only [List.cons.injEq, and_true] at hc
    simp only [if_true] at hmm
    subst hmm
    have hle : len ≤ 8796093021952 := by
      have := hw (len * 16 + (m - len) * 16) (by
        rw [hx]; simp only [DataW.weights, Try.underlying30, Try.bytesS9]
        simp only [List.length_map, List.length_range, List.mem_cons]
        left; rw [Nat.add_mul])
      simp only [reachBytes] at this; omega
    have each : ∀ i, i < m → ∃ q : ByteArray, W.cell? (a.add i) = some (.string q) ∧ E i = .lit (.string q.data.toList) := by
      intro i hi
      obtain ⟨cs', g1, g2⟩ := hall i hi
      rw [Try.cellsS] at g1
      obtain ⟨_, hlen, hcell⟩ := World.cells?_some g1
      obtain ⟨s2, e2, e3, _⟩ := DataW.trod_string Try.underlying9 g2
      subst e2
      have k0 := hcell 0 (by omega)
      rw [add_add] at k0
      simp only [Prod.mk.injEq] at e3
      exact ⟨s2, by simpa using k0, e3.1⟩
    obtain ⟨q, hq⟩ := choose_lt each
    refine ⟨some a, m, a.block, a.off, (List.range len).map q, by rw [range_len]; exact hc, ⟨fun h => ?_, fun i hi => ?_⟩, by rw [range_len]; exact hle, fun i hi => ?_⟩
    · rw [range_len] at h
      obtain ⟨ab, ao, spot⟩ := a
      have hspot : spot = none := by simpa [Addr.add] using World.cell?_spot (hq 0 (by omega)).1
      rw [hspot]
    · have hi' := hi
      rw [range_len] at hi'
      rw [range_get]
      have := (hq i (by omega)).1
      obtain ⟨ab, ao, spot⟩ := a
      have hspot : spot = none := by simpa [Addr.add] using World.cell?_spot (hq 0 (by omega)).1
      subst hspot
      rwa [Addr.add_lit] at this
    · have hi' := hi
      rw [range_len] at hi'
      rw [range_get]
      have h1 := hw (q i).data.toList.length (by
        rw [hx]; simp only [DataW.weights, Try.underlying30]
        refine List.mem_cons_of_mem _ (List.mem_append_left _ (weights_all_mem9 (d := E i) ?_ _ ?_))
        · exact List.mem_map.mpr ⟨i, List.mem_range.mpr hi', rfl⟩
        · rw [(hq i (by omega)).2]; simp [DataW.weights])
      simp only [reachBytes] at h1
      have h2 : (q i).size = (q i).data.toList.length := D.size_list _
      omega
/-- a slice of whole numbers, opened, with its bulk -/
theorem ints_wt {W : World} {n : Nat} {v : Value} {x : DataW H × List MemPlace} (h : DataW.trod enc Try.prog W 0 (fun _ => true) true n 31 [v] = some x) (hw : ∀ k ∈ x.1.weights Try.prog 31, k ≤ reachBytes) :
    ∃ (ad : Option Addr) (cap ab ao : Nat) (l : List Int), v = .slice ad l.length cap ∧ Ri W ad ab ao l ∧ l.length ≤ 17592186043904 := by
  rcases open_slice (cs := [v]) Try.underlying31 h with ⟨hc, _⟩ | ⟨a, len, cap, m, k, E, Pl, hc, _, hl, hm, hmm, hx, hall⟩
  · simp only [List.cons.injEq, and_true] at hc
    exact ⟨none, 0, 0, 0, [], hc, ⟨fun h => absurd h (by simp), fun i h => absurd h (by simp)⟩, by simp⟩
  · simp only [List.cons.injEq, and_true] at hc
    simp only [if_true] at hmm
    subst hmm
    have hle : len ≤ 17592186043904 := by
      have := hw (len * 8 + (m - len) * 8) (by
        rw [hx]; simp only [DataW.weights, Try.underlying31, Try.bytesI9]
        simp only [List.length_map, List.length_range, List.mem_cons]
        left; rw [Nat.add_mul])
      simp only [reachBytes] at this; omega
    have each : ∀ i, i < m → ∃ q : Int, W.cell? (a.add i) = some (.int .i64 q) := by
      intro i hi
      obtain ⟨cs', g1, g2⟩ := hall i hi
      rw [Try.cellsI] at g1
      obtain ⟨_, hlen, hcell⟩ := World.cells?_some g1
      obtain ⟨s2, e2, _, _⟩ := DataW.trod_int Try.underlying3 g2
      subst e2
      have k0 := hcell 0 (by omega)
      rw [add_add] at k0
      exact ⟨s2, by simpa using k0⟩
    obtain ⟨q, hq⟩ := choose_lt each
    refine ⟨some a, m, a.block, a.off, (List.range len).map q, by rw [range_len]; exact hc, ⟨fun h => ?_, fun i hi => ?_⟩, by rw [range_len]; exact hle⟩
    · rw [range_len] at h
      obtain ⟨ab, ao, spot⟩ := a
      have hspot : spot = none := by simpa [Addr.add] using World.cell?_spot (hq 0 (by omega))
      rw [hspot]
    · have hi' := hi
      rw [range_len] at hi'
      rw [range_get]
      have := hq i (by omega)
      obtain ⟨ab, ao, spot⟩ := a
      have hspot : spot = none := by simpa [Addr.add] using World.cell?_spot (hq 0 (by omega))
      subst hspot
      rwa [Addr.add_lit] at this
/-- a slice of lives, opened, with its bulk -/
theorem lives_at {W : World} {n : Nat} {v : Value} {x : DataW H × List MemPlace} (h : DataW.trod enc Try.prog W 0 (fun _ => true) true n 22 [v] = some x) (hw : ∀ k ∈ x.1.weights Try.prog 22, k ≤ reachBytes) :
    ∃ (ad : Option Addr) (cap ab ao : Nat) (Q : List LifeV), v = .slice ad Q.length cap ∧ Rm W ad ab ao Q ∧ Q.length ≤ 2199023255488 := by
  rcases open_slice (cs := [v]) Try.underlying22 h with ⟨hc, _⟩ | ⟨a, len, cap, m, k, E, Pl, hc, _, hl, hm, hmm, hx, hall⟩
  · simp only [List.cons.injEq, and_true] at hc
    exact ⟨none, 0, 0, 0, [], hc, ⟨fun h => absurd h (by simp), fun i h => absurd h (by simp), fun i h => absurd h (by simp), fun i h => absurd h (by simp), fun i h => absurd h (by simp), fun i h => absurd h (by simp), fun i h => absurd h (by simp), fun i h => absurd h (by simp), fun i h => absurd h (by simp), fun i h => absurd h (by simp), fun i h => absurd h (by simp)⟩, by simp⟩
  · simp only [List.cons.injEq, and_true] at hc
    simp only [if_true] at hmm
    subst hmm
    have hle : len ≤ 2199023255488 := by
      have := hw (len * 64 + (m - len) * 64) (by
        rw [hx]; simp only [DataW.weights, Try.underlying22, Try.bytesL9]
        simp only [List.length_map, List.length_range, List.mem_cons]
        left; rw [Nat.add_mul])
      simp only [reachBytes] at this; omega
    have each : ∀ i, i < len → ∃ q : LifeV, (W.cell? (a.add (i * 4)) = some (.slice q.aT q.T.length q.cT) ∧ W.cell? (a.add (i * 4 + 1)) = some (.slice q.aM q.M.length q.cM) ∧ W.cell? (a.add (i * 4 + 2)) = some (.int .i64 q.n) ∧ W.cell? (a.add (i * 4 + 3)) = some (.int .i64 q.bt)) ∧
        (D.Rs W q.aT q.tb q.tf q.T ∧ Ri W q.aM q.mb q.mf q.M) ∧ (∀ j (hj : j < q.T.length), q.T[j].size ≤ 140737488351232) ∧ (q.T.length ≤ 8796093021952 ∧ q.M.length ≤ 17592186043904) ∧ (-9223372036854775808 ≤ q.n ∧ q.n ≤ 9223372036854775807) ∧ (-9223372036854775808 ≤ q.bt ∧ q.bt ≤ 9223372036854775807) := by
      intro i hi
      obtain ⟨cs', g1, g2⟩ := hall i (by omega)
      have hwi : ∀ k ∈ (E i).weights Try.prog 33, k ≤ reachBytes := fun k hk => hw k (by
        rw [hx]; simp only [DataW.weights, Try.underlying22]
        refine List.mem_cons_of_mem _ (List.mem_append_left _ (weights_all_mem9 (d := E i) ?_ k hk))
        exact List.mem_map.mpr ⟨i, List.mem_range.mpr hi, rfl⟩)
      rw [Try.cellsL] at g1
      obtain ⟨_, hlen, hcell⟩ := World.cells?_some g1
      obtain ⟨c0, c1, c2, c3, y0, y1, y2, y3, m', rfl, hxx, f0, f1, f2, f3⟩ := life_open hlen g2
      have hxx : E i = .agg [y0.1, y1.1, y2.1, y3.1] := hxx
      rw [hxx] at hwi
      simp only [DataW.weights, Try.underlying33] at hwi
      obtain ⟨aT, cT, tb, tf, T, rfl, hT, hTl, hTs⟩ := strs_wt f0 (fun k hk => hwi k (DataW.weights_mem_each (j := 0) rfl rfl k hk))
      obtain ⟨aM, cM, mb, mf, M, rfl, hM, hMl⟩ := ints_wt f1 (fun k hk => hwi k (DataW.weights_mem_each (j := 1) rfl rfl k hk))
      obtain ⟨z2, e2, _, wf2⟩ := DataW.trod_int Try.underlying3 f2
      obtain ⟨z3, e3, _, wf3⟩ := DataW.trod_int Try.underlying3 f3
      simp only [List.cons.injEq, and_true] at e2 e3
      subst e2; subst e3
      have k0 := hcell 0 (by decide)
      have k1 := hcell 1 (by decide)
      have k2 := hcell 2 (by decide)
      have k3 := hcell 3 (by decide)
      rw [add_add] at k0 k1 k2 k3
      exact ⟨⟨aT, cT, tb, tf, T, aM, cM, mb, mf, M, z2, z3⟩, ⟨by simpa using k0, by simpa using k1, by simpa using k2, by simpa using k3⟩, ⟨hT, hM⟩, hTs, ⟨hTl, hMl⟩, bounds_i64 wf2, bounds_i64 wf3⟩
    have hI : Inhabited LifeV := ⟨⟨none, 0, 0, 0, [], none, 0, 0, 0, [], 0, 0⟩⟩
    obtain ⟨q, hq⟩ := choose_lt each
    refine ⟨some a, m, a.block, a.off, (List.range len).map q, by rw [range_len]; exact hc, ?_, by rw [range_len]; exact hle⟩
    by_cases h0 : len = 0
    · subst h0
      exact ⟨fun h => absurd h (by simp), fun i h => absurd h (by simp), fun i h => absurd h (by simp), fun i h => absurd h (by simp), fun i h => absurd h (by simp), fun i h => absurd h (by simp), fun i h => absurd h (by simp), fun i h => absurd h (by simp), fun i h => absurd h (by simp), fun i h => absurd h (by simp), fun i h => absurd h (by simp)⟩
    obtain ⟨ab, ao, spot⟩ := a
    have hspot : spot = none := by simpa [Addr.add] using World.cell?_spot (hq 0 (by omega)).1.1
    subst hspot
    simp only [Addr.add_lit] at hq
    have gt : ∀ i (h : i < ((List.range len).map q).length), ((List.range len).map q)[i] = q i := fun i h => range_get q len i h
    refine ⟨fun _ => rfl, fun i hi => ?_, fun i hi => ?_, fun i hi => ?_, fun i hi => ?_, fun i hi => ?_, fun i hi => ?_, fun i hi j hj => ?_, fun i hi => ?_, fun i hi => ?_, fun i hi => ?_⟩
    all_goals
      have hi' := hi
      rw [range_len] at hi'
      obtain ⟨⟨h1, h2, h3, h4⟩, ⟨h5, h6⟩, h7, h8, h9, h10⟩ := hq i hi'
      first
        | (rw [gt]; first | exact h1 | exact h2 | exact h3 | exact h4 | exact h5 | exact h6 | exact h8 | exact h9 | exact h10)
        | (simp only [gt] at hj ⊢; exact h7 j hj)
end
end Go.Proofs.Ytojghjgbnnkldaa
end

section
namespace Go.Proofs.Ytojghjgbnnkldaa
open Go.RowKit Go.Shelf
open Wl (Hd WS Log)

/-- between two lives -/
structure Lf (w0 : World) (b : Nat) (F : Nat → Prop) (d : D.DS) (ws : WS) (s : ByteArray) (l : List ByteArray) (w : World) : Prop where
  dk : D.Dk w0.heap.size w b F d
  con : ConX d ws s l
  bel : Below w0.heap.size w0 w
theorem Ri.below {w w' : World} {ad : Option Addr} {ab ao : Nat} {l : List Int} (h : Ri w ad ab ao l) (hb : Below w.heap.size w w') : Ri w' ad ab ao l := ⟨h.at_, fun i hi => (hb.cell (p := ⟨ab, ao + i, none⟩) (h.lt (by omega))).trans (h.cell i hi)⟩
set_option maxHeartbeats 4000000 in
set_option maxRecDepth 8000 in
theorem walLives_walk {w : World} {z : Int} (hz : -9223372036854775808 ≤ z ∧ z ≤ 9223372036854775807) {ad : Option Addr} {ab ao cap : Nat} {Q : List LifeV} (hQ : Rm w ad ab ao Q) (hQl : Q.length ≤ 4611686018427387904) :
    Calls Try.prog 3 #[.int .i64 z, .slice ad Q.length cap] w fun e w' => e = .returned (.bool true) ∧ Below w.heap.size w w' := by
  by_cases hz1 : z < 1
  · clear hQ
    go_enter Try.func3, Try.ntmps3
    go_wp2_with fail
    refine (fixed_any _).mono ?_
    rintro e w1 ⟨rfl, hB1⟩
    go_wp2_with fail
    go_ret
    exact ⟨rfl, hB1⟩
  by_cases hz2 : 512 < z
  · clear hQ
    go_enter Try.func3, Try.ntmps3
    go_wp2_with fail
    refine (fixed_any _).mono ?_
    rintro e w1 ⟨rfl, hB1⟩
    go_wp2_with fail
    go_ret
    exact ⟨rfl, hB1⟩
  obtain ⟨half, rfl⟩ : ∃ half : Nat, z = (half : Int) := ⟨z.toNat, by omega⟩
  have hhs : Wl.hs (2 + 2 * half) = half := by unfold Wl.hs; omega
  obtain ⟨d1, hf1, hX1, hR1, hS1⟩ := con_formatX (n := 2 + 2 * half) (by unfold Wl.Fits; rw [hhs]; omega)
  have HX1 := hide hX1
  have HN := hide (D.new_any (w := w) (n := 2 + 2 * half) (by omega) (by omega))
  have hcast : ((2 + 2 * half : Nat) : Int) = 2 + 2 * (half : Int) := by omega
  rw [hcast] at HN
  have Hf1 := hide hf1
  have HQ := hide hQ
  clear hX1 hf1 hR1 hS1 hhs hcast hQ hz
  go_enter Try.func3, Try.ntmps3
  go_wp2_with fail
  refine HN.out.mono ?_
  rintro e w1 ⟨b, F, rfl, hD, hB1⟩
  have HF := hide (format_any hD (by show (0 + 1) * 24 ≤ 140737488355328; decide))
  have HFl1 := hide hD.ftlow
  have HB1 := hide hB1
  clear hD hB1 HN
  rw [Hf1.out] at HF
  go_wp2_with fail
  refine HF.out.mono ?_
  rintro e w2 ⟨rfl, F2, hD2, hM2⟩
  have HK0 : Hid (Lf w b F2 d1 ⟨Wl.h1, 0, false⟩ ⟨#[]⟩ [] w2) := hide ⟨hD2, HX1.out, HB1.out.trans (hM2.below HB1.out.size HFl1.out)⟩
  clear hD2 hM2 HF HB1 HFl1 Hf1 HX1
  go_wp2_with fail
  go_loopw [7] (fun t wr => ∃ (i : Nat) (d : D.DS) (ws : WS) (s : ByteArray) (l : List ByteArray) (F : Nat → Prop), i ≤ Q.length ∧ t = .int .i64 (i : Int) ∧ Hid (Lf w b F d ws s l wr)) (fun t _ => Q.length - (intOf t).toNat)
  case atStart => exact ⟨0, d1, _, _, [], F2, Nat.zero_le _, rfl, HK0⟩
  case round =>
    clear HK0
    obtain ⟨i, d, ws, s, l, F, hi, rfl, HK⟩ := hrel
    by_cases hil : i < Q.length
    · have hii : (i : Int) < (Q.length : Int) := by omega
      have hat := HQ.out.at_ (by omega)
      subst hat
      have hab : ab < w.heap.size := HQ.out.lt (by omega)
      have hbw := HK.out.bel
      have q0 := (hbw.cell (p := ⟨ab, ao + i * 4, none⟩) hab).trans (HQ.out.c0 i hil)
      have q1 := (hbw.cell (p := ⟨ab, ao + i * 4 + 1, none⟩) hab).trans (HQ.out.c1 i hil)
      have q2 := (hbw.cell (p := ⟨ab, ao + i * 4 + 2, none⟩) hab).trans (HQ.out.c2 i hil)
      have q3 := (hbw.cell (p := ⟨ab, ao + i * 4 + 3, none⟩) hab).trans (HQ.out.c3 i hil)
      have habr : ab < wr.heap.size := Nat.lt_of_lt_of_le hab hbw.size
      have HLv := hide (lived_any (cT := Q[i].cT) (cM := Q[i].cM) HK.out.dk HK.out.con HK.out.bel.size ((HQ.out.rs i hil).below hbw) (fun h => (HQ.out.rs i hil).lt h) ((HQ.out.ri i hil).below hbw) (fun h => (HQ.out.ri i hil).lt h) (by have := (HQ.out.ln i hil).1; omega) (by have := (HQ.out.ln i hil).2; omega) (HQ.out.sz i hil) (HQ.out.bn i hil) (HQ.out.bb i hil))
      clear hbw
      generalize Q[i] = q at *
      obtain ⟨aT, cT, tb, tf, T, aM, cM, mb, mf, M, xn, xb⟩ := q
      simp only at q0 q1 q2 q3 HLv
      go_wp2_with fail
      refine HLv.out.mono ?_
      rintro e w3 ⟨rfl, hb3, F3, d3, ws3, s3, l3, hd3, hc3⟩
      have HK3 : Hid (Lf w b F3 d3 ws3 s3 l3 w3) := hide ⟨hd3, hc3, HK.out.bel.trans hb3⟩
      have HDe := hide (D.dead_any hd3)
      rw [hc3.con.live] at HDe
      clear hb3 hd3 hc3 HLv HK q0 q1 q2 q3 habr
      go_wp2_with fail
      refine HDe.out.mono ?_
      rintro e w4 ⟨rfl, rfl⟩
      clear HDe
      go_wp2_with fail
      go_roundw
      case rel => exact ⟨i + 1, d3, ws3, s3, l3, F3, hil, by go_num, HK3⟩
      case measure => simp only [intOf]; omega
    · have hii : ¬ (i : Int) < (Q.length : Int) := by omega
      have HB := hide HK.out.bel
      clear HK
      go_wp2_with fail
      refine (fixed_any _).mono ?_
      rintro e w2 ⟨rfl, hB2⟩
      have HB2 := hide (HB.out.trans (hB2.mono HB.out.size))
      clear hB2
      go_wp2_with fail
      go_ret
      exact ⟨rfl, HB2.out⟩
end Go.Proofs.Ytojghjgbnnkldaa
end
