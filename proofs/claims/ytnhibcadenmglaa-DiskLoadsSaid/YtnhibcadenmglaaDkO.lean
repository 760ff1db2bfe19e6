import Derived.Test.YtnhibcadenmglaaDkG
import Derived.ProofKit
import Derived.OpenShut
import Derived.ShutString
import Derived.SizedLaws
import Derived.Carry
import Derived.Deep.SlicePairs
import Derived.Deep.Strs
import Derived.Lib.SmallJoins
namespace Go.Proofs.Ytnhibcadenmglaa
open Go.ChangeShapes Go.WideShapes Go.ChangeAt Go.RowKit Go.Deep

theorem own : ownKnob Try.prog.godebug = none := by kernel_rfl
theorem Try.laidOut : laidOutB Try.prog = true := by kernel_rfl
theorem Try.cellsI : Try.prog.cellsOf 3 = 1 := by kernel_rfl
theorem Try.cellsS : Try.prog.cellsOf 9 = 1 := by kernel_rfl
theorem Try.cellsW : Try.prog.cellsOf 50 = 2 := by kernel_rfl
theorem Try.bytesS : Try.prog.bytesOf 9 = 16 := by kernel_rfl
theorem Try.bytesW : Try.prog.bytesOf 50 = 24 := by kernel_rfl
theorem Try.bytesO : Try.prog.bytesOf 58 = 48 := by kernel_rfl
theorem Try.cellsO : Try.prog.cellsOf 58 = 5 := by kernel_rfl

/-- a call, as the walk reads it -/
structure OpV where
  on : Int
  k : Int
  a : Int
  b : Int
  s : ByteArray
/-- a slice of calls that is read -/
structure Ro (w : World) (ad : Option Addr) (ab ao : Nat) (Q : List OpV) : Prop where
  at_ : 0 < Q.length → ad = some ⟨ab, ao, none⟩
  on : ∀ i (h : i < Q.length), w.cell? ⟨ab, ao + i * 5, none⟩ = some (.int .i64 Q[i].on)
  k : ∀ i (h : i < Q.length), w.cell? ⟨ab, ao + i * 5 + 1, none⟩ = some (.int .i64 Q[i].k)
  a : ∀ i (h : i < Q.length), w.cell? ⟨ab, ao + i * 5 + 2, none⟩ = some (.int .i64 Q[i].a)
  b : ∀ i (h : i < Q.length), w.cell? ⟨ab, ao + i * 5 + 3, none⟩ = some (.int .i64 Q[i].b)
  s : ∀ i (h : i < Q.length), w.cell? ⟨ab, ao + i * 5 + 4, none⟩ = some (.string Q[i].s)
  bo : ∀ i (h : i < Q.length), -9223372036854775808 ≤ Q[i].on ∧ Q[i].on ≤ 9223372036854775807
  ba : ∀ i (h : i < Q.length), -9223372036854775808 ≤ Q[i].a ∧ Q[i].a ≤ 9223372036854775807
theorem Ro.lt {w : World} {ad : Option Addr} {ab ao : Nat} {l : List OpV} (h : Ro w ad ab ao l) (h0 : 0 < l.length) : ab < w.heap.size := World.block_lt_of_cell? _ _ (h.on 0 h0)
theorem Ro.keep {w w' : World} {ad : Option Addr} {ab ao : Nat} {l : List OpV} (h : Ro w ad ab ao l) (hk : 0 < l.length → w'.heap[ab]? = w.heap[ab]?) : Ro w' ad ab ao l :=
  ⟨h.at_, fun i hi => (World.cell?_of_block (hk (by omega))).trans (h.on i hi), fun i hi => (World.cell?_of_block (hk (by omega))).trans (h.k i hi), fun i hi => (World.cell?_of_block (hk (by omega))).trans (h.a i hi), fun i hi => (World.cell?_of_block (hk (by omega))).trans (h.b i hi), fun i hi => (World.cell?_of_block (hk (by omega))).trans (h.s i hi), h.bo, h.ba⟩
theorem Ro.below {w w' : World} {ad : Option Addr} {ab ao : Nat} {l : List OpV} (h : Ro w ad ab ao l) (hb : Below w.heap.size w w') : Ro w' ad ab ao l := h.keep fun h0 => hb.block _ (h.lt h0)

section
variable {H : Type} {enc : TypeId × Value → H}
theorem range_get {α : Type} (f : Nat → α) (n i : Nat) (h : i < ((List.range n).map f).length) : ((List.range n).map f)[i] = f i := by simp
theorem range_len {α : Type} (f : Nat → α) (n : Nat) : ((List.range n).map f).length = n := by simp

/-- a slice of texts, opened -/
theorem strs_at {W : World} {n : Nat} {v : Value} {x : DataW H × List MemPlace} (h : DataW.trod enc Try.prog W 0 (fun _ => true) true n 35 [v] = some x) (hb : ∀ el sp, x.1 = .slice el sp → el.length ≤ 8796093021952) :
    ∃ (ad : Option Addr) (cap ab ao : Nat) (l : List ByteArray), v = .slice ad l.length cap ∧ Rs W ad ab ao l ∧ l.length ≤ 8796093021952 := by
  rcases open_slice (cs := [v]) Try.underlying35 h with ⟨hc, _⟩ | ⟨a, len, cap, m, k, D, Pl, hc, _, hl, hm, hmm, hx, hall⟩
  · simp only [List.cons.injEq, and_true] at hc
    exact ⟨none, 0, 0, 0, [], hc, ⟨fun h => absurd h (by simp), fun i h => absurd h (by simp)⟩, by simp⟩
  · simp only [List.cons.injEq, and_true] at hc
    simp only [if_true] at hmm
    subst hmm
    have hle : len ≤ 8796093021952 := by
      have := hb _ _ (by rw [hx])
      rwa [range_len] at this
    have each : ∀ i, i < m → ∃ q : ByteArray, W.cell? (a.add i) = some (.string q) := by
      intro i hi
      obtain ⟨cs', g1, g2⟩ := hall i hi
      rw [Try.cellsS] at g1
      obtain ⟨_, hlen, hcell⟩ := World.cells?_some g1
      obtain ⟨s2, e2, _, _⟩ := DataW.trod_string Try.underlying9 g2
      subst e2
      have k0 := hcell 0 (by omega)
      rw [add_add] at k0
      exact ⟨s2, by simpa using k0⟩
    obtain ⟨q, hq⟩ := choose_lt each
    refine ⟨some a, m, a.block, a.off, (List.range len).map q, by rw [range_len]; exact hc, ⟨fun h => ?_, fun i hi => ?_⟩, by rw [range_len]; exact hle⟩
    · rw [range_len] at h
      obtain ⟨ab, ao, spot⟩ := a
      have hspot : spot = none := by simpa [Addr.add] using World.cell?_spot (hq 0 (by omega))
      rw [hspot]
    · have hi' := hi
      rw [range_len] at hi'
      rw [range_get]
      have := hq i (by omega)
      obtain ⟨ab, ao, spot⟩ := a
      have hspot : spot = none := by simpa [Addr.add] using World.cell?_spot (hq 0 (by omega))
      subst hspot
      rwa [Addr.add_lit] at this
/-- a slice of writes, opened -/
theorem wrs_at {W : World} {n : Nat} {v : Value} {x : DataW H × List MemPlace} (h : DataW.trod enc Try.prog W 0 (fun _ => true) true n 40 [v] = some x) (hb : ∀ el sp, x.1 = .slice el sp → el.length ≤ 5864062014634) :
    ∃ (ad : Option Addr) (cap ab ao : Nat) (l : List Wr), v = .slice ad l.length cap ∧ Rw W ad ab ao l ∧ l.length ≤ 5864062014634 := by
  rcases open_slice (cs := [v]) Try.underlying40 h with ⟨hc, _⟩ | ⟨a, len, cap, m, k, D, Pl, hc, _, hl, hm, hmm, hx, hall⟩
  · simp only [List.cons.injEq, and_true] at hc
    exact ⟨none, 0, 0, 0, [], hc, ⟨fun h => absurd h (by simp), fun i h => absurd h (by simp), fun i h => absurd h (by simp)⟩, by simp⟩
  · simp only [List.cons.injEq, and_true] at hc
    simp only [if_true] at hmm
    subst hmm
    have hle : len ≤ 5864062014634 := by
      have := hb _ _ (by rw [hx])
      rwa [range_len] at this
    have each : ∀ i, i < m → ∃ q : Wr, W.cell? (a.add (i * 2)) = some (.int .i64 q.sec) ∧ W.cell? (a.add (i * 2 + 1)) = some (.string q.data) := by
      intro i hi
      obtain ⟨cs', g1, g2⟩ := hall i hi
      rw [Try.cellsW] at g1
      obtain ⟨_, hlen, hcell⟩ := World.cells?_some g1
      obtain ⟨y0, y1, _, _, _, f0, f1⟩ := trod_struct2 Try.underlying50 g2
      match cs', hlen with
      | [c0, c1], hlen =>
        simp only [Try.cellsI, Try.cellsS, List.drop_succ_cons, List.drop_zero, List.take_succ_cons, List.take_zero] at f0 f1
        obtain ⟨z0, e0, _, _⟩ := DataW.trod_int Try.underlying3 f0
        obtain ⟨s1, e1, _, _⟩ := DataW.trod_string Try.underlying9 f1
        simp only [List.cons.injEq, and_true] at e0 e1
        subst e0; subst e1
        have k0 := hcell 0 (by decide)
        have k1 := hcell 1 (by decide)
        rw [add_add] at k0 k1
        exact ⟨⟨z0, s1⟩, by simpa using k0, by simpa using k1⟩
    have hI : Inhabited Wr := ⟨⟨0, ByteArray.empty⟩⟩
    obtain ⟨q, hq⟩ := choose_lt each
    refine ⟨some a, m, a.block, a.off, (List.range len).map q, by rw [range_len]; exact hc, ⟨fun h => ?_, fun i hi => ?_, fun i hi => ?_⟩, by rw [range_len]; exact hle⟩
    · rw [range_len] at h
      obtain ⟨ab, ao, spot⟩ := a
      have hspot : spot = none := by simpa [Addr.add] using World.cell?_spot (hq 0 (by omega)).1
      rw [hspot]
    all_goals
      have hi' := hi
      rw [range_len] at hi'
      rw [range_get]
      have h1 := (hq i (by omega)).1
      have h2 := (hq i (by omega)).2
      obtain ⟨ab, ao, spot⟩ := a
      have hspot : spot = none := by simpa [Addr.add] using World.cell?_spot (hq 0 (by omega)).1
      subst hspot
      rw [Addr.add_lit] at h1 h2
      first | exact h1 | exact h2
/-- a slice of calls, opened -/
theorem ops_at {W : World} {n : Nat} {v : Value} {x : DataW H × List MemPlace} (h : DataW.trod enc Try.prog W 0 (fun _ => true) true n 22 [v] = some x) (hb : ∀ el sp, x.1 = .slice el sp → el.length ≤ 5864062014634) :
    ∃ (ad : Option Addr) (cap ab ao : Nat) (l : List OpV), v = .slice ad l.length cap ∧ Ro W ad ab ao l ∧ l.length ≤ 5864062014634 := by
  rcases open_slice (cs := [v]) Try.underlying22 h with ⟨hc, _⟩ | ⟨a, len, cap, m, k, D, Pl, hc, _, hl, hm, hmm, hx, hall⟩
  · simp only [List.cons.injEq, and_true] at hc
    exact ⟨none, 0, 0, 0, [], hc, ⟨fun h => absurd h (by simp), fun i h => absurd h (by simp), fun i h => absurd h (by simp), fun i h => absurd h (by simp), fun i h => absurd h (by simp), fun i h => absurd h (by simp), fun i h => absurd h (by simp), fun i h => absurd h (by simp)⟩, by simp⟩
  · simp only [List.cons.injEq, and_true] at hc
    simp only [if_true] at hmm
    subst hmm
    have hle : len ≤ 5864062014634 := by
      have := hb _ _ (by rw [hx])
      rwa [range_len] at this
    have each : ∀ i, i < m → ∃ q : OpV, (W.cell? (a.add (i * 5)) = some (.int .i64 q.on) ∧ W.cell? (a.add (i * 5 + 1)) = some (.int .i64 q.k) ∧ W.cell? (a.add (i * 5 + 2)) = some (.int .i64 q.a) ∧ W.cell? (a.add (i * 5 + 3)) = some (.int .i64 q.b) ∧ W.cell? (a.add (i * 5 + 4)) = some (.string q.s)) ∧
        (-9223372036854775808 ≤ q.on ∧ q.on ≤ 9223372036854775807) ∧ (-9223372036854775808 ≤ q.a ∧ q.a ≤ 9223372036854775807) := by
      intro i hi
      obtain ⟨cs', g1, g2⟩ := hall i hi
      rw [Try.cellsO] at g1
      obtain ⟨_, hlen, hcell⟩ := World.cells?_some g1
      obtain ⟨xs, m', _, _, _, hlx, hf⟩ := DataW.trod_struct Try.underlying58 g2
      match cs', hlen with
      | [c0, c1, c2, c3, c4], hlen =>
        match xs, hlx with
        | [y0, y1, y2, y3, y4], _ =>
          have f0 : DataW.trod enc Try.prog W 0 (fun _ => true) true m' 3 (([c0, c1, c2, c3, c4].drop 0).take (Try.prog.cellsOf 3)) = some y0 := hf 0 _ rfl
          have f1 : DataW.trod enc Try.prog W 0 (fun _ => true) true m' 3 (([c0, c1, c2, c3, c4].drop 1).take (Try.prog.cellsOf 3)) = some y1 := hf 1 _ rfl
          have f2 : DataW.trod enc Try.prog W 0 (fun _ => true) true m' 3 (([c0, c1, c2, c3, c4].drop 2).take (Try.prog.cellsOf 3)) = some y2 := hf 2 _ rfl
          have f3 : DataW.trod enc Try.prog W 0 (fun _ => true) true m' 3 (([c0, c1, c2, c3, c4].drop 3).take (Try.prog.cellsOf 3)) = some y3 := hf 3 _ rfl
          have f4 : DataW.trod enc Try.prog W 0 (fun _ => true) true m' 9 (([c0, c1, c2, c3, c4].drop 4).take (Try.prog.cellsOf 9)) = some y4 := hf 4 _ rfl
          simp only [Try.cellsI, Try.cellsS, List.drop_succ_cons, List.drop_zero, List.take_succ_cons, List.take_zero] at f0 f1 f2 f3 f4
          obtain ⟨z0, e0, _, wf0⟩ := DataW.trod_int Try.underlying3 f0
          obtain ⟨z1, e1, _, _⟩ := DataW.trod_int Try.underlying3 f1
          obtain ⟨z2, e2, _, wf2⟩ := DataW.trod_int Try.underlying3 f2
          obtain ⟨z3, e3, _, _⟩ := DataW.trod_int Try.underlying3 f3
          obtain ⟨s4, e4, _, _⟩ := DataW.trod_string Try.underlying9 f4
          simp only [List.cons.injEq, and_true] at e0 e1 e2 e3 e4
          subst e0; subst e1; subst e2; subst e3; subst e4
          have k0 := hcell 0 (by decide)
          have k1 := hcell 1 (by decide)
          have k2 := hcell 2 (by decide)
          have k3 := hcell 3 (by decide)
          have k4 := hcell 4 (by decide)
          rw [add_add] at k0 k1 k2 k3 k4
          exact ⟨⟨z0, z1, z2, z3, s4⟩, ⟨by simpa using k0, by simpa using k1, by simpa using k2, by simpa using k3, by simpa using k4⟩, bounds_i64 wf0, bounds_i64 wf2⟩
    have hI : Inhabited OpV := ⟨⟨0, 0, 0, 0, ByteArray.empty⟩⟩
    obtain ⟨q, hq⟩ := choose_lt each
    refine ⟨some a, m, a.block, a.off, (List.range len).map q, by rw [range_len]; exact hc, ⟨fun h => ?_, fun i hi => ?_, fun i hi => ?_, fun i hi => ?_, fun i hi => ?_, fun i hi => ?_, fun i hi => ?_, fun i hi => ?_⟩, by rw [range_len]; exact hle⟩
    · rw [range_len] at h
      obtain ⟨ab, ao, spot⟩ := a
      have hspot : spot = none := by simpa [Addr.add] using World.cell?_spot (hq 0 (by omega)).1.1
      rw [hspot]
    all_goals
      have hi' := hi
      rw [range_len] at hi'
      rw [range_get]
      obtain ⟨⟨h1, h2, h3, h4, h5⟩, h6, h7⟩ := hq i (by omega)
      obtain ⟨ab, ao, spot⟩ := a
      have hspot : spot = none := by simpa [Addr.add] using World.cell?_spot (hq 0 (by omega)).1.1
      subst hspot
      rw [Addr.add_lit] at h1 h2 h3 h4 h5
      first | exact h1 | exact h2 | exact h3 | exact h4 | exact h5 | exact h6 | exact h7
/-- a write, opened -/
theorem wr_of {W : World} {base : Nat} {v : Value} {d : DataW H} {ps : List MemPlace} (hv : Value.okWide Try.prog W .any base 50 v) (h : DataW.Trod enc Try.prog W 0 (fun _ => true) true 50 v d ps) :
    ∃ x : Wr, v = .agg #[.int .i64 x.sec, .string x.data] := by
  obtain ⟨v0, v1, y0, y1, k, rfl, rfl, rfl, t0, t1⟩ := Go.Joins.open_agg2 Try.underlying50 (by kernel_rfl) (by kernel_rfl) hv h
  obtain ⟨z0, e0, _, _⟩ := DataW.trod_int Try.underlying3 t0
  obtain ⟨s1, e1, _, _⟩ := DataW.trod_string Try.underlying9 t1
  simp only [List.cons.injEq, and_true] at e0 e1
  subst e0; subst e1
  exact ⟨⟨z0, s1⟩, rfl⟩
/-- a Cutting, opened -/
theorem cut_of {W : World} {base : Nat} {v : Value} {d : DataW H} {ps : List MemPlace} (hv : Value.okWide Try.prog W .any base 42 v) (h : DataW.Trod enc Try.prog W 0 (fun _ => true) true 42 v d ps) (hb : (d.weights Try.prog 42).all (· ≤ reachBytes) = true) :
    ∃ (ad : Option Addr) (cap ab ao : Nat) (l : List ByteArray) (ad2 : Option Addr) (cap2 ab2 ao2 : Nat) (R : List Wr) (n m : Int), v = .agg #[.slice ad l.length cap, .slice ad2 R.length cap2, .int .i64 n, .int .i64 m] ∧ Rs W ad ab ao l ∧ Rw W ad2 ab2 ao2 R ∧ l.length ≤ 8796093021952 ∧ R.length ≤ 5864062014634 ∧
      (-9223372036854775808 ≤ n ∧ n ≤ 9223372036854775807) ∧ (-9223372036854775808 ≤ m ∧ m ≤ 9223372036854775807) := by
  obtain ⟨v0, v1, v2, v3, y0, y1, y2, y3, k, rfl, rfl, rfl, t0, t1, t2, t3⟩ := Go.Joins.open_agg4 Try.underlying42 (by kernel_rfl) (by kernel_rfl) hv h
  have hw : (DataW.weightsEach Try.prog [35, 40, 3, 3] [y0.1, y1.1, y2.1, y3.1]).all (· ≤ reachBytes) = true := by
    simp only [DataW.weights, Try.underlying42] at hb
    exact hb
  obtain ⟨ad, cap, ab, ao, l, rfl, hs, hl⟩ := strs_at t0 (fun el sp e => by
    have := sized_slice hw (j := 0) (t := 35) (elems := el) (spare := sp) rfl (by rw [← e]; rfl) Try.underlying35
    rw [Try.bytesS] at this
    simp only [reachBytes] at this
    omega)
  obtain ⟨ad2, cap2, ab2, ao2, R, rfl, hr, hR⟩ := wrs_at t1 (fun el sp e => by
    have := sized_slice hw (j := 1) (t := 40) (elems := el) (spare := sp) rfl (by rw [← e]; rfl) Try.underlying40
    rw [Try.bytesW] at this
    simp only [reachBytes] at this
    omega)
  obtain ⟨z2, e2, _, wf2⟩ := DataW.trod_int Try.underlying3 t2
  obtain ⟨z3, e3, _, wf3⟩ := DataW.trod_int Try.underlying3 t3
  simp only [List.cons.injEq, and_true] at e2 e3
  subst e2; subst e3
  exact ⟨ad, cap, ab, ao, l, ad2, cap2, ab2, ao2, R, z2, z3, rfl, hs, hr, hl, hR, bounds_i64 wf2, bounds_i64 wf3⟩
theorem weights_at {ts : List TypeId} {ds : List (DataW H)} (h : (DataW.weightsEach Try.prog ts ds).all (· ≤ reachBytes) = true) {j : Nat} {t : TypeId} {d : DataW H} (ht : ts[j]? = some t) (hd : ds[j]? = some d) : (d.weights Try.prog t).all (· ≤ reachBytes) = true :=
  List.all_eq_true.2 fun x hx => List.all_eq_true.1 h x (DataW.weights_mem_each ht hd x hx)
end
end Go.Proofs.Ytnhibcadenmglaa
