import Derived.Test.YtajbkgahgnkodaaPkBb
import Derived.ProofKit
import Derived.OpenShut
import Derived.ShutString
import Derived.SizedLaws
import Derived.Carry
import Derived.Deep.Slices
import Derived.Deep.Strs
namespace Go.Proofs.Ytajbkgahgnkodaa
open Go.ChangeShapes Go.WideShapes Go.ChangeAt Go.RowKit Go.Deep

theorem Try.cellsT : Try.prog.cellsOf 45 = 3 := by kernel_rfl
theorem Try.cellsI' : Try.prog.cellsOf 3 = 1 := by kernel_rfl
theorem Try.cellsU : Try.prog.cellsOf 22 = 1 := by kernel_rfl
theorem Try.cellsS : Try.prog.cellsOf 9 = 1 := by kernel_rfl

section
variable {H : Type} {enc : TypeId × Value → H}
theorem bulk_append (a b : List (DataW H)) : Rows.uptoBulkAll (a ++ b) = Rows.uptoBulkAll a + Rows.uptoBulkAll b := by
  induction a with
  | nil => simp [Rows.uptoBulkAll]
  | cons d r ih => simp only [List.cons_append, Rows.uptoBulkAll, ih]; omega
theorem bulk_things (D : Nat → DataW H) (K : Nat → Int) (N : Nat → Nat) (S : Nat → ByteArray) (n : Nat) (hD : ∀ i, i < n → D i = .agg [.lit (.int .i64 (K i)), .lit (.int .u64 (N i : Int)), .lit (.string (S i).data.toList)]) :
    Rows.uptoBulkAll ((List.range n).map D) = Pk.sumS S n + 4 * n := by
  induction n with
  | zero => simp [Rows.uptoBulkAll, Pk.sumS]
  | succ n ih =>
    rw [List.range_succ, List.map_append, bulk_append, ih (fun i hi => hD i (by omega))]
    simp only [List.map_cons, List.map_nil, hD n (by omega), Rows.uptoBulkAll, Rows.uptoBulk, Pk.sumS]
    have : (S n).data.toList.length = (S n).size := rfl
    omega
theorem sumS_le (S : Nat → ByteArray) (n : Nat) : ∀ i, i < n → (S i).size ≤ Pk.sumS S n := by
  induction n with
  | zero => intro i h; omega
  | succ n ih =>
    intro i h
    show _ ≤ Pk.sumS S n + (S n).size
    rcases Nat.lt_or_ge i n with h1 | h1
    · have := ih i h1; omega
    · rw [show i = n by omega]; omega
/-- a slice of things, opened -/
theorem things_of {W : World} {base : Nat} {v : Value} {d : DataW H} {ps : List MemPlace} (hv : Value.okWide Try.prog W .any base 42 v) (h : DataW.Trod enc Try.prog W 0 (fun _ => true) true 42 v d ps)
    (hk : Rows.uptoBulk d ≤ 1048576) :
    ∃ (ad : Option Addr) (len cap ab ao : Nat) (K : Nat → Int) (N : Nat → Nat) (S : Nat → ByteArray), v = .slice ad len cap ∧ Ths W ad len ab ao K N S ∧ (Pk.pre K N S len).length ≤ 140737488351232 := by
  obtain ⟨a0, len0, cap0, rfl⟩ := okWide_slice Try.underlying42 hv
  obtain ⟨n, hn⟩ := h
  rcases open_slice (cs := [.slice a0 len0 cap0]) Try.underlying42 hn with ⟨hc, _⟩ | ⟨a, len, cap, m, k, D, Pl, hc, _, hl, hm, hmm, hx, hall⟩
  · simp only [List.cons.injEq, and_true] at hc
    injection hc with h1 h2 h3
    subst h1; subst h2; subst h3
    exact ⟨none, 0, 0, 0, 0, fun _ => 0, fun _ => 0, fun _ => ⟨#[]⟩, rfl, ⟨fun h => absurd h (by omega), fun h => absurd h (by omega), fun i h => absurd h (by omega), fun i h => absurd h (by omega), fun i h => absurd h (by omega), fun i h => absurd h (by omega), fun i h => absurd h (by omega), by omega⟩, by simp [Pk.pre]⟩
  · simp only [List.cons.injEq, and_true] at hc
    injection hc with h1 h2 h3
    subst h1; subst h2; subst h3
    simp only [if_true] at hmm
    subst hmm
    simp only [Prod.mk.injEq] at hx
    obtain ⟨rfl, _⟩ := hx
    have each : ∀ i, i < m → ∃ q : Int × Nat × ByteArray, W.cell? (a.add (i * 3)) = some (.int .i64 q.1) ∧ W.cell? (a.add (i * 3 + 1)) = some (.int .u64 (q.2.1 : Int)) ∧ W.cell? (a.add (i * 3 + 2)) = some (.string q.2.2) ∧ q.2.1 < 18446744073709551616 ∧
        D i = .agg [.lit (.int .i64 q.1), .lit (.int .u64 (q.2.1 : Int)), .lit (.string q.2.2.data.toList)] := by
      intro i hi
      obtain ⟨cs', g1, g2⟩ := hall i hi
      rw [Try.cellsT] at g1
      obtain ⟨_, hlen, hcell⟩ := World.cells?_some g1
      obtain ⟨y0, y1, y2, n', hx', _, t0, t1, t2⟩ := trod_struct3 Try.underlying45 g2
      match cs', hlen with
      | [c0, c1, c2], _ =>
        obtain ⟨z0, e0, x0, _⟩ := DataW.trod_int Try.underlying3 t0
        obtain ⟨z1, e1, x1, wf1⟩ := DataW.trod_int Try.underlying22 t1
        obtain ⟨s2, e2, x2, _⟩ := DataW.trod_string Try.underlying9 t2
        simp only [Try.cellsI', Try.cellsU, Try.cellsS, List.drop_succ_cons, List.drop_zero, List.take_succ_cons, List.take_zero, List.cons.injEq, and_true] at e0 e1 e2
        subst e0; subst e1; subst e2
        have hb1 := bounds_u64 wf1
        obtain ⟨nn, rfl⟩ := Int.eq_ofNat_of_zero_le hb1.1
        have k0 := hcell 0 (by omega)
        have k1 := hcell 1 (by omega)
        have k2 := hcell 2 (by omega)
        rw [add_add] at k0 k1 k2
        simp only [Prod.mk.injEq] at hx'
        refine ⟨(z0, nn, s2), by simpa using k0, by simpa using k1, by simpa using k2, by have := hb1.2; simp only; omega, ?_⟩
        rw [hx'.1, x0, x1, x2]
    obtain ⟨q, hq⟩ := choose_lt each
    have hkb : Pk.sumS (fun i => (q i).2.2) len0 + 4 * len0 ≤ 1048576 := by
      have e := bulk_things D (fun i => (q i).1) (fun i => (q i).2.1) (fun i => (q i).2.2) len0 (fun i hi => (hq i (by omega)).2.2.2.2)
      simp only [Rows.uptoBulk] at hk
      omega
    have hpre := Pk.pre_len (fun i => (q i).1) (fun i => (q i).2.1) (fun i => (q i).2.2) len0 (fun i hi => (hq i (by omega)).2.2.2.1) (fun i hi => by have := sumS_le (fun i => (q i).2.2) len0 i hi; omega)
    by_cases hz : len0 = 0
    · subst hz
      exact ⟨_, 0, m, 0, 0, fun _ => 0, fun _ => 0, fun _ => ⟨#[]⟩, rfl, ⟨fun h => absurd h (by omega), fun h => absurd h (by omega), fun i h => absurd h (by omega), fun i h => absurd h (by omega), fun i h => absurd h (by omega), fun i h => absurd h (by omega), fun i h => absurd h (by omega), by omega⟩, by simp [Pk.pre]⟩
    · obtain ⟨ab, ao, spot⟩ := a
      have hspot : spot = none := by simpa [Addr.add] using World.cell?_spot (hq 0 (by omega)).1
      subst hspot
      have add2 : ∀ j : Nat, (⟨ab, ao, none⟩ : Addr).add j = ⟨ab, ao + j, none⟩ := fun j => by unfold Addr.add; split <;> simp_all
      refine ⟨_, len0, m, ab, ao, fun i => (q i).1, fun i => (q i).2.1, fun i => (q i).2.2, rfl, ⟨fun _ => rfl, fun _ => ?_, fun i hi => ?_, fun i hi => ?_, fun i hi => ?_, fun i hi => (hq i (by omega)).2.2.2.1, fun i hi => ?_, by unfold maxLen at hm; omega⟩, by omega⟩
      · exact World.block_lt_of_cell? _ _ (hq 0 (by omega)).1
      · have := (hq i (by omega)).1
        rw [add2] at this
        exact this
      · have := (hq i (by omega)).2.1
        rw [add2] at this
        exact this
      · have := (hq i (by omega)).2.2.1
        rw [add2] at this
        exact this
      · have := sumS_le (fun i => (q i).2.2) len0 i hi
        omega
end
end Go.Proofs.Ytajbkgahgnkodaa
