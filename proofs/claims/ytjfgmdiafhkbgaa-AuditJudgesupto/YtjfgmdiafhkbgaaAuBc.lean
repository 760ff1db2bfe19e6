import Derived.Test.YtjfgmdiafhkbgaaAuG
namespace Go.Proofs.Ytjfgmdiafhkbgaa
open Go.RowKit Go.MapKept
set_option maxRecDepth 8000

/-- faults in memory, that are only read -/
structure Fv (w : World) (v : Value) (l : List (Nat × Nat)) : Prop where
  form : ∃ p cap, v = .slice p l.length cap ∧ l.length ≤ cap ∧ (0 < l.length → ∃ b off, p = some ⟨b, off, none⟩ ∧ b < w.heap.size ∧ ∀ j, j < l.length → w.cell? ⟨b, off + j * 2, none⟩ = some (.int .i64 ((l[j]!).1 : Int)) ∧ w.cell? ⟨b, off + j * 2 + 1, none⟩ = some (.int .i64 ((l[j]!).2 : Int)))
theorem Fv.below {w w' : World} {v : Value} {l : List (Nat × Nat)} (h : Fv w v l) (hb : Below w.heap.size w w') : Fv w' v l := by
  obtain ⟨p, cap, hv, hc, h2⟩ := h
  refine ⟨p, cap, hv, hc, fun h0 => ?_⟩
  obtain ⟨b, off, hp, hlt, hx⟩ := h2 h0
  refine ⟨b, off, hp, Nat.lt_of_lt_of_le hlt hb.size, fun j hj => ?_⟩
  obtain ⟨h3, h4⟩ := hx j hj
  exact ⟨(hb.cell (p := ⟨b, off + j * 2, none⟩) hlt).trans h3, (hb.cell (p := ⟨b, off + j * 2 + 1, none⟩) hlt).trans h4⟩
theorem Fv.shape {w : World} {v : Value} {l : List (Nat × Nat)} (h : Fv w v l) : ∃ p cap, v = .slice p l.length cap ∧ l.length ≤ cap := by
  obtain ⟨p, cap, hv, hc, _⟩ := h
  exact ⟨p, cap, hv, hc⟩
theorem Fv.at {w : World} {p : Option Addr} {n cap : Nat} {l : List (Nat × Nat)} (h : Fv w (.slice p n cap) l) (h0 : 0 < l.length) : ∃ b off, p = some ⟨b, off, none⟩ ∧ b < w.heap.size ∧ ∀ j, j < l.length → w.cell? ⟨b, off + j * 2, none⟩ = some (.int .i64 ((l[j]!).1 : Int)) ∧ w.cell? ⟨b, off + j * 2 + 1, none⟩ = some (.int .i64 ((l[j]!).2 : Int)) := by
  obtain ⟨p', cap', hv, _, h2⟩ := h
  injection hv with e1 _ _
  subst e1
  exact h2 h0
theorem Fv.cut {w : World} {p : Option Addr} {n cap : Nat} {l : List (Nat × Nat)} (h : Fv w (.slice p n cap) l) {k : Nat} (hk : k ≤ l.length) : Fv w (.slice p k cap) (l.take k) := by
  obtain ⟨p', cap', hv, hc, h2⟩ := h
  injection hv with e1 e2 e3
  subst e1; subst e3
  have hl : (l.take k).length = k := by rw [List.length_take]; omega
  refine ⟨p, cap, by rw [hl], by omega, fun h0 => ?_⟩
  obtain ⟨b, off, hp, hlt, hx⟩ := h2 (by omega)
  refine ⟨b, off, hp, hlt, fun j hj => ?_⟩
  have e : (l.take k)[j]! = l[j]! := by
    rw [getElem!_pos (l.take k) j hj, getElem!_pos l j (by omega), List.getElem_take]
  rw [e]
  exact hx j (by omega)
theorem eql_fault (a b : Int) (m n : Int) (w : World) : (binOp .eql 25 (.agg #[.int .i64 a, .int .i64 m]) (.agg #[.int .i64 b, .int .i64 n])).run Try.prog w = .ok (.bool (decide (a = b ∧ m = n))) w := by
  have : (Op.equalIn 10000 25 (.agg #[.int .i64 a, .int .i64 m]) (.agg #[.int .i64 b, .int .i64 n])).run Try.prog w = .ok (decide (a = b ∧ m = n)) w := by
    go_simp
    by_cases e : a = b ∧ m = n
    · obtain ⟨rfl, rfl⟩ := e; simp
    · by_cases h1 : a = b
      · have h2 : ¬ m = n := fun h => e ⟨h1, h⟩
        simp [h1, h2]
      · simp [h1]
  rw [run_eql_struct, this]; rfl
theorem neq_fault (a b : Int) (m n : Int) (w : World) : (binOp .neq 25 (.agg #[.int .i64 a, .int .i64 m]) (.agg #[.int .i64 b, .int .i64 n])).run Try.prog w = .ok (.bool (!decide (a = b ∧ m = n))) w := by
  have : (Op.equalIn 10000 25 (.agg #[.int .i64 a, .int .i64 m]) (.agg #[.int .i64 b, .int .i64 n])).run Try.prog w = .ok (decide (a = b ∧ m = n)) w := by
    go_simp
    by_cases e : a = b ∧ m = n
    · obtain ⟨rfl, rfl⟩ := e; simp
    · by_cases h1 : a = b
      · have h2 : ¬ m = n := fun h => e ⟨h1, h⟩
        simp [h1, h2]
      · simp [h1]
  rw [run_neq_struct, this]; rfl
theorem faults_eq_at {l m : List (Nat × Nat)} (h : l.length = m.length) (he : ∀ j, j < l.length → l[j]! = m[j]!) : l = m := by
  apply List.ext_getElem h
  intro i h1 h2
  have := he i h1
  rwa [getElem!_pos l i h1, getElem!_pos m i h2] at this
end Go.Proofs.Ytjfgmdiafhkbgaa
