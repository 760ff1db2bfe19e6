import Derived.Test.YtjfgmdiafhkbgaaAuY
namespace Go.Proofs.Ytjfgmdiafhkbgaa
open Go.RowKit Go.MapKept
set_option maxRecDepth 8000

theorem rowc_0 {k : Nat} (h1 : 1 ≤ k) (h2 : k ≤ 14) : rowc k 0 = .bool (jobK k) ∧ rowc k 1 = .bool (idxK k) ∧ ∃ n1 n2, rowc k 2 = .func (.func n1) #[] #[] ∧ rowc k 3 = .func (.func n2) #[] #[] := by
  have : k = 1 ∨ k = 2 ∨ k = 3 ∨ k = 4 ∨ k = 5 ∨ k = 6 ∨ k = 7 ∨ k = 8 ∨ k = 9 ∨ k = 10 ∨ k = 11 ∨ k = 12 ∨ k = 13 ∨ k = 14 := by omega
  rcases this with rfl | rfl | rfl | rfl | rfl | rfl | rfl | rfl | rfl | rfl | rfl | rfl | rfl | rfl <;> exact ⟨rfl, rfl, _, _, rfl, rfl⟩
section
variable {w w' : World}
/-- the table in memory -/
theorem kcs_cell {kb : Nat} (h : w.heap[kb]? = some (.cells kcs 65 (0, 0))) {k j : Nat} (hk : k < 15) (hj : j < 4) : w.cell? ⟨kb, k * 4 + j, none⟩ = some (rowc k j) := by
  have hl : k * 4 + j < kcs.size := by show k * 4 + j < 60; omega
  unfold rowc
  simp only [World.cell?, h]
  rw [Array.getElem?_eq_getElem hl, getElem!_pos kcs _ hl]
  simp
set_option maxHeartbeats 4000000 in
theorem mayBe_any {kb : Nat} (hkb : w.heap[kb]? = some (.cells kcs 65 (0, 0))) (e : Ev) {q : Option Addr} {cq : Nat} :
    Calls Try.prog 49 #[.slice (some ⟨kb, 0, none⟩) 15 15, e.v (.slice q e.ts.length cq)] w fun r w' => r = .returned (.bool (okE e)) ∧ Below w.heap.size w w' := by
  obtain ⟨ek, eo, en, el, ej, eb, ei, ec, es, er, ew, ex, et⟩ := e
  dsimp only [Ev.v]
  have hbl : kb < w.heap.size := lt_of_block hkb
  by_cases h1 : ek < 1
  · have HF : Hid (okE ⟨ek, eo, en, el, ej, eb, ei, ec, es, er, ew, ex, et⟩ = false) := hide (by
      unfold okE
      dsimp only
      rw [decide_eq_false (by omega : ¬ 1 ≤ ek)]
      rfl)
    rw [HF.out]
    clear hkb
    go_enter Try.func49, Try.ntmps49
    go_wp2_with fail
    go_ret
    exact ⟨rfl, below_alloc _ _⟩
  by_cases h2 : 15 ≤ ek
  · have HF : Hid (okE ⟨ek, eo, en, el, ej, eb, ei, ec, es, er, ew, ex, et⟩ = false) := hide (by
      unfold okE
      dsimp only
      rw [decide_eq_false (by omega : ¬ ek ≤ 14), Bool.and_false]
      rfl)
    rw [HF.out]
    clear hkb
    go_enter Try.func49, Try.ntmps49
    go_wp2_with fail
    go_ret
    exact ⟨rfl, below_alloc _ _⟩
  obtain ⟨kN, rfl⟩ : ∃ kN : Nat, ek = (kN : Int) := ⟨ek.toNat, by omega⟩
  have k1 : 1 ≤ kN := by omega
  have k14 : kN ≤ 14 := by omega
  have HF : Hid (okE ⟨(kN : Int), eo, en, el, ej, eb, ei, ec, es, er, ew, ex, et⟩ = ((!jobK kN || (decide (1 ≤ ej) && decide (ej ≤ 8))) && (!idxK kN || (decide (0 ≤ ei) && decide (ei ≤ 1099511627776))))) := hide (by
    unfold okE
    dsimp only
    rw [decide_eq_true (by omega : (1 : Int) ≤ (kN : Int)), decide_eq_true (by omega : (kN : Int) ≤ 14)]
    rfl)
  rw [HF.out]
  obtain ⟨r0, r1, n1, n2, r2, r3⟩ := rowc_0 k1 k14
  have c0 := kcs_cell hkb (k := kN) (j := 0) (by omega) (by decide)
  have c1 := kcs_cell hkb (k := kN) (j := 1) (by omega) (by decide)
  have c2 := kcs_cell hkb (k := kN) (j := 2) (by omega) (by decide)
  have c3 := kcs_cell hkb (k := kN) (j := 3) (by omega) (by decide)
  rw [r0, Nat.add_zero] at c0
  rw [r1] at c1
  rw [r2] at c2
  rw [r3] at c3
  have kk1 : ¬ (kN : Int) < 1 := by omega
  have kk2 : ¬ (15 : Int) ≤ (kN : Int) := by omega
  have kk3 : kN < 15 := by omega
  have kk4 : ¬ kN = 0 := by omega
  have kk5 : ¬ 15 ≤ kN := by omega
  have kk6 : (kN : Int) < 15 := by omega
  generalize jobK kN = bj at *
  generalize idxK kN = bi at *
  generalize hd1 : decide (1 ≤ ej) = d1 at *
  generalize hd2 : decide (ej ≤ 8) = d2 at *
  generalize hd3 : decide (0 ≤ ei) = d3 at *
  generalize hd4 : decide (ei ≤ 1099511627776) = d4 at *
  clear hkb h1 h2 HF r0 r1 r2 r3 k1 k14
  cases bj with
  | false =>
    clear hd1 hd2
    cases bi with
    | false =>
      clear hd3 hd4
      go_enter Try.func49, Try.ntmps49
      go_wp2_with fail
      go_ret
      exact ⟨rfl, below_of (below_alloc _ _) (below_alloc _ _)⟩
    | true =>
      cases d3 with
      | false =>
        clear hd4
        go_enter Try.func49, Try.ntmps49
        go_wp2_with fail
        go_ret
        exact ⟨rfl, below_of (below_alloc _ _) (below_alloc _ _)⟩
      | true =>
        cases d4 with
        | false =>
          go_enter Try.func49, Try.ntmps49
          go_wp2_with fail
          go_ret
          exact ⟨rfl, below_of (below_alloc _ _) (below_alloc _ _)⟩
        | true =>
          go_enter Try.func49, Try.ntmps49
          go_wp2_with fail
          go_ret
          exact ⟨rfl, below_of (below_alloc _ _) (below_alloc _ _)⟩
  | true =>
    cases d1 with
    | false =>
      clear hd2 hd3 hd4
      go_enter Try.func49, Try.ntmps49
      go_wp2_with fail
      go_ret
      exact ⟨rfl, below_of (below_alloc _ _) (below_alloc _ _)⟩
    | true =>
      cases d2 with
      | false =>
        clear hd3 hd4
        go_enter Try.func49, Try.ntmps49
        go_wp2_with fail
        go_ret
        exact ⟨rfl, below_of (below_alloc _ _) (below_alloc _ _)⟩
      | true =>
        cases bi with
        | false =>
          clear hd3 hd4
          go_enter Try.func49, Try.ntmps49
          go_wp2_with fail
          go_ret
          exact ⟨rfl, below_of (below_alloc _ _) (below_alloc _ _)⟩
        | true =>
          cases d3 with
          | false =>
            clear hd4
            go_enter Try.func49, Try.ntmps49
            go_wp2_with fail
            go_ret
            exact ⟨rfl, below_of (below_alloc _ _) (below_alloc _ _)⟩
          | true =>
            cases d4 with
            | false =>
              go_enter Try.func49, Try.ntmps49
              go_wp2_with fail
              go_ret
              exact ⟨rfl, below_of (below_alloc _ _) (below_alloc _ _)⟩
            | true =>
              go_enter Try.func49, Try.ntmps49
              go_wp2_with fail
              go_ret
              exact ⟨rfl, below_of (below_alloc _ _) (below_alloc _ _)⟩
end
end Go.Proofs.Ytjfgmdiafhkbgaa
