import Derived.Test.YtjfgmdiafhkbgaaAuAb
import Derived.Test.YtjfgmdiafhkbgaaAuBc
namespace Go.Proofs.Ytjfgmdiafhkbgaa
open Go.RowKit Go.MapKept
set_option maxRecDepth 8000

/-- the three events of the document's example -/
def fixL : List Ev := [⟨2, 0, 0, 0, 1, 0, 0, 0, 0, 0, 0, ByteArray.empty, []⟩, ⟨5, 0, 0, 0, 1, 3, 0, 0, 0, 0, 0, ByteArray.empty, []⟩, ⟨9, 0, 0, 0, 1, 3, 0, 0, 0, 0, 0, ByteArray.empty, []⟩]
theorem fix_fit : ∀ e ∈ fixL, e.fit := by
  intro e he
  simp only [fixL, List.mem_cons, List.mem_nil_iff, or_false] at he
  rcases he with rfl | rfl | rfl <;> exact ⟨rfl, rfl, rfl, rfl, rfl, rfl, Nat.zero_le _⟩
theorem fix_E : allE fixL = 0 := by
  unfold allE
  rw [if_neg (by decide), if_pos (by decide)]
theorem fix_L : allL fixL = [(2, 2), (6, 2)] := by
  unfold allL
  rw [if_pos fix_E]
  decide
theorem fv_own {w : World} {base : Nat} {v : Value} {l : List (Nat × Nat)} (h : w.ownsRow base 25 2 v l.length (fcs l)) : Fv w v l := by
  rcases h.2 with ⟨rfl, h0⟩ | ⟨g, cap, cur, rfl, _, hg, hc, _⟩
  · exact ⟨none, 0, by rw [h0], by omega, fun h1 => by omega⟩
  · refine ⟨some ⟨g, 0, none⟩, cap, rfl, hc, fun h0 => ⟨g, 0, rfl, lt_of_block hg, fun j hj => ?_⟩⟩
    have hat : ∀ (l : List (Nat × Nat)) (j : Nat), j < l.length → (fcs l)[j * 2]? = some (.int .i64 ((l[j]!).1 : Int)) ∧ (fcs l)[j * 2 + 1]? = some (.int .i64 ((l[j]!).2 : Int)) := by
      intro l
      induction l with
      | nil => intro j hj; simp at hj
      | cons x l ih =>
        intro j hj
        cases j with
        | zero => exact ⟨rfl, rfl⟩
        | succ j =>
          have := ih j (by simpa using hj)
          have e1 : (j + 1) * 2 = j * 2 + 1 + 1 := by omega
          rw [e1]
          simpa [fcs] using this
    obtain ⟨h1, h2⟩ := hat l j hj
    have k1 := h.cells (g := g) rfl (j * 2) _ h1
    have k2 := h.cells (g := g) rfl (j * 2 + 1) _ h2
    rw [Addr.add_lit, Nat.zero_add] at k1 k2
    rw [Nat.zero_add]
    exact ⟨k1, k2⟩
/-- All, as it is read -/
theorem all_fv {w : World} {v : Value} {l : List Ev} (hr : Rv w v l) (hf : ∀ e ∈ l, e.fit) : Calls Try.prog 11 #[v] w fun e w' => ∃ ad cp, e = .returned (.tuple #[.slice ad (allL l).length cp, .int .i64 (allE l)]) ∧ Fv w' (.slice ad (allL l).length cp) (allL l) ∧ Below w.heap.size w w' :=
  (all_any hr hf).mono fun e w' ⟨ov, he, ho, hb⟩ => by
    obtain ⟨ad, cp, rfl⟩ := own_slice ho
    exact ⟨ad, cp, he, fv_own ho, hb⟩
abbrev fixC : Array Value := #[.int .i64 2, .int .i64 0, .int .i64 0, .int .i64 0, .int .i64 1, .int .i64 0, .int .i64 0, .int .i64 0, .int .i64 0, .int .i64 0, .int .u64 0, .string ⟨#[]⟩, .slice none 0 0, .int .i64 5, .int .i64 0, .int .i64 0, .int .i64 0, .int .i64 1, .int .i64 3, .int .i64 0, .int .i64 0, .int .i64 0, .int .i64 0, .int .u64 0, .string ⟨#[]⟩, .slice none 0 0, .int .i64 9, .int .i64 0, .int .i64 0, .int .i64 0, .int .i64 1, .int .i64 3, .int .i64 0, .int .i64 0, .int .i64 0, .int .i64 0, .int .u64 0, .string ⟨#[]⟩, .slice none 0 0]
theorem fix_at {j k : Nat} {u : Value} (hj : j < 3) (hk : ((fixL[j]!).cs (.slice none 0 0))[k]? = some u) : fixC[0 + j * 13 + k]? = some u := by
  rcases j with _ | _ | _ | j
  · rcases k with _ | _ | _ | _ | _ | _ | _ | _ | _ | _ | _ | _ | _ | k
    all_goals first | exact hk | cases hk
  · rcases k with _ | _ | _ | _ | _ | _ | _ | _ | _ | _ | _ | _ | _ | k
    all_goals first | exact hk | cases hk
  · rcases k with _ | _ | _ | _ | _ | _ | _ | _ | _ | _ | _ | _ | _ | k
    all_goals first | exact hk | cases hk
  · omega
theorem fix_rv (w : World) : Rv (w.alloc (.cells fixC 43)) (.slice (some ⟨w.heap.size, 0, none⟩) 3 3) fixL := by
  refine ⟨some ⟨w.heap.size, 0, none⟩, 3, rfl, Nat.le_refl _, fun _ => ⟨w.heap.size, 0, rfl, by rw [World.size_alloc]; omega, fun j hj => ⟨none, 0, ?_, fun k u hk => ?_⟩⟩⟩
  · have hj3 : j < 3 := hj
    rcases j with _ | _ | _ | j
    · exact Tx.nil _
    · exact Tx.nil _
    · exact Tx.nil _
    · omega
  · have hj3 : j < 3 := hj
    rw [World.cell?_alloc_new]
    refine fix_at hj3 ?_
    rcases j with _ | _ | _ | j
    · exact hk
    · exact hk
    · exact hk
    · omega
theorem fixed_any (w : World) : Calls Try.prog 10 #[] w fun e w' => e = .returned (.bool true) ∧ Below w.heap.size w w' := by
  have HA := hide (all_fv (fix_rv w) fix_fit)
  rw [fix_E, fix_L] at HA
  have q1 : ∀ W, (binOp .eql 25 (.agg #[.int .i64 2, .int .i64 2]) (.agg #[.int .i64 2, .int .i64 2])).run Try.prog W = .ok (.bool true) W := fun W => by rw [eql_fault]; rfl
  have q2 : ∀ W, (binOp .eql 25 (.agg #[.int .i64 6, .int .i64 2]) (.agg #[.int .i64 6, .int .i64 2])).run Try.prog W = .ok (.bool true) W := fun W => by rw [eql_fault]; rfl
  go_enter Try.func10, Try.ntmps10
  go_wp2_with fail
  refine HA.out.mono ?_
  rintro e w1 ⟨ad, cp, rfl, hv, hb⟩
  obtain ⟨b, off, rfl, _, hx⟩ := hv.at (by decide)
  obtain ⟨c0, c1⟩ := hx 0 (by decide)
  obtain ⟨c2, c3⟩ := hx 1 (by decide)
  simp only [Nat.zero_mul, Nat.one_mul, Nat.add_zero] at c0 c1 c2 c3
  have d0 : w1.cell? ⟨b, off, none⟩ = some (.int .i64 2) := c0
  have d1 : w1.cell? ⟨b, off + 1, none⟩ = some (.int .i64 2) := c1
  have d2 : w1.cell? ⟨b, off + 2, none⟩ = some (.int .i64 6) := c2
  have d3 : w1.cell? ⟨b, off + 2 + 1, none⟩ = some (.int .i64 2) := c3
  have HB := hide (below_of (below_alloc w _) hb)
  clear hb hv hx c0 c1 c2 c3
  have hl : [((2 : Nat), (2 : Nat)), (6, 2)].length = 2 := rfl
  rw [hl]
  go_wp2_with fail
  go_ret
  exact ⟨rfl, HB.out⟩
end Go.Proofs.Ytjfgmdiafhkbgaa
