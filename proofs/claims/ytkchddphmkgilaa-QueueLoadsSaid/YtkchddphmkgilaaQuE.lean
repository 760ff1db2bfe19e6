import Derived.Test.YtkchddphmkgilaaQuC
namespace Go.Proofs.Ytkchddphmkgilaa
open Go.RowKit

/-- may a holder be -/
def hMay (n l : Int) : Prop := 2 ≤ n ∧ n < 10 ∧ 1 ≤ l ∧ l ≤ 1099511627776
instance (n l : Int) : Decidable (hMay n l) := by unfold hMay; infer_instance
/-- may a result be -/
def xMay (c b : Int) : Prop := c = 0 ∨ (1 ≤ c ∧ c ≤ 7 ∧ b = 0)
instance (c b : Int) : Decidable (xMay c b) := by unfold xMay; infer_instance
/-- the form of a row -/
def fm (job : Int) (r : Rr) : Rr := if r.st = 2 then ⟨job, r.st, r.att, r.bdg, r.node, r.life, 0, 0⟩ else if r.st = 3 then ⟨job, r.st, r.att, r.bdg, 0, 0, r.code, r.bits⟩ else ⟨job, r.st, r.att, r.bdg, 0, 0, 0, 0⟩
/-- by its status -/
def sMay (most : Int) (r : Rr) : Prop :=
  (r.st = 1 ∧ 0 ≤ r.att ∧ r.att < most) ∨ (r.st = 2 ∧ 1 ≤ r.att ∧ r.att ≤ most ∧ hMay r.node r.life) ∨ (r.st = 3 ∧ 1 ≤ r.att ∧ r.att ≤ most ∧ xMay r.code r.bits) ∨ (r.st = 4 ∧ r.att = most)
instance (m : Int) (r : Rr) : Decidable (sMay m r) := by unfold sMay; infer_instance
/-- by its badge -/
def bMay (r : Rr) : Prop := (r.att = 0 ∧ r.bdg = 0) ∨ (r.att ≠ 0 ∧ 1 ≤ r.bdg ∧ r.bdg ≤ 1099511627776)
instance (r : Rr) : Decidable (bMay r) := by unfold bMay; infer_instance

set_option maxHeartbeats 1000000 in
theorem holder_any (w : World) (n l : Int) : Calls Try.prog 39 #[.agg #[.int .i64 n, .int .i64 l]] w fun e w' => e = .returned (.bool (decide (hMay n l))) ∧ Below w.heap.size w w' := by
  by_cases h1 : 2 ≤ n
  · by_cases h2 : n < 10
    · by_cases h3 : 1 ≤ l
      · by_cases h4 : l ≤ 1099511627776
        · have HE : Hid (decide (hMay n l) = true) := hide (decide_eq_true (⟨h1, h2, h3, h4⟩))
          go_enter Try.func39, Try.ntmps39
          go_wp2
          go_ret
          exact ⟨by rw [HE.out]; rfl, below_alloc _ _⟩
        · have HE : Hid (decide (hMay n l) = false) := hide (decide_eq_false (fun h => h4 h.2.2.2))
          go_enter Try.func39, Try.ntmps39
          go_wp2
          go_ret
          exact ⟨by rw [HE.out]; rfl, below_alloc _ _⟩
      · have HE : Hid (decide (hMay n l) = false) := hide (decide_eq_false (fun h => h3 h.2.2.1))
        go_enter Try.func39, Try.ntmps39
        go_wp2
        go_ret
        exact ⟨by rw [HE.out]; rfl, below_alloc _ _⟩
    · have HE : Hid (decide (hMay n l) = false) := hide (decide_eq_false (fun h => h2 h.2.1))
      go_enter Try.func39, Try.ntmps39
      go_wp2
      go_ret
      exact ⟨by rw [HE.out]; rfl, below_alloc _ _⟩
  · have HE : Hid (decide (hMay n l) = false) := hide (decide_eq_false (fun h => h1 h.1))
    go_enter Try.func39, Try.ntmps39
    go_wp2
    go_ret
    exact ⟨by rw [HE.out]; rfl, below_alloc _ _⟩
set_option maxHeartbeats 1000000 in
theorem result_any (w : World) (c b : Int) : Calls Try.prog 43 #[.agg #[.int .i64 c, .int .u64 b]] w fun e w' => e = .returned (.bool (decide (xMay c b))) ∧ Below w.heap.size w w' := by
  by_cases h0 : c = 0
  · have HE : Hid (decide (xMay c b) = true) := hide (decide_eq_true ((.inl h0)))
    have b0 : (c == 0) = true := by simpa using h0
    clear h0
    go_enter Try.func43, Try.ntmps43
    go_wp2
    go_ret
    exact ⟨by rw [HE.out]; rfl, below_alloc _ _⟩
  · have b0 : (c == 0) = false := by simpa using h0
    by_cases h1 : 1 ≤ c
    · by_cases h2 : c ≤ 7
      · by_cases h3 : b = 0
        · have HE : Hid (decide (xMay c b) = true) := hide (decide_eq_true ((.inr ⟨h1, h2, h3⟩)))
          have b3 : (b == 0) = true := by simpa using h3
          clear h3
          go_enter Try.func43, Try.ntmps43
          go_wp2
          go_ret
          exact ⟨by rw [HE.out]; rfl, below_alloc _ _⟩
        · have HE : Hid (decide (xMay c b) = false) := hide (decide_eq_false (fun h => h.elim h0 fun h => h3 h.2.2))
          have b3 : (b == 0) = false := by simpa using h3
          clear h3
          go_enter Try.func43, Try.ntmps43
          go_wp2
          go_ret
          exact ⟨by rw [HE.out]; rfl, below_alloc _ _⟩
      · have HE : Hid (decide (xMay c b) = false) := hide (decide_eq_false (fun h => h.elim h0 fun h => h2 h.2.1))
        go_enter Try.func43, Try.ntmps43
        go_wp2
        go_ret
        exact ⟨by rw [HE.out]; rfl, below_alloc _ _⟩
    · have HE : Hid (decide (xMay c b) = false) := hide (decide_eq_false (fun h => h.elim h0 fun h => h1 h.1))
      go_enter Try.func43, Try.ntmps43
      go_wp2
      go_ret
      exact ⟨by rw [HE.out]; rfl, below_alloc _ _⟩
theorem below_alloc3 (w : World) (o1 o2 o3 : Obj) : Below w.heap.size w (((w.alloc o1).alloc o2).alloc o3) := ((below_alloc w o1).alloc (by simp) o2).alloc (by simp; omega) o3
set_option maxHeartbeats 1000000 in
theorem formed_any (w : World) (job : Int) (r : Rr) : Calls Try.prog 26 #[.int .i64 job, r.val] w fun e w' => e = .returned (fm job r).val ∧ Below w.heap.size w w' := by
  by_cases h2 : r.st = 2
  · have HE : Hid (fm job r = ⟨job, r.st, r.att, r.bdg, r.node, r.life, 0, 0⟩) := if_pos h2
    have b2 : (r.st == 2) = true := by simpa using h2
    clear h2
    go_enter Try.func26, Try.ntmps26
    go_wp2
    refine bodyPost_ret (by rw [results_c (fn := Try.f26) rfl]; go_simp; rfl) rfl ?_
    exact ⟨by rw [HE.out], below_alloc3 _ _ _ _⟩
  · have b2 : (r.st == 2) = false := by simpa using h2
    by_cases h3 : r.st = 3
    · have HE : Hid (fm job r = ⟨job, r.st, r.att, r.bdg, 0, 0, r.code, r.bits⟩) := (if_neg h2).trans (if_pos h3)
      have b3 : (r.st == 3) = true := by simpa using h3
      clear h2 h3
      go_enter Try.func26, Try.ntmps26
      go_wp2
      refine bodyPost_ret (by rw [results_c (fn := Try.f26) rfl]; go_simp; rfl) rfl ?_
      exact ⟨by rw [HE.out], below_alloc3 _ _ _ _⟩
    · have HE : Hid (fm job r = ⟨job, r.st, r.att, r.bdg, 0, 0, 0, 0⟩) := (if_neg h2).trans (if_neg h3)
      have b3 : (r.st == 3) = false := by simpa using h3
      clear h2 h3
      go_enter Try.func26, Try.ntmps26
      go_wp2
      refine bodyPost_ret (by rw [results_c (fn := Try.f26) rfl]; go_simp; rfl) rfl ?_
      exact ⟨by rw [HE.out], below_alloc3 _ _ _ _⟩
end Go.Proofs.Ytkchddphmkgilaa
