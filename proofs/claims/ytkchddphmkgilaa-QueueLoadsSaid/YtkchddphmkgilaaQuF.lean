import Derived.Test.YtkchddphmkgilaaQuE
import Derived.Test.YtkchddphmkgilaaQuD
namespace Go.Proofs.Ytkchddphmkgilaa
open Go.RowKit

set_option maxHeartbeats 4000000 in
theorem status_any (w : World) (most : Int) (r : Rr) : Calls Try.prog 27 #[.int .i64 most, r.val] w fun e w' => e = .returned (.bool (decide (sMay most r))) ∧ Below w.heap.size w w' := by
  obtain ⟨job, st, att, bdg, node, life, code, bits⟩ := r
  by_cases a1 : 1 ≤ att
  · by_cases a2 : att ≤ most
    · skip
      by_cases s1 : st = 1
      · subst s1
        have a0 : 0 ≤ att := by omega
        by_cases a3 : att < most
        · have e1 : sMay most (⟨job, 1, att, bdg, node, life, code, bits⟩ : Rr) := .inl ⟨rfl, a0, a3⟩
          have HE : Hid (decide (sMay most (⟨job, 1, att, bdg, node, life, code, bits⟩ : Rr)) = true) := hide (decide_eq_true e1)
          clear e1
          go_enter Try.func27, Try.ntmps27
          go_wp2
          go_ret
          exact ⟨by rw [HE.out]; rfl, below_alloc _ _⟩
        · have e1 : ¬ sMay most (⟨job, 1, att, bdg, node, life, code, bits⟩ : Rr) := by rintro (⟨_, _, y⟩ | ⟨y, _⟩ | ⟨y, _⟩ | ⟨y, _⟩) <;> first | exact a3 y | (cases y; done)
          have HE : Hid (decide (sMay most (⟨job, 1, att, bdg, node, life, code, bits⟩ : Rr)) = false) := hide (decide_eq_false e1)
          clear e1
          go_enter Try.func27, Try.ntmps27
          go_wp2
          go_ret
          exact ⟨by rw [HE.out]; rfl, below_alloc _ _⟩
      by_cases s2 : st = 2
      · subst s2
        have HE : Hid (decide (sMay most (⟨job, 2, att, bdg, node, life, code, bits⟩ : Rr)) = decide (hMay node life)) := hide (decide_eq_decide.mpr ⟨fun h => by rcases h with (⟨y, _⟩ | ⟨_, _, _, y⟩ | ⟨y, _⟩ | ⟨y, _⟩) <;> first | exact y | (cases y; done), fun m => .inr (.inl ⟨rfl, a1, a2, m⟩)⟩)
        have HC := hide (fun V => holder_any V node life)
        generalize decide (hMay node life) = D at *
        go_enter Try.func27, Try.ntmps27
        go_wp2_with fail
        refine (HC.out _).mono ?_
        rintro e w2 ⟨rfl, hB2⟩
        go_wp2_with fail
        go_ret
        exact ⟨by rw [HE.out]; rfl, (below_alloc w _).trans (hB2.mono (by simp))⟩
      by_cases s3 : st = 3
      · subst s3
        have HE : Hid (decide (sMay most (⟨job, 3, att, bdg, node, life, code, bits⟩ : Rr)) = decide (xMay code bits)) := hide (decide_eq_decide.mpr ⟨fun h => by rcases h with (⟨y, _⟩ | ⟨y, _⟩ | ⟨_, _, _, y⟩ | ⟨y, _⟩) <;> first | exact y | (cases y; done), fun m => .inr (.inr (.inl ⟨rfl, a1, a2, m⟩))⟩)
        have HC := hide (fun V => result_any V code bits)
        generalize decide (xMay code bits) = D at *
        go_enter Try.func27, Try.ntmps27
        go_wp2_with fail
        refine (HC.out _).mono ?_
        rintro e w2 ⟨rfl, hB2⟩
        go_wp2_with fail
        go_ret
        exact ⟨by rw [HE.out]; rfl, (below_alloc w _).trans (hB2.mono (by simp))⟩
      by_cases s4 : st = 4
      · subst s4
        by_cases a4 : att = most
        · have e1 : sMay most (⟨job, 4, att, bdg, node, life, code, bits⟩ : Rr) := .inr (.inr (.inr ⟨rfl, a4⟩))
          have HE : Hid (decide (sMay most (⟨job, 4, att, bdg, node, life, code, bits⟩ : Rr)) = true) := hide (decide_eq_true e1)
          clear e1
          have b4 : (att == most) = true := by simpa using a4
          clear a4
          go_enter Try.func27, Try.ntmps27
          go_wp2
          go_ret
          exact ⟨by rw [HE.out]; rfl, below_alloc _ _⟩
        · have e1 : ¬ sMay most (⟨job, 4, att, bdg, node, life, code, bits⟩ : Rr) := by rintro (⟨y, _⟩ | ⟨y, _⟩ | ⟨y, _⟩ | ⟨_, y⟩) <;> first | exact a4 y | (cases y; done)
          have HE : Hid (decide (sMay most (⟨job, 4, att, bdg, node, life, code, bits⟩ : Rr)) = false) := hide (decide_eq_false e1)
          clear e1
          have b4 : (att == most) = false := by simpa using a4
          clear a4
          go_enter Try.func27, Try.ntmps27
          go_wp2
          go_ret
          exact ⟨by rw [HE.out]; rfl, below_alloc _ _⟩
      have e1 : ¬ sMay most (⟨job, st, att, bdg, node, life, code, bits⟩ : Rr) := by rintro (⟨y, _⟩ | ⟨y, _⟩ | ⟨y, _⟩ | ⟨y, _⟩) <;> first | exact s1 y | exact s2 y | exact s3 y | exact s4 y
      have HE : Hid (decide (sMay most (⟨job, st, att, bdg, node, life, code, bits⟩ : Rr)) = false) := hide (decide_eq_false e1)
      clear e1
      have b1 : (st == 1) = false := by simpa using s1
      have b2 : (st == 2) = false := by simpa using s2
      have b3 : (st == 3) = false := by simpa using s3
      have b4 : (st == 4) = false := by simpa using s4
      clear s1 s2 s3 s4
      go_enter Try.func27, Try.ntmps27
      go_wp2
      go_ret
      exact ⟨by rw [HE.out]; rfl, below_alloc _ _⟩
    · skip
      by_cases s1 : st = 1
      · subst s1
        have a0 : 0 ≤ att := by omega
        have a3 : ¬ att < most := by omega
        have e1 : ¬ sMay most (⟨job, 1, att, bdg, node, life, code, bits⟩ : Rr) := by rintro (⟨_, _, y⟩ | ⟨y, _⟩ | ⟨y, _⟩ | ⟨y, _⟩) <;> first | exact a3 y | (cases y; done)
        have HE : Hid (decide (sMay most (⟨job, 1, att, bdg, node, life, code, bits⟩ : Rr)) = false) := hide (decide_eq_false e1)
        clear e1
        go_enter Try.func27, Try.ntmps27
        go_wp2
        go_ret
        exact ⟨by rw [HE.out]; rfl, below_alloc _ _⟩
      by_cases s2 : st = 2
      · subst s2
        have e1 : ¬ sMay most (⟨job, 2, att, bdg, node, life, code, bits⟩ : Rr) := by rintro (⟨y, _⟩ | ⟨_, y, z, _⟩ | ⟨y, _⟩ | ⟨y, _⟩) <;> first | exact a2 z | (cases y; done)
        have HE : Hid (decide (sMay most (⟨job, 2, att, bdg, node, life, code, bits⟩ : Rr)) = false) := hide (decide_eq_false e1)
        clear e1
        go_enter Try.func27, Try.ntmps27
        go_wp2
        go_ret
        exact ⟨by rw [HE.out]; rfl, below_alloc _ _⟩
      by_cases s3 : st = 3
      · subst s3
        have e1 : ¬ sMay most (⟨job, 3, att, bdg, node, life, code, bits⟩ : Rr) := by rintro (⟨y, _⟩ | ⟨y, _⟩ | ⟨_, y, z, _⟩ | ⟨y, _⟩) <;> first | exact a2 z | (cases y; done)
        have HE : Hid (decide (sMay most (⟨job, 3, att, bdg, node, life, code, bits⟩ : Rr)) = false) := hide (decide_eq_false e1)
        clear e1
        go_enter Try.func27, Try.ntmps27
        go_wp2
        go_ret
        exact ⟨by rw [HE.out]; rfl, below_alloc _ _⟩
      by_cases s4 : st = 4
      · subst s4
        by_cases a4 : att = most
        · have e1 : sMay most (⟨job, 4, att, bdg, node, life, code, bits⟩ : Rr) := .inr (.inr (.inr ⟨rfl, a4⟩))
          have HE : Hid (decide (sMay most (⟨job, 4, att, bdg, node, life, code, bits⟩ : Rr)) = true) := hide (decide_eq_true e1)
          clear e1
          have b4 : (att == most) = true := by simpa using a4
          clear a4
          go_enter Try.func27, Try.ntmps27
          go_wp2
          go_ret
          exact ⟨by rw [HE.out]; rfl, below_alloc _ _⟩
        · have e1 : ¬ sMay most (⟨job, 4, att, bdg, node, life, code, bits⟩ : Rr) := by rintro (⟨y, _⟩ | ⟨y, _⟩ | ⟨y, _⟩ | ⟨_, y⟩) <;> first | exact a4 y | (cases y; done)
          have HE : Hid (decide (sMay most (⟨job, 4, att, bdg, node, life, code, bits⟩ : Rr)) = false) := hide (decide_eq_false e1)
          clear e1
          have b4 : (att == most) = false := by simpa using a4
          clear a4
          go_enter Try.func27, Try.ntmps27
          go_wp2
          go_ret
          exact ⟨by rw [HE.out]; rfl, below_alloc _ _⟩
      have e1 : ¬ sMay most (⟨job, st, att, bdg, node, life, code, bits⟩ : Rr) := by rintro (⟨y, _⟩ | ⟨y, _⟩ | ⟨y, _⟩ | ⟨y, _⟩) <;> first | exact s1 y | exact s2 y | exact s3 y | exact s4 y
      have HE : Hid (decide (sMay most (⟨job, st, att, bdg, node, life, code, bits⟩ : Rr)) = false) := hide (decide_eq_false e1)
      clear e1
      have b1 : (st == 1) = false := by simpa using s1
      have b2 : (st == 2) = false := by simpa using s2
      have b3 : (st == 3) = false := by simpa using s3
      have b4 : (st == 4) = false := by simpa using s4
      clear s1 s2 s3 s4
      go_enter Try.func27, Try.ntmps27
      go_wp2
      go_ret
      exact ⟨by rw [HE.out]; rfl, below_alloc _ _⟩
  · skip
    by_cases s1 : st = 1
    · subst s1
      by_cases a0 : 0 ≤ att
      · by_cases a3 : att < most
        · have e1 : sMay most (⟨job, 1, att, bdg, node, life, code, bits⟩ : Rr) := .inl ⟨rfl, a0, a3⟩
          have HE : Hid (decide (sMay most (⟨job, 1, att, bdg, node, life, code, bits⟩ : Rr)) = true) := hide (decide_eq_true e1)
          clear e1
          go_enter Try.func27, Try.ntmps27
          go_wp2
          go_ret
          exact ⟨by rw [HE.out]; rfl, below_alloc _ _⟩
        · have e1 : ¬ sMay most (⟨job, 1, att, bdg, node, life, code, bits⟩ : Rr) := by rintro (⟨_, _, y⟩ | ⟨y, _⟩ | ⟨y, _⟩ | ⟨y, _⟩) <;> first | exact a3 y | (cases y; done)
          have HE : Hid (decide (sMay most (⟨job, 1, att, bdg, node, life, code, bits⟩ : Rr)) = false) := hide (decide_eq_false e1)
          clear e1
          go_enter Try.func27, Try.ntmps27
          go_wp2
          go_ret
          exact ⟨by rw [HE.out]; rfl, below_alloc _ _⟩
      · have e1 : ¬ sMay most (⟨job, 1, att, bdg, node, life, code, bits⟩ : Rr) := by rintro (⟨_, y, _⟩ | ⟨y, _⟩ | ⟨y, _⟩ | ⟨y, _⟩) <;> first | exact a0 y | (cases y; done)
        have HE : Hid (decide (sMay most (⟨job, 1, att, bdg, node, life, code, bits⟩ : Rr)) = false) := hide (decide_eq_false e1)
        clear e1
        go_enter Try.func27, Try.ntmps27
        go_wp2
        go_ret
        exact ⟨by rw [HE.out]; rfl, below_alloc _ _⟩
    by_cases s2 : st = 2
    · subst s2
      have e1 : ¬ sMay most (⟨job, 2, att, bdg, node, life, code, bits⟩ : Rr) := by rintro (⟨y, _⟩ | ⟨_, y, z, _⟩ | ⟨y, _⟩ | ⟨y, _⟩) <;> first | exact a1 y | (cases y; done)
      have HE : Hid (decide (sMay most (⟨job, 2, att, bdg, node, life, code, bits⟩ : Rr)) = false) := hide (decide_eq_false e1)
      clear e1
      go_enter Try.func27, Try.ntmps27
      go_wp2
      go_ret
      exact ⟨by rw [HE.out]; rfl, below_alloc _ _⟩
    by_cases s3 : st = 3
    · subst s3
      have e1 : ¬ sMay most (⟨job, 3, att, bdg, node, life, code, bits⟩ : Rr) := by rintro (⟨y, _⟩ | ⟨y, _⟩ | ⟨_, y, z, _⟩ | ⟨y, _⟩) <;> first | exact a1 y | (cases y; done)
      have HE : Hid (decide (sMay most (⟨job, 3, att, bdg, node, life, code, bits⟩ : Rr)) = false) := hide (decide_eq_false e1)
      clear e1
      go_enter Try.func27, Try.ntmps27
      go_wp2
      go_ret
      exact ⟨by rw [HE.out]; rfl, below_alloc _ _⟩
    by_cases s4 : st = 4
    · subst s4
      by_cases a4 : att = most
      · have e1 : sMay most (⟨job, 4, att, bdg, node, life, code, bits⟩ : Rr) := .inr (.inr (.inr ⟨rfl, a4⟩))
        have HE : Hid (decide (sMay most (⟨job, 4, att, bdg, node, life, code, bits⟩ : Rr)) = true) := hide (decide_eq_true e1)
        clear e1
        have b4 : (att == most) = true := by simpa using a4
        clear a4
        go_enter Try.func27, Try.ntmps27
        go_wp2
        go_ret
        exact ⟨by rw [HE.out]; rfl, below_alloc _ _⟩
      · have e1 : ¬ sMay most (⟨job, 4, att, bdg, node, life, code, bits⟩ : Rr) := by rintro (⟨y, _⟩ | ⟨y, _⟩ | ⟨y, _⟩ | ⟨_, y⟩) <;> first | exact a4 y | (cases y; done)
        have HE : Hid (decide (sMay most (⟨job, 4, att, bdg, node, life, code, bits⟩ : Rr)) = false) := hide (decide_eq_false e1)
        clear e1
        have b4 : (att == most) = false := by simpa using a4
        clear a4
        go_enter Try.func27, Try.ntmps27
        go_wp2
        go_ret
        exact ⟨by rw [HE.out]; rfl, below_alloc _ _⟩
    have e1 : ¬ sMay most (⟨job, st, att, bdg, node, life, code, bits⟩ : Rr) := by rintro (⟨y, _⟩ | ⟨y, _⟩ | ⟨y, _⟩ | ⟨y, _⟩) <;> first | exact s1 y | exact s2 y | exact s3 y | exact s4 y
    have HE : Hid (decide (sMay most (⟨job, st, att, bdg, node, life, code, bits⟩ : Rr)) = false) := hide (decide_eq_false e1)
    clear e1
    have b1 : (st == 1) = false := by simpa using s1
    have b2 : (st == 2) = false := by simpa using s2
    have b3 : (st == 3) = false := by simpa using s3
    have b4 : (st == 4) = false := by simpa using s4
    clear s1 s2 s3 s4
    go_enter Try.func27, Try.ntmps27
    go_wp2
    go_ret
    exact ⟨by rw [HE.out]; rfl, below_alloc _ _⟩
set_option maxHeartbeats 2000000 in
theorem badge_any (w : World) (r : Rr) : Calls Try.prog 28 #[r.val] w fun e w' => e = .returned (.bool (decide (bMay r))) ∧ Below w.heap.size w w' := by
  by_cases h0 : r.att = 0
  · have b0 : (r.att == 0) = true := by simpa using h0
    by_cases h1 : r.bdg = 0
    · have b1 : (r.bdg == 0) = true := by simpa using h1
      have HE : Hid (decide (bMay r) = true) := hide (decide_eq_true (.inl ⟨h0, h1⟩))
      clear h0 h1
      go_enter Try.func28, Try.ntmps28
      go_wp2
      go_ret
      exact ⟨by rw [HE.out]; rfl, below_alloc _ _⟩
    · have b1 : (r.bdg == 0) = false := by simpa using h1
      have HE : Hid (decide (bMay r) = false) := hide (decide_eq_false (by rintro (⟨_, y⟩ | ⟨y, _⟩); exact h1 y; exact y h0))
      clear h0 h1
      go_enter Try.func28, Try.ntmps28
      go_wp2
      go_ret
      exact ⟨by rw [HE.out]; rfl, below_alloc _ _⟩
  · have b0 : (r.att == 0) = false := by simpa using h0
    by_cases h1 : 1 ≤ r.bdg
    · by_cases h2 : r.bdg ≤ 1099511627776
      · skip
        have HE : Hid (decide (bMay r) = true) := hide (decide_eq_true (.inr ⟨h0, h1, h2⟩))
        clear h0
        go_enter Try.func28, Try.ntmps28
        go_wp2
        go_ret
        exact ⟨by rw [HE.out]; rfl, below_alloc _ _⟩
      · skip
        have HE : Hid (decide (bMay r) = false) := hide (decide_eq_false (by rintro (⟨y, _⟩ | ⟨_, _, y⟩); exact h0 y; exact h2 y))
        clear h0
        go_enter Try.func28, Try.ntmps28
        go_wp2
        go_ret
        exact ⟨by rw [HE.out]; rfl, below_alloc _ _⟩
    · skip
      have HE : Hid (decide (bMay r) = false) := hide (decide_eq_false (by rintro (⟨y, _⟩ | ⟨_, y, _⟩); exact h0 y; exact h1 y))
      clear h0
      go_enter Try.func28, Try.ntmps28
      go_wp2
      go_ret
      exact ⟨by rw [HE.out]; rfl, below_alloc _ _⟩

theorem neqR_any (a b : Rr) (w : World) : (binOp .neq 30 a.val b.val).run Try.prog w = .ok (.bool (!decide (a = b))) w := by
  rw [run_neq_struct, eqR_any]
  rfl
theorem eqlR_any (a b : Rr) (w : World) : (binOp .eql 30 a.val b.val).run Try.prog w = .ok (.bool (decide (a = b))) w := by
  rw [run_eql_struct, eqR_any]
  rfl
set_option maxHeartbeats 2000000 in
theorem shared1_any {w : World} {p : Nat} {r : Rr} (hp : Bx w p r) (f : Bool) (o : Rr) : Calls Try.prog 45 #[.bool f, o.val, .pointer (some ⟨p, 0, none⟩)] w fun e w' => e = .returned (.bool (shF r f o)) ∧ Below w.heap.size w w' := by
  have hlt := hp.lt
  have hq : ∀ o1, Bx (w.alloc o1) p r := fun o1 => hp.keep (Below.heap_alloc _ _ _ hlt)
  obtain ⟨c0, c1, c2, c3, c4, c5, c6, c7⟩ := (hq o.obj).cells
  have hg := guardR
  have hn := neqR_any o r
  clear hq hp
  cases f with
  | true =>
    have HE : Hid (shF r true o = true) := rfl
    go_enter Try.func45, Try.ntmps45
    go_wp2
    go_ret
    exact ⟨by rw [HE.out]; rfl, below_alloc _ _⟩
  | false =>
    by_cases h0 : o = r
    · have HE : Hid (shF r false o = false) := by show shF r false o = false; unfold shF; simp [h0]
      have h1 : decide (o = r) = true := decide_eq_true h0
      rw [h1] at hn
      clear h0 h1
      go_enter Try.func45, Try.ntmps45
      go_wp2
      go_ret
      exact ⟨by rw [HE.out]; rfl, below_alloc _ _⟩
    · have HE : Hid (shF r false o = (o.bdg == r.bdg)) := by show shF r false o = (o.bdg == r.bdg); unfold shF; rw [Bool.eq_iff_iff]; simp [h0]
      have h1 : decide (o = r) = false := decide_eq_false h0
      rw [h1] at hn
      clear h0 h1
      go_enter Try.func45, Try.ntmps45
      go_wp2
      go_ret
      exact ⟨by rw [HE.out]; rfl, below_alloc _ _⟩
end Go.Proofs.Ytkchddphmkgilaa
