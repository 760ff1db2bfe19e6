import Derived.Test.YtepondcflkledaaGreatMgAJ

section
namespace Go.Proofs.YtepondcflkledaaGreat.Q
set_option maxRecDepth 20000
open Go.RowKit

set_option maxHeartbeats 4000000 in
theorem status_any (w : World) (most : Int) (r : Rr) : Calls Tryz.prog 105 #[.int .i64 most, r.val] w fun e w' => e = .returned (.bool (decide (sMay most r))) ∧ Below w.heap.size w w' := by
  obtain ⟨job, st, att, bdg, node, life, code, bits⟩ := r
  by_cases a1 : 1 ≤ att
  · by_cases a2 : att ≤ most
    · skip
      by_cases s1 : st = 1
      · subst s1
        have a0 : 0 ≤ att := by omega
        by_cases a3 : att < most
        · have e1 : sMay most (⟨job, 1, att, bdg, node, life, code, bits⟩ : Rr) := .inl ⟨rfl, a0, a3⟩
          have HE : Hid (decide (sMay most (⟨job, 1, att, bdg, node, life, code, bits⟩ : Rr)) = true) := hide (decide_eq_true e1)
          clear e1
          go_enter Tryz.func105, Tryz.ntmps105
          go_wp2
          go_ret
          exact ⟨by rw [HE.out]; rfl, below_alloc _ _⟩
        · have e1 : ¬ sMay most (⟨job, 1, att, bdg, node, life, code, bits⟩ : Rr) := by rintro (⟨_, _, y⟩ | ⟨y, _⟩ | ⟨y, _⟩ | ⟨y, _⟩) <;> first | exact a3 y | (cases y; done)
          have HE : Hid (decide (sMay most (⟨job, 1, att, bdg, node, life, code, bits⟩ : Rr)) = false) := hide (decide_eq_false e1)
          clear e1
          go_enter Tryz.func105, Tryz.ntmps105
          go_wp2
          go_ret
          exact ⟨by rw [HE.out]; rfl, below_alloc _ _⟩
      by_cases s2 : st = 2
      · subst s2
        have HE : Hid (decide (sMay most (⟨job, 2, att, bdg, node, life, code, bits⟩ : Rr)) = decide (hMay node life)) := hide (decide_eq_decide.mpr ⟨fun h => by rcases h with (⟨y, _⟩ | ⟨_, _, _, y⟩ | ⟨y, _⟩ | ⟨y, _⟩) <;> first | exact y | (cases y; done), fun m => .inr (.inl ⟨rfl, a1, a2, m⟩)⟩)
        have HC := hide (fun V => holder_any V node life)
        generalize decide (hMay node life) = D at *
        go_enter Tryz.func105, Tryz.ntmps105
        go_wp2_with fail
        refine (HC.out _).mono ?_
        rintro e w2 ⟨rfl, hB2⟩
        go_wp2_with fail
        go_ret
        exact ⟨by rw [HE.out]; rfl, (below_alloc w _).trans (hB2.mono (by simp))⟩
      by_cases s3 : st = 3
      · subst s3
        have HE : Hid (decide (sMay most (⟨job, 3, att, bdg, node, life, code, bits⟩ : Rr)) = decide (xMay code bits)) := hide (decide_eq_decide.mpr ⟨fun h => by rcases h with (⟨y, _⟩ | ⟨y, _⟩ | ⟨_, _, _, y⟩ | ⟨y, _⟩) <;> first | exact y | (cases y; done), fun m => .inr (.inr (.inl ⟨rfl, a1, a2, m⟩))⟩)
        have HC := hide (fun V => result_any V code bits)
        generalize decide (xMay code bits) = D at *
        go_enter Tryz.func105, Tryz.ntmps105
        go_wp2_with fail
        refine (HC.out _).mono ?_
        rintro e w2 ⟨rfl, hB2⟩
        go_wp2_with fail
        go_ret
        exact ⟨by rw [HE.out]; rfl, (below_alloc w _).trans (hB2.mono (by simp))⟩
      by_cases s4 : st = 4
      · subst s4
        by_cases a4 : att = most
        · have e1 : sMay most (⟨job, 4, att, bdg, node, life, code, bits⟩ : Rr) := .inr (.inr (.inr ⟨rfl, a4⟩))
          have HE : Hid (decide (sMay most (⟨job, 4, att, bdg, node, life, code, bits⟩ : Rr)) = true) := hide (decide_eq_true e1)
          clear e1
          have b4 : (att == most) = true := by simpa using a4
          clear a4
          go_enter Tryz.func105, Tryz.ntmps105
          go_wp2
          go_ret
          exact ⟨by rw [HE.out]; rfl, below_alloc _ _⟩
        · have e1 : ¬ sMay most (⟨job, 4, att, bdg, node, life, code, bits⟩ : Rr) := by rintro (⟨y, _⟩ | ⟨y, _⟩ | ⟨y, _⟩ | ⟨_, y⟩) <;> first | exact a4 y | (cases y; done)
          have HE : Hid (decide (sMay most (⟨job, 4, att, bdg, node, life, code, bits⟩ : Rr)) = false) := hide (decide_eq_false e1)
          clear e1
          have b4 : (att == most) = false := by simpa using a4
          clear a4
          go_enter Tryz.func105, Tryz.ntmps105
          go_wp2
          go_ret
          exact ⟨by rw [HE.out]; rfl, below_alloc _ _⟩
      have e1 : ¬ sMay most (⟨job, st, att, bdg, node, life, code, bits⟩ : Rr) := by rintro (⟨y, _⟩ | ⟨y, _⟩ | ⟨y, _⟩ | ⟨y, _⟩) <;> first | exact s1 y | exact s2 y | exact s3 y | exact s4 y
      have HE : Hid (decide (sMay most (⟨job, st, att, bdg, node, life, code, bits⟩ : Rr)) = false) := hide (decide_eq_false e1)
      clear e1
      have b1 : (st == 1) = false := by simpa using s1
      have b2 : (st == 2) = false := by simpa using s2
      have b3 : (st == 3) = false := by simpa using s3
      have b4 : (st == 4) = false := by simpa using s4
      clear s1 s2 s3 s4
      go_enter Tryz.func105, Tryz.ntmps105
      go_wp2
      go_ret
      exact ⟨by rw [HE.out]; rfl, below_alloc _ _⟩
    · skip
      by_cases s1 : st = 1
      · subst s1
        have a0 : 0 ≤ att := by omega
        have a3 : ¬ att < most := by omega
        have e1 : ¬ sMay most (⟨job, 1, att, bdg, node, life, code, bits⟩ : Rr) := by rintro (⟨_, _, y⟩ | ⟨y, _⟩ | ⟨y, _⟩ | ⟨y, _⟩) <;> first | exact a3 y | (cases y; done)
        have HE : Hid (decide (sMay most (⟨job, 1, att, bdg, node, life, code, bits⟩ : Rr)) = false) := hide (decide_eq_false e1)
        clear e1
        go_enter Tryz.func105, Tryz.ntmps105
        go_wp2
        go_ret
        exact ⟨by rw [HE.out]; rfl, below_alloc _ _⟩
      by_cases s2 : st = 2
      · subst s2
        have e1 : ¬ sMay most (⟨job, 2, att, bdg, node, life, code, bits⟩ : Rr) := by rintro (⟨y, _⟩ | ⟨_, y, z, _⟩ | ⟨y, _⟩ | ⟨y, _⟩) <;> first | exact a2 z | (cases y; done)
        have HE : Hid (decide (sMay most (⟨job, 2, att, bdg, node, life, code, bits⟩ : Rr)) = false) := hide (decide_eq_false e1)
        clear e1
        go_enter Tryz.func105, Tryz.ntmps105
        go_wp2
        go_ret
        exact ⟨by rw [HE.out]; rfl, below_alloc _ _⟩
      by_cases s3 : st = 3
      · subst s3
        have e1 : ¬ sMay most (⟨job, 3, att, bdg, node, life, code, bits⟩ : Rr) := by rintro (⟨y, _⟩ | ⟨y, _⟩ | ⟨_, y, z, _⟩ | ⟨y, _⟩) <;> first | exact a2 z | (cases y; done)
        have HE : Hid (decide (sMay most (⟨job, 3, att, bdg, node, life, code, bits⟩ : Rr)) = false) := hide (decide_eq_false e1)
        clear e1
        go_enter Tryz.func105, Tryz.ntmps105
        go_wp2
        go_ret
        exact ⟨by rw [HE.out]; rfl, below_alloc _ _⟩
      by_cases s4 : st = 4
      · subst s4
        by_cases a4 : att = most
        · have e1 : sMay most (⟨job, 4, att, bdg, node, life, code, bits⟩ : Rr) := .inr (.inr (.inr ⟨rfl, a4⟩))
          have HE : Hid (decide (sMay most (⟨job, 4, att, bdg, node, life, code, bits⟩ : Rr)) = true) := hide (decide_eq_true e1)
          clear e1
          have b4 : (att == most) = true := by simpa using a4
          clear a4
          go_enter Tryz.func105, Tryz.ntmps105
          go_wp2
          go_ret
          exact ⟨by rw [HE.out]; rfl, below_alloc _ _⟩
        · have e1 : ¬ sMay most (⟨job, 4, att, bdg, node, life, code, bits⟩ : Rr) := by rintro (⟨y, _⟩ | ⟨y, _⟩ | ⟨y, _⟩ | ⟨_, y⟩) <;> first | exact a4 y | (cases y; done)
          have HE : Hid (decide (sMay most (⟨job, 4, att, bdg, node, life, code, bits⟩ : Rr)) = false) := hide (decide_eq_false e1)
          clear e1
          have b4 : (att == most) = false := by simpa using a4
          clear a4
          go_enter Tryz.func105, Tryz.ntmps105
          go_wp2
          go_ret
          exact ⟨by rw [HE.out]; rfl, below_alloc _ _⟩
      have e1 : ¬ sMay most (⟨job, st, att, bdg, node, life, code, bits⟩ : Rr) := by rintro (⟨y, _⟩ | ⟨y, _⟩ | ⟨y, _⟩ | ⟨y, _⟩) <;> first | exact s1 y | exact s2 y | exact s3 y | exact s4 y
      have HE : Hid (decide (sMay most (⟨job, st, att, bdg, node, life, code, bits⟩ : Rr)) = false) := hide (decide_eq_false e1)
      clear e1
      have b1 : (st == 1) = false := by simpa using s1
      have b2 : (st == 2) = false := by simpa using s2
      have b3 : (st == 3) = false := by simpa using s3
      have b4 : (st == 4) = false := by simpa using s4
      clear s1 s2 s3 s4
      go_enter Tryz.func105, Tryz.ntmps105
      go_wp2
      go_ret
      exact ⟨by rw [HE.out]; rfl, below_alloc _ _⟩
  · skip
    by_cases s1 : st = 1
    · subst s1
      by_cases a0 : 0 ≤ att
      · by_cases a3 : att < most
        · have e1 : sMay most (⟨job, 1, att, bdg, node, life, code, bits⟩ : Rr) := .inl ⟨rfl, a0, a3⟩
          have HE : Hid (decide (sMay most (⟨job, 1, att, bdg, node, life, code, bits⟩ : Rr)) = true) := hide (decide_eq_true e1)
          clear e1
          go_enter Tryz.func105, Tryz.ntmps105
          go_wp2
          go_ret
          exact ⟨by rw [HE.out]; rfl, below_alloc _ _⟩
        · have e1 : ¬ sMay most (⟨job, 1, att, bdg, node, life, code, bits⟩ : Rr) := by rintro (⟨_, _, y⟩ | ⟨y, _⟩ | ⟨y, _⟩ | ⟨y, _⟩) <;> first | exact a3 y | (cases y; done)
          have HE : Hid (decide (sMay most (⟨job, 1, att, bdg, node, life, code, bits⟩ : Rr)) = false) := hide (decide_eq_false e1)
          clear e1
          go_enter Tryz.func105, Tryz.ntmps105
          go_wp2
          go_ret
          exact ⟨by rw [HE.out]; rfl, below_alloc _ _⟩
      · have e1 : ¬ sMay most (⟨job, 1, att, bdg, node, life, code, bits⟩ : Rr) := by rintro (⟨_, y, _⟩ | ⟨y, _⟩ | ⟨y, _⟩ | ⟨y, _⟩) <;> first | exact a0 y | (cases y; done)
        have HE : Hid (decide (sMay most (⟨job, 1, att, bdg, node, life, code, bits⟩ : Rr)) = false) := hide (decide_eq_false e1)
        clear e1
        go_enter Tryz.func105, Tryz.ntmps105
        go_wp2
        go_ret
        exact ⟨by rw [HE.out]; rfl, below_alloc _ _⟩
    by_cases s2 : st = 2
    · subst s2
      have e1 : ¬ sMay most (⟨job, 2, att, bdg, node, life, code, bits⟩ : Rr) := by rintro (⟨y, _⟩ | ⟨_, y, z, _⟩ | ⟨y, _⟩ | ⟨y, _⟩) <;> first | exact a1 y | (cases y; done)
      have HE : Hid (decide (sMay most (⟨job, 2, att, bdg, node, life, code, bits⟩ : Rr)) = false) := hide (decide_eq_false e1)
      clear e1
      go_enter Tryz.func105, Tryz.ntmps105
      go_wp2
      go_ret
      exact ⟨by rw [HE.out]; rfl, below_alloc _ _⟩
    by_cases s3 : st = 3
    · subst s3
      have e1 : ¬ sMay most (⟨job, 3, att, bdg, node, life, code, bits⟩ : Rr) := by rintro (⟨y, _⟩ | ⟨y, _⟩ | ⟨_, y, z, _⟩ | ⟨y, _⟩) <;> first | exact a1 y | (cases y; done)
      have HE : Hid (decide (sMay most (⟨job, 3, att, bdg, node, life, code, bits⟩ : Rr)) = false) := hide (decide_eq_false e1)
      clear e1
      go_enter Tryz.func105, Tryz.ntmps105
      go_wp2
      go_ret
      exact ⟨by rw [HE.out]; rfl, below_alloc _ _⟩
    by_cases s4 : st = 4
    · subst s4
      by_cases a4 : att = most
      · have e1 : sMay most (⟨job, 4, att, bdg, node, life, code, bits⟩ : Rr) := .inr (.inr (.inr ⟨rfl, a4⟩))
        have HE : Hid (decide (sMay most (⟨job, 4, att, bdg, node, life, code, bits⟩ : Rr)) = true) := hide (decide_eq_true e1)
        clear e1
        have b4 : (att == most) = true := by simpa using a4
        clear a4
        go_enter Tryz.func105, Tryz.ntmps105
        go_wp2
        go_ret
        exact ⟨by rw [HE.out]; rfl, below_alloc _ _⟩
      · have e1 : ¬ sMay most (⟨job, 4, att, bdg, node, life, code, bits⟩ : Rr) := by rintro (⟨y, _⟩ | ⟨y, _⟩ | ⟨y, _⟩ | ⟨_, y⟩) <;> first | exact a4 y | (cases y; done)
        have HE : Hid (decide (sMay most (⟨job, 4, att, bdg, node, life, code, bits⟩ : Rr)) = false) := hide (decide_eq_false e1)
        clear e1
        have b4 : (att == most) = false := by simpa using a4
        clear a4
        go_enter Tryz.func105, Tryz.ntmps105
        go_wp2
        go_ret
        exact ⟨by rw [HE.out]; rfl, below_alloc _ _⟩
    have e1 : ¬ sMay most (⟨job, st, att, bdg, node, life, code, bits⟩ : Rr) := by rintro (⟨y, _⟩ | ⟨y, _⟩ | ⟨y, _⟩ | ⟨y, _⟩) <;> first | exact s1 y | exact s2 y | exact s3 y | exact s4 y
    have HE : Hid (decide (sMay most (⟨job, st, att, bdg, node, life, code, bits⟩ : Rr)) = false) := hide (decide_eq_false e1)
    clear e1
    have b1 : (st == 1) = false := by simpa using s1
    have b2 : (st == 2) = false := by simpa using s2
    have b3 : (st == 3) = false := by simpa using s3
    have b4 : (st == 4) = false := by simpa using s4
    clear s1 s2 s3 s4
    go_enter Tryz.func105, Tryz.ntmps105
    go_wp2
    go_ret
    exact ⟨by rw [HE.out]; rfl, below_alloc _ _⟩
set_option maxHeartbeats 2000000 in
theorem badge_any (w : World) (r : Rr) : Calls Tryz.prog 106 #[r.val] w fun e w' => e = .returned (.bool (decide (bMay r))) ∧ Below w.heap.size w w' := by
  by_cases h0 : r.att = 0
  · have b0 : (r.att == 0) = true := by simpa using h0
    by_cases h1 : r.bdg = 0
    · have b1 : (r.bdg == 0) = true := by simpa using h1
      have HE : Hid (decide (bMay r) = true) := hide (decide_eq_true (.inl ⟨h0, h1⟩))
      clear h0 h1
      go_enter Tryz.func106, Tryz.ntmps106
      go_wp2
      go_ret
      exact ⟨by rw [HE.out]; rfl, below_alloc _ _⟩
    · have b1 : (r.bdg == 0) = false := by simpa using h1
      have HE : Hid (decide (bMay r) = false) := hide (decide_eq_false (by rintro (⟨_, y⟩ | ⟨y, _⟩); exact h1 y; exact y h0))
      clear h0 h1
      go_enter Tryz.func106, Tryz.ntmps106
      go_wp2
      go_ret
      exact ⟨by rw [HE.out]; rfl, below_alloc _ _⟩
  · have b0 : (r.att == 0) = false := by simpa using h0
    by_cases h1 : 1 ≤ r.bdg
    · by_cases h2 : r.bdg ≤ 1099511627776
      · skip
        have HE : Hid (decide (bMay r) = true) := hide (decide_eq_true (.inr ⟨h0, h1, h2⟩))
        clear h0
        go_enter Tryz.func106, Tryz.ntmps106
        go_wp2
        go_ret
        exact ⟨by rw [HE.out]; rfl, below_alloc _ _⟩
      · skip
        have HE : Hid (decide (bMay r) = false) := hide (decide_eq_false (by rintro (⟨y, _⟩ | ⟨_, _, y⟩); exact h0 y; exact h2 y))
        clear h0
        go_enter Tryz.func106, Tryz.ntmps106
        go_wp2
        go_ret
        exact ⟨by rw [HE.out]; rfl, below_alloc _ _⟩
    · skip
      have HE : Hid (decide (bMay r) = false) := hide (decide_eq_false (by rintro (⟨y, _⟩ | ⟨_, y, _⟩); exact h0 y; exact h1 y))
      clear h0
      go_enter Tryz.func106, Tryz.ntmps106
      go_wp2
      go_ret
      exact ⟨by rw [HE.out]; rfl, below_alloc _ _⟩

theorem neqR_any (a b : Rr) (w : World) : (binOp .neq 82 a.val b.val).run Tryz.prog w = .ok (.bool (!decide (a = b))) w := by
  rw [run_neq_struct, eqR_any]
  rfl
theorem eqlR_any (a b : Rr) (w : World) : (binOp .eql 82 a.val b.val).run Tryz.prog w = .ok (.bool (decide (a = b))) w := by
  rw [run_eql_struct, eqR_any]
  rfl
set_option maxHeartbeats 2000000 in
theorem shared1_any {w : World} {p : Nat} {r : Rr} (hp : Bx w p r) (f : Bool) (o : Rr) : Calls Tryz.prog 136 #[.bool f, o.val, .pointer (some ⟨p, 0, none⟩)] w fun e w' => e = .returned (.bool (shF r f o)) ∧ Below w.heap.size w w' := by
  have hlt := hp.lt
  have hq : ∀ o1, Bx (w.alloc o1) p r := fun o1 => hp.keep (Below.heap_alloc _ _ _ hlt)
  obtain ⟨c0, c1, c2, c3, c4, c5, c6, c7⟩ := (hq o.obj).cells
  have hg := guardR
  have hn := neqR_any o r
  clear hq hp
  cases f with
  | true =>
    have HE : Hid (shF r true o = true) := rfl
    go_enter Tryz.func136, Tryz.ntmps136
    go_wp2
    go_ret
    exact ⟨by rw [HE.out]; rfl, below_alloc _ _⟩
  | false =>
    by_cases h0 : o = r
    · have HE : Hid (shF r false o = false) := by show shF r false o = false; unfold shF; simp [h0]
      have h1 : decide (o = r) = true := decide_eq_true h0
      rw [h1] at hn
      clear h0 h1
      go_enter Tryz.func136, Tryz.ntmps136
      go_wp2
      go_ret
      exact ⟨by rw [HE.out]; rfl, below_alloc _ _⟩
    · have HE : Hid (shF r false o = (o.bdg == r.bdg)) := by show shF r false o = (o.bdg == r.bdg); unfold shF; rw [Bool.eq_iff_iff]; simp [h0]
      have h1 : decide (o = r) = false := decide_eq_false h0
      rw [h1] at hn
      clear h0 h1
      go_enter Tryz.func136, Tryz.ntmps136
      go_wp2
      go_ret
      exact ⟨by rw [HE.out]; rfl, below_alloc _ _⟩
end Go.Proofs.YtepondcflkledaaGreat.Q
end

section
namespace Go.Proofs.YtepondcflkledaaGreat.Q
set_option maxRecDepth 20000
open Go.RowKit

theorem run_copy_rows {P : Program} (w : World) (dT sT ty elem : TypeId) (s g dLen dCap : Nat) (a : Addr) (sLen sCap : Nat) (cur : Array Value) (t : TypeId) (cs : List Value)
    (hu : P.underlying dT = some (.slice elem)) (hs : (P.info? elem).map (·.size) = some s)
    (hg : w.heap[g]? = some (.cells cur t (0, 0))) (hn : cs.length = Nat.min sLen dLen * s)
    (hsrc : ∀ j v, cs[j]? = some v → w.cell? (a.add j) = some v) (hfit : cs.length = cur.size) (h1 : ∀ v ∈ cs, v.oneCell' = true) :
    (Builtin.copy_ #[dT, sT] ty #[.slice (some ⟨g, 0, none⟩) dLen dCap, .slice (some a) sLen sCap]).run P w =
      .ok (goInt (Nat.min sLen dLen)) (w.setRow g cs.toArray) := by
  have hl := run_loadCells_list (P := P) w a cs hsrc
  have hst := run_storeCells_at P g 0 t cs 0 cur w hg (by omega) h1
  have hx : (cur.toList.take (0 + 0) ++ cs ++ cur.toList.drop (0 + 0 + cs.length)) = cs := by
    rw [List.drop_of_length_le (by rw [Array.length_toList]; omega)]; simp
  rw [hx] at hst
  cases hq : P.info? elem with
  | none => simp [hq] at hs
  | some i =>
    have hi : i.size = s := by simpa [hq] using hs
    rw [hn] at hl
    simp [Builtin.copy_, run_underlying hu, Builtin.lenOf, Builtin.firstCells, sizeOf, typeInfo, hq, hi, hl, hst]
theorem run_copy_zero {P : Program} (w : World) (dT sT ty elem : TypeId) (s : Nat) (d a : Option Addr) (dLen dCap sLen sCap : Nat) (hu : P.underlying dT = some (.slice elem)) (hs : (P.info? elem).map (·.size) = some s) (hn : Nat.min sLen dLen = 0) :
    (Builtin.copy_ #[dT, sT] ty #[.slice d dLen dCap, .slice a sLen sCap]).run P w = .ok (goInt 0) w := by
  cases hq : P.info? elem with
  | none => simp [hq] at hs
  | some i =>
    have hl : ∀ (x : Addr), (loadCells x 0).run P w = .ok #[] w := fun x => by simpa using run_loadCells_list (P := P) w x [] (by simp)
    cases d <;> cases a <;> simp [Builtin.copy_, run_underlying hu, Builtin.lenOf, Builtin.firstCells, sizeOf, typeInfo, hq, hn, storeCells, hl]

theorem Tryz.infoR : (Tryz.prog.info? 82).map (fun i => (i.zero, i.size, i.bytes)) = some (some rr0.val, 8, 64) := by kernel_rfl
theorem Tryz.infoRs : (Tryz.prog.info? 82).map (·.size) = some 8 := by kernel_rfl
theorem info_parts {t : TypeId} {z : Option Value} {s b : Nat} (h : (Tryz.prog.info? t).map (fun i => (i.zero, i.size, i.bytes)) = some (z, s, b)) : ∃ i, Tryz.prog.info? t = some i ∧ i.zero = z ∧ i.size = s ∧ i.bytes = b := by
  cases hi : Tryz.prog.info? t with
  | none => rw [hi] at h; cases h
  | some i => rw [hi] at h; simp at h; exact ⟨i, rfl, h.1, h.2.1, h.2.2⟩
theorem Rs.cells {w : World} {ad : Option Addr} {ab ao : Nat} {L : List Rr} (h : Rs w ad ab ao L) (j : Nat) (v : Value) (hj : (rcs L)[j]? = some v) : w.cell? ((⟨ab, ao, none⟩ : Addr).add j) = some v := by
  have hl : j < (rcs L).length := (List.getElem?_eq_some_iff.1 hj).1
  rw [rcs_len] at hl
  have e : j = j / 8 * 8 + j % 8 := by omega
  have h1 := rcs_get L (j / 8) (j % 8) (by omega) (by omega)
  rw [← e, hj] at h1
  have h2 := h.c (j / 8) (by omega) (j % 8) (by omega)
  rw [← h1, show ao + j / 8 * 8 + j % 8 = ao + j by omega] at h2
  rw [Addr.add_lit]
  exact h2

set_option maxHeartbeats 1000000 in
/-- what copied makes -/
theorem copied_any {w : World} {ad : Option Addr} {ab ao cap : Nat} {L : List Rr} (h : Rs w ad ab ao L) (hl : L.length ≤ 1000) :
    Calls Tryz.prog 67 #[.slice ad L.length cap] w fun e w' => e = .returned (.slice (some ⟨w.heap.size, 0, none⟩) L.length L.length) ∧ w'.ownsRow w.heap.size 82 8 (.slice (some ⟨w.heap.size, 0, none⟩) L.length L.length) L.length (rcs L) ∧ Below w.heap.size w w' := by
  obtain ⟨i0, hi0, hz0, hz1, hz2⟩ := info_parts Tryz.infoR
  have hmk := run_make (P := Tryz.prog) w 96 82 i0 _ Tryz.underlying96 hi0 hz0 .i64 .i64 (L.length : Int) (L.length : Int) (by omega) (Int.le_refl _) (by rw [hz2]; omega) (by omega)
  rw [hz1, Int.toNat_natCast] at hmk
  obtain ⟨cur, hcur, hcs⟩ : ∃ cur, madeCells rr0.val.cells (L.length * 8) = cur ∧ cur.size = L.length * 8 := ⟨_, rfl, size_madeCells _ _⟩
  rw [hcur] at hmk
  have hg : (w.alloc (.cells cur 82)).heap[w.heap.size]? = some (.cells cur 82 (0, 0)) := heap_alloc_new w _
  have hcp : ∃ w', (Builtin.copy_ #[96, 96] 3 #[.slice (some ⟨w.heap.size, 0, none⟩) L.length L.length, .slice ad L.length cap]).run Tryz.prog (w.alloc (.cells cur 82)) = .ok (goInt L.length) w' ∧ w'.heap[w.heap.size]? = some (.cells (rcs L).toArray 82 (0, 0)) ∧ Below w.heap.size w w' := by
    by_cases h0 : L.length = 0
    · obtain rfl : L = [] := List.eq_nil_of_length_eq_zero h0
      refine ⟨_, run_copy_zero _ _ _ _ 82 8 _ _ _ _ _ _ Tryz.underlying96 Tryz.infoRs (by simp), ?_, below_alloc w _⟩
      obtain rfl : cur = #[] := Array.eq_empty_of_size_eq_zero (by rw [hcs]; rfl)
      exact hg
    · have hat := h.at_ (by omega)
      subst hat
      have h2 := run_copy_rows (P := Tryz.prog) (w.alloc (.cells cur 82)) 96 96 3 82 8 w.heap.size L.length L.length ⟨ab, ao, none⟩ L.length cap cur 82 (rcs L) Tryz.underlying96 Tryz.infoRs hg
        (by rw [rcs_len]; show _ = min _ _ * 8; rw [Nat.min_self]) (fun j v hj => Lib.cell?_alloc_some _ (h.cells j v hj)) (by rw [rcs_len, hcs]) (rcs_one_cell L)
      rw [show Nat.min L.length L.length = L.length from Nat.min_self _] at h2
      refine ⟨_, h2, setRow_heap _ _ _ _ _ _ hg, ?_⟩
      exact below_setRow (below_alloc w _) (Nat.le_refl _) _
  obtain ⟨w2, hcp, hg2, hB2⟩ := hcp
  have HG := hide hg2
  have HB := hide hB2
  clear hg2 hB2 hg h hcs hcur
  generalize w.alloc (.cells cur 82) = W1 at *
  go_enter Tryz.func67, Tryz.ntmps67
  go_wp2
  go_ret
  refine ⟨rfl, ⟨by rw [rcs_len], .inr ⟨w.heap.size, L.length, _, rfl, Nat.le_refl _, HG.out, Nat.le_refl _, by unfold maxLen; omega, by rw [List.size_toArray, rcs_len], ?_⟩⟩, HB.out⟩
  rw [List.take_of_length_le (by simp [rcs_len])]

set_option maxHeartbeats 1000000 in
theorem great_any {w : World} {ad : Option Addr} {ab ao cap : Nat} {L : List Rr} (h : Rs w ad ab ao L) (hl : L.length ≤ 1000) :
    Calls Tryz.prog 148 #[.slice ad L.length cap] w fun e w' => e = .returned (.int .i64 (L.foldl gbF 0)) ∧ Below w.heap.size w w' := by
  have HA := hide (askI_any (cap := cap) h (by omega) 152 #[] gbF (fun _ _ => True) 0 trivial (fun _ _ _ => rfl) (fun w1 i hi a _ _ => ⟨trivial, great1_any w1 a L[i]⟩))
  go_enter Tryz.func148, Tryz.ntmps148
  go_wp2_with fail
  refine HA.out.mono ?_
  rintro e w2 ⟨rfl, hB2, _⟩
  go_wp2_with fail
  go_ret
  exact ⟨rfl, hB2⟩
/-- does another row have the same badge -/
def shr (L : List Rr) (r : Rr) : Bool := decide (0 < r.bdg) && L.foldl (shF r) false
set_option maxHeartbeats 1000000 in
theorem shared_any {w : World} {ad : Option Addr} {ab ao cap : Nat} {L : List Rr} (h : Rs w ad ab ao L) (hl : L.length ≤ 1000) (r : Rr) :
    Calls Tryz.prog 107 #[.slice ad L.length cap, r.val] w fun e w' => e = .returned (.bool (shr L r)) ∧ Below w.heap.size w w' := by
  have hmf : ∀ (fn : Fn) (first cap : Array Value) (w : World), (Instr.makeFunc fn first cap).run Tryz.prog w = .ok (.func fn first cap) w := fun _ _ _ _ => rfl
  by_cases h0 : 0 < r.bdg
  · have hb : Bx (w.alloc r.obj) w.heap.size r := heap_alloc_new w _
    have HA := hide (askB_any (cap := cap) (h.below (below_alloc w r.obj)) (by omega) 136 #[.pointer (some ⟨w.heap.size, 0, none⟩)] (shF r) false (fun _ _ _ => rfl) (fun w1 i hi a hB => shared1_any (hb.keep (hB.block _ hb.lt)) a L[i]))
    have HE : Hid (shr L r = L.foldl (shF r) false) := by show shr L r = _; unfold shr; rw [decide_eq_true h0]; rfl
    generalize L.foldl (shF r) false = D at *
    clear h hb
    go_enter Tryz.func107, Tryz.ntmps107
    go_wp2_with fail
    refine HA.out.mono ?_
    rintro e w2 ⟨rfl, hB2⟩
    go_wp2_with fail
    go_ret
    exact ⟨by rw [HE.out]; rfl, (below_alloc w _).trans (hB2.mono (by simp))⟩
  · have HE : Hid (shr L r = false) := by show shr L r = _; unfold shr; rw [decide_eq_false h0]; rfl
    clear h
    go_enter Tryz.func107, Tryz.ntmps107
    go_wp2
    go_ret
    exact ⟨by rw [HE.out]; rfl, below_alloc _ _⟩
end Go.Proofs.YtepondcflkledaaGreat.Q
end
