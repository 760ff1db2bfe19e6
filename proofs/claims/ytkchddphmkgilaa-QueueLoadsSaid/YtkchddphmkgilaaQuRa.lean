import Derived.Test.YtkchddphmkgilaaQuV
namespace Go.Proofs.Ytkchddphmkgilaa
open Go.RowKit

set_option maxHeartbeats 1000000 in
theorem rholder_any (w : World) (n l : Int) : Calls Try.prog 46 #[.agg #[.int .i64 n, .int .i64 l]] w fun e w' => e = .returned (.bool (decide (hMay n l))) ∧ Below w.heap.size w w' := by
  by_cases h1 : 2 ≤ n
  · by_cases h2 : n ≤ 9
    · by_cases h3 : 1 ≤ l
      · by_cases h4 : l ≤ 1099511627776
        · skip
          have HE : Hid (decide (hMay n l) = true) := hide (decide_eq_true (⟨h1, by omega, h3, h4⟩))
          go_enter Try.func46, Try.ntmps46
          go_wp2
          go_ret
          exact ⟨by rw [HE.out]; rfl, below_alloc _ _⟩
        · skip
          have HE : Hid (decide (hMay n l) = false) := hide (decide_eq_false (fun h => h4 h.2.2.2))
          go_enter Try.func46, Try.ntmps46
          go_wp2
          go_ret
          exact ⟨by rw [HE.out]; rfl, below_alloc _ _⟩
      · skip
        have HE : Hid (decide (hMay n l) = false) := hide (decide_eq_false (fun h => h3 h.2.2.1))
        go_enter Try.func46, Try.ntmps46
        go_wp2
        go_ret
        exact ⟨by rw [HE.out]; rfl, below_alloc _ _⟩
    · skip
      have HE : Hid (decide (hMay n l) = false) := hide (decide_eq_false (fun h => h2 (by have := h.2.1; omega)))
      go_enter Try.func46, Try.ntmps46
      go_wp2
      go_ret
      exact ⟨by rw [HE.out]; rfl, below_alloc _ _⟩
  · skip
    have HE : Hid (decide (hMay n l) = false) := hide (decide_eq_false (fun h => h1 h.1))
    go_enter Try.func46, Try.ntmps46
    go_wp2
    go_ret
    exact ⟨by rw [HE.out]; rfl, below_alloc _ _⟩
set_option maxHeartbeats 1000000 in
theorem rresult_any (w : World) (c x : Int) : Calls Try.prog 47 #[.agg #[.int .i64 c, .int .u64 x]] w fun e w' => e = .returned (.bool (decide (xMay c x))) ∧ Below w.heap.size w w' := by
  by_cases h1 : 0 ≤ c
  · by_cases h2 : c ≤ 7
    · by_cases h3 : c = 0
      · have b3 : (c == 0) = true := by simpa using h3
        have HE : Hid (decide (xMay c x) = true) := hide (decide_eq_true (.inl h3))
        clear h3
        go_enter Try.func47, Try.ntmps47
        go_wp2
        go_ret
        exact ⟨by rw [HE.out]; rfl, below_alloc _ _⟩
      · have b3 : (c == 0) = false := by simpa using h3
        by_cases h4 : x = 0
        · have b4 : (x == 0) = true := by simpa using h4
          have HE : Hid (decide (xMay c x) = true) := hide (decide_eq_true (.inr ⟨by omega, h2, h4⟩))
          clear h3 h4
          go_enter Try.func47, Try.ntmps47
          go_wp2
          go_ret
          exact ⟨by rw [HE.out]; rfl, below_alloc _ _⟩
        · have b4 : (x == 0) = false := by simpa using h4
          have HE : Hid (decide (xMay c x) = false) := hide (decide_eq_false (by rintro (e | ⟨_, _, e⟩); exact h3 e; exact h4 e))
          clear h3 h4
          go_enter Try.func47, Try.ntmps47
          go_wp2
          go_ret
          exact ⟨by rw [HE.out]; rfl, below_alloc _ _⟩
    · skip
      have HE : Hid (decide (xMay c x) = false) := hide (decide_eq_false (by rintro (e | ⟨_, e, _⟩) <;> omega))
      go_enter Try.func47, Try.ntmps47
      go_wp2
      go_ret
      exact ⟨by rw [HE.out]; rfl, below_alloc _ _⟩
  · skip
    have HE : Hid (decide (xMay c x) = false) := hide (decide_eq_false (by rintro (e | ⟨e, _, _⟩) <;> omega))
    go_enter Try.func47, Try.ntmps47
    go_wp2
    go_ret
    exact ⟨by rw [HE.out]; rfl, below_alloc _ _⟩
/-- '==' of an address, of a result, with nought -/
theorem guardA (op : BinOp) (x y : Operand) (xs ys : Array Value) (w : World) : (eqGuard op 25 x y (.agg xs) (.agg ys)).run Try.prog w = .ok () w := run_eqGuard_agg w op _ x y xs ys (by kernel_rfl)
theorem guardX (op : BinOp) (x y : Operand) (xs ys : Array Value) (w : World) : (eqGuard op 28 x y (.agg xs) (.agg ys)).run Try.prog w = .ok () w := run_eqGuard_agg w op _ x y xs ys (by kernel_rfl)
theorem eqlA_any (a b : Int) (w : World) : (binOp .eql 25 (.agg #[.int .i64 a, .int .i64 b]) (.agg #[.int .i64 0, .int .i64 0])).run Try.prog w = .ok (.bool (decide (a = 0 ∧ b = 0))) w := by
  have u3 := Try.underlying3
  have a3 := Try.isAgg3
  have z3 := Try.sizeOf3
  have hS : Try.prog.underlying 25 = some (.struct (Try.prog.fieldsOf 25)) := by kernel_rfl
  have hp : Try.prog.stoodInHeld 25 = false := by kernel_rfl
  have he : decide (a = 0 ∧ b = 0) = (a == 0 && b == 0) := by rw [Bool.eq_iff_iff]; simp
  have hE : (Op.equalIn 10000 25 (.agg #[.int .i64 a, .int .i64 b]) (.agg #[.int .i64 0, .int .i64 0])).run Try.prog w = .ok (a == 0 && b == 0) w := by
    rw [show (10000 : Nat) = 9999 + 1 from rfl, run_equalIn_agg w 9999 25 _ _ hS hp]
    simp only [Program.fieldsOf, Try.underlying25]
    clear he
    by_cases h0 : a = 0
    · subst h0
      by_cases h1 : b = 0
      · subst h1; go_simp
      · have e8 : (b == 0) = false := by simpa using h1
        go_simp
    · have e7 : (a == 0) = false := by simpa using h0
      go_simp
  rw [run_eql_struct, hE, he]
  rfl
theorem eqlX_any (a b : Int) (w : World) : (binOp .eql 28 (.agg #[.int .i64 a, .int .u64 b]) (.agg #[.int .i64 0, .int .u64 0])).run Try.prog w = .ok (.bool (decide (a = 0 ∧ b = 0))) w := by
  have u3 := Try.underlying3
  have a3 := Try.isAgg3
  have z3 := Try.sizeOf3
  have u9 := Try.underlying26
  have a9 := Try.isAgg26
  have z9 := Try.sizeOf26
  have hS : Try.prog.underlying 28 = some (.struct (Try.prog.fieldsOf 28)) := by kernel_rfl
  have hp : Try.prog.stoodInHeld 28 = false := by kernel_rfl
  have he : decide (a = 0 ∧ b = 0) = (a == 0 && b == 0) := by rw [Bool.eq_iff_iff]; simp
  have hE : (Op.equalIn 10000 28 (.agg #[.int .i64 a, .int .u64 b]) (.agg #[.int .i64 0, .int .u64 0])).run Try.prog w = .ok (a == 0 && b == 0) w := by
    rw [show (10000 : Nat) = 9999 + 1 from rfl, run_equalIn_agg w 9999 28 _ _ hS hp]
    simp only [Program.fieldsOf, Try.underlying28]
    clear he
    by_cases h0 : a = 0
    · subst h0
      by_cases h1 : b = 0
      · subst h1; go_simp
      · have e8 : (b == 0) = false := by simpa using h1
        go_simp
    · have e7 : (a == 0) = false := by simpa using h0
      go_simp
  rw [run_eql_struct, hE, he]
  rfl
/-- a row by itself, as the document says it -/
def rMay (m : Int) (r : Rr) : Prop := (0 ≤ r.att ∧ r.att ≤ m ∧ 0 ≤ r.bdg ∧ r.bdg ≤ 1099511627776 ∧ (r.bdg = 0 ↔ r.att = 0)) ∧ (if r.st = 2 then hMay r.node r.life else r.node = 0 ∧ r.life = 0) ∧ (if r.st = 3 then xMay r.code r.bits else r.code = 0 ∧ r.bits = 0) ∧
  ((r.st = 1 ∧ r.att < m) ∨ ((r.st = 2 ∨ r.st = 3) ∧ 1 ≤ r.att) ∨ (r.st = 4 ∧ r.att = m))
instance (m : Int) (r : Rr) : Decidable (rMay m r) := by unfold rMay; infer_instance
theorem rMay_iff {m : Int} {r : Rr} (hm : 1 ≤ m) : rMay m r ↔ (r = fm r.job r ∧ sMay m r ∧ bMay r) := by
  constructor
  · rintro ⟨⟨a0, am, b0, bm, hb⟩, h2, h3, h4⟩
    refine ⟨fm_of rfl (fun e => by rw [if_neg e] at h2; exact h2) (fun e => by rw [if_neg e] at h3; exact h3), ?_, ?_⟩
    · rcases h4 with ⟨e, h⟩ | ⟨e | e, h⟩ | ⟨e, h⟩
      · exact .inl ⟨e, a0, h⟩
      · rw [if_pos e] at h2; exact .inr (.inl ⟨e, h, am, h2⟩)
      · rw [if_pos e] at h3; exact .inr (.inr (.inl ⟨e, h, am, h3⟩))
      · exact .inr (.inr (.inr ⟨e, h⟩))
    · by_cases h0 : r.att = 0
      · exact .inl ⟨h0, hb.2 h0⟩
      · exact .inr ⟨h0, by have : r.bdg ≠ 0 := fun e => h0 (hb.1 e); omega, bm⟩
  · rintro ⟨hf, hs, hb⟩
    obtain ⟨f2, f3⟩ := fm_same hf
    have h5 : 0 ≤ r.bdg ∧ r.bdg ≤ 1099511627776 ∧ (r.bdg = 0 ↔ r.att = 0) := by
      rcases hb with ⟨a, b⟩ | ⟨a, b, c⟩
      · exact ⟨by omega, by omega, by omega⟩
      · exact ⟨by omega, c, by omega⟩
    rcases hs with ⟨e, a, b⟩ | ⟨e, a, b, c⟩ | ⟨e, a, b, c⟩ | ⟨e, a⟩
    · exact ⟨⟨a, by omega, h5⟩, by rw [if_neg (by omega)]; exact f2 (by omega), by rw [if_neg (by omega)]; exact f3 (by omega), .inl ⟨e, b⟩⟩
    · exact ⟨⟨by omega, b, h5⟩, by rw [if_pos e]; exact c, by rw [if_neg (by omega)]; exact f3 (by omega), .inr (.inl ⟨.inl e, a⟩)⟩
    · exact ⟨⟨by omega, b, h5⟩, by rw [if_neg (by omega)]; exact f2 (by omega), by rw [if_pos e]; exact c, .inr (.inl ⟨.inr e, a⟩)⟩
    · exact ⟨⟨by omega, by omega, h5⟩, by rw [if_neg (by omega)]; exact f2 (by omega), by rw [if_neg (by omega)]; exact f3 (by omega), .inr (.inr ⟨e, a⟩)⟩
set_option maxHeartbeats 8000000 in
theorem rmay_any (w : World) (m : Int) (r : Rr) : Calls Try.prog 30 #[.int .i64 m, r.val] w fun e w' => e = .returned (.bool (decide (rMay m r))) ∧ Below w.heap.size w w' := by
  obtain ⟨job, st, att, bdg, node, life, code, bits⟩ := r
  have gA := guardA
  have gX := guardX
  have eA := eqlA_any node life
  have eX := eqlX_any code bits
  by_cases a1 : att < 0
  · skip
    have HE : Hid (decide (rMay m (⟨job, st, att, bdg, node, life, code, bits⟩ : Rr)) = false) := hide (decide_eq_false (fun h => by have := h.1.1; simp only at this; omega))
    go_enter Try.func30, Try.ntmps30
    go_wp2
    go_ret
    exact ⟨by rw [HE.out]; rfl, below_alloc _ _⟩
  by_cases a2 : m < att
  · skip
    have HE : Hid (decide (rMay m (⟨job, st, att, bdg, node, life, code, bits⟩ : Rr)) = false) := hide (decide_eq_false (fun h => by have := h.1.2.1; simp only at this; omega))
    go_enter Try.func30, Try.ntmps30
    go_wp2
    go_ret
    exact ⟨by rw [HE.out]; rfl, below_alloc _ _⟩
  by_cases a3 : bdg < 0
  · skip
    have HE : Hid (decide (rMay m (⟨job, st, att, bdg, node, life, code, bits⟩ : Rr)) = false) := hide (decide_eq_false (fun h => by have := h.1.2.2.1; simp only at this; omega))
    go_enter Try.func30, Try.ntmps30
    go_wp2
    go_ret
    exact ⟨by rw [HE.out]; rfl, below_alloc _ _⟩
  by_cases a4 : 1099511627776 < bdg
  · skip
    have HE : Hid (decide (rMay m (⟨job, st, att, bdg, node, life, code, bits⟩ : Rr)) = false) := hide (decide_eq_false (fun h => by have := h.1.2.2.2.1; simp only at this; omega))
    go_enter Try.func30, Try.ntmps30
    go_wp2
    go_ret
    exact ⟨by rw [HE.out]; rfl, below_alloc _ _⟩
  by_cases a5 : bdg = 0
  · by_cases a6 : att = 0
    · have b5 : (bdg == 0) = true := by simpa using a5
      have b6 : (att == 0) = true := by simpa using a6
      have h5 : 0 ≤ att ∧ att ≤ m ∧ 0 ≤ bdg ∧ bdg ≤ 1099511627776 ∧ (bdg = 0 ↔ att = 0) := ⟨by omega, by omega, by omega, by omega, by omega⟩
      clear a5 a6
      have H5 := hide h5
      clear h5
      by_cases s1 : st = 1
      · subst s1
        by_cases z1 : node = 0 ∧ life = 0
        · rw [decide_eq_true z1] at eA
          by_cases z2 : code = 0 ∧ bits = 0
          · rw [decide_eq_true z2] at eX
            have HE : Hid (decide (rMay m (⟨job, 1, att, bdg, node, life, code, bits⟩ : Rr)) = decide (att < m)) := hide (decide_eq_decide.mpr ⟨fun h => by rcases h.2.2.2 with ⟨_, h⟩ | ⟨h | h, _⟩ | ⟨h, _⟩ <;> first | exact h | (cases h; done), fun h => ⟨H5.out, by rw [if_neg (by simp)]; exact z1, by rw [if_neg (by simp)]; exact z2, .inl ⟨rfl, h⟩⟩⟩)
            clear z1 z2
            go_enter Try.func30, Try.ntmps30
            go_wp2
            go_ret
            exact ⟨by rw [HE.out]; rfl, below_alloc _ _⟩
          · rw [decide_eq_false z2] at eX
            have HE : Hid (decide (rMay m (⟨job, 1, att, bdg, node, life, code, bits⟩ : Rr)) = false) := hide (decide_eq_false (fun h => z2 (by have := h.2.2.1; rw [if_neg (by simp)] at this; exact this)))
            clear z1 z2
            go_enter Try.func30, Try.ntmps30
            go_wp2
            go_ret
            exact ⟨by rw [HE.out]; rfl, below_alloc _ _⟩
        · rw [decide_eq_false z1] at eA
          have HE : Hid (decide (rMay m (⟨job, 1, att, bdg, node, life, code, bits⟩ : Rr)) = false) := hide (decide_eq_false (fun h => z1 (by have := h.2.1; rw [if_neg (by simp)] at this; exact this)))
          clear z1
          go_enter Try.func30, Try.ntmps30
          go_wp2
          go_ret
          exact ⟨by rw [HE.out]; rfl, below_alloc _ _⟩
      by_cases s4 : st = 4
      · subst s4
        by_cases z1 : node = 0 ∧ life = 0
        · rw [decide_eq_true z1] at eA
          by_cases z2 : code = 0 ∧ bits = 0
          · rw [decide_eq_true z2] at eX
            have HE : Hid (decide (rMay m (⟨job, 4, att, bdg, node, life, code, bits⟩ : Rr)) = (att == m)) := hide (by rw [Bool.eq_iff_iff, decide_eq_true_eq, beq_iff_eq]; exact ⟨fun h => by rcases h.2.2.2 with ⟨h, _⟩ | ⟨h | h, _⟩ | ⟨_, h⟩ <;> first | exact h | (cases h; done), fun h => ⟨H5.out, by rw [if_neg (by simp)]; exact z1, by rw [if_neg (by simp)]; exact z2, .inr (.inr ⟨rfl, h⟩)⟩⟩)
            clear z1 z2
            go_enter Try.func30, Try.ntmps30
            go_wp2
            go_ret
            exact ⟨by rw [HE.out]; rfl, below_alloc _ _⟩
          · rw [decide_eq_false z2] at eX
            have HE : Hid (decide (rMay m (⟨job, 4, att, bdg, node, life, code, bits⟩ : Rr)) = false) := hide (decide_eq_false (fun h => z2 (by have := h.2.2.1; rw [if_neg (by simp)] at this; exact this)))
            clear z1 z2
            go_enter Try.func30, Try.ntmps30
            go_wp2
            go_ret
            exact ⟨by rw [HE.out]; rfl, below_alloc _ _⟩
        · rw [decide_eq_false z1] at eA
          have HE : Hid (decide (rMay m (⟨job, 4, att, bdg, node, life, code, bits⟩ : Rr)) = false) := hide (decide_eq_false (fun h => z1 (by have := h.2.1; rw [if_neg (by simp)] at this; exact this)))
          clear z1
          go_enter Try.func30, Try.ntmps30
          go_wp2
          go_ret
          exact ⟨by rw [HE.out]; rfl, below_alloc _ _⟩
      by_cases s2 : st = 2
      · subst s2
        by_cases z1 : hMay node life
        · have HM : Hid (decide (hMay node life) = true) := hide (decide_eq_true z1)
          by_cases z2 : code = 0 ∧ bits = 0
          · rw [decide_eq_true z2] at eX
            have HE : Hid (decide (rMay m (⟨job, 2, att, bdg, node, life, code, bits⟩ : Rr)) = decide (1 ≤ att)) := hide (decide_eq_decide.mpr ⟨fun h => by rcases h.2.2.2 with ⟨h, _⟩ | ⟨_, h⟩ | ⟨h, _⟩ <;> first | exact h | (cases h; done), fun h => ⟨H5.out, by rw [if_pos rfl]; exact z1, by rw [if_neg (by simp)]; exact z2, .inr (.inl ⟨.inl rfl, h⟩)⟩⟩)
            clear z1 z2
            go_enter Try.func30, Try.ntmps30
            go_wp2_with fail
            refine (rholder_any _ _ _).mono ?_
            rintro e w2 ⟨rfl, hB2⟩
            rw [HM.out]
            have hx2 : Bx w2 w.heap.size (⟨job, 2, att, bdg, node, life, code, bits⟩ : Rr) := (hB2.block _ (by simp)).trans (heap_alloc_new w _)
            obtain ⟨d0, d1, d2, d3, d4, d5, d6, d7⟩ := hx2.cells
            simp only at d0 d1 d2 d3 d4 d5 d6 d7
            have HB2 := hide ((below_alloc w _).trans (hB2.mono (by simp)))
            clear hx2 hB2
            go_wp2
            go_ret
            exact ⟨by rw [HE.out]; rfl, HB2.out⟩
          · rw [decide_eq_false z2] at eX
            have HE : Hid (decide (rMay m (⟨job, 2, att, bdg, node, life, code, bits⟩ : Rr)) = false) := hide (decide_eq_false (fun h => z2 (by have := h.2.2.1; rw [if_neg (by simp)] at this; exact this)))
            clear z1 z2
            go_enter Try.func30, Try.ntmps30
            go_wp2_with fail
            refine (rholder_any _ _ _).mono ?_
            rintro e w2 ⟨rfl, hB2⟩
            rw [HM.out]
            have hx2 : Bx w2 w.heap.size (⟨job, 2, att, bdg, node, life, code, bits⟩ : Rr) := (hB2.block _ (by simp)).trans (heap_alloc_new w _)
            obtain ⟨d0, d1, d2, d3, d4, d5, d6, d7⟩ := hx2.cells
            simp only at d0 d1 d2 d3 d4 d5 d6 d7
            have HB2 := hide ((below_alloc w _).trans (hB2.mono (by simp)))
            clear hx2 hB2
            go_wp2
            go_ret
            exact ⟨by rw [HE.out]; rfl, HB2.out⟩
        · have HM : Hid (decide (hMay node life) = false) := hide (decide_eq_false z1)
          have HE : Hid (decide (rMay m (⟨job, 2, att, bdg, node, life, code, bits⟩ : Rr)) = false) := hide (decide_eq_false (fun h => z1 (by have := h.2.1; rw [if_pos rfl] at this; exact this)))
          clear z1
          go_enter Try.func30, Try.ntmps30
          go_wp2_with fail
          refine (rholder_any _ _ _).mono ?_
          rintro e w2 ⟨rfl, hB2⟩
          rw [HM.out]
          have hx2 : Bx w2 w.heap.size (⟨job, 2, att, bdg, node, life, code, bits⟩ : Rr) := (hB2.block _ (by simp)).trans (heap_alloc_new w _)
          obtain ⟨d0, d1, d2, d3, d4, d5, d6, d7⟩ := hx2.cells
          simp only at d0 d1 d2 d3 d4 d5 d6 d7
          have HB2 := hide ((below_alloc w _).trans (hB2.mono (by simp)))
          clear hx2 hB2
          go_wp2
          go_ret
          exact ⟨by rw [HE.out]; rfl, HB2.out⟩
      by_cases s3 : st = 3
      · subst s3
        by_cases z1 : node = 0 ∧ life = 0
        · rw [decide_eq_true z1] at eA
          by_cases z2 : xMay code bits
          · have HM : Hid (decide (xMay code bits) = true) := hide (decide_eq_true z2)
            have HE : Hid (decide (rMay m (⟨job, 3, att, bdg, node, life, code, bits⟩ : Rr)) = decide (1 ≤ att)) := hide (decide_eq_decide.mpr ⟨fun h => by rcases h.2.2.2 with ⟨h, _⟩ | ⟨_, h⟩ | ⟨h, _⟩ <;> first | exact h | (cases h; done), fun h => ⟨H5.out, by rw [if_neg (by simp)]; exact z1, by rw [if_pos rfl]; exact z2, .inr (.inl ⟨.inr rfl, h⟩)⟩⟩)
            clear z1 z2
            go_enter Try.func30, Try.ntmps30
            go_wp2_with fail
            refine (rresult_any _ _ _).mono ?_
            rintro e w2 ⟨rfl, hB2⟩
            rw [HM.out]
            have hx2 : Bx w2 w.heap.size (⟨job, 3, att, bdg, node, life, code, bits⟩ : Rr) := (hB2.block _ (by simp)).trans (heap_alloc_new w _)
            obtain ⟨d0, d1, d2, d3, d4, d5, d6, d7⟩ := hx2.cells
            simp only at d0 d1 d2 d3 d4 d5 d6 d7
            have HB2 := hide ((below_alloc w _).trans (hB2.mono (by simp)))
            clear hx2 hB2
            go_wp2
            go_ret
            exact ⟨by rw [HE.out]; rfl, HB2.out⟩
          · have HM : Hid (decide (xMay code bits) = false) := hide (decide_eq_false z2)
            have HE : Hid (decide (rMay m (⟨job, 3, att, bdg, node, life, code, bits⟩ : Rr)) = false) := hide (decide_eq_false (fun h => z2 (by have := h.2.2.1; rw [if_pos rfl] at this; exact this)))
            clear z1 z2
            go_enter Try.func30, Try.ntmps30
            go_wp2_with fail
            refine (rresult_any _ _ _).mono ?_
            rintro e w2 ⟨rfl, hB2⟩
            rw [HM.out]
            have hx2 : Bx w2 w.heap.size (⟨job, 3, att, bdg, node, life, code, bits⟩ : Rr) := (hB2.block _ (by simp)).trans (heap_alloc_new w _)
            obtain ⟨d0, d1, d2, d3, d4, d5, d6, d7⟩ := hx2.cells
            simp only at d0 d1 d2 d3 d4 d5 d6 d7
            have HB2 := hide ((below_alloc w _).trans (hB2.mono (by simp)))
            clear hx2 hB2
            go_wp2
            go_ret
            exact ⟨by rw [HE.out]; rfl, HB2.out⟩
        · rw [decide_eq_false z1] at eA
          by_cases z2 : xMay code bits
          · have HM : Hid (decide (xMay code bits) = true) := hide (decide_eq_true z2)
            have HE : Hid (decide (rMay m (⟨job, 3, att, bdg, node, life, code, bits⟩ : Rr)) = false) := hide (decide_eq_false (fun h => z1 (by have := h.2.1; rw [if_neg (by simp)] at this; exact this)))
            clear z1 z2
            go_enter Try.func30, Try.ntmps30
            go_wp2_with fail
            refine (rresult_any _ _ _).mono ?_
            rintro e w2 ⟨rfl, hB2⟩
            rw [HM.out]
            have hx2 : Bx w2 w.heap.size (⟨job, 3, att, bdg, node, life, code, bits⟩ : Rr) := (hB2.block _ (by simp)).trans (heap_alloc_new w _)
            obtain ⟨d0, d1, d2, d3, d4, d5, d6, d7⟩ := hx2.cells
            simp only at d0 d1 d2 d3 d4 d5 d6 d7
            have HB2 := hide ((below_alloc w _).trans (hB2.mono (by simp)))
            clear hx2 hB2
            go_wp2
            go_ret
            exact ⟨by rw [HE.out]; rfl, HB2.out⟩
          · have HM : Hid (decide (xMay code bits) = false) := hide (decide_eq_false z2)
            have HE : Hid (decide (rMay m (⟨job, 3, att, bdg, node, life, code, bits⟩ : Rr)) = false) := hide (decide_eq_false (fun h => z1 (by have := h.2.1; rw [if_neg (by simp)] at this; exact this)))
            clear z1 z2
            go_enter Try.func30, Try.ntmps30
            go_wp2_with fail
            refine (rresult_any _ _ _).mono ?_
            rintro e w2 ⟨rfl, hB2⟩
            rw [HM.out]
            have hx2 : Bx w2 w.heap.size (⟨job, 3, att, bdg, node, life, code, bits⟩ : Rr) := (hB2.block _ (by simp)).trans (heap_alloc_new w _)
            obtain ⟨d0, d1, d2, d3, d4, d5, d6, d7⟩ := hx2.cells
            simp only at d0 d1 d2 d3 d4 d5 d6 d7
            have HB2 := hide ((below_alloc w _).trans (hB2.mono (by simp)))
            clear hx2 hB2
            go_wp2
            go_ret
            exact ⟨by rw [HE.out]; rfl, HB2.out⟩
      have n1 : (st == 1) = false := by simpa using s1
      have n2 : (st == 2) = false := by simpa using s2
      have n3 : (st == 3) = false := by simpa using s3
      have n4 : (st == 4) = false := by simpa using s4
      have HX : Hid (¬ rMay m (⟨job, st, att, bdg, node, life, code, bits⟩ : Rr)) := hide fun h => by rcases h.2.2.2 with ⟨h, _⟩ | ⟨h | h, _⟩ | ⟨h, _⟩; exact s1 h; exact s2 h; exact s3 h; exact s4 h
      clear s1 s2 s3 s4
      cases dA : decide (node = 0 ∧ life = 0) with
      | true =>
        rw [dA] at eA
        cases dX : decide (code = 0 ∧ bits = 0) with
        | true =>
          rw [dX] at eX
          clear dA dX
          have HE : Hid (decide (rMay m (⟨job, st, att, bdg, node, life, code, bits⟩ : Rr)) = false) := hide (decide_eq_false (HX.out))
          go_enter Try.func30, Try.ntmps30
          go_wp2
          go_ret
          exact ⟨by rw [HE.out]; rfl, below_alloc _ _⟩
        | false =>
          rw [dX] at eX
          clear dA dX
          have HE : Hid (decide (rMay m (⟨job, st, att, bdg, node, life, code, bits⟩ : Rr)) = false) := hide (decide_eq_false (HX.out))
          go_enter Try.func30, Try.ntmps30
          go_wp2
          go_ret
          exact ⟨by rw [HE.out]; rfl, below_alloc _ _⟩
      | false =>
        rw [dA] at eA
        clear dA
        have HE : Hid (decide (rMay m (⟨job, st, att, bdg, node, life, code, bits⟩ : Rr)) = false) := hide (decide_eq_false (HX.out))
        go_enter Try.func30, Try.ntmps30
        go_wp2
        go_ret
        exact ⟨by rw [HE.out]; rfl, below_alloc _ _⟩
    · have b5 : (bdg == 0) = true := by simpa using a5
      have b6 : (att == 0) = false := by simpa using a6
      have HX : Hid (¬ rMay m (⟨job, st, att, bdg, node, life, code, bits⟩ : Rr)) := hide fun h => a6 (h.1.2.2.2.2.1 a5)
      clear a5 a6
      have HE : Hid (decide (rMay m (⟨job, st, att, bdg, node, life, code, bits⟩ : Rr)) = false) := hide (decide_eq_false (HX.out))
      go_enter Try.func30, Try.ntmps30
      go_wp2
      go_ret
      exact ⟨by rw [HE.out]; rfl, below_alloc _ _⟩
  · by_cases a6 : att = 0
    · have b5 : (bdg == 0) = false := by simpa using a5
      have b6 : (att == 0) = true := by simpa using a6
      have HX : Hid (¬ rMay m (⟨job, st, att, bdg, node, life, code, bits⟩ : Rr)) := hide fun h => a5 (h.1.2.2.2.2.2 a6)
      clear a5 a6
      have HE : Hid (decide (rMay m (⟨job, st, att, bdg, node, life, code, bits⟩ : Rr)) = false) := hide (decide_eq_false (HX.out))
      go_enter Try.func30, Try.ntmps30
      go_wp2
      go_ret
      exact ⟨by rw [HE.out]; rfl, below_alloc _ _⟩
    · have b5 : (bdg == 0) = false := by simpa using a5
      have b6 : (att == 0) = false := by simpa using a6
      have h5 : 0 ≤ att ∧ att ≤ m ∧ 0 ≤ bdg ∧ bdg ≤ 1099511627776 ∧ (bdg = 0 ↔ att = 0) := ⟨by omega, by omega, by omega, by omega, by omega⟩
      clear a5 a6
      have H5 := hide h5
      clear h5
      by_cases s1 : st = 1
      · subst s1
        by_cases z1 : node = 0 ∧ life = 0
        · rw [decide_eq_true z1] at eA
          by_cases z2 : code = 0 ∧ bits = 0
          · rw [decide_eq_true z2] at eX
            have HE : Hid (decide (rMay m (⟨job, 1, att, bdg, node, life, code, bits⟩ : Rr)) = decide (att < m)) := hide (decide_eq_decide.mpr ⟨fun h => by rcases h.2.2.2 with ⟨_, h⟩ | ⟨h | h, _⟩ | ⟨h, _⟩ <;> first | exact h | (cases h; done), fun h => ⟨H5.out, by rw [if_neg (by simp)]; exact z1, by rw [if_neg (by simp)]; exact z2, .inl ⟨rfl, h⟩⟩⟩)
            clear z1 z2
            go_enter Try.func30, Try.ntmps30
            go_wp2
            go_ret
            exact ⟨by rw [HE.out]; rfl, below_alloc _ _⟩
          · rw [decide_eq_false z2] at eX
            have HE : Hid (decide (rMay m (⟨job, 1, att, bdg, node, life, code, bits⟩ : Rr)) = false) := hide (decide_eq_false (fun h => z2 (by have := h.2.2.1; rw [if_neg (by simp)] at this; exact this)))
            clear z1 z2
            go_enter Try.func30, Try.ntmps30
            go_wp2
            go_ret
            exact ⟨by rw [HE.out]; rfl, below_alloc _ _⟩
        · rw [decide_eq_false z1] at eA
          have HE : Hid (decide (rMay m (⟨job, 1, att, bdg, node, life, code, bits⟩ : Rr)) = false) := hide (decide_eq_false (fun h => z1 (by have := h.2.1; rw [if_neg (by simp)] at this; exact this)))
          clear z1
          go_enter Try.func30, Try.ntmps30
          go_wp2
          go_ret
          exact ⟨by rw [HE.out]; rfl, below_alloc _ _⟩
      by_cases s4 : st = 4
      · subst s4
        by_cases z1 : node = 0 ∧ life = 0
        · rw [decide_eq_true z1] at eA
          by_cases z2 : code = 0 ∧ bits = 0
          · rw [decide_eq_true z2] at eX
            have HE : Hid (decide (rMay m (⟨job, 4, att, bdg, node, life, code, bits⟩ : Rr)) = (att == m)) := hide (by rw [Bool.eq_iff_iff, decide_eq_true_eq, beq_iff_eq]; exact ⟨fun h => by rcases h.2.2.2 with ⟨h, _⟩ | ⟨h | h, _⟩ | ⟨_, h⟩ <;> first | exact h | (cases h; done), fun h => ⟨H5.out, by rw [if_neg (by simp)]; exact z1, by rw [if_neg (by simp)]; exact z2, .inr (.inr ⟨rfl, h⟩)⟩⟩)
            clear z1 z2
            go_enter Try.func30, Try.ntmps30
            go_wp2
            go_ret
            exact ⟨by rw [HE.out]; rfl, below_alloc _ _⟩
          · rw [decide_eq_false z2] at eX
            have HE : Hid (decide (rMay m (⟨job, 4, att, bdg, node, life, code, bits⟩ : Rr)) = false) := hide (decide_eq_false (fun h => z2 (by have := h.2.2.1; rw [if_neg (by simp)] at this; exact this)))
            clear z1 z2
            go_enter Try.func30, Try.ntmps30
            go_wp2
            go_ret
            exact ⟨by rw [HE.out]; rfl, below_alloc _ _⟩
        · rw [decide_eq_false z1] at eA
          have HE : Hid (decide (rMay m (⟨job, 4, att, bdg, node, life, code, bits⟩ : Rr)) = false) := hide (decide_eq_false (fun h => z1 (by have := h.2.1; rw [if_neg (by simp)] at this; exact this)))
          clear z1
          go_enter Try.func30, Try.ntmps30
          go_wp2
          go_ret
          exact ⟨by rw [HE.out]; rfl, below_alloc _ _⟩
      by_cases s2 : st = 2
      · subst s2
        by_cases z1 : hMay node life
        · have HM : Hid (decide (hMay node life) = true) := hide (decide_eq_true z1)
          by_cases z2 : code = 0 ∧ bits = 0
          · rw [decide_eq_true z2] at eX
            have HE : Hid (decide (rMay m (⟨job, 2, att, bdg, node, life, code, bits⟩ : Rr)) = decide (1 ≤ att)) := hide (decide_eq_decide.mpr ⟨fun h => by rcases h.2.2.2 with ⟨h, _⟩ | ⟨_, h⟩ | ⟨h, _⟩ <;> first | exact h | (cases h; done), fun h => ⟨H5.out, by rw [if_pos rfl]; exact z1, by rw [if_neg (by simp)]; exact z2, .inr (.inl ⟨.inl rfl, h⟩)⟩⟩)
            clear z1 z2
            go_enter Try.func30, Try.ntmps30
            go_wp2_with fail
            refine (rholder_any _ _ _).mono ?_
            rintro e w2 ⟨rfl, hB2⟩
            rw [HM.out]
            have hx2 : Bx w2 w.heap.size (⟨job, 2, att, bdg, node, life, code, bits⟩ : Rr) := (hB2.block _ (by simp)).trans (heap_alloc_new w _)
            obtain ⟨d0, d1, d2, d3, d4, d5, d6, d7⟩ := hx2.cells
            simp only at d0 d1 d2 d3 d4 d5 d6 d7
            have HB2 := hide ((below_alloc w _).trans (hB2.mono (by simp)))
            clear hx2 hB2
            go_wp2
            go_ret
            exact ⟨by rw [HE.out]; rfl, HB2.out⟩
          · rw [decide_eq_false z2] at eX
            have HE : Hid (decide (rMay m (⟨job, 2, att, bdg, node, life, code, bits⟩ : Rr)) = false) := hide (decide_eq_false (fun h => z2 (by have := h.2.2.1; rw [if_neg (by simp)] at this; exact this)))
            clear z1 z2
            go_enter Try.func30, Try.ntmps30
            go_wp2_with fail
            refine (rholder_any _ _ _).mono ?_
            rintro e w2 ⟨rfl, hB2⟩
            rw [HM.out]
            have hx2 : Bx w2 w.heap.size (⟨job, 2, att, bdg, node, life, code, bits⟩ : Rr) := (hB2.block _ (by simp)).trans (heap_alloc_new w _)
            obtain ⟨d0, d1, d2, d3, d4, d5, d6, d7⟩ := hx2.cells
            simp only at d0 d1 d2 d3 d4 d5 d6 d7
            have HB2 := hide ((below_alloc w _).trans (hB2.mono (by simp)))
            clear hx2 hB2
            go_wp2
            go_ret
            exact ⟨by rw [HE.out]; rfl, HB2.out⟩
        · have HM : Hid (decide (hMay node life) = false) := hide (decide_eq_false z1)
          have HE : Hid (decide (rMay m (⟨job, 2, att, bdg, node, life, code, bits⟩ : Rr)) = false) := hide (decide_eq_false (fun h => z1 (by have := h.2.1; rw [if_pos rfl] at this; exact this)))
          clear z1
          go_enter Try.func30, Try.ntmps30
          go_wp2_with fail
          refine (rholder_any _ _ _).mono ?_
          rintro e w2 ⟨rfl, hB2⟩
          rw [HM.out]
          have hx2 : Bx w2 w.heap.size (⟨job, 2, att, bdg, node, life, code, bits⟩ : Rr) := (hB2.block _ (by simp)).trans (heap_alloc_new w _)
          obtain ⟨d0, d1, d2, d3, d4, d5, d6, d7⟩ := hx2.cells
          simp only at d0 d1 d2 d3 d4 d5 d6 d7
          have HB2 := hide ((below_alloc w _).trans (hB2.mono (by simp)))
          clear hx2 hB2
          go_wp2
          go_ret
          exact ⟨by rw [HE.out]; rfl, HB2.out⟩
      by_cases s3 : st = 3
      · subst s3
        by_cases z1 : node = 0 ∧ life = 0
        · rw [decide_eq_true z1] at eA
          by_cases z2 : xMay code bits
          · have HM : Hid (decide (xMay code bits) = true) := hide (decide_eq_true z2)
            have HE : Hid (decide (rMay m (⟨job, 3, att, bdg, node, life, code, bits⟩ : Rr)) = decide (1 ≤ att)) := hide (decide_eq_decide.mpr ⟨fun h => by rcases h.2.2.2 with ⟨h, _⟩ | ⟨_, h⟩ | ⟨h, _⟩ <;> first | exact h | (cases h; done), fun h => ⟨H5.out, by rw [if_neg (by simp)]; exact z1, by rw [if_pos rfl]; exact z2, .inr (.inl ⟨.inr rfl, h⟩)⟩⟩)
            clear z1 z2
            go_enter Try.func30, Try.ntmps30
            go_wp2_with fail
            refine (rresult_any _ _ _).mono ?_
            rintro e w2 ⟨rfl, hB2⟩
            rw [HM.out]
            have hx2 : Bx w2 w.heap.size (⟨job, 3, att, bdg, node, life, code, bits⟩ : Rr) := (hB2.block _ (by simp)).trans (heap_alloc_new w _)
            obtain ⟨d0, d1, d2, d3, d4, d5, d6, d7⟩ := hx2.cells
            simp only at d0 d1 d2 d3 d4 d5 d6 d7
            have HB2 := hide ((below_alloc w _).trans (hB2.mono (by simp)))
            clear hx2 hB2
            go_wp2
            go_ret
            exact ⟨by rw [HE.out]; rfl, HB2.out⟩
          · have HM : Hid (decide (xMay code bits) = false) := hide (decide_eq_false z2)
            have HE : Hid (decide (rMay m (⟨job, 3, att, bdg, node, life, code, bits⟩ : Rr)) = false) := hide (decide_eq_false (fun h => z2 (by have := h.2.2.1; rw [if_pos rfl] at this; exact this)))
            clear z1 z2
            go_enter Try.func30, Try.ntmps30
            go_wp2_with fail
            refine (rresult_any _ _ _).mono ?_
            rintro e w2 ⟨rfl, hB2⟩
            rw [HM.out]
            have hx2 : Bx w2 w.heap.size (⟨job, 3, att, bdg, node, life, code, bits⟩ : Rr) := (hB2.block _ (by simp)).trans (heap_alloc_new w _)
            obtain ⟨d0, d1, d2, d3, d4, d5, d6, d7⟩ := hx2.cells
            simp only at d0 d1 d2 d3 d4 d5 d6 d7
            have HB2 := hide ((below_alloc w _).trans (hB2.mono (by simp)))
            clear hx2 hB2
            go_wp2
            go_ret
            exact ⟨by rw [HE.out]; rfl, HB2.out⟩
        · rw [decide_eq_false z1] at eA
          by_cases z2 : xMay code bits
          · have HM : Hid (decide (xMay code bits) = true) := hide (decide_eq_true z2)
            have HE : Hid (decide (rMay m (⟨job, 3, att, bdg, node, life, code, bits⟩ : Rr)) = false) := hide (decide_eq_false (fun h => z1 (by have := h.2.1; rw [if_neg (by simp)] at this; exact this)))
            clear z1 z2
            go_enter Try.func30, Try.ntmps30
            go_wp2_with fail
            refine (rresult_any _ _ _).mono ?_
            rintro e w2 ⟨rfl, hB2⟩
            rw [HM.out]
            have hx2 : Bx w2 w.heap.size (⟨job, 3, att, bdg, node, life, code, bits⟩ : Rr) := (hB2.block _ (by simp)).trans (heap_alloc_new w _)
            obtain ⟨d0, d1, d2, d3, d4, d5, d6, d7⟩ := hx2.cells
            simp only at d0 d1 d2 d3 d4 d5 d6 d7
            have HB2 := hide ((below_alloc w _).trans (hB2.mono (by simp)))
            clear hx2 hB2
            go_wp2
            go_ret
            exact ⟨by rw [HE.out]; rfl, HB2.out⟩
          · have HM : Hid (decide (xMay code bits) = false) := hide (decide_eq_false z2)
            have HE : Hid (decide (rMay m (⟨job, 3, att, bdg, node, life, code, bits⟩ : Rr)) = false) := hide (decide_eq_false (fun h => z1 (by have := h.2.1; rw [if_neg (by simp)] at this; exact this)))
            clear z1 z2
            go_enter Try.func30, Try.ntmps30
            go_wp2_with fail
            refine (rresult_any _ _ _).mono ?_
            rintro e w2 ⟨rfl, hB2⟩
            rw [HM.out]
            have hx2 : Bx w2 w.heap.size (⟨job, 3, att, bdg, node, life, code, bits⟩ : Rr) := (hB2.block _ (by simp)).trans (heap_alloc_new w _)
            obtain ⟨d0, d1, d2, d3, d4, d5, d6, d7⟩ := hx2.cells
            simp only at d0 d1 d2 d3 d4 d5 d6 d7
            have HB2 := hide ((below_alloc w _).trans (hB2.mono (by simp)))
            clear hx2 hB2
            go_wp2
            go_ret
            exact ⟨by rw [HE.out]; rfl, HB2.out⟩
      have n1 : (st == 1) = false := by simpa using s1
      have n2 : (st == 2) = false := by simpa using s2
      have n3 : (st == 3) = false := by simpa using s3
      have n4 : (st == 4) = false := by simpa using s4
      have HX : Hid (¬ rMay m (⟨job, st, att, bdg, node, life, code, bits⟩ : Rr)) := hide fun h => by rcases h.2.2.2 with ⟨h, _⟩ | ⟨h | h, _⟩ | ⟨h, _⟩; exact s1 h; exact s2 h; exact s3 h; exact s4 h
      clear s1 s2 s3 s4
      cases dA : decide (node = 0 ∧ life = 0) with
      | true =>
        rw [dA] at eA
        cases dX : decide (code = 0 ∧ bits = 0) with
        | true =>
          rw [dX] at eX
          clear dA dX
          have HE : Hid (decide (rMay m (⟨job, st, att, bdg, node, life, code, bits⟩ : Rr)) = false) := hide (decide_eq_false (HX.out))
          go_enter Try.func30, Try.ntmps30
          go_wp2
          go_ret
          exact ⟨by rw [HE.out]; rfl, below_alloc _ _⟩
        | false =>
          rw [dX] at eX
          clear dA dX
          have HE : Hid (decide (rMay m (⟨job, st, att, bdg, node, life, code, bits⟩ : Rr)) = false) := hide (decide_eq_false (HX.out))
          go_enter Try.func30, Try.ntmps30
          go_wp2
          go_ret
          exact ⟨by rw [HE.out]; rfl, below_alloc _ _⟩
      | false =>
        rw [dA] at eA
        clear dA
        have HE : Hid (decide (rMay m (⟨job, st, att, bdg, node, life, code, bits⟩ : Rr)) = false) := hide (decide_eq_false (HX.out))
        go_enter Try.func30, Try.ntmps30
        go_wp2
        go_ret
        exact ⟨by rw [HE.out]; rfl, below_alloc _ _⟩
end Go.Proofs.Ytkchddphmkgilaa
