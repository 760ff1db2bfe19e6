import Derived.Test.YtikhladggofhpaaAuG
namespace Go.Proofs.Ytikhladggofhpaa
open Go.RowKit Go.MapKept
set_option maxRecDepth 8000

/-- faults in memory, that are only read -/
structure Fv (w : World) (v : Value) (l : List (Nat × Nat)) : Prop where
  form : ∃ p cap, v = .slice p l.length cap ∧ l.length ≤ cap ∧ (0 < l.length → ∃ b off, p = some ⟨b, off, none⟩ ∧ b < w.heap.size ∧ ∀ j, j < l.length → w.cell? ⟨b, off + j * 2, none⟩ = some (.int .i64 ((l[j]!).1 : Int)) ∧ w.cell? ⟨b, off + j * 2 + 1, none⟩ = some (.int .i64 ((l[j]!).2 : Int)))
theorem Fv.below {w w' : World} {v : Value} {l : List (Nat × Nat)} (h : Fv w v l) (hb : Below w.heap.size w w') : Fv w' v l := by
  obtain ⟨p, cap, hv, hc, h2⟩ := h
  refine ⟨p, cap, hv, hc, fun h0 => ?_⟩
  obtain ⟨b, off, hp, hlt, hx⟩ := h2 h0
  refine ⟨b, off, hp, Nat.lt_of_lt_of_le hlt hb.size, fun j hj => ?_⟩
  obtain ⟨h3, h4⟩ := hx j hj
  exact ⟨(hb.cell (p := ⟨b, off + j * 2, none⟩) hlt).trans h3, (hb.cell (p := ⟨b, off + j * 2 + 1, none⟩) hlt).trans h4⟩
theorem Fv.shape {w : World} {v : Value} {l : List (Nat × Nat)} (h : Fv w v l) : ∃ p cap, v = .slice p l.length cap ∧ l.length ≤ cap := by
  obtain ⟨p, cap, hv, hc, _⟩ := h
  exact ⟨p, cap, hv, hc⟩
theorem Fv.at {w : World} {p : Option Addr} {n cap : Nat} {l : List (Nat × Nat)} (h : Fv w (.slice p n cap) l) (h0 : 0 < l.length) : ∃ b off, p = some ⟨b, off, none⟩ ∧ b < w.heap.size ∧ ∀ j, j < l.length → w.cell? ⟨b, off + j * 2, none⟩ = some (.int .i64 ((l[j]!).1 : Int)) ∧ w.cell? ⟨b, off + j * 2 + 1, none⟩ = some (.int .i64 ((l[j]!).2 : Int)) := by
  obtain ⟨p', cap', hv, _, h2⟩ := h
  injection hv with e1 _ _
  subst e1
  exact h2 h0
theorem Fv.cut {w : World} {p : Option Addr} {n cap : Nat} {l : List (Nat × Nat)} (h : Fv w (.slice p n cap) l) {k : Nat} (hk : k ≤ l.length) : Fv w (.slice p k cap) (l.take k) := by
  obtain ⟨p', cap', hv, hc, h2⟩ := h
  injection hv with e1 e2 e3
  subst e1; subst e3
  have hl : (l.take k).length = k := by rw [List.length_take]; omega
  refine ⟨p, cap, by rw [hl], by omega, fun h0 => ?_⟩
  obtain ⟨b, off, hp, hlt, hx⟩ := h2 (by omega)
  refine ⟨b, off, hp, hlt, fun j hj => ?_⟩
  have e : (l.take k)[j]! = l[j]! := by
    rw [getElem!_pos (l.take k) j hj, getElem!_pos l j (by omega), List.getElem_take]
  rw [e]
  exact hx j (by omega)
theorem eql_fault (a b : Int) (m n : Int) (w : World) : (binOp .eql 31 (.agg #[.int .i64 a, .int .i64 m]) (.agg #[.int .i64 b, .int .i64 n])).run Try.prog w = .ok (.bool (decide (a = b ∧ m = n))) w := by
  have : (Op.equalIn 10000 31 (.agg #[.int .i64 a, .int .i64 m]) (.agg #[.int .i64 b, .int .i64 n])).run Try.prog w = .ok (decide (a = b ∧ m = n)) w := by
    go_simp
    by_cases e : a = b ∧ m = n
    · obtain ⟨rfl, rfl⟩ := e; simp
    · by_cases h1 : a = b
      · have h2 : ¬ m = n := fun h => e ⟨h1, h⟩
        simp [h1, h2]
      · simp [h1]
  rw [run_eql_struct, this]; rfl
theorem neq_fault (a b : Int) (m n : Int) (w : World) : (binOp .neq 31 (.agg #[.int .i64 a, .int .i64 m]) (.agg #[.int .i64 b, .int .i64 n])).run Try.prog w = .ok (.bool (!decide (a = b ∧ m = n))) w := by
  have : (Op.equalIn 10000 31 (.agg #[.int .i64 a, .int .i64 m]) (.agg #[.int .i64 b, .int .i64 n])).run Try.prog w = .ok (decide (a = b ∧ m = n)) w := by
    go_simp
    by_cases e : a = b ∧ m = n
    · obtain ⟨rfl, rfl⟩ := e; simp
    · by_cases h1 : a = b
      · have h2 : ¬ m = n := fun h => e ⟨h1, h⟩
        simp [h1, h2]
      · simp [h1]
  rw [run_neq_struct, this]; rfl
theorem faults_eq_at {l m : List (Nat × Nat)} (h : l.length = m.length) (he : ∀ j, j < l.length → l[j]! = m[j]!) : l = m := by
  apply List.ext_getElem h
  intro i h1 h2
  have := he i h1
  rwa [getElem!_pos l i h1, getElem!_pos m i h2] at this
set_option maxHeartbeats 1000000 in
theorem sameF_any {w : World} {u v : Value} {l m : List (Nat × Nat)} (hu : Fv w u l) (hv : Fv w v m) (hl : l.length ≤ 1099511627776) :
    Calls Try.prog 12 #[u, v] w fun e w' => e = .returned (.bool (decide (l = m))) ∧ Below w.heap.size w w' := by
  obtain ⟨p, cap, rfl, _⟩ := hu.shape
  obtain ⟨q, cq, rfl, _⟩ := hv.shape
  have H1 := hide hu
  have H2 := hide hv
  generalize hDD : decide (l = m) = DD
  clear hu hv
  by_cases hlen : l.length = m.length
  case neg =>
    have bl : ((l.length : Int) != (m.length : Int)) = true := by simp; omega
    have HF : Hid (DD = false) := hide (by rw [← hDD]; exact decide_eq_false fun h => hlen (by rw [h]))
    clear hDD
    go_enter Try.func12, Try.ntmps12
    go_wp2_with fail
    go_ret
    exact ⟨by rw [HF.out]; rfl, Below.refl _ _⟩
  have bl : ((l.length : Int) != (m.length : Int)) = false := by simp; omega
  have HDD := hide hDD
  have HLn := hide hlen
  clear hDD
  go_enter Try.func12, Try.ntmps12
  go_wp2_with fail
  go_loopw [5] (fun u wr => ∃ i n : Nat, u = .int .i64 (i : Int) ∧ i ≤ l.length ∧ wr = w.drewN n ∧ Hid (∀ j, j < i → l[j]! = m[j]!)) (fun u _ => (l.length - (intOf u).toNat))
  case atStart => exact ⟨0, 0, rfl, Nat.zero_le _, rfl, hide (fun j hj => absurd hj (Nat.not_lt_zero _))⟩
  case round =>
    obtain ⟨i, n, rfl, hi, rfl, HJ⟩ := hrel
    by_cases hil : i < l.length
    · obtain ⟨b1, o1, rfl, hl1, hc1⟩ := H1.out.at (by omega)
      obtain ⟨b2, o2, rfl, hl2, hc2⟩ := H2.out.at (by omega)
      obtain ⟨c0, c1⟩ := hc1 i hil
      obtain ⟨d0, d1⟩ := hc2 i (by omega)
      have him : (i : Int) < (m.length : Int) := by omega
      have hi1 : IntKind.i64.wrap ((i : Int) + 1) = (i : Int) + 1 := by rw [IntKind.wrap_i64]; omega
      have hq : Hid (∀ W, (binOp .neq 31 (.agg #[.int .i64 ((l[i]!).1 : Int), .int .i64 ((l[i]!).2 : Int)]) (.agg #[.int .i64 ((m[i]!).1 : Int), .int .i64 ((m[i]!).2 : Int)])).run Try.prog W = .ok (.bool (!decide (l[i]! = m[i]!))) W) := hide fun W => by
        rw [neq_fault]
        have : (((l[i]!).1 : Int) = ((m[i]!).1 : Int) ∧ ((l[i]!).2 : Int) = ((m[i]!).2 : Int)) ↔ l[i]! = m[i]! := by
          rw [Prod.ext_iff]; omega
        rw [decide_eq_decide.2 this]
      clear hc1 hc2 H1 H2
      by_cases he : l[i]! = m[i]!
      · have HJ2 : Hid (∀ j, j < i + 1 → l[j]! = m[j]!) := hide fun j hj => by
          rcases Nat.lt_succ_iff_lt_or_eq.mp hj with h | h
          · exact HJ.out j h
          · rw [h]; exact he
        have hq' := hq.out
        rw [decide_eq_true he] at hq'
        generalize l[i]! = s at *
        generalize m[i]! = s' at *
        clear he HJ hq
        go_wp2
        go_quiet (fail)
        go_wp2
        exact ⟨⟨i + 1, _, by go_num, by omega, rfl, HJ2⟩, by simp [intOf]; omega⟩
      · have HF : Hid (DD = false) := hide (by rw [← HDD.out]; exact decide_eq_false fun h => he (by rw [h]))
        have hq' := hq.out
        rw [decide_eq_false he] at hq'
        generalize l[i]! = s at *
        generalize m[i]! = s' at *
        clear he HJ HDD hq
        go_wp2
        go_quiet (fail)
        go_wp2
        go_ret
        exact ⟨by rw [HF.out]; rfl, below_drewN (below_drewN (Below.refl _ _) _) _⟩
    · obtain rfl : i = l.length := by omega
      have hki : ¬ ((l.length : Int) < (l.length : Int)) := by omega
      have HF : Hid (DD = true) := hide (by rw [← HDD.out]; exact decide_eq_true (faults_eq_at HLn.out HJ.out))
      clear HJ HDD
      go_wp2_with fail
      go_ret
      exact ⟨by rw [HF.out]; rfl, below_drewN (Below.refl _ _) _⟩
end Go.Proofs.Ytikhladggofhpaa
