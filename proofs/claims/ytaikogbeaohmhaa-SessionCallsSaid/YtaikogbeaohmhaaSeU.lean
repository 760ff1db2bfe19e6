import Derived.Test.YtaikogbeaohmhaaSeT
namespace Go.Proofs.Ytaikogbeaohmhaa
open Go.RowKit

def fitR (rq rp : Int) : Bool := if rq = 2 then (rp == 10 || rp == 9) else if rq = 3 then (rp == 11 || rp == 12) else if rq = 4 then (rp == 13 || rp == 12) else false
theorem fitR_eq (rq rp : Int) : fitR rq rp = fitB rq rp := by
  unfold fitR fitB
  by_cases h2 : rq = 2
  · subst h2
    by_cases a : rp = 10
    · subst a; rfl
    by_cases b : rp = 9
    · subst b; rfl
    have e1 : (rp == 10) = false := by simpa using a
    have e2 : (rp == 9) = false := by simpa using b
    rw [if_pos rfl, e1, e2, if_neg (by omega)]
    repeat' split
    all_goals rfl
  rw [if_neg h2]
  have q2 : (rq == 2) = false := by simpa using h2
  by_cases h3 : rq = 3
  · subst h3
    rw [if_pos rfl]
    by_cases a : rp = 11
    · subst a; rfl
    by_cases b : rp = 12
    · subst b; rfl
    have e1 : (rp == 11) = false := by simpa using a
    have e2 : (rp == 12) = false := by simpa using b
    rw [e1, e2, q2]
    repeat' split
    all_goals first | rfl | omega
  rw [if_neg h3]
  have q3 : (rq == 3) = false := by simpa using h3
  by_cases h4 : rq = 4
  · subst h4
    rw [if_pos rfl]
    by_cases a : rp = 13
    · subst a; rfl
    by_cases b : rp = 12
    · subst b; rfl
    have e1 : (rp == 13) = false := by simpa using a
    have e2 : (rp == 12) = false := by simpa using b
    rw [e1, e2, q2]
    repeat' split
    all_goals first | rfl | omega
  rw [if_neg h4]
  have q4 : (rq == 4) = false := by simpa using h4
  rw [q2, q3, q4]
  repeat' split
  all_goals rfl

set_option maxHeartbeats 1000000 in
theorem xfits_any (w : World) (rq rp : Int) : Calls Try.prog 58 #[.int .i64 rq, .int .i64 rp] w fun e w' => e = .returned (.bool (fitB rq rp)) ∧ w' = w := by
  rw [← fitR_eq]
  by_cases h2 : rq = 2
  · have hr : fitR rq rp = (rp == 10 || rp == 9) := by exact if_pos h2
    rw [hr]; clear hr ; subst h2
    cases qa : rp == 10 with
    | true =>
      go_enter Try.func58, Try.ntmps58
      go_wp2
      go_ret
      exact ⟨rfl, rfl⟩
    | false =>
      go_enter Try.func58, Try.ntmps58
      go_wp2
      go_ret
      exact ⟨rfl, rfl⟩
  by_cases h3 : rq = 3
  · have hr : fitR rq rp = (rp == 11 || rp == 12) := by unfold fitR; rw [if_neg h2, if_pos h3]
    rw [hr]; clear hr h2; subst h3
    cases qa : rp == 11 with
    | true =>
      go_enter Try.func58, Try.ntmps58
      go_wp2
      go_ret
      exact ⟨rfl, rfl⟩
    | false =>
      go_enter Try.func58, Try.ntmps58
      go_wp2
      go_ret
      exact ⟨rfl, rfl⟩
  by_cases h4 : rq = 4
  · have hr : fitR rq rp = (rp == 13 || rp == 12) := by unfold fitR; rw [if_neg h2, if_neg h3, if_pos h4]
    rw [hr]; clear hr h2 h3; subst h4
    cases qa : rp == 13 with
    | true =>
      go_enter Try.func58, Try.ntmps58
      go_wp2
      go_ret
      exact ⟨rfl, rfl⟩
    | false =>
      go_enter Try.func58, Try.ntmps58
      go_wp2
      go_ret
      exact ⟨rfl, rfl⟩
  have hr : fitR rq rp = false := by unfold fitR; rw [if_neg h2, if_neg h3, if_neg h4]
  rw [hr]; clear hr
  have b1 : (rq == 2) = false := by simpa using h2
  have b2 : (rq == 3) = false := by simpa using h3
  have b3 : (rq == 4) = false := by simpa using h4
  clear h2 h3 h4
  go_enter Try.func58, Try.ntmps58
  go_wp2
  go_ret
  exact ⟨rfl, rfl⟩
section
variable {w : World} {g o : Nat} {c : Cl} {l : Int}

set_option maxHeartbeats 2000000 in
set_option maxRecDepth 8000 in
theorem xask_no (h : Xb w g o (xC c l)) (m : Sm) (t0 : (m.k != 2) = true) (t1 : (m.k != 3) = true) (t2 : (m.k != 4) = true) : Calls Try.prog 34 #[.pointer (some ⟨g, o, none⟩), .agg (smC m)] w fun e w' => e = .returned (.int .i64 1) ∧ Xb w' g o (xC c l) ∧ Xo g o w w' := by
  unfold smC
  have hl := h.lt
  have f0 := h.f0
  have f1 := h.f1
  have f2 := h.f2
  have f3 := h.f3
  have f4 := h.f4
  have f5 := h.f5
  have f6 := h.f6
  have f7 := h.f7
  have f8 := h.f8
  have f9 := h.f9
  have f10 := h.f10
  have f11 := h.f11
  have f12 := h.f12
  have f13 := h.f13
  have f14 := h.f14
  have f15 := h.f15
  have z := h.z
  have HH := hide h
  clear h
  go_enter Try.func34, Try.ntmps34
  go_wp2
  go_ret
  exact ⟨rfl, HH.out.alloc _, (Xo.refl g o w).alloc hl _⟩

set_option maxHeartbeats 2000000 in
set_option maxRecDepth 8000 in
theorem xask_busy2 (h : Xb w g o (xC c l)) (m : Sm) (t0 : (m.k != 2) = false) (tb : (c.m.k != 0) = true) : Calls Try.prog 34 #[.pointer (some ⟨g, o, none⟩), .agg (smC m)] w fun e w' => e = .returned (.int .i64 131) ∧ Xb w' g o (xC c l) ∧ Xo g o w w' := by
  unfold smC
  have hl := h.lt
  have f0 := h.f0
  have f1 := h.f1
  have f2 := h.f2
  have f3 := h.f3
  have f4 := h.f4
  have f5 := h.f5
  have f6 := h.f6
  have f7 := h.f7
  have f8 := h.f8
  have f9 := h.f9
  have f10 := h.f10
  have f11 := h.f11
  have f12 := h.f12
  have f13 := h.f13
  have f14 := h.f14
  have f15 := h.f15
  have z := h.z
  have HH := hide h
  clear h
  go_enter Try.func34, Try.ntmps34
  go_wp2
  go_ret
  exact ⟨rfl, HH.out.alloc _, (Xo.refl g o w).alloc hl _⟩

set_option maxHeartbeats 2000000 in
set_option maxRecDepth 8000 in
theorem xask_none2s (h : Xb w g o (xC c l)) (m : Sm) (t0 : (m.k != 2) = false) (tb : (c.m.k != 0) = false) (ts : (c.se == 0) = true) : Calls Try.prog 34 #[.pointer (some ⟨g, o, none⟩), .agg (smC m)] w fun e w' => e = .returned (.int .i64 132) ∧ Xb w' g o (xC c l) ∧ Xo g o w w' := by
  unfold smC
  have hl := h.lt
  have f0 := h.f0
  have f1 := h.f1
  have f2 := h.f2
  have f3 := h.f3
  have f4 := h.f4
  have f5 := h.f5
  have f6 := h.f6
  have f7 := h.f7
  have f8 := h.f8
  have f9 := h.f9
  have f10 := h.f10
  have f11 := h.f11
  have f12 := h.f12
  have f13 := h.f13
  have f14 := h.f14
  have f15 := h.f15
  have z := h.z
  have HH := hide h
  clear h
  go_enter Try.func34, Try.ntmps34
  go_wp2
  go_ret
  exact ⟨rfl, HH.out.alloc _, (Xo.refl g o w).alloc hl _⟩

set_option maxHeartbeats 2000000 in
set_option maxRecDepth 8000 in
theorem xask_none2l (h : Xb w g o (xC c l)) (m : Sm) (t0 : (m.k != 2) = false) (tb : (c.m.k != 0) = false) (ts : (c.se == 0) = false) (tl : decide (1099511627776 ≤ l) = true) : Calls Try.prog 34 #[.pointer (some ⟨g, o, none⟩), .agg (smC m)] w fun e w' => e = .returned (.int .i64 132) ∧ Xb w' g o (xC c l) ∧ Xo g o w w' := by
  unfold smC
  have hl := h.lt
  have f0 := h.f0
  have f1 := h.f1
  have f2 := h.f2
  have f3 := h.f3
  have f4 := h.f4
  have f5 := h.f5
  have f6 := h.f6
  have f7 := h.f7
  have f8 := h.f8
  have f9 := h.f9
  have f10 := h.f10
  have f11 := h.f11
  have f12 := h.f12
  have f13 := h.f13
  have f14 := h.f14
  have f15 := h.f15
  have z := h.z
  have HH := hide h
  clear h
  go_enter Try.func34, Try.ntmps34
  go_wp2
  go_ret
  exact ⟨rfl, HH.out.alloc _, (Xo.refl g o w).alloc hl _⟩

set_option maxHeartbeats 2000000 in
set_option maxRecDepth 8000 in
theorem xask_yes2 (h : Xb w g o (xC c l)) (m : Sm) (t0 : (m.k != 2) = false) (tb : (c.m.k != 0) = false) (ts : (c.se == 0) = false) (tl : decide (1099511627776 ≤ l) = false) (l0 : 0 ≤ l) (l1 : l < 1099511627776) : Calls Try.prog 34 #[.pointer (some ⟨g, o, none⟩), .agg (smC m)] w fun e w' => e = .returned (.int .i64 0) ∧ Xb w' g o (xC { c with m := { m with se := c.se, nu := l + 1 }, ti := 0 } (l + 1)) ∧ Xo g o w w' := by
  unfold smC
  have hl := h.lt
  have f0 := h.f0
  have f1 := h.f1
  have f2 := h.f2
  have f3 := h.f3
  have f4 := h.f4
  have f5 := h.f5
  have f6 := h.f6
  have f7 := h.f7
  have f8 := h.f8
  have f9 := h.f9
  have f10 := h.f10
  have f11 := h.f11
  have f12 := h.f12
  have f13 := h.f13
  have f14 := h.f14
  have f15 := h.f15
  have z := h.z
  have HH := hide h
  have h1 := h.la (l + 1)
  have d2 := h1.f2
  have h2 := h1.ti 0
  have d1 := h2.f1
  have e2 := h2.f2
  simp only at d1 e2
  clear h1 h2
  clear h
  go_enter Try.func34, Try.ntmps34
  go_wp2
  go_ret
  exact ⟨rfl, (((HH.out.la (l + 1)).ti 0).putM { m with se := c.se, nu := l + 1 }).alloc _, ((((Xo.refl g o w).set 2 (by decide) _).set 3 (by decide) _).putM { m with se := c.se, nu := l + 1 }).alloc hl _⟩

set_option maxHeartbeats 2000000 in
set_option maxRecDepth 8000 in
theorem xask_busy3 (h : Xb w g o (xC c l)) (m : Sm) (t0 : (m.k != 2) = true) (t1 : (m.k != 3) = false) (tb : (c.m.k != 0) = true) : Calls Try.prog 34 #[.pointer (some ⟨g, o, none⟩), .agg (smC m)] w fun e w' => e = .returned (.int .i64 131) ∧ Xb w' g o (xC c l) ∧ Xo g o w w' := by
  unfold smC
  have hl := h.lt
  have f0 := h.f0
  have f1 := h.f1
  have f2 := h.f2
  have f3 := h.f3
  have f4 := h.f4
  have f5 := h.f5
  have f6 := h.f6
  have f7 := h.f7
  have f8 := h.f8
  have f9 := h.f9
  have f10 := h.f10
  have f11 := h.f11
  have f12 := h.f12
  have f13 := h.f13
  have f14 := h.f14
  have f15 := h.f15
  have z := h.z
  have HH := hide h
  clear h
  go_enter Try.func34, Try.ntmps34
  go_wp2
  go_ret
  exact ⟨rfl, HH.out.alloc _, (Xo.refl g o w).alloc hl _⟩

set_option maxHeartbeats 2000000 in
set_option maxRecDepth 8000 in
theorem xask_none3s (h : Xb w g o (xC c l)) (m : Sm) (t0 : (m.k != 2) = true) (t1 : (m.k != 3) = false) (tb : (c.m.k != 0) = false) (ts : (c.se == 0) = true) : Calls Try.prog 34 #[.pointer (some ⟨g, o, none⟩), .agg (smC m)] w fun e w' => e = .returned (.int .i64 132) ∧ Xb w' g o (xC c l) ∧ Xo g o w w' := by
  unfold smC
  have hl := h.lt
  have f0 := h.f0
  have f1 := h.f1
  have f2 := h.f2
  have f3 := h.f3
  have f4 := h.f4
  have f5 := h.f5
  have f6 := h.f6
  have f7 := h.f7
  have f8 := h.f8
  have f9 := h.f9
  have f10 := h.f10
  have f11 := h.f11
  have f12 := h.f12
  have f13 := h.f13
  have f14 := h.f14
  have f15 := h.f15
  have z := h.z
  have HH := hide h
  clear h
  go_enter Try.func34, Try.ntmps34
  go_wp2
  go_ret
  exact ⟨rfl, HH.out.alloc _, (Xo.refl g o w).alloc hl _⟩

set_option maxHeartbeats 2000000 in
set_option maxRecDepth 8000 in
theorem xask_none3l (h : Xb w g o (xC c l)) (m : Sm) (t0 : (m.k != 2) = true) (t1 : (m.k != 3) = false) (tb : (c.m.k != 0) = false) (ts : (c.se == 0) = false) (tl : decide (1099511627776 ≤ l) = true) : Calls Try.prog 34 #[.pointer (some ⟨g, o, none⟩), .agg (smC m)] w fun e w' => e = .returned (.int .i64 132) ∧ Xb w' g o (xC c l) ∧ Xo g o w w' := by
  unfold smC
  have hl := h.lt
  have f0 := h.f0
  have f1 := h.f1
  have f2 := h.f2
  have f3 := h.f3
  have f4 := h.f4
  have f5 := h.f5
  have f6 := h.f6
  have f7 := h.f7
  have f8 := h.f8
  have f9 := h.f9
  have f10 := h.f10
  have f11 := h.f11
  have f12 := h.f12
  have f13 := h.f13
  have f14 := h.f14
  have f15 := h.f15
  have z := h.z
  have HH := hide h
  clear h
  go_enter Try.func34, Try.ntmps34
  go_wp2
  go_ret
  exact ⟨rfl, HH.out.alloc _, (Xo.refl g o w).alloc hl _⟩

set_option maxHeartbeats 2000000 in
set_option maxRecDepth 8000 in
theorem xask_yes3 (h : Xb w g o (xC c l)) (m : Sm) (t0 : (m.k != 2) = true) (t1 : (m.k != 3) = false) (tb : (c.m.k != 0) = false) (ts : (c.se == 0) = false) (tl : decide (1099511627776 ≤ l) = false) (l0 : 0 ≤ l) (l1 : l < 1099511627776) : Calls Try.prog 34 #[.pointer (some ⟨g, o, none⟩), .agg (smC m)] w fun e w' => e = .returned (.int .i64 0) ∧ Xb w' g o (xC { c with m := { m with se := c.se, nu := l + 1 }, ti := 0 } (l + 1)) ∧ Xo g o w w' := by
  unfold smC
  have hl := h.lt
  have f0 := h.f0
  have f1 := h.f1
  have f2 := h.f2
  have f3 := h.f3
  have f4 := h.f4
  have f5 := h.f5
  have f6 := h.f6
  have f7 := h.f7
  have f8 := h.f8
  have f9 := h.f9
  have f10 := h.f10
  have f11 := h.f11
  have f12 := h.f12
  have f13 := h.f13
  have f14 := h.f14
  have f15 := h.f15
  have z := h.z
  have HH := hide h
  have h1 := h.la (l + 1)
  have d2 := h1.f2
  have h2 := h1.ti 0
  have d1 := h2.f1
  have e2 := h2.f2
  simp only at d1 e2
  clear h1 h2
  clear h
  go_enter Try.func34, Try.ntmps34
  go_wp2
  go_ret
  exact ⟨rfl, (((HH.out.la (l + 1)).ti 0).putM { m with se := c.se, nu := l + 1 }).alloc _, ((((Xo.refl g o w).set 2 (by decide) _).set 3 (by decide) _).putM { m with se := c.se, nu := l + 1 }).alloc hl _⟩

set_option maxHeartbeats 2000000 in
set_option maxRecDepth 8000 in
theorem xask_busy4 (h : Xb w g o (xC c l)) (m : Sm) (t0 : (m.k != 2) = true) (t1 : (m.k != 3) = true) (t2 : (m.k != 4) = false) (tb : (c.m.k != 0) = true) : Calls Try.prog 34 #[.pointer (some ⟨g, o, none⟩), .agg (smC m)] w fun e w' => e = .returned (.int .i64 131) ∧ Xb w' g o (xC c l) ∧ Xo g o w w' := by
  unfold smC
  have hl := h.lt
  have f0 := h.f0
  have f1 := h.f1
  have f2 := h.f2
  have f3 := h.f3
  have f4 := h.f4
  have f5 := h.f5
  have f6 := h.f6
  have f7 := h.f7
  have f8 := h.f8
  have f9 := h.f9
  have f10 := h.f10
  have f11 := h.f11
  have f12 := h.f12
  have f13 := h.f13
  have f14 := h.f14
  have f15 := h.f15
  have z := h.z
  have HH := hide h
  clear h
  go_enter Try.func34, Try.ntmps34
  go_wp2
  go_ret
  exact ⟨rfl, HH.out.alloc _, (Xo.refl g o w).alloc hl _⟩

set_option maxHeartbeats 2000000 in
set_option maxRecDepth 8000 in
theorem xask_none4s (h : Xb w g o (xC c l)) (m : Sm) (t0 : (m.k != 2) = true) (t1 : (m.k != 3) = true) (t2 : (m.k != 4) = false) (tb : (c.m.k != 0) = false) (ts : (c.se == 0) = true) : Calls Try.prog 34 #[.pointer (some ⟨g, o, none⟩), .agg (smC m)] w fun e w' => e = .returned (.int .i64 132) ∧ Xb w' g o (xC c l) ∧ Xo g o w w' := by
  unfold smC
  have hl := h.lt
  have f0 := h.f0
  have f1 := h.f1
  have f2 := h.f2
  have f3 := h.f3
  have f4 := h.f4
  have f5 := h.f5
  have f6 := h.f6
  have f7 := h.f7
  have f8 := h.f8
  have f9 := h.f9
  have f10 := h.f10
  have f11 := h.f11
  have f12 := h.f12
  have f13 := h.f13
  have f14 := h.f14
  have f15 := h.f15
  have z := h.z
  have HH := hide h
  clear h
  go_enter Try.func34, Try.ntmps34
  go_wp2
  go_ret
  exact ⟨rfl, HH.out.alloc _, (Xo.refl g o w).alloc hl _⟩

set_option maxHeartbeats 2000000 in
set_option maxRecDepth 8000 in
theorem xask_none4l (h : Xb w g o (xC c l)) (m : Sm) (t0 : (m.k != 2) = true) (t1 : (m.k != 3) = true) (t2 : (m.k != 4) = false) (tb : (c.m.k != 0) = false) (ts : (c.se == 0) = false) (tl : decide (1099511627776 ≤ l) = true) : Calls Try.prog 34 #[.pointer (some ⟨g, o, none⟩), .agg (smC m)] w fun e w' => e = .returned (.int .i64 132) ∧ Xb w' g o (xC c l) ∧ Xo g o w w' := by
  unfold smC
  have hl := h.lt
  have f0 := h.f0
  have f1 := h.f1
  have f2 := h.f2
  have f3 := h.f3
  have f4 := h.f4
  have f5 := h.f5
  have f6 := h.f6
  have f7 := h.f7
  have f8 := h.f8
  have f9 := h.f9
  have f10 := h.f10
  have f11 := h.f11
  have f12 := h.f12
  have f13 := h.f13
  have f14 := h.f14
  have f15 := h.f15
  have z := h.z
  have HH := hide h
  clear h
  go_enter Try.func34, Try.ntmps34
  go_wp2
  go_ret
  exact ⟨rfl, HH.out.alloc _, (Xo.refl g o w).alloc hl _⟩

set_option maxHeartbeats 2000000 in
set_option maxRecDepth 8000 in
theorem xask_yes4 (h : Xb w g o (xC c l)) (m : Sm) (t0 : (m.k != 2) = true) (t1 : (m.k != 3) = true) (t2 : (m.k != 4) = false) (tb : (c.m.k != 0) = false) (ts : (c.se == 0) = false) (tl : decide (1099511627776 ≤ l) = false) (l0 : 0 ≤ l) (l1 : l < 1099511627776) : Calls Try.prog 34 #[.pointer (some ⟨g, o, none⟩), .agg (smC m)] w fun e w' => e = .returned (.int .i64 0) ∧ Xb w' g o (xC { c with m := { m with se := c.se, nu := l + 1 }, ti := 0 } (l + 1)) ∧ Xo g o w w' := by
  unfold smC
  have hl := h.lt
  have f0 := h.f0
  have f1 := h.f1
  have f2 := h.f2
  have f3 := h.f3
  have f4 := h.f4
  have f5 := h.f5
  have f6 := h.f6
  have f7 := h.f7
  have f8 := h.f8
  have f9 := h.f9
  have f10 := h.f10
  have f11 := h.f11
  have f12 := h.f12
  have f13 := h.f13
  have f14 := h.f14
  have f15 := h.f15
  have z := h.z
  have HH := hide h
  have h1 := h.la (l + 1)
  have d2 := h1.f2
  have h2 := h1.ti 0
  have d1 := h2.f1
  have e2 := h2.f2
  simp only at d1 e2
  clear h1 h2
  clear h
  go_enter Try.func34, Try.ntmps34
  go_wp2
  go_ret
  exact ⟨rfl, (((HH.out.la (l + 1)).ti 0).putM { m with se := c.se, nu := l + 1 }).alloc _, ((((Xo.refl g o w).set 2 (by decide) _).set 3 (by decide) _).putM { m with se := c.se, nu := l + 1 }).alloc hl _⟩

/-- the document's last number behind Ask -/
def askL (c : Cl) (m : Sm) (l : Int) : Int := if (c.ask m).e = 0 then l + 1 else l
theorem xask_any (l0 : 0 ≤ l) (l1 : l ≤ 1099511627776) (hls : c.se ≠ 0 → l = c.la) (h : Xb w g o (xC c l)) (m : Sm) : Calls Try.prog 34 #[.pointer (some ⟨g, o, none⟩), .agg (smC m)] w fun e w' => e = .returned (.int .i64 (c.ask m).e) ∧ Xb w' g o (xC (c.ask m).c (askL c m l)) ∧ Xo g o w w' := by
  unfold askL Cl.ask
  by_cases h1 : m.k ≠ 2 ∧ m.k ≠ 3 ∧ m.k ≠ 4
  · rw [if_pos h1]
    exact xask_no h m (by simpa using h1.1) (by simpa using h1.2.1) (by simpa using h1.2.2)
  rw [if_neg h1]
  have h3 : m.k = 2 ∨ m.k = 3 ∨ m.k = 4 := by omega
  by_cases hb : c.m.k ≠ 0
  · rw [if_pos hb]
    have tb : (c.m.k != 0) = true := by simpa using hb
    rcases h3 with e | e | e
    · exact xask_busy2 h m (by rw [e]; rfl) tb
    · exact xask_busy3 h m (by rw [e]; rfl) (by rw [e]; rfl) tb
    · exact xask_busy4 h m (by rw [e]; rfl) (by rw [e]; rfl) (by rw [e]; rfl) tb
  rw [if_neg hb]
  have tb : (c.m.k != 0) = false := by simpa using hb
  by_cases hs : c.se = 0
  · rw [if_pos (.inl hs)]
    have ts : (c.se == 0) = true := by simpa using hs
    rcases h3 with e | e | e
    · exact xask_none2s h m (by rw [e]; rfl) tb ts
    · exact xask_none3s h m (by rw [e]; rfl) (by rw [e]; rfl) tb ts
    · exact xask_none4s h m (by rw [e]; rfl) (by rw [e]; rfl) (by rw [e]; rfl) tb ts
  have ts : (c.se == 0) = false := by simpa using hs
  have hla := hls hs
  subst hla
  by_cases hm : c.la = 1099511627776
  · rw [if_pos (.inr hm)]
    have tl : decide (1099511627776 ≤ c.la) = true := decide_eq_true (by omega)
    rcases h3 with e | e | e
    · exact xask_none2l h m (by rw [e]; rfl) tb ts tl
    · exact xask_none3l h m (by rw [e]; rfl) (by rw [e]; rfl) tb ts tl
    · exact xask_none4l h m (by rw [e]; rfl) (by rw [e]; rfl) (by rw [e]; rfl) tb ts tl
  have tl : decide (1099511627776 ≤ c.la) = false := decide_eq_false (by omega)
  rw [if_neg (by omega)]
  rcases h3 with e | e | e
  · exact xask_yes2 h m (by rw [e]; rfl) tb ts tl l0 (by omega)
  · exact xask_yes3 h m (by rw [e]; rfl) (by rw [e]; rfl) tb ts tl l0 (by omega)
  · exact xask_yes4 h m (by rw [e]; rfl) (by rw [e]; rfl) (by rw [e]; rfl) tb ts tl l0 (by omega)

set_option maxHeartbeats 4000000 in
set_option maxRecDepth 8000 in
theorem xhear_W (h : Xb w g o (xC c l)) (m : Sm) (g1 : decide (1 < c.m.k) = false) (u1 : (c.m.k == 1) = true) (u2 : (m.k == 7) = true) (u3 : decide (c.gr < m.se) = true) : Calls Try.prog 37 #[.pointer (some ⟨g, o, none⟩), .agg (smC m)] w fun e w' => e = .returned (.int .i64 1) ∧ Xb w' g o (xC { c with se := m.se, gr := m.se, la := 0, m := zS 0, ti := 0 } 0) ∧ Xo g o w w' := by
  have HX := hide (Mx.new w m)
  have HP := hide (h.alloc (.cells (smC m) 36))
  have HO := hide ((Xo.refl g o w).alloc h.lt (.cells (smC m) 36))
  have HNE : Hid (w.heap.size ≠ g) := hide (by have := h.lt; omega)
  have HLT := hide h.lt
  unfold smC at HX HP HO ⊢
  clear h
  go_enter Try.func37, Try.ntmps37
  go_wp2_with fail
  obtain ⟨X, hX⟩ : ∃ X, w.heap.size = X := ⟨_, rfl⟩
  rw [hX] at HX HNE
  try rw [hX]
  clear hX
  generalize w.alloc (.cells #[.int .i64 m.k, .int .i64 m.se, .int .i64 m.nu, .int .i64 m.jo, .int .i64 m.ba, .int .i64 m.ix, .int .i64 m.co, .int .i64 m.rc, .int .u64 (m.rb : Int), .string m.tx, .string m.pr] 36) = W at *
  obtain ⟨k0, k1, k2, k3, k4, k5, k6, k7, k8, k9, k10⟩ := HX.out.cells
  have f0 := HP.out.f0
  have f1 := HP.out.f1
  have f2 := HP.out.f2
  have f3 := HP.out.f3
  have f4 := HP.out.f4
  have f5 := HP.out.f5
  have f6 := HP.out.f6
  have f7 := HP.out.f7
  have f8 := HP.out.f8
  have f9 := HP.out.f9
  have f10 := HP.out.f10
  have f11 := HP.out.f11
  have f12 := HP.out.f12
  have f13 := HP.out.f13
  have f14 := HP.out.f14
  have f15 := HP.out.f15
  have z := HP.out.z
  have hne := HNE.out
  go_quiet (fail)
  have HX := hide (show Mx (W.drewN nq) X m from HX.out)
  have HP := hide (HP.out.drewN nq)
  have HO := hide (HO.out.drewN nq)
  generalize W.drewN nq = W at *
  clear k0 k1 k2 k3 k4 k5 k6 k7 k8 k9 k10 f0 f1 f2 f3 f4 f5 f6 f7 f8 f9 f10 f11 f12 f13 f14 f15 z nq
  obtain ⟨k0, k1, k2, k3, k4, k5, k6, k7, k8, k9, k10⟩ := HX.out.cells
  have f0 := HP.out.f0
  have f1 := HP.out.f1
  have f2 := HP.out.f2
  have f3 := HP.out.f3
  have f4 := HP.out.f4
  have f5 := HP.out.f5
  have f6 := HP.out.f6
  have f7 := HP.out.f7
  have f8 := HP.out.f8
  have f9 := HP.out.f9
  have f10 := HP.out.f10
  have f11 := HP.out.f11
  have f12 := HP.out.f12
  have f13 := HP.out.f13
  have f14 := HP.out.f14
  have f15 := HP.out.f15
  have z := HP.out.z
  go_wp2_with fail
  go_quiet (fail)
  have HX := hide (show Mx (W.drewN nq) X m from HX.out)
  have HP := hide (HP.out.drewN nq)
  have HO := hide (HO.out.drewN nq)
  generalize W.drewN nq = W at *
  clear k0 k1 k2 k3 k4 k5 k6 k7 k8 k9 k10 f0 f1 f2 f3 f4 f5 f6 f7 f8 f9 f10 f11 f12 f13 f14 f15 z nq
  obtain ⟨k0, k1, k2, k3, k4, k5, k6, k7, k8, k9, k10⟩ := HX.out.cells
  have f0 := HP.out.f0
  have f1 := HP.out.f1
  have f2 := HP.out.f2
  have f3 := HP.out.f3
  have f4 := HP.out.f4
  have f5 := HP.out.f5
  have f6 := HP.out.f6
  have f7 := HP.out.f7
  have f8 := HP.out.f8
  have f9 := HP.out.f9
  have f10 := HP.out.f10
  have f11 := HP.out.f11
  have f12 := HP.out.f12
  have f13 := HP.out.f13
  have f14 := HP.out.f14
  have f15 := HP.out.f15
  have z := HP.out.z
  go_wp2_with fail
  go_ret
  exact ⟨rfl, ((((HP.out.se m.se).gr m.se).la 0).putM (zS 0)).ti 0, (((((HO.out.set 1 (by decide) _).set 4 (by decide) _).set 2 (by decide) _).putM (zS 0)).set 3 (by decide) _)⟩

set_option maxHeartbeats 4000000 in
set_option maxRecDepth 8000 in
theorem xhear_A (h : Xb w g o (xC c l)) (m : Sm) (g1 : decide (1 < c.m.k) = false) (u1 : (c.m.k == 1) = true) (u2 : (m.k == 7) = true) (u3 : decide (c.gr < m.se) = false) : Calls Try.prog 37 #[.pointer (some ⟨g, o, none⟩), .agg (smC m)] w fun e w' => e = .returned (.int .i64 0) ∧ Xb w' g o (xC c l) ∧ Xo g o w w' := by
  have HX := hide (Mx.new w m)
  have HP := hide (h.alloc (.cells (smC m) 36))
  have HO := hide ((Xo.refl g o w).alloc h.lt (.cells (smC m) 36))
  have HNE : Hid (w.heap.size ≠ g) := hide (by have := h.lt; omega)
  have HLT := hide h.lt
  unfold smC at HX HP HO ⊢
  clear h
  go_enter Try.func37, Try.ntmps37
  go_wp2_with fail
  obtain ⟨X, hX⟩ : ∃ X, w.heap.size = X := ⟨_, rfl⟩
  rw [hX] at HX HNE
  try rw [hX]
  clear hX
  generalize w.alloc (.cells #[.int .i64 m.k, .int .i64 m.se, .int .i64 m.nu, .int .i64 m.jo, .int .i64 m.ba, .int .i64 m.ix, .int .i64 m.co, .int .i64 m.rc, .int .u64 (m.rb : Int), .string m.tx, .string m.pr] 36) = W at *
  obtain ⟨k0, k1, k2, k3, k4, k5, k6, k7, k8, k9, k10⟩ := HX.out.cells
  have f0 := HP.out.f0
  have f1 := HP.out.f1
  have f2 := HP.out.f2
  have f3 := HP.out.f3
  have f4 := HP.out.f4
  have f5 := HP.out.f5
  have f6 := HP.out.f6
  have f7 := HP.out.f7
  have f8 := HP.out.f8
  have f9 := HP.out.f9
  have f10 := HP.out.f10
  have f11 := HP.out.f11
  have f12 := HP.out.f12
  have f13 := HP.out.f13
  have f14 := HP.out.f14
  have f15 := HP.out.f15
  have z := HP.out.z
  have hne := HNE.out
  go_quiet (fail)
  have HX := hide (show Mx (W.drewN nq) X m from HX.out)
  have HP := hide (HP.out.drewN nq)
  have HO := hide (HO.out.drewN nq)
  generalize W.drewN nq = W at *
  clear k0 k1 k2 k3 k4 k5 k6 k7 k8 k9 k10 f0 f1 f2 f3 f4 f5 f6 f7 f8 f9 f10 f11 f12 f13 f14 f15 z nq
  obtain ⟨k0, k1, k2, k3, k4, k5, k6, k7, k8, k9, k10⟩ := HX.out.cells
  have f0 := HP.out.f0
  have f1 := HP.out.f1
  have f2 := HP.out.f2
  have f3 := HP.out.f3
  have f4 := HP.out.f4
  have f5 := HP.out.f5
  have f6 := HP.out.f6
  have f7 := HP.out.f7
  have f8 := HP.out.f8
  have f9 := HP.out.f9
  have f10 := HP.out.f10
  have f11 := HP.out.f11
  have f12 := HP.out.f12
  have f13 := HP.out.f13
  have f14 := HP.out.f14
  have f15 := HP.out.f15
  have z := HP.out.z
  go_wp2_with fail
  go_quiet (fail)
  have HX := hide (show Mx (W.drewN nq) X m from HX.out)
  have HP := hide (HP.out.drewN nq)
  have HO := hide (HO.out.drewN nq)
  generalize W.drewN nq = W at *
  clear k0 k1 k2 k3 k4 k5 k6 k7 k8 k9 k10 f0 f1 f2 f3 f4 f5 f6 f7 f8 f9 f10 f11 f12 f13 f14 f15 z nq
  obtain ⟨k0, k1, k2, k3, k4, k5, k6, k7, k8, k9, k10⟩ := HX.out.cells
  have f0 := HP.out.f0
  have f1 := HP.out.f1
  have f2 := HP.out.f2
  have f3 := HP.out.f3
  have f4 := HP.out.f4
  have f5 := HP.out.f5
  have f6 := HP.out.f6
  have f7 := HP.out.f7
  have f8 := HP.out.f8
  have f9 := HP.out.f9
  have f10 := HP.out.f10
  have f11 := HP.out.f11
  have f12 := HP.out.f12
  have f13 := HP.out.f13
  have f14 := HP.out.f14
  have f15 := HP.out.f15
  have z := HP.out.z
  go_wp2_with fail
  go_quiet (fail)
  have HP := hide (HP.out.drewN nq)
  have HO := hide (HO.out.drewN nq)
  generalize W.drewN nq = W at *
  clear k0 k1 k2 k3 k4 k5 k6 k7 k8 k9 k10 f0 f1 f2 f3 f4 f5 f6 f7 f8 f9 f10 f11 f12 f13 f14 f15 z nq HX
  have f0 := HP.out.f0
  have f1 := HP.out.f1
  have f2 := HP.out.f2
  have f3 := HP.out.f3
  have f4 := HP.out.f4
  have f5 := HP.out.f5
  have f6 := HP.out.f6
  have f7 := HP.out.f7
  have f8 := HP.out.f8
  have f9 := HP.out.f9
  have f10 := HP.out.f10
  have f11 := HP.out.f11
  have f12 := HP.out.f12
  have f13 := HP.out.f13
  have f14 := HP.out.f14
  have f15 := HP.out.f15
  have z := HP.out.z
  go_wp2_with fail
  go_ret
  exact ⟨rfl, HP.out, HO.out⟩

set_option maxHeartbeats 4000000 in
set_option maxRecDepth 8000 in
theorem xhear_B (h : Xb w g o (xC c l)) (m : Sm) (g1 : decide (1 < c.m.k) = false) (u1 : (c.m.k == 1) = true) (u2 : (m.k == 7) = false) : Calls Try.prog 37 #[.pointer (some ⟨g, o, none⟩), .agg (smC m)] w fun e w' => e = .returned (.int .i64 0) ∧ Xb w' g o (xC c l) ∧ Xo g o w w' := by
  have HX := hide (Mx.new w m)
  have HP := hide (h.alloc (.cells (smC m) 36))
  have HO := hide ((Xo.refl g o w).alloc h.lt (.cells (smC m) 36))
  have HNE : Hid (w.heap.size ≠ g) := hide (by have := h.lt; omega)
  have HLT := hide h.lt
  unfold smC at HX HP HO ⊢
  clear h
  go_enter Try.func37, Try.ntmps37
  go_wp2_with fail
  obtain ⟨X, hX⟩ : ∃ X, w.heap.size = X := ⟨_, rfl⟩
  rw [hX] at HX HNE
  try rw [hX]
  clear hX
  generalize w.alloc (.cells #[.int .i64 m.k, .int .i64 m.se, .int .i64 m.nu, .int .i64 m.jo, .int .i64 m.ba, .int .i64 m.ix, .int .i64 m.co, .int .i64 m.rc, .int .u64 (m.rb : Int), .string m.tx, .string m.pr] 36) = W at *
  obtain ⟨k0, k1, k2, k3, k4, k5, k6, k7, k8, k9, k10⟩ := HX.out.cells
  have f0 := HP.out.f0
  have f1 := HP.out.f1
  have f2 := HP.out.f2
  have f3 := HP.out.f3
  have f4 := HP.out.f4
  have f5 := HP.out.f5
  have f6 := HP.out.f6
  have f7 := HP.out.f7
  have f8 := HP.out.f8
  have f9 := HP.out.f9
  have f10 := HP.out.f10
  have f11 := HP.out.f11
  have f12 := HP.out.f12
  have f13 := HP.out.f13
  have f14 := HP.out.f14
  have f15 := HP.out.f15
  have z := HP.out.z
  have hne := HNE.out
  go_quiet (fail)
  have HX := hide (show Mx (W.drewN nq) X m from HX.out)
  have HP := hide (HP.out.drewN nq)
  have HO := hide (HO.out.drewN nq)
  generalize W.drewN nq = W at *
  clear k0 k1 k2 k3 k4 k5 k6 k7 k8 k9 k10 f0 f1 f2 f3 f4 f5 f6 f7 f8 f9 f10 f11 f12 f13 f14 f15 z nq
  obtain ⟨k0, k1, k2, k3, k4, k5, k6, k7, k8, k9, k10⟩ := HX.out.cells
  have f0 := HP.out.f0
  have f1 := HP.out.f1
  have f2 := HP.out.f2
  have f3 := HP.out.f3
  have f4 := HP.out.f4
  have f5 := HP.out.f5
  have f6 := HP.out.f6
  have f7 := HP.out.f7
  have f8 := HP.out.f8
  have f9 := HP.out.f9
  have f10 := HP.out.f10
  have f11 := HP.out.f11
  have f12 := HP.out.f12
  have f13 := HP.out.f13
  have f14 := HP.out.f14
  have f15 := HP.out.f15
  have z := HP.out.z
  go_wp2_with fail
  go_quiet (fail)
  have HX := hide (show Mx (W.drewN nq) X m from HX.out)
  have HP := hide (HP.out.drewN nq)
  have HO := hide (HO.out.drewN nq)
  generalize W.drewN nq = W at *
  clear k0 k1 k2 k3 k4 k5 k6 k7 k8 k9 k10 f0 f1 f2 f3 f4 f5 f6 f7 f8 f9 f10 f11 f12 f13 f14 f15 z nq
  obtain ⟨k0, k1, k2, k3, k4, k5, k6, k7, k8, k9, k10⟩ := HX.out.cells
  have f0 := HP.out.f0
  have f1 := HP.out.f1
  have f2 := HP.out.f2
  have f3 := HP.out.f3
  have f4 := HP.out.f4
  have f5 := HP.out.f5
  have f6 := HP.out.f6
  have f7 := HP.out.f7
  have f8 := HP.out.f8
  have f9 := HP.out.f9
  have f10 := HP.out.f10
  have f11 := HP.out.f11
  have f12 := HP.out.f12
  have f13 := HP.out.f13
  have f14 := HP.out.f14
  have f15 := HP.out.f15
  have z := HP.out.z
  go_wp2_with fail
  go_quiet (fail)
  have HP := hide (HP.out.drewN nq)
  have HO := hide (HO.out.drewN nq)
  generalize W.drewN nq = W at *
  clear k0 k1 k2 k3 k4 k5 k6 k7 k8 k9 k10 f0 f1 f2 f3 f4 f5 f6 f7 f8 f9 f10 f11 f12 f13 f14 f15 z nq HX
  have f0 := HP.out.f0
  have f1 := HP.out.f1
  have f2 := HP.out.f2
  have f3 := HP.out.f3
  have f4 := HP.out.f4
  have f5 := HP.out.f5
  have f6 := HP.out.f6
  have f7 := HP.out.f7
  have f8 := HP.out.f8
  have f9 := HP.out.f9
  have f10 := HP.out.f10
  have f11 := HP.out.f11
  have f12 := HP.out.f12
  have f13 := HP.out.f13
  have f14 := HP.out.f14
  have f15 := HP.out.f15
  have z := HP.out.z
  go_wp2_with fail
  go_ret
  exact ⟨rfl, HP.out, HO.out⟩

set_option maxHeartbeats 4000000 in
set_option maxRecDepth 8000 in
theorem xhear_C (h : Xb w g o (xC c l)) (m : Sm) (g1 : decide (1 < c.m.k) = false) (u1 : (c.m.k == 1) = false)  : Calls Try.prog 37 #[.pointer (some ⟨g, o, none⟩), .agg (smC m)] w fun e w' => e = .returned (.int .i64 0) ∧ Xb w' g o (xC c l) ∧ Xo g o w w' := by
  have HX := hide (Mx.new w m)
  have HP := hide (h.alloc (.cells (smC m) 36))
  have HO := hide ((Xo.refl g o w).alloc h.lt (.cells (smC m) 36))
  have HNE : Hid (w.heap.size ≠ g) := hide (by have := h.lt; omega)
  have HLT := hide h.lt
  unfold smC at HX HP HO ⊢
  clear h
  go_enter Try.func37, Try.ntmps37
  go_wp2_with fail
  obtain ⟨X, hX⟩ : ∃ X, w.heap.size = X := ⟨_, rfl⟩
  rw [hX] at HX HNE
  try rw [hX]
  clear hX
  generalize w.alloc (.cells #[.int .i64 m.k, .int .i64 m.se, .int .i64 m.nu, .int .i64 m.jo, .int .i64 m.ba, .int .i64 m.ix, .int .i64 m.co, .int .i64 m.rc, .int .u64 (m.rb : Int), .string m.tx, .string m.pr] 36) = W at *
  obtain ⟨k0, k1, k2, k3, k4, k5, k6, k7, k8, k9, k10⟩ := HX.out.cells
  have f0 := HP.out.f0
  have f1 := HP.out.f1
  have f2 := HP.out.f2
  have f3 := HP.out.f3
  have f4 := HP.out.f4
  have f5 := HP.out.f5
  have f6 := HP.out.f6
  have f7 := HP.out.f7
  have f8 := HP.out.f8
  have f9 := HP.out.f9
  have f10 := HP.out.f10
  have f11 := HP.out.f11
  have f12 := HP.out.f12
  have f13 := HP.out.f13
  have f14 := HP.out.f14
  have f15 := HP.out.f15
  have z := HP.out.z
  have hne := HNE.out
  go_quiet (fail)
  have HX := hide (show Mx (W.drewN nq) X m from HX.out)
  have HP := hide (HP.out.drewN nq)
  have HO := hide (HO.out.drewN nq)
  generalize W.drewN nq = W at *
  clear k0 k1 k2 k3 k4 k5 k6 k7 k8 k9 k10 f0 f1 f2 f3 f4 f5 f6 f7 f8 f9 f10 f11 f12 f13 f14 f15 z nq
  obtain ⟨k0, k1, k2, k3, k4, k5, k6, k7, k8, k9, k10⟩ := HX.out.cells
  have f0 := HP.out.f0
  have f1 := HP.out.f1
  have f2 := HP.out.f2
  have f3 := HP.out.f3
  have f4 := HP.out.f4
  have f5 := HP.out.f5
  have f6 := HP.out.f6
  have f7 := HP.out.f7
  have f8 := HP.out.f8
  have f9 := HP.out.f9
  have f10 := HP.out.f10
  have f11 := HP.out.f11
  have f12 := HP.out.f12
  have f13 := HP.out.f13
  have f14 := HP.out.f14
  have f15 := HP.out.f15
  have z := HP.out.z
  go_wp2_with fail
  go_quiet (fail)
  have HX := hide (show Mx (W.drewN nq) X m from HX.out)
  have HP := hide (HP.out.drewN nq)
  have HO := hide (HO.out.drewN nq)
  generalize W.drewN nq = W at *
  clear k0 k1 k2 k3 k4 k5 k6 k7 k8 k9 k10 f0 f1 f2 f3 f4 f5 f6 f7 f8 f9 f10 f11 f12 f13 f14 f15 z nq
  obtain ⟨k0, k1, k2, k3, k4, k5, k6, k7, k8, k9, k10⟩ := HX.out.cells
  have f0 := HP.out.f0
  have f1 := HP.out.f1
  have f2 := HP.out.f2
  have f3 := HP.out.f3
  have f4 := HP.out.f4
  have f5 := HP.out.f5
  have f6 := HP.out.f6
  have f7 := HP.out.f7
  have f8 := HP.out.f8
  have f9 := HP.out.f9
  have f10 := HP.out.f10
  have f11 := HP.out.f11
  have f12 := HP.out.f12
  have f13 := HP.out.f13
  have f14 := HP.out.f14
  have f15 := HP.out.f15
  have z := HP.out.z
  go_wp2_with fail
  go_quiet (fail)
  have HP := hide (HP.out.drewN nq)
  have HO := hide (HO.out.drewN nq)
  generalize W.drewN nq = W at *
  clear k0 k1 k2 k3 k4 k5 k6 k7 k8 k9 k10 f0 f1 f2 f3 f4 f5 f6 f7 f8 f9 f10 f11 f12 f13 f14 f15 z nq HX
  have f0 := HP.out.f0
  have f1 := HP.out.f1
  have f2 := HP.out.f2
  have f3 := HP.out.f3
  have f4 := HP.out.f4
  have f5 := HP.out.f5
  have f6 := HP.out.f6
  have f7 := HP.out.f7
  have f8 := HP.out.f8
  have f9 := HP.out.f9
  have f10 := HP.out.f10
  have f11 := HP.out.f11
  have f12 := HP.out.f12
  have f13 := HP.out.f13
  have f14 := HP.out.f14
  have f15 := HP.out.f15
  have z := HP.out.z
  go_wp2_with fail
  go_ret
  exact ⟨rfl, HP.out, HO.out⟩

set_option maxHeartbeats 4000000 in
set_option maxRecDepth 8000 in
theorem xhear_D (h : Xb w g o (xC c l)) (m : Sm) (g1 : decide (1 < c.m.k) = true) (g2 : (m.se == c.m.se) = false) (u1 : (c.m.k == 1) = false)  : Calls Try.prog 37 #[.pointer (some ⟨g, o, none⟩), .agg (smC m)] w fun e w' => e = .returned (.int .i64 0) ∧ Xb w' g o (xC c l) ∧ Xo g o w w' := by
  have HX := hide (Mx.new w m)
  have HP := hide (h.alloc (.cells (smC m) 36))
  have HO := hide ((Xo.refl g o w).alloc h.lt (.cells (smC m) 36))
  have HNE : Hid (w.heap.size ≠ g) := hide (by have := h.lt; omega)
  have HLT := hide h.lt
  unfold smC at HX HP HO ⊢
  clear h
  go_enter Try.func37, Try.ntmps37
  go_wp2_with fail
  obtain ⟨X, hX⟩ : ∃ X, w.heap.size = X := ⟨_, rfl⟩
  rw [hX] at HX HNE
  try rw [hX]
  clear hX
  generalize w.alloc (.cells #[.int .i64 m.k, .int .i64 m.se, .int .i64 m.nu, .int .i64 m.jo, .int .i64 m.ba, .int .i64 m.ix, .int .i64 m.co, .int .i64 m.rc, .int .u64 (m.rb : Int), .string m.tx, .string m.pr] 36) = W at *
  obtain ⟨k0, k1, k2, k3, k4, k5, k6, k7, k8, k9, k10⟩ := HX.out.cells
  have f0 := HP.out.f0
  have f1 := HP.out.f1
  have f2 := HP.out.f2
  have f3 := HP.out.f3
  have f4 := HP.out.f4
  have f5 := HP.out.f5
  have f6 := HP.out.f6
  have f7 := HP.out.f7
  have f8 := HP.out.f8
  have f9 := HP.out.f9
  have f10 := HP.out.f10
  have f11 := HP.out.f11
  have f12 := HP.out.f12
  have f13 := HP.out.f13
  have f14 := HP.out.f14
  have f15 := HP.out.f15
  have z := HP.out.z
  have hne := HNE.out
  go_quiet (fail)
  have HX := hide (show Mx (W.drewN nq) X m from HX.out)
  have HP := hide (HP.out.drewN nq)
  have HO := hide (HO.out.drewN nq)
  generalize W.drewN nq = W at *
  clear k0 k1 k2 k3 k4 k5 k6 k7 k8 k9 k10 f0 f1 f2 f3 f4 f5 f6 f7 f8 f9 f10 f11 f12 f13 f14 f15 z nq
  obtain ⟨k0, k1, k2, k3, k4, k5, k6, k7, k8, k9, k10⟩ := HX.out.cells
  have f0 := HP.out.f0
  have f1 := HP.out.f1
  have f2 := HP.out.f2
  have f3 := HP.out.f3
  have f4 := HP.out.f4
  have f5 := HP.out.f5
  have f6 := HP.out.f6
  have f7 := HP.out.f7
  have f8 := HP.out.f8
  have f9 := HP.out.f9
  have f10 := HP.out.f10
  have f11 := HP.out.f11
  have f12 := HP.out.f12
  have f13 := HP.out.f13
  have f14 := HP.out.f14
  have f15 := HP.out.f15
  have z := HP.out.z
  go_wp2_with fail
  go_quiet (fail)
  have HX := hide (show Mx (W.drewN nq) X m from HX.out)
  have HP := hide (HP.out.drewN nq)
  have HO := hide (HO.out.drewN nq)
  generalize W.drewN nq = W at *
  clear k0 k1 k2 k3 k4 k5 k6 k7 k8 k9 k10 f0 f1 f2 f3 f4 f5 f6 f7 f8 f9 f10 f11 f12 f13 f14 f15 z nq
  obtain ⟨k0, k1, k2, k3, k4, k5, k6, k7, k8, k9, k10⟩ := HX.out.cells
  have f0 := HP.out.f0
  have f1 := HP.out.f1
  have f2 := HP.out.f2
  have f3 := HP.out.f3
  have f4 := HP.out.f4
  have f5 := HP.out.f5
  have f6 := HP.out.f6
  have f7 := HP.out.f7
  have f8 := HP.out.f8
  have f9 := HP.out.f9
  have f10 := HP.out.f10
  have f11 := HP.out.f11
  have f12 := HP.out.f12
  have f13 := HP.out.f13
  have f14 := HP.out.f14
  have f15 := HP.out.f15
  have z := HP.out.z
  go_wp2_with fail
  go_quiet (fail)
  have HP := hide (HP.out.drewN nq)
  have HO := hide (HO.out.drewN nq)
  generalize W.drewN nq = W at *
  clear k0 k1 k2 k3 k4 k5 k6 k7 k8 k9 k10 f0 f1 f2 f3 f4 f5 f6 f7 f8 f9 f10 f11 f12 f13 f14 f15 z nq HX
  have f0 := HP.out.f0
  have f1 := HP.out.f1
  have f2 := HP.out.f2
  have f3 := HP.out.f3
  have f4 := HP.out.f4
  have f5 := HP.out.f5
  have f6 := HP.out.f6
  have f7 := HP.out.f7
  have f8 := HP.out.f8
  have f9 := HP.out.f9
  have f10 := HP.out.f10
  have f11 := HP.out.f11
  have f12 := HP.out.f12
  have f13 := HP.out.f13
  have f14 := HP.out.f14
  have f15 := HP.out.f15
  have z := HP.out.z
  go_wp2_with fail
  go_ret
  exact ⟨rfl, HP.out, HO.out⟩

set_option maxHeartbeats 4000000 in
set_option maxRecDepth 8000 in
theorem xhear_E (h : Xb w g o (xC c l)) (m : Sm) (g1 : decide (1 < c.m.k) = true) (g2 : (m.se == c.m.se) = true) (g3 : (m.nu == c.m.nu) = false) (u1 : (c.m.k == 1) = false)  : Calls Try.prog 37 #[.pointer (some ⟨g, o, none⟩), .agg (smC m)] w fun e w' => e = .returned (.int .i64 0) ∧ Xb w' g o (xC c l) ∧ Xo g o w w' := by
  have HX := hide (Mx.new w m)
  have HP := hide (h.alloc (.cells (smC m) 36))
  have HO := hide ((Xo.refl g o w).alloc h.lt (.cells (smC m) 36))
  have HNE : Hid (w.heap.size ≠ g) := hide (by have := h.lt; omega)
  have HLT := hide h.lt
  unfold smC at HX HP HO ⊢
  clear h
  go_enter Try.func37, Try.ntmps37
  go_wp2_with fail
  obtain ⟨X, hX⟩ : ∃ X, w.heap.size = X := ⟨_, rfl⟩
  rw [hX] at HX HNE
  try rw [hX]
  clear hX
  generalize w.alloc (.cells #[.int .i64 m.k, .int .i64 m.se, .int .i64 m.nu, .int .i64 m.jo, .int .i64 m.ba, .int .i64 m.ix, .int .i64 m.co, .int .i64 m.rc, .int .u64 (m.rb : Int), .string m.tx, .string m.pr] 36) = W at *
  obtain ⟨k0, k1, k2, k3, k4, k5, k6, k7, k8, k9, k10⟩ := HX.out.cells
  have f0 := HP.out.f0
  have f1 := HP.out.f1
  have f2 := HP.out.f2
  have f3 := HP.out.f3
  have f4 := HP.out.f4
  have f5 := HP.out.f5
  have f6 := HP.out.f6
  have f7 := HP.out.f7
  have f8 := HP.out.f8
  have f9 := HP.out.f9
  have f10 := HP.out.f10
  have f11 := HP.out.f11
  have f12 := HP.out.f12
  have f13 := HP.out.f13
  have f14 := HP.out.f14
  have f15 := HP.out.f15
  have z := HP.out.z
  have hne := HNE.out
  go_quiet (fail)
  have HX := hide (show Mx (W.drewN nq) X m from HX.out)
  have HP := hide (HP.out.drewN nq)
  have HO := hide (HO.out.drewN nq)
  generalize W.drewN nq = W at *
  clear k0 k1 k2 k3 k4 k5 k6 k7 k8 k9 k10 f0 f1 f2 f3 f4 f5 f6 f7 f8 f9 f10 f11 f12 f13 f14 f15 z nq
  obtain ⟨k0, k1, k2, k3, k4, k5, k6, k7, k8, k9, k10⟩ := HX.out.cells
  have f0 := HP.out.f0
  have f1 := HP.out.f1
  have f2 := HP.out.f2
  have f3 := HP.out.f3
  have f4 := HP.out.f4
  have f5 := HP.out.f5
  have f6 := HP.out.f6
  have f7 := HP.out.f7
  have f8 := HP.out.f8
  have f9 := HP.out.f9
  have f10 := HP.out.f10
  have f11 := HP.out.f11
  have f12 := HP.out.f12
  have f13 := HP.out.f13
  have f14 := HP.out.f14
  have f15 := HP.out.f15
  have z := HP.out.z
  go_wp2_with fail
  go_quiet (fail)
  have HX := hide (show Mx (W.drewN nq) X m from HX.out)
  have HP := hide (HP.out.drewN nq)
  have HO := hide (HO.out.drewN nq)
  generalize W.drewN nq = W at *
  clear k0 k1 k2 k3 k4 k5 k6 k7 k8 k9 k10 f0 f1 f2 f3 f4 f5 f6 f7 f8 f9 f10 f11 f12 f13 f14 f15 z nq
  obtain ⟨k0, k1, k2, k3, k4, k5, k6, k7, k8, k9, k10⟩ := HX.out.cells
  have f0 := HP.out.f0
  have f1 := HP.out.f1
  have f2 := HP.out.f2
  have f3 := HP.out.f3
  have f4 := HP.out.f4
  have f5 := HP.out.f5
  have f6 := HP.out.f6
  have f7 := HP.out.f7
  have f8 := HP.out.f8
  have f9 := HP.out.f9
  have f10 := HP.out.f10
  have f11 := HP.out.f11
  have f12 := HP.out.f12
  have f13 := HP.out.f13
  have f14 := HP.out.f14
  have f15 := HP.out.f15
  have z := HP.out.z
  go_wp2_with fail
  go_quiet (fail)
  have HP := hide (HP.out.drewN nq)
  have HO := hide (HO.out.drewN nq)
  generalize W.drewN nq = W at *
  clear k0 k1 k2 k3 k4 k5 k6 k7 k8 k9 k10 f0 f1 f2 f3 f4 f5 f6 f7 f8 f9 f10 f11 f12 f13 f14 f15 z nq HX
  have f0 := HP.out.f0
  have f1 := HP.out.f1
  have f2 := HP.out.f2
  have f3 := HP.out.f3
  have f4 := HP.out.f4
  have f5 := HP.out.f5
  have f6 := HP.out.f6
  have f7 := HP.out.f7
  have f8 := HP.out.f8
  have f9 := HP.out.f9
  have f10 := HP.out.f10
  have f11 := HP.out.f11
  have f12 := HP.out.f12
  have f13 := HP.out.f13
  have f14 := HP.out.f14
  have f15 := HP.out.f15
  have z := HP.out.z
  go_wp2_with fail
  go_ret
  exact ⟨rfl, HP.out, HO.out⟩

set_option maxHeartbeats 4000000 in
set_option maxRecDepth 8000 in
theorem xhear_L (h : Xb w g o (xC c l)) (m : Sm) (g1 : decide (1 < c.m.k) = true) (g2 : (m.se == c.m.se) = true) (g3 : (m.nu == c.m.nu) = true) (u1 : (c.m.k == 1) = false) (u4 : (m.k == 8) = true) : Calls Try.prog 37 #[.pointer (some ⟨g, o, none⟩), .agg (smC m)] w fun e w' => e = .returned (.int .i64 2) ∧ Xb w' g o (xC { c with se := 0, m := zS 0, ti := 0 } 0) ∧ Xo g o w w' := by
  have HX := hide (Mx.new w m)
  have HP := hide (h.alloc (.cells (smC m) 36))
  have HO := hide ((Xo.refl g o w).alloc h.lt (.cells (smC m) 36))
  have HNE : Hid (w.heap.size ≠ g) := hide (by have := h.lt; omega)
  have HLT := hide h.lt
  unfold smC at HX HP HO ⊢
  clear h
  go_enter Try.func37, Try.ntmps37
  go_wp2_with fail
  obtain ⟨X, hX⟩ : ∃ X, w.heap.size = X := ⟨_, rfl⟩
  rw [hX] at HX HNE
  try rw [hX]
  clear hX
  generalize w.alloc (.cells #[.int .i64 m.k, .int .i64 m.se, .int .i64 m.nu, .int .i64 m.jo, .int .i64 m.ba, .int .i64 m.ix, .int .i64 m.co, .int .i64 m.rc, .int .u64 (m.rb : Int), .string m.tx, .string m.pr] 36) = W at *
  obtain ⟨k0, k1, k2, k3, k4, k5, k6, k7, k8, k9, k10⟩ := HX.out.cells
  have f0 := HP.out.f0
  have f1 := HP.out.f1
  have f2 := HP.out.f2
  have f3 := HP.out.f3
  have f4 := HP.out.f4
  have f5 := HP.out.f5
  have f6 := HP.out.f6
  have f7 := HP.out.f7
  have f8 := HP.out.f8
  have f9 := HP.out.f9
  have f10 := HP.out.f10
  have f11 := HP.out.f11
  have f12 := HP.out.f12
  have f13 := HP.out.f13
  have f14 := HP.out.f14
  have f15 := HP.out.f15
  have z := HP.out.z
  have hne := HNE.out
  go_quiet (fail)
  have HX := hide (show Mx (W.drewN nq) X m from HX.out)
  have HP := hide (HP.out.drewN nq)
  have HO := hide (HO.out.drewN nq)
  generalize W.drewN nq = W at *
  clear k0 k1 k2 k3 k4 k5 k6 k7 k8 k9 k10 f0 f1 f2 f3 f4 f5 f6 f7 f8 f9 f10 f11 f12 f13 f14 f15 z nq
  obtain ⟨k0, k1, k2, k3, k4, k5, k6, k7, k8, k9, k10⟩ := HX.out.cells
  have f0 := HP.out.f0
  have f1 := HP.out.f1
  have f2 := HP.out.f2
  have f3 := HP.out.f3
  have f4 := HP.out.f4
  have f5 := HP.out.f5
  have f6 := HP.out.f6
  have f7 := HP.out.f7
  have f8 := HP.out.f8
  have f9 := HP.out.f9
  have f10 := HP.out.f10
  have f11 := HP.out.f11
  have f12 := HP.out.f12
  have f13 := HP.out.f13
  have f14 := HP.out.f14
  have f15 := HP.out.f15
  have z := HP.out.z
  go_wp2_with fail
  go_quiet (fail)
  have HX := hide (show Mx (W.drewN nq) X m from HX.out)
  have HP := hide (HP.out.drewN nq)
  have HO := hide (HO.out.drewN nq)
  generalize W.drewN nq = W at *
  clear k0 k1 k2 k3 k4 k5 k6 k7 k8 k9 k10 f0 f1 f2 f3 f4 f5 f6 f7 f8 f9 f10 f11 f12 f13 f14 f15 z nq
  obtain ⟨k0, k1, k2, k3, k4, k5, k6, k7, k8, k9, k10⟩ := HX.out.cells
  have f0 := HP.out.f0
  have f1 := HP.out.f1
  have f2 := HP.out.f2
  have f3 := HP.out.f3
  have f4 := HP.out.f4
  have f5 := HP.out.f5
  have f6 := HP.out.f6
  have f7 := HP.out.f7
  have f8 := HP.out.f8
  have f9 := HP.out.f9
  have f10 := HP.out.f10
  have f11 := HP.out.f11
  have f12 := HP.out.f12
  have f13 := HP.out.f13
  have f14 := HP.out.f14
  have f15 := HP.out.f15
  have z := HP.out.z
  go_wp2_with fail
  go_ret
  exact ⟨rfl, (((HP.out.se 0).la 0).putM (zS 0)).ti 0, ((((HO.out.set 1 (by decide) _).set 2 (by decide) _).putM (zS 0)).set 3 (by decide) _)⟩

set_option maxHeartbeats 4000000 in
set_option maxRecDepth 8000 in
theorem xhear_T (h : Xb w g o (xC c l)) (m : Sm) (g1 : decide (1 < c.m.k) = true) (g2 : (m.se == c.m.se) = true) (g3 : (m.nu == c.m.nu) = true) (u1 : (c.m.k == 1) = false) (u4 : (m.k == 8) = false) (tf : fitB c.m.k m.k = true) : Calls Try.prog 37 #[.pointer (some ⟨g, o, none⟩), .agg (smC m)] w fun e w' => e = .returned (.int .i64 3) ∧ Xb w' g o (xC { c with m := zS 0, ti := 0 } l) ∧ Xo g o w w' := by
  have HX := hide (Mx.new w m)
  have HP := hide (h.alloc (.cells (smC m) 36))
  have HO := hide ((Xo.refl g o w).alloc h.lt (.cells (smC m) 36))
  have HNE : Hid (w.heap.size ≠ g) := hide (by have := h.lt; omega)
  have HLT := hide h.lt
  unfold smC at HX HP HO ⊢
  have HFi : Hid (∀ w, Calls Try.prog 58 #[.int .i64 c.m.k, .int .i64 m.k] w fun e w' => e = .returned (.bool true) ∧ w' = w) := hide fun w => by rw [← tf]; exact xfits_any w c.m.k m.k
  clear h
  go_enter Try.func37, Try.ntmps37
  go_wp2_with fail
  obtain ⟨X, hX⟩ : ∃ X, w.heap.size = X := ⟨_, rfl⟩
  rw [hX] at HX HNE
  try rw [hX]
  clear hX
  generalize w.alloc (.cells #[.int .i64 m.k, .int .i64 m.se, .int .i64 m.nu, .int .i64 m.jo, .int .i64 m.ba, .int .i64 m.ix, .int .i64 m.co, .int .i64 m.rc, .int .u64 (m.rb : Int), .string m.tx, .string m.pr] 36) = W at *
  obtain ⟨k0, k1, k2, k3, k4, k5, k6, k7, k8, k9, k10⟩ := HX.out.cells
  have f0 := HP.out.f0
  have f1 := HP.out.f1
  have f2 := HP.out.f2
  have f3 := HP.out.f3
  have f4 := HP.out.f4
  have f5 := HP.out.f5
  have f6 := HP.out.f6
  have f7 := HP.out.f7
  have f8 := HP.out.f8
  have f9 := HP.out.f9
  have f10 := HP.out.f10
  have f11 := HP.out.f11
  have f12 := HP.out.f12
  have f13 := HP.out.f13
  have f14 := HP.out.f14
  have f15 := HP.out.f15
  have z := HP.out.z
  have hne := HNE.out
  go_quiet (fail)
  have HX := hide (show Mx (W.drewN nq) X m from HX.out)
  have HP := hide (HP.out.drewN nq)
  have HO := hide (HO.out.drewN nq)
  generalize W.drewN nq = W at *
  clear k0 k1 k2 k3 k4 k5 k6 k7 k8 k9 k10 f0 f1 f2 f3 f4 f5 f6 f7 f8 f9 f10 f11 f12 f13 f14 f15 z nq
  obtain ⟨k0, k1, k2, k3, k4, k5, k6, k7, k8, k9, k10⟩ := HX.out.cells
  have f0 := HP.out.f0
  have f1 := HP.out.f1
  have f2 := HP.out.f2
  have f3 := HP.out.f3
  have f4 := HP.out.f4
  have f5 := HP.out.f5
  have f6 := HP.out.f6
  have f7 := HP.out.f7
  have f8 := HP.out.f8
  have f9 := HP.out.f9
  have f10 := HP.out.f10
  have f11 := HP.out.f11
  have f12 := HP.out.f12
  have f13 := HP.out.f13
  have f14 := HP.out.f14
  have f15 := HP.out.f15
  have z := HP.out.z
  go_wp2_with fail
  go_quiet (fail)
  have HX := hide (show Mx (W.drewN nq) X m from HX.out)
  have HP := hide (HP.out.drewN nq)
  have HO := hide (HO.out.drewN nq)
  generalize W.drewN nq = W at *
  clear k0 k1 k2 k3 k4 k5 k6 k7 k8 k9 k10 f0 f1 f2 f3 f4 f5 f6 f7 f8 f9 f10 f11 f12 f13 f14 f15 z nq
  obtain ⟨k0, k1, k2, k3, k4, k5, k6, k7, k8, k9, k10⟩ := HX.out.cells
  have f0 := HP.out.f0
  have f1 := HP.out.f1
  have f2 := HP.out.f2
  have f3 := HP.out.f3
  have f4 := HP.out.f4
  have f5 := HP.out.f5
  have f6 := HP.out.f6
  have f7 := HP.out.f7
  have f8 := HP.out.f8
  have f9 := HP.out.f9
  have f10 := HP.out.f10
  have f11 := HP.out.f11
  have f12 := HP.out.f12
  have f13 := HP.out.f13
  have f14 := HP.out.f14
  have f15 := HP.out.f15
  have z := HP.out.z
  go_wp2_with fail
  go_quiet (first
    | (go_at_call 58; exact Calls.quiet_of_same (HFi.out _)))
  have HP := hide (HP.out.drewN nq)
  have HO := hide (HO.out.drewN nq)
  generalize W.drewN nq = W at *
  clear k0 k1 k2 k3 k4 k5 k6 k7 k8 k9 k10 f0 f1 f2 f3 f4 f5 f6 f7 f8 f9 f10 f11 f12 f13 f14 f15 z nq HX
  have f0 := HP.out.f0
  have f1 := HP.out.f1
  have f2 := HP.out.f2
  have f3 := HP.out.f3
  have f4 := HP.out.f4
  have f5 := HP.out.f5
  have f6 := HP.out.f6
  have f7 := HP.out.f7
  have f8 := HP.out.f8
  have f9 := HP.out.f9
  have f10 := HP.out.f10
  have f11 := HP.out.f11
  have f12 := HP.out.f12
  have f13 := HP.out.f13
  have f14 := HP.out.f14
  have f15 := HP.out.f15
  have z := HP.out.z
  go_wp2_with fail
  go_ret
  exact ⟨rfl, (HP.out.putM (zS 0)).ti 0, ((HO.out.putM (zS 0)).set 3 (by decide) _)⟩

set_option maxHeartbeats 4000000 in
set_option maxRecDepth 8000 in
theorem xhear_N (h : Xb w g o (xC c l)) (m : Sm) (g1 : decide (1 < c.m.k) = true) (g2 : (m.se == c.m.se) = true) (g3 : (m.nu == c.m.nu) = true) (u1 : (c.m.k == 1) = false) (u4 : (m.k == 8) = false) (tf : fitB c.m.k m.k = false) : Calls Try.prog 37 #[.pointer (some ⟨g, o, none⟩), .agg (smC m)] w fun e w' => e = .returned (.int .i64 0) ∧ Xb w' g o (xC c l) ∧ Xo g o w w' := by
  have HX := hide (Mx.new w m)
  have HP := hide (h.alloc (.cells (smC m) 36))
  have HO := hide ((Xo.refl g o w).alloc h.lt (.cells (smC m) 36))
  have HNE : Hid (w.heap.size ≠ g) := hide (by have := h.lt; omega)
  have HLT := hide h.lt
  unfold smC at HX HP HO ⊢
  have HFi : Hid (∀ w, Calls Try.prog 58 #[.int .i64 c.m.k, .int .i64 m.k] w fun e w' => e = .returned (.bool false) ∧ w' = w) := hide fun w => by rw [← tf]; exact xfits_any w c.m.k m.k
  clear h
  go_enter Try.func37, Try.ntmps37
  go_wp2_with fail
  obtain ⟨X, hX⟩ : ∃ X, w.heap.size = X := ⟨_, rfl⟩
  rw [hX] at HX HNE
  try rw [hX]
  clear hX
  generalize w.alloc (.cells #[.int .i64 m.k, .int .i64 m.se, .int .i64 m.nu, .int .i64 m.jo, .int .i64 m.ba, .int .i64 m.ix, .int .i64 m.co, .int .i64 m.rc, .int .u64 (m.rb : Int), .string m.tx, .string m.pr] 36) = W at *
  obtain ⟨k0, k1, k2, k3, k4, k5, k6, k7, k8, k9, k10⟩ := HX.out.cells
  have f0 := HP.out.f0
  have f1 := HP.out.f1
  have f2 := HP.out.f2
  have f3 := HP.out.f3
  have f4 := HP.out.f4
  have f5 := HP.out.f5
  have f6 := HP.out.f6
  have f7 := HP.out.f7
  have f8 := HP.out.f8
  have f9 := HP.out.f9
  have f10 := HP.out.f10
  have f11 := HP.out.f11
  have f12 := HP.out.f12
  have f13 := HP.out.f13
  have f14 := HP.out.f14
  have f15 := HP.out.f15
  have z := HP.out.z
  have hne := HNE.out
  go_quiet (fail)
  have HX := hide (show Mx (W.drewN nq) X m from HX.out)
  have HP := hide (HP.out.drewN nq)
  have HO := hide (HO.out.drewN nq)
  generalize W.drewN nq = W at *
  clear k0 k1 k2 k3 k4 k5 k6 k7 k8 k9 k10 f0 f1 f2 f3 f4 f5 f6 f7 f8 f9 f10 f11 f12 f13 f14 f15 z nq
  obtain ⟨k0, k1, k2, k3, k4, k5, k6, k7, k8, k9, k10⟩ := HX.out.cells
  have f0 := HP.out.f0
  have f1 := HP.out.f1
  have f2 := HP.out.f2
  have f3 := HP.out.f3
  have f4 := HP.out.f4
  have f5 := HP.out.f5
  have f6 := HP.out.f6
  have f7 := HP.out.f7
  have f8 := HP.out.f8
  have f9 := HP.out.f9
  have f10 := HP.out.f10
  have f11 := HP.out.f11
  have f12 := HP.out.f12
  have f13 := HP.out.f13
  have f14 := HP.out.f14
  have f15 := HP.out.f15
  have z := HP.out.z
  go_wp2_with fail
  go_quiet (fail)
  have HX := hide (show Mx (W.drewN nq) X m from HX.out)
  have HP := hide (HP.out.drewN nq)
  have HO := hide (HO.out.drewN nq)
  generalize W.drewN nq = W at *
  clear k0 k1 k2 k3 k4 k5 k6 k7 k8 k9 k10 f0 f1 f2 f3 f4 f5 f6 f7 f8 f9 f10 f11 f12 f13 f14 f15 z nq
  obtain ⟨k0, k1, k2, k3, k4, k5, k6, k7, k8, k9, k10⟩ := HX.out.cells
  have f0 := HP.out.f0
  have f1 := HP.out.f1
  have f2 := HP.out.f2
  have f3 := HP.out.f3
  have f4 := HP.out.f4
  have f5 := HP.out.f5
  have f6 := HP.out.f6
  have f7 := HP.out.f7
  have f8 := HP.out.f8
  have f9 := HP.out.f9
  have f10 := HP.out.f10
  have f11 := HP.out.f11
  have f12 := HP.out.f12
  have f13 := HP.out.f13
  have f14 := HP.out.f14
  have f15 := HP.out.f15
  have z := HP.out.z
  go_wp2_with fail
  go_quiet (first
    | (go_at_call 58; exact Calls.quiet_of_same (HFi.out _)))
  have HP := hide (HP.out.drewN nq)
  have HO := hide (HO.out.drewN nq)
  generalize W.drewN nq = W at *
  clear k0 k1 k2 k3 k4 k5 k6 k7 k8 k9 k10 f0 f1 f2 f3 f4 f5 f6 f7 f8 f9 f10 f11 f12 f13 f14 f15 z nq HX
  have f0 := HP.out.f0
  have f1 := HP.out.f1
  have f2 := HP.out.f2
  have f3 := HP.out.f3
  have f4 := HP.out.f4
  have f5 := HP.out.f5
  have f6 := HP.out.f6
  have f7 := HP.out.f7
  have f8 := HP.out.f8
  have f9 := HP.out.f9
  have f10 := HP.out.f10
  have f11 := HP.out.f11
  have f12 := HP.out.f12
  have f13 := HP.out.f13
  have f14 := HP.out.f14
  have f15 := HP.out.f15
  have z := HP.out.z
  go_wp2_with fail
  go_ret
  exact ⟨rfl, HP.out, HO.out⟩

end
end Go.Proofs.Ytaikogbeaohmhaa
