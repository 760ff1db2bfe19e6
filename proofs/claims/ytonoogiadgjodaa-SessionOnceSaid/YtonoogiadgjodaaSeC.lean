import Derived.Test.YtonoogiadgjodaaSeB
namespace Go.Proofs.Ytonoogiadgjodaa
open Go.RowKit

/-- may a reply be one to a request? -/
def fitB (rq rp : Int) : Bool := if rp = 10 ∨ rp = 9 then rq == 2 else if rp = 13 then rq == 4 else if rp = 12 then rq == 4 || rq == 3 else if rp = 11 then rq == 3 else false

set_option maxHeartbeats 1000000 in
theorem fits_any (w : World) (rq rp : Int) :
    Calls Try.prog 66 #[.int .i64 rq, .int .i64 rp] w fun e w' => e = .returned (.bool (fitB rq rp)) ∧ w' = w := by
  by_cases h1 : rp = 10
  · have hr : fitB rq rp = (rq == 2) := if_pos (.inl h1)
    rw [hr]; clear hr; subst h1
    go_enter Try.func66, Try.ntmps66
    go_wp2
    go_ret
    exact ⟨rfl, rfl⟩
  by_cases h2 : rp = 9
  · have hr : fitB rq rp = (rq == 2) := if_pos (.inr h2)
    rw [hr]; clear hr h1; subst h2
    go_enter Try.func66, Try.ntmps66
    go_wp2
    go_ret
    exact ⟨rfl, rfl⟩
  by_cases h3 : rp = 13
  · have hr : fitB rq rp = (rq == 4) := by unfold fitB; rw [if_neg (by omega), if_pos h3]
    rw [hr]; clear hr h1 h2; subst h3
    go_enter Try.func66, Try.ntmps66
    go_wp2
    go_ret
    exact ⟨rfl, rfl⟩
  by_cases h4 : rp = 12
  · have hr : fitB rq rp = (rq == 4 || rq == 3) := by unfold fitB; rw [if_neg (by omega), if_neg h3, if_pos h4]
    rw [hr]; clear hr h1 h2 h3; subst h4
    cases q4 : rq == 4 with
    | true =>
      go_enter Try.func66, Try.ntmps66
      go_wp2
      go_ret
      exact ⟨rfl, rfl⟩
    | false =>
      go_enter Try.func66, Try.ntmps66
      go_wp2
      go_ret
      exact ⟨rfl, rfl⟩
  by_cases h5 : rp = 11
  · have hr : fitB rq rp = (rq == 3) := by unfold fitB; rw [if_neg (by omega), if_neg h3, if_neg h4, if_pos h5]
    rw [hr]; clear hr h1 h2 h3 h4; subst h5
    go_enter Try.func66, Try.ntmps66
    go_wp2
    go_ret
    exact ⟨rfl, rfl⟩
  have hr : fitB rq rp = false := by unfold fitB; rw [if_neg (by omega), if_neg h3, if_neg h4, if_neg h5]
  rw [hr]; clear hr
  have b1 : (rp == 10) = false := by simpa using h1
  have b2 : (rp == 9) = false := by simpa using h2
  have b3 : (rp == 13) = false := by simpa using h3
  have b4 : (rp == 12) = false := by simpa using h4
  have b5 : (rp == 11) = false := by simpa using h5
  clear h1 h2 h3 h4 h5
  go_enter Try.func66, Try.ntmps66
  go_wp2
  go_ret
  exact ⟨rfl, rfl⟩
/-- does a message bear the session and the number of what is under way? -/
def Cl.awt (c : Cl) (m : Sm) : Bool := (c.m.nu != 0) && (m.se == c.m.se) && (m.nu == c.m.nu)

set_option maxHeartbeats 1000000 in
set_option maxRecDepth 8000 in
theorem awaits_A {w : World} {b : Nat} {c : Cl} (h : Cb w b c) (m : Sm) (t0 : (c.m.nu != 0) = false) :
    Calls Try.prog 65 #[.pointer (some ⟨b, 0, none⟩), .agg (smC m)] w fun e w' => e = .returned (.bool false) ∧ Below w.heap.size w w' := by
  unfold smC
  have hl := h.lt
  have HW : Hid (∀ n, Calls Try.prog 38 #[.pointer (some ⟨b, 0, none⟩)] ((w.alloc (.cells #[.int .i64 m.k, .int .i64 m.se, .int .i64 m.nu, .int .i64 m.jo, .int .i64 m.ba, .int .i64 m.ix, .int .i64 m.co, .int .i64 m.rc, .int .u64 (m.rb : Int), .string m.tx, .string m.pr] 36)).drewN n) fun e w' => e = .returned (.int .i64 c.m.nu) ∧ w' = ((w.alloc (.cells #[.int .i64 m.k, .int .i64 m.se, .int .i64 m.nu, .int .i64 m.jo, .int .i64 m.ba, .int .i64 m.ix, .int .i64 m.co, .int .i64 m.rc, .int .u64 (m.rb : Int), .string m.tx, .string m.pr] 36)).drewN n)) := hide fun n => waits_any ((h.alloc _).drewN n)
  have c3 := h.c3
  have c4 := h.c4
  clear h
  go_enter Try.func65, Try.ntmps65
  go_wp2_with fail
  go_quiet (first
    | (go_at_call 38; exact Calls.quiet_of_same (HW.out _)))
  go_wp2_with fail
  go_ret
  exact ⟨rfl, below_drewN (below_alloc w _) _⟩

set_option maxHeartbeats 1000000 in
set_option maxRecDepth 8000 in
theorem awaits_B {w : World} {b : Nat} {c : Cl} (h : Cb w b c) (m : Sm) (t0 : (c.m.nu != 0) = true) (t1 : (m.se == c.m.se) = false) :
    Calls Try.prog 65 #[.pointer (some ⟨b, 0, none⟩), .agg (smC m)] w fun e w' => e = .returned (.bool false) ∧ Below w.heap.size w w' := by
  unfold smC
  have hl := h.lt
  have HW : Hid (∀ n, Calls Try.prog 38 #[.pointer (some ⟨b, 0, none⟩)] ((w.alloc (.cells #[.int .i64 m.k, .int .i64 m.se, .int .i64 m.nu, .int .i64 m.jo, .int .i64 m.ba, .int .i64 m.ix, .int .i64 m.co, .int .i64 m.rc, .int .u64 (m.rb : Int), .string m.tx, .string m.pr] 36)).drewN n) fun e w' => e = .returned (.int .i64 c.m.nu) ∧ w' = ((w.alloc (.cells #[.int .i64 m.k, .int .i64 m.se, .int .i64 m.nu, .int .i64 m.jo, .int .i64 m.ba, .int .i64 m.ix, .int .i64 m.co, .int .i64 m.rc, .int .u64 (m.rb : Int), .string m.tx, .string m.pr] 36)).drewN n)) := hide fun n => waits_any ((h.alloc _).drewN n)
  have c3 := h.c3
  have c4 := h.c4
  clear h
  go_enter Try.func65, Try.ntmps65
  go_wp2_with fail
  go_quiet (first
    | (go_at_call 38; exact Calls.quiet_of_same (HW.out _)))
  go_wp2_with fail
  go_ret
  exact ⟨rfl, below_drewN (below_alloc w _) _⟩

set_option maxHeartbeats 1000000 in
set_option maxRecDepth 8000 in
theorem awaits_C {w : World} {b : Nat} {c : Cl} (h : Cb w b c) (m : Sm) (t0 : (c.m.nu != 0) = true) (t1 : (m.se == c.m.se) = true) (t2 : (m.nu == c.m.nu) = false) :
    Calls Try.prog 65 #[.pointer (some ⟨b, 0, none⟩), .agg (smC m)] w fun e w' => e = .returned (.bool false) ∧ Below w.heap.size w w' := by
  unfold smC
  have hl := h.lt
  have HW : Hid (∀ n, Calls Try.prog 38 #[.pointer (some ⟨b, 0, none⟩)] ((w.alloc (.cells #[.int .i64 m.k, .int .i64 m.se, .int .i64 m.nu, .int .i64 m.jo, .int .i64 m.ba, .int .i64 m.ix, .int .i64 m.co, .int .i64 m.rc, .int .u64 (m.rb : Int), .string m.tx, .string m.pr] 36)).drewN n) fun e w' => e = .returned (.int .i64 c.m.nu) ∧ w' = ((w.alloc (.cells #[.int .i64 m.k, .int .i64 m.se, .int .i64 m.nu, .int .i64 m.jo, .int .i64 m.ba, .int .i64 m.ix, .int .i64 m.co, .int .i64 m.rc, .int .u64 (m.rb : Int), .string m.tx, .string m.pr] 36)).drewN n)) := hide fun n => waits_any ((h.alloc _).drewN n)
  have c3 := h.c3
  have c4 := h.c4
  clear h
  go_enter Try.func65, Try.ntmps65
  go_wp2_with fail
  go_quiet (first
    | (go_at_call 38; exact Calls.quiet_of_same (HW.out _)))
  go_wp2_with fail
  go_ret
  exact ⟨rfl, below_drewN (below_alloc w _) _⟩

set_option maxHeartbeats 1000000 in
set_option maxRecDepth 8000 in
theorem awaits_T {w : World} {b : Nat} {c : Cl} (h : Cb w b c) (m : Sm) (t0 : (c.m.nu != 0) = true) (t1 : (m.se == c.m.se) = true) (t2 : (m.nu == c.m.nu) = true) :
    Calls Try.prog 65 #[.pointer (some ⟨b, 0, none⟩), .agg (smC m)] w fun e w' => e = .returned (.bool true) ∧ Below w.heap.size w w' := by
  unfold smC
  have hl := h.lt
  have HW : Hid (∀ n, Calls Try.prog 38 #[.pointer (some ⟨b, 0, none⟩)] ((w.alloc (.cells #[.int .i64 m.k, .int .i64 m.se, .int .i64 m.nu, .int .i64 m.jo, .int .i64 m.ba, .int .i64 m.ix, .int .i64 m.co, .int .i64 m.rc, .int .u64 (m.rb : Int), .string m.tx, .string m.pr] 36)).drewN n) fun e w' => e = .returned (.int .i64 c.m.nu) ∧ w' = ((w.alloc (.cells #[.int .i64 m.k, .int .i64 m.se, .int .i64 m.nu, .int .i64 m.jo, .int .i64 m.ba, .int .i64 m.ix, .int .i64 m.co, .int .i64 m.rc, .int .u64 (m.rb : Int), .string m.tx, .string m.pr] 36)).drewN n)) := hide fun n => waits_any ((h.alloc _).drewN n)
  have c3 := h.c3
  have c4 := h.c4
  clear h
  go_enter Try.func65, Try.ntmps65
  go_wp2_with fail
  go_quiet (first
    | (go_at_call 38; exact Calls.quiet_of_same (HW.out _)))
  go_wp2_with fail
  go_ret
  exact ⟨rfl, below_drewN (below_alloc w _) _⟩

theorem awaits_any {w : World} {b : Nat} {c : Cl} (h : Cb w b c) (m : Sm) :
    Calls Try.prog 65 #[.pointer (some ⟨b, 0, none⟩), .agg (smC m)] w fun e w' => e = .returned (.bool (c.awt m)) ∧ Below w.heap.size w w' := by
  unfold Cl.awt
  cases t0 : c.m.nu != 0 with
  | false => exact awaits_A h m t0
  | true => cases t1 : m.se == c.m.se with
    | false => exact awaits_B h m t0 t1
    | true => cases t2 : m.nu == c.m.nu with
      | false => exact awaits_C h m t0 t1 t2
      | true => exact awaits_T h m t0 t1 t2
end Go.Proofs.Ytonoogiadgjodaa
