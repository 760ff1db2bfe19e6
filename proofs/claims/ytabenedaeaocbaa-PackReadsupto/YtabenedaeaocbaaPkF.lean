import Derived.Test.YtabenedaeaocbaaPkE
namespace Go.Proofs.Ytabenedaeaocbaa
open Go.RowKit

set_option maxHeartbeats 400000 in
theorem list1_any {w : World} {B X Y p : Nat} {most : Int} {b : ByteArray} (h : Rd w B b p 0) (hp : p ≤ b.size) (hb : b.size ≤ 140737488351232) (hm : most ≤ 9223372036854775807)
    (hX : w.cell? ⟨X, 0, none⟩ = some (.pointer (some ⟨B, 0, none⟩))) (hY : w.cell? ⟨Y, 0, none⟩ = some (.int .i64 most)) :
    Calls Try.prog 32 #[.pointer (some ⟨X, 0, none⟩), .pointer (some ⟨Y, 0, none⟩)] w (RPost w B b (.int .i64 (numV b p : Int)) (numQ b p) (numK b p most.toNat 23)) := by
  go_enter Try.func32, Try.ntmps32
  go_wp2_with fail
  refine (count_any h hp hb hm).mono ?_
  rintro e w' (⟨n, m, hD, hn, rfl, hR, hg⟩ | ⟨n, m, hD, hn, he, hR, hg⟩ | ⟨k, hk, hD, he, hR, hg⟩)
  · have HK : Hid (numK b p most.toNat 23 = 0) := numK_ok hD hn
    have HV : Hid (numV b p = n) := (show numV b p = n by unfold numV; rw [hD])
    have HQ : Hid (numQ b p = p + m) := (show numQ b p = p + m by unfold numQ; rw [hD])
    clear hD
    go_wp2_with fail
    go_ret
    exact .inl ⟨HK.out, by rw [HV.out]; rfl, by rw [HQ.out]; exact hR, hg⟩
  · have HK : Hid (numK b p most.toNat 23 = 23) := numK_above hD hn
    clear hD
    unfold Gives at he
    subst he
    go_wp2_with fail
    exact ⟨rfl, .inr ⟨by rw [HK.out]; decide, by rw [HK.out]; rfl, hR, hg⟩⟩
  · have HK : Hid (numK b p most.toNat 23 = k) := numK_bad hD hk
    clear hD
    unfold Gives at he
    subst he
    go_wp2_with fail
    exact ⟨rfl, .inr ⟨by rw [HK.out]; exact hk, by rw [HK.out]; rfl, hR, hg⟩⟩

/- the deferred closures of face: a panic with an error's number becomes the reader's fault at the place where it began; else nothing -/
theorem assert_yes (W : World) (n : Int) : (Instr.typeAssert (.iface 27 (.int .i64 n)) 20 27 true).run Try.prog W = .ok (.tuple #[.int .i64 n, .bool true]) W := by kernel_rfl
theorem assert_nil (W : World) : (Instr.typeAssert .nilIface 20 27 true).run Try.prog W = .ok (.tuple #[.int .i64 0, .bool false]) W := by kernel_rfl

set_option maxHeartbeats 400000 in
theorem catchU {w : World} {B X Z : Nat} {b : ByteArray} {q f : Int} {p k : Int} (h : Rd w B b q f)
    (hZ : w.cell? ⟨Z, 0, none⟩ = some (.int .i64 p)) (hX : w.cell? ⟨X, 0, none⟩ = some (.pointer (some ⟨B, 0, none⟩))) (older : List PanicEntry) :
    CallsD Try.prog 40 #[.pointer (some ⟨Z, 0, none⟩), .pointer (some ⟨X, 0, none⟩)] (.panicking ({ v := .iface 27 (.int .i64 k), recovered := false } :: older)) w fun e u' w' =>
      e = .returned (.tuple #[]) ∧ u' = .panicking ({ v := .iface 27 (.int .i64 k), recovered := true } :: older) ∧ w' = (w.setCell ⟨B, 1, none⟩ (.int .i64 p)).setCell ⟨B, 2, none⟩ (.int .i64 k) := by
  have z1 := h.z 1
  have z2 := (h.set1 (q := p)).z 2
  have c1 := h.c1
  have c2 := (h.set1 (q := p)).c2
  refine callsD_of_wpS Try.func40 rfl fun c₀ cs hu => ?_
  apply wpS_seq
  apply wpS_region
  simp [wpOpsS, go_sem, recoverD, hu, Try.ntmps40, Exit.thenS, assert_yes]
  apply wpS_seq
  apply wpS_region
  simp [wpOpsS, go_sem, Exit.thenS]
  refine wpS_cond (t := true) (by simp [Act.eval, Array.replicate]) ?_
  simp only [if_true]
  refine wpS_of_wp ?_
  simp only [Array.replicate, List.replicate]
  go_wp2
  exact ⟨rfl, _, rfl, _, results_none rfl _ _ _, rfl, rfl, rfl⟩

set_option maxHeartbeats 400000 in
theorem idleU (w : World) (Z X : Nat) :
    CallsD Try.prog 40 #[.pointer (some ⟨Z, 0, none⟩), .pointer (some ⟨X, 0, none⟩)] .returning w fun e u' w' => e = .returned (.tuple #[]) ∧ u' = .returning ∧ w' = w := by
  refine callsD_of_wpS Try.func40 rfl fun c₀ cs hu => ?_
  apply wpS_seq
  apply wpS_region
  simp [wpOpsS, go_sem, recoverD, hu, Try.ntmps40, Exit.thenS, assert_nil]
  apply wpS_seq
  apply wpS_region
  simp [wpOpsS, go_sem, Exit.thenS]
  refine wpS_cond (t := false) (by simp [Act.eval, Array.replicate]) ?_
  simp only [Bool.false_eq_true, if_false]
  refine wpS_of_wp (wp_skip ?_)
  cases c₀
  simp_all [bodyPostS, results, Try.results40]

set_option maxHeartbeats 400000 in
theorem catchI {w : World} {B X Z : Nat} {b : ByteArray} {q f : Int} {p k : Int} (h : Rd w B b q f)
    (hZ : w.cell? ⟨Z, 0, none⟩ = some (.int .i64 p)) (hX : w.cell? ⟨X, 0, none⟩ = some (.pointer (some ⟨B, 0, none⟩))) (older : List PanicEntry) :
    CallsD Try.prog 43 #[.pointer (some ⟨Z, 0, none⟩), .pointer (some ⟨X, 0, none⟩)] (.panicking ({ v := .iface 27 (.int .i64 k), recovered := false } :: older)) w fun e u' w' =>
      e = .returned (.tuple #[]) ∧ u' = .panicking ({ v := .iface 27 (.int .i64 k), recovered := true } :: older) ∧ w' = (w.setCell ⟨B, 1, none⟩ (.int .i64 p)).setCell ⟨B, 2, none⟩ (.int .i64 k) := by
  have z1 := h.z 1
  have z2 := (h.set1 (q := p)).z 2
  have c1 := h.c1
  have c2 := (h.set1 (q := p)).c2
  refine callsD_of_wpS Try.func43 rfl fun c₀ cs hu => ?_
  apply wpS_seq
  apply wpS_region
  simp [wpOpsS, go_sem, recoverD, hu, Try.ntmps43, Exit.thenS, assert_yes]
  apply wpS_seq
  apply wpS_region
  simp [wpOpsS, go_sem, Exit.thenS]
  refine wpS_cond (t := true) (by simp [Act.eval, Array.replicate]) ?_
  simp only [if_true]
  refine wpS_of_wp ?_
  simp only [Array.replicate, List.replicate]
  go_wp2
  exact ⟨rfl, _, rfl, _, results_none rfl _ _ _, rfl, rfl, rfl⟩

set_option maxHeartbeats 400000 in
theorem idleI (w : World) (Z X : Nat) :
    CallsD Try.prog 43 #[.pointer (some ⟨Z, 0, none⟩), .pointer (some ⟨X, 0, none⟩)] .returning w fun e u' w' => e = .returned (.tuple #[]) ∧ u' = .returning ∧ w' = w := by
  refine callsD_of_wpS Try.func43 rfl fun c₀ cs hu => ?_
  apply wpS_seq
  apply wpS_region
  simp [wpOpsS, go_sem, recoverD, hu, Try.ntmps43, Exit.thenS, assert_nil]
  apply wpS_seq
  apply wpS_region
  simp [wpOpsS, go_sem, Exit.thenS]
  refine wpS_cond (t := false) (by simp [Act.eval, Array.replicate]) ?_
  simp only [Bool.false_eq_true, if_false]
  refine wpS_of_wp (wp_skip ?_)
  cases c₀
  simp_all [bodyPostS, results, Try.results43]

set_option maxHeartbeats 400000 in
theorem catchS {w : World} {B X Z : Nat} {b : ByteArray} {q f : Int} {p k : Int} (h : Rd w B b q f)
    (hZ : w.cell? ⟨Z, 0, none⟩ = some (.int .i64 p)) (hX : w.cell? ⟨X, 0, none⟩ = some (.pointer (some ⟨B, 0, none⟩))) (older : List PanicEntry) :
    CallsD Try.prog 44 #[.pointer (some ⟨Z, 0, none⟩), .pointer (some ⟨X, 0, none⟩)] (.panicking ({ v := .iface 27 (.int .i64 k), recovered := false } :: older)) w fun e u' w' =>
      e = .returned (.tuple #[]) ∧ u' = .panicking ({ v := .iface 27 (.int .i64 k), recovered := true } :: older) ∧ w' = (w.setCell ⟨B, 1, none⟩ (.int .i64 p)).setCell ⟨B, 2, none⟩ (.int .i64 k) := by
  have z1 := h.z 1
  have z2 := (h.set1 (q := p)).z 2
  have c1 := h.c1
  have c2 := (h.set1 (q := p)).c2
  refine callsD_of_wpS Try.func44 rfl fun c₀ cs hu => ?_
  apply wpS_seq
  apply wpS_region
  simp [wpOpsS, go_sem, recoverD, hu, Try.ntmps44, Exit.thenS, assert_yes]
  apply wpS_seq
  apply wpS_region
  simp [wpOpsS, go_sem, Exit.thenS]
  refine wpS_cond (t := true) (by simp [Act.eval, Array.replicate]) ?_
  simp only [if_true]
  refine wpS_of_wp ?_
  simp only [Array.replicate, List.replicate]
  go_wp2
  exact ⟨rfl, _, rfl, _, results_none rfl _ _ _, rfl, rfl, rfl⟩

set_option maxHeartbeats 400000 in
theorem idleS (w : World) (Z X : Nat) :
    CallsD Try.prog 44 #[.pointer (some ⟨Z, 0, none⟩), .pointer (some ⟨X, 0, none⟩)] .returning w fun e u' w' => e = .returned (.tuple #[]) ∧ u' = .returning ∧ w' = w := by
  refine callsD_of_wpS Try.func44 rfl fun c₀ cs hu => ?_
  apply wpS_seq
  apply wpS_region
  simp [wpOpsS, go_sem, recoverD, hu, Try.ntmps44, Exit.thenS, assert_nil]
  apply wpS_seq
  apply wpS_region
  simp [wpOpsS, go_sem, Exit.thenS]
  refine wpS_cond (t := false) (by simp [Act.eval, Array.replicate]) ?_
  simp only [Bool.false_eq_true, if_false]
  refine wpS_of_wp (wp_skip ?_)
  cases c₀
  simp_all [bodyPostS, results, Try.results44]
end Go.Proofs.Ytabenedaeaocbaa
