import Derived.Test.YtkfnedhllfdghaaGreatDoorMgAK
import Derived.Test.YtkfnedhllfdghaaGreatDoorMgAA
import Derived.Defers
import Derived.Recover

section
namespace Go.Proofs.YtkfnedhllfdghaaGreatDoor
set_option maxRecDepth 20000
open Go.RowKit

/-- what number comes to -/
def NPost (w : World) (B p : Nat) (b : ByteArray) (f : Int) (D : Nat × Nat × Nat) (most : Nat) (above : Int) (e : Ending) (w' : World) : Prop :=
  (∃ n m, D = (0, n, m) ∧ n ≤ most ∧ e = .returned (.int .u64 (n : Int)) ∧ Rd w' B b ((p + m : Nat) : Int) f ∧ w.grownBy w' (some B)) ∨
  (∃ n m, D = (0, n, m) ∧ most < n ∧ Gives e above ∧ (∃ q : Int, Rd w' B b q f) ∧ w.grownBy w' (some B)) ∨
  (∃ k : Nat, k ≠ 0 ∧ D = (k, 0, 0) ∧ Gives e k ∧ (∃ q : Int, Rd w' B b q f) ∧ w.grownBy w' (some B))

theorem grown_drew (w : World) (n : Nat) (r : Option Nat) : w.grownBy (w.drewN n) r := ⟨rfl, rfl, rfl, Nat.le_refl _, fun _ _ _ => rfl⟩

set_option maxHeartbeats 400000 in
theorem number_any {w : World} {B p most : Nat} {b : ByteArray} {f above : Int} (h : Rd w B b p f) (hp : p ≤ b.size) (hb : b.size ≤ 140737488351232) :
    Calls Tryz.prog 142 #[.pointer (some ⟨B, 0, none⟩), .int .u64 (most : Int), .int .i64 above] w (NPost w B p b f (Pk.dec 0 0 (rest b p)) most above) := by
  go_enter Tryz.func142, Tryz.ntmps142
  go_wp2_with fail
  refine (groups_any h hp hb).mono ?_
  rintro e w' (⟨n, m, hD, rfl, hR, hg⟩ | ⟨k, hk, hD, he, n, rfl⟩)
  · have HD : Hid (Pk.dec 0 0 (rest b p) = (0, n, m)) := hD
    clear hD
    by_cases hn : n ≤ most
    · have b0 : decide ((most : Int) < (n : Int)) = false := by simp; omega
      go_wp2_with fail
      go_ret
      exact .inl ⟨n, m, HD.out, hn, rfl, hR, hg⟩
    · have b0 : decide ((most : Int) < (n : Int)) = true := by simp; omega
      go_wp2_with fail
      exact ⟨rfl, .inr (.inl ⟨n, m, HD.out, by omega, rfl, ⟨_, hR⟩, hg⟩)⟩
  · have HD : Hid (Pk.dec 0 0 (rest b p) = (k, 0, 0)) := hD
    clear hD
    unfold Gives at he
    subst he
    go_wp2_with fail
    exact ⟨rfl, .inr (.inr ⟨k, hk, HD.out, rfl, ⟨_, h.drew n⟩, grown_drew _ _ _⟩)⟩
end Go.Proofs.YtkfnedhllfdghaaGreatDoor
end

section
namespace Go.Proofs.YtkfnedhllfdghaaGreatDoor
set_option maxRecDepth 20000
open Go.RowKit

/-- what count comes to -/
def CPost (w : World) (B p : Nat) (b : ByteArray) (f : Int) (D : Nat × Nat × Nat) (most : Nat) (e : Ending) (w' : World) : Prop :=
  (∃ n m, D = (0, n, m) ∧ n ≤ most ∧ e = .returned (.int .i64 (n : Int)) ∧ Rd w' B b ((p + m : Nat) : Int) f ∧ w.grownBy w' (some B)) ∨
  (∃ n m, D = (0, n, m) ∧ most < n ∧ Gives e 23 ∧ (∃ q : Int, Rd w' B b q f) ∧ w.grownBy w' (some B)) ∨
  (∃ k : Nat, k ≠ 0 ∧ D = (k, 0, 0) ∧ Gives e k ∧ (∃ q : Int, Rd w' B b q f) ∧ w.grownBy w' (some B))

set_option maxHeartbeats 400000 in
theorem count_pos {w : World} {B p most : Nat} {b : ByteArray} {f : Int} (h : Rd w B b p f) (hp : p ≤ b.size) (hb : b.size ≤ 140737488351232) (hm : most ≤ 9223372036854775807) :
    Calls Tryz.prog 256 #[.pointer (some ⟨B, 0, none⟩), .int .i64 (most : Int)] w (CPost w B p b f (Pk.dec 0 0 (rest b p)) most) := by
  go_enter Tryz.func256, Tryz.ntmps256
  go_wp2_with fail
  refine (number_any (most := most) h hp hb).mono ?_
  rintro e w' (⟨n, m, hD, hn, rfl, hR, hg⟩ | ⟨n, m, hD, hn, he, hR, hg⟩ | ⟨k, hk, hD, he, hR, hg⟩)
  · have HD : Hid (Pk.dec 0 0 (rest b p) = (0, n, m)) := hD
    clear hD
    go_wp2_with fail
    go_ret
    exact .inl ⟨n, m, HD.out, hn, by go_num, hR, hg⟩
  · have HD : Hid (Pk.dec 0 0 (rest b p) = (0, n, m)) := hD
    clear hD
    unfold Gives at he
    subst he
    go_wp2_with fail
    exact ⟨rfl, .inr (.inl ⟨n, m, HD.out, hn, rfl, hR, hg⟩)⟩
  · have HD : Hid (Pk.dec 0 0 (rest b p) = (k, 0, 0)) := hD
    clear hD
    unfold Gives at he
    subst he
    go_wp2_with fail
    exact ⟨rfl, .inr (.inr ⟨k, hk, HD.out, rfl, hR, hg⟩)⟩
set_option maxRecDepth 8000 in
set_option maxHeartbeats 400000 in
theorem count_neg {w : World} {B p : Nat} {most : Int} {b : ByteArray} {f : Int} (h : Rd w B b p f) (hp : p ≤ b.size) (hb : b.size ≤ 140737488351232) (hm : most < 0) :
    Calls Tryz.prog 256 #[.pointer (some ⟨B, 0, none⟩), .int .i64 most] w (CPost w B p b f (Pk.dec 0 0 (rest b p)) 0) := by
  go_enter Tryz.func256, Tryz.ntmps256
  have HN' : Hid (Calls Tryz.prog 142 #[.pointer (some ⟨B, 0, none⟩), .int .u64 0, .int .i64 23] w (NPost w B p b f (Pk.dec 0 0 (rest b p)) 0 23)) := (by have h0 := number_any (most := 0) (above := 23) h hp hb; rw [show ((0 : Nat) : Int) = 0 from rfl] at h0; exact h0)
  go_wp2_with fail
  try rw [Int.max_eq_right (show most ≤ 0 by omega)]
  refine HN'.out.mono ?_
  rintro e w' (⟨n, m, hD, hn, rfl, hR, hg⟩ | ⟨n, m, hD, hn, he, hR, hg⟩ | ⟨k, hk, hD, he, hR, hg⟩)
  · have HD : Hid (Pk.dec 0 0 (rest b p) = (0, n, m)) := hD
    clear hD
    go_wp2_with fail
    go_ret
    exact .inl ⟨n, m, HD.out, hn, by go_num, hR, hg⟩
  · have HD : Hid (Pk.dec 0 0 (rest b p) = (0, n, m)) := hD
    clear hD
    unfold Gives at he
    subst he
    go_wp2_with fail
    exact ⟨rfl, .inr (.inl ⟨n, m, HD.out, hn, rfl, hR, hg⟩)⟩
  · have HD : Hid (Pk.dec 0 0 (rest b p) = (k, 0, 0)) := hD
    clear hD
    unfold Gives at he
    subst he
    go_wp2_with fail
    exact ⟨rfl, .inr (.inr ⟨k, hk, HD.out, rfl, hR, hg⟩)⟩
theorem count_any {w : World} {B p : Nat} {most : Int} {b : ByteArray} {f : Int} (h : Rd w B b p f) (hp : p ≤ b.size) (hb : b.size ≤ 140737488351232) (hm : most ≤ 9223372036854775807) :
    Calls Tryz.prog 256 #[.pointer (some ⟨B, 0, none⟩), .int .i64 most] w (CPost w B p b f (Pk.dec 0 0 (rest b p)) most.toNat) := by
  rcases Int.lt_or_le most 0 with h0 | h0
  · rw [show most.toNat = 0 by omega]; exact count_neg h hp hb h0
  · obtain ⟨n, rfl⟩ := Int.eq_ofNat_of_zero_le h0
    exact count_pos h hp hb (by omega)

set_option maxHeartbeats 400000 in
theorem clone_any (s : ByteArray) (w : World) (hlim : s.size ≤ 281474976710656) : Calls Tryz.prog 255 #[.string s] w fun e w' => e = .returned (.string s) ∧ Below w.heap.size w w' := by
  go_enter Tryz.func255, Tryz.ntmps255
  go_wp2_with (go_at_call 277; refine (Tryz.stringslite_Clone s _ hlim).mono ?_; rintro e w' ⟨rfl, hb⟩)
  go_ret
  exact ⟨rfl, hb⟩

/- what a closure that reads comes to: an answer and a place, or an error's number -/
def RPost (w : World) (B : Nat) (b : ByteArray) (A : Value) (q k : Nat) (e : Ending) (w' : World) : Prop :=
  (k = 0 ∧ e = .returned A ∧ Rd w' B b (q : Int) 0 ∧ w.grownBy w' (some B)) ∨ (k ≠ 0 ∧ Gives e k ∧ (∃ q : Int, Rd w' B b q 0) ∧ w.grownBy w' (some B))

/-- Num's outcome: the error's number (0: none), the number, the place -/
def numK (b : ByteArray) (p most : Nat) (above : Nat) : Nat := if (Pk.dec 0 0 (rest b p)).1 ≠ 0 then (Pk.dec 0 0 (rest b p)).1 else if most < (Pk.dec 0 0 (rest b p)).2.1 then above else 0
def numV (b : ByteArray) (p : Nat) : Nat := (Pk.dec 0 0 (rest b p)).2.1
def numQ (b : ByteArray) (p : Nat) : Nat := p + (Pk.dec 0 0 (rest b p)).2.2
theorem numK_ok {b : ByteArray} {p most above n m : Nat} (h : Pk.dec 0 0 (rest b p) = (0, n, m)) (hn : n ≤ most) : numK b p most above = 0 := by
  unfold numK; rw [h]; simp; omega
theorem numK_above {b : ByteArray} {p most above n m : Nat} (h : Pk.dec 0 0 (rest b p) = (0, n, m)) (hn : most < n) : numK b p most above = above := by
  unfold numK; rw [h]; simp; omega
theorem numK_bad {b : ByteArray} {p most above k : Nat} (h : Pk.dec 0 0 (rest b p) = (k, 0, 0)) (hk : k ≠ 0) : numK b p most above = k := by
  unfold numK; rw [h]; simp [hk]

set_option maxHeartbeats 400000 in
theorem num1_any {w : World} {B X Y p most : Nat} {b : ByteArray} (h : Rd w B b p 0) (hp : p ≤ b.size) (hb : b.size ≤ 140737488351232)
    (hX : w.cell? ⟨X, 0, none⟩ = some (.pointer (some ⟨B, 0, none⟩))) (hY : w.cell? ⟨Y, 0, none⟩ = some (.int .u64 (most : Int))) :
    Calls Tryz.prog 141 #[.pointer (some ⟨X, 0, none⟩), .pointer (some ⟨Y, 0, none⟩)] w (RPost w B b (.int .u64 (numV b p : Int)) (numQ b p) (numK b p most 21)) := by
  go_enter Tryz.func141, Tryz.ntmps141
  go_wp2_with fail
  refine (number_any (most := most) h hp hb).mono ?_
  rintro e w' (⟨n, m, hD, hn, rfl, hR, hg⟩ | ⟨n, m, hD, hn, he, hR, hg⟩ | ⟨k, hk, hD, he, hR, hg⟩)
  · have HK : Hid (numK b p most 21 = 0) := numK_ok hD hn
    have HV : Hid (numV b p = n) := (show numV b p = n by unfold numV; rw [hD])
    have HQ : Hid (numQ b p = p + m) := (show numQ b p = p + m by unfold numQ; rw [hD])
    clear hD
    go_wp2_with fail
    go_ret
    exact .inl ⟨HK.out, by rw [HV.out]; rfl, by rw [HQ.out]; exact hR, hg⟩
  · have HK : Hid (numK b p most 21 = 21) := numK_above hD hn
    clear hD
    unfold Gives at he
    subst he
    go_wp2_with fail
    exact ⟨rfl, .inr ⟨by rw [HK.out]; decide, by rw [HK.out]; rfl, hR, hg⟩⟩
  · have HK : Hid (numK b p most 21 = k) := numK_bad hD hk
    clear hD
    unfold Gives at he
    subst he
    go_wp2_with fail
    exact ⟨rfl, .inr ⟨by rw [HK.out]; exact hk, by rw [HK.out]; rfl, hR, hg⟩⟩
end Go.Proofs.YtkfnedhllfdghaaGreatDoor
end

section
namespace Go.Proofs.YtkfnedhllfdghaaGreatDoor
set_option maxRecDepth 20000
open Go.RowKit

set_option maxHeartbeats 400000 in
theorem list1_any {w : World} {B X Y p : Nat} {most : Int} {b : ByteArray} (h : Rd w B b p 0) (hp : p ≤ b.size) (hb : b.size ≤ 140737488351232) (hm : most ≤ 9223372036854775807)
    (hX : w.cell? ⟨X, 0, none⟩ = some (.pointer (some ⟨B, 0, none⟩))) (hY : w.cell? ⟨Y, 0, none⟩ = some (.int .i64 most)) :
    Calls Tryz.prog 258 #[.pointer (some ⟨X, 0, none⟩), .pointer (some ⟨Y, 0, none⟩)] w (RPost w B b (.int .i64 (numV b p : Int)) (numQ b p) (numK b p most.toNat 23)) := by
  go_enter Tryz.func258, Tryz.ntmps258
  go_wp2_with fail
  refine (count_any h hp hb hm).mono ?_
  rintro e w' (⟨n, m, hD, hn, rfl, hR, hg⟩ | ⟨n, m, hD, hn, he, hR, hg⟩ | ⟨k, hk, hD, he, hR, hg⟩)
  · have HK : Hid (numK b p most.toNat 23 = 0) := numK_ok hD hn
    have HV : Hid (numV b p = n) := (show numV b p = n by unfold numV; rw [hD])
    have HQ : Hid (numQ b p = p + m) := (show numQ b p = p + m by unfold numQ; rw [hD])
    clear hD
    go_wp2_with fail
    go_ret
    exact .inl ⟨HK.out, by rw [HV.out]; rfl, by rw [HQ.out]; exact hR, hg⟩
  · have HK : Hid (numK b p most.toNat 23 = 23) := numK_above hD hn
    clear hD
    unfold Gives at he
    subst he
    go_wp2_with fail
    exact ⟨rfl, .inr ⟨by rw [HK.out]; decide, by rw [HK.out]; rfl, hR, hg⟩⟩
  · have HK : Hid (numK b p most.toNat 23 = k) := numK_bad hD hk
    clear hD
    unfold Gives at he
    subst he
    go_wp2_with fail
    exact ⟨rfl, .inr ⟨by rw [HK.out]; exact hk, by rw [HK.out]; rfl, hR, hg⟩⟩

/- the deferred closures of face: a panic with an error's number becomes the reader's fault at the place where it began; else nothing -/
theorem assert_yes (W : World) (n : Int) : (Instr.typeAssert (.iface 28 (.int .i64 n)) 20 28 true).run Tryz.prog W = .ok (.tuple #[.int .i64 n, .bool true]) W := by kernel_rfl
theorem assert_nil (W : World) : (Instr.typeAssert .nilIface 20 28 true).run Tryz.prog W = .ok (.tuple #[.int .i64 0, .bool false]) W := by kernel_rfl

set_option maxHeartbeats 400000 in
theorem catchU {w : World} {B X Z : Nat} {b : ByteArray} {q f : Int} {p k : Int} (h : Rd w B b q f)
    (hZ : w.cell? ⟨Z, 0, none⟩ = some (.int .i64 p)) (hX : w.cell? ⟨X, 0, none⟩ = some (.pointer (some ⟨B, 0, none⟩))) (older : List PanicEntry) :
    CallsD Tryz.prog 175 #[.pointer (some ⟨Z, 0, none⟩), .pointer (some ⟨X, 0, none⟩)] (.panicking ({ v := .iface 28 (.int .i64 k), recovered := false } :: older)) w fun e u' w' =>
      e = .returned (.tuple #[]) ∧ u' = .panicking ({ v := .iface 28 (.int .i64 k), recovered := true } :: older) ∧ w' = (w.setCell ⟨B, 1, none⟩ (.int .i64 p)).setCell ⟨B, 2, none⟩ (.int .i64 k) := by
  have z1 := h.z 1
  have z2 := (h.set1 (q := p)).z 2
  have c1 := h.c1
  have c2 := (h.set1 (q := p)).c2
  refine callsD_of_wpS Tryz.func175 rfl fun c₀ cs hu => ?_
  apply wpS_seq
  apply wpS_region
  simp [wpOpsS, go_sem, recoverD, hu, Tryz.ntmps175, Exit.thenS, assert_yes]
  apply wpS_seq
  apply wpS_region
  simp [wpOpsS, go_sem, Exit.thenS]
  refine wpS_cond (t := true) (by simp [Act.eval, Array.replicate]) ?_
  simp only [if_true]
  refine wpS_of_wp ?_
  simp only [Array.replicate, List.replicate]
  go_wp2
  exact ⟨rfl, _, rfl, _, results_none rfl _ _ _, rfl, rfl, rfl⟩

set_option maxHeartbeats 400000 in
theorem idleU (w : World) (Z X : Nat) :
    CallsD Tryz.prog 175 #[.pointer (some ⟨Z, 0, none⟩), .pointer (some ⟨X, 0, none⟩)] .returning w fun e u' w' => e = .returned (.tuple #[]) ∧ u' = .returning ∧ w' = w := by
  refine callsD_of_wpS Tryz.func175 rfl fun c₀ cs hu => ?_
  apply wpS_seq
  apply wpS_region
  simp [wpOpsS, go_sem, recoverD, hu, Tryz.ntmps175, Exit.thenS, assert_nil]
  apply wpS_seq
  apply wpS_region
  simp [wpOpsS, go_sem, Exit.thenS]
  refine wpS_cond (t := false) (by simp [Act.eval, Array.replicate]) ?_
  simp only [Bool.false_eq_true, if_false]
  refine wpS_of_wp (wp_skip ?_)
  cases c₀
  simp_all [bodyPostS, results, Tryz.results175]

set_option maxHeartbeats 400000 in
theorem catchI {w : World} {B X Z : Nat} {b : ByteArray} {q f : Int} {p k : Int} (h : Rd w B b q f)
    (hZ : w.cell? ⟨Z, 0, none⟩ = some (.int .i64 p)) (hX : w.cell? ⟨X, 0, none⟩ = some (.pointer (some ⟨B, 0, none⟩))) (older : List PanicEntry) :
    CallsD Tryz.prog 278 #[.pointer (some ⟨Z, 0, none⟩), .pointer (some ⟨X, 0, none⟩)] (.panicking ({ v := .iface 28 (.int .i64 k), recovered := false } :: older)) w fun e u' w' =>
      e = .returned (.tuple #[]) ∧ u' = .panicking ({ v := .iface 28 (.int .i64 k), recovered := true } :: older) ∧ w' = (w.setCell ⟨B, 1, none⟩ (.int .i64 p)).setCell ⟨B, 2, none⟩ (.int .i64 k) := by
  have z1 := h.z 1
  have z2 := (h.set1 (q := p)).z 2
  have c1 := h.c1
  have c2 := (h.set1 (q := p)).c2
  refine callsD_of_wpS Tryz.func278 rfl fun c₀ cs hu => ?_
  apply wpS_seq
  apply wpS_region
  simp [wpOpsS, go_sem, recoverD, hu, Tryz.ntmps278, Exit.thenS, assert_yes]
  apply wpS_seq
  apply wpS_region
  simp [wpOpsS, go_sem, Exit.thenS]
  refine wpS_cond (t := true) (by simp [Act.eval, Array.replicate]) ?_
  simp only [if_true]
  refine wpS_of_wp ?_
  simp only [Array.replicate, List.replicate]
  go_wp2
  exact ⟨rfl, _, rfl, _, results_none rfl _ _ _, rfl, rfl, rfl⟩

set_option maxHeartbeats 400000 in
theorem idleI (w : World) (Z X : Nat) :
    CallsD Tryz.prog 278 #[.pointer (some ⟨Z, 0, none⟩), .pointer (some ⟨X, 0, none⟩)] .returning w fun e u' w' => e = .returned (.tuple #[]) ∧ u' = .returning ∧ w' = w := by
  refine callsD_of_wpS Tryz.func278 rfl fun c₀ cs hu => ?_
  apply wpS_seq
  apply wpS_region
  simp [wpOpsS, go_sem, recoverD, hu, Tryz.ntmps278, Exit.thenS, assert_nil]
  apply wpS_seq
  apply wpS_region
  simp [wpOpsS, go_sem, Exit.thenS]
  refine wpS_cond (t := false) (by simp [Act.eval, Array.replicate]) ?_
  simp only [Bool.false_eq_true, if_false]
  refine wpS_of_wp (wp_skip ?_)
  cases c₀
  simp_all [bodyPostS, results, Tryz.results278]

set_option maxHeartbeats 400000 in
theorem catchS {w : World} {B X Z : Nat} {b : ByteArray} {q f : Int} {p k : Int} (h : Rd w B b q f)
    (hZ : w.cell? ⟨Z, 0, none⟩ = some (.int .i64 p)) (hX : w.cell? ⟨X, 0, none⟩ = some (.pointer (some ⟨B, 0, none⟩))) (older : List PanicEntry) :
    CallsD Tryz.prog 276 #[.pointer (some ⟨Z, 0, none⟩), .pointer (some ⟨X, 0, none⟩)] (.panicking ({ v := .iface 28 (.int .i64 k), recovered := false } :: older)) w fun e u' w' =>
      e = .returned (.tuple #[]) ∧ u' = .panicking ({ v := .iface 28 (.int .i64 k), recovered := true } :: older) ∧ w' = (w.setCell ⟨B, 1, none⟩ (.int .i64 p)).setCell ⟨B, 2, none⟩ (.int .i64 k) := by
  have z1 := h.z 1
  have z2 := (h.set1 (q := p)).z 2
  have c1 := h.c1
  have c2 := (h.set1 (q := p)).c2
  refine callsD_of_wpS Tryz.func276 rfl fun c₀ cs hu => ?_
  apply wpS_seq
  apply wpS_region
  simp [wpOpsS, go_sem, recoverD, hu, Tryz.ntmps276, Exit.thenS, assert_yes]
  apply wpS_seq
  apply wpS_region
  simp [wpOpsS, go_sem, Exit.thenS]
  refine wpS_cond (t := true) (by simp [Act.eval, Array.replicate]) ?_
  simp only [if_true]
  refine wpS_of_wp ?_
  simp only [Array.replicate, List.replicate]
  go_wp2
  exact ⟨rfl, _, rfl, _, results_none rfl _ _ _, rfl, rfl, rfl⟩

set_option maxHeartbeats 400000 in
theorem idleS (w : World) (Z X : Nat) :
    CallsD Tryz.prog 276 #[.pointer (some ⟨Z, 0, none⟩), .pointer (some ⟨X, 0, none⟩)] .returning w fun e u' w' => e = .returned (.tuple #[]) ∧ u' = .returning ∧ w' = w := by
  refine callsD_of_wpS Tryz.func276 rfl fun c₀ cs hu => ?_
  apply wpS_seq
  apply wpS_region
  simp [wpOpsS, go_sem, recoverD, hu, Tryz.ntmps276, Exit.thenS, assert_nil]
  apply wpS_seq
  apply wpS_region
  simp [wpOpsS, go_sem, Exit.thenS]
  refine wpS_cond (t := false) (by simp [Act.eval, Array.replicate]) ?_
  simp only [Bool.false_eq_true, if_false]
  refine wpS_of_wp (wp_skip ?_)
  cases c₀
  simp_all [bodyPostS, results, Tryz.results276]
end Go.Proofs.YtkfnedhllfdghaaGreatDoor
end

section
namespace Go.Proofs.YtkfnedhllfdghaaGreatDoor
set_option maxRecDepth 20000
open Go.RowKit

/-- what a face comes to: what was read, and the reader behind it; or nothing, and the fault -/
structure FPost (w : World) (B : Nat) (b : ByteArray) (p : Int) (A Z : Value) (q k : Nat) (e : Ending) (w' : World) : Prop where
  ok : k = 0 → e = .returned A ∧ Rd w' B b (q : Int) 0
  no : k ≠ 0 → e = .returned Z ∧ Rd w' B b p (k : Int)
  grown : w.grownBy w' (some B)

theorem grown_trans {a b c : World} {r : Option Nat} (h : a.grownBy b r) (k : b.grownBy c r) : a.grownBy c r :=
  ⟨k.os.trans h.os, k.tape.trans h.tape, k.output.trans h.output, Nat.le_trans h.size k.size, fun i hi hn => (k.block i (Nat.lt_of_lt_of_le hi h.size) hn).trans (h.block i hi hn)⟩
theorem grown_set (w : World) (B k : Nat) (u : Value) : w.grownBy (w.setCell ⟨B, k, none⟩ u) (some B) :=
  ⟨rfl, rfl, rfl, by show _ ≤ (w.heap.modify B _).size; simp, fun i _ hi => Below.heap_setCell w ⟨B, k, none⟩ u i (fun e => hi (by rw [e]))⟩
theorem grown_below {w w' : World} (h : Below w.heap.size w w') (r : Option Nat) : w.grownBy w' r := ⟨h.os, h.tape, h.output, h.size, fun i hi _ => h.block i hi⟩
theorem below_alloc (w : World) (o : Obj) : Below w.heap.size w (w.alloc o) := (Below.refl _ _).alloc (Nat.le_refl _) o

/-- the world in which a face calls what reads: two boxes more -/
abbrev box2 (w : World) (B : Nat) (p : Int) : World := (w.alloc (.cells #[.pointer (some ⟨B, 0, none⟩)] 171)).alloc (.cells #[.int .i64 p] 3)
theorem box2_below (w : World) (B : Nat) (p : Int) : Below w.heap.size w (box2 w B p) := ((Below.refl _ _).alloc (Nat.le_refl _) _).alloc (by simp) _
theorem box2_X (w : World) (B : Nat) (p : Int) : (box2 w B p).cell? ⟨w.heap.size, 0, none⟩ = some (.pointer (some ⟨B, 0, none⟩)) := by
  rw [World.cell?_alloc_past _ _ _ (by simp), World.cell?_alloc_at _ _ _ _ rfl]; rfl
theorem box2_Z (w : World) (B : Nat) (p : Int) : (box2 w B p).cell? ⟨w.heap.size + 1, 0, none⟩ = some (.int .i64 p) := by
  rw [World.cell?_alloc_at _ _ _ _ (by simp)]; rfl
theorem box2_size (w : World) (B : Nat) (p : Int) : (box2 w B p).heap.size = w.heap.size + 2 := by simp

set_option maxHeartbeats 400000 in
theorem faceU {w : World} {B p : Nat} {b : ByteArray} (h : Rd w B b p 0) (C : FuncId) (caps : Array Value) (A : Value) (q k : Nat)
    (hrun : ∀ w1 : World, (callFunc C caps).run Tryz.prog w1 = .ok (.enter C caps) w1)
    (hc : ∀ w1, Below w.heap.size w w1 → Rd w1 B b p 0 → Calls Tryz.prog C caps w1 (RPost w1 B b A q k)) :
    Calls Tryz.prog 140 #[.pointer (some ⟨B, 0, none⟩), .func (.func C) #[] caps] w (FPost w B b p A (.int .u64 0) q k) := by
  have hmf : ∀ (fn : Fn) (first cap : Array Value) (w : World), (Instr.makeFunc fn first cap).run Tryz.prog w = .ok (.func fn first cap) w := fun _ _ _ _ => rfl
  have HC : Hid (∀ w1, Below w.heap.size w w1 → Rd w1 B b p 0 → Calls Tryz.prog C caps w1 (RPost w1 B b A q k)) := hc
  have hlt := h.lt
  have c1 := h.c1
  have c2 := h.c2
  have hne : ¬ B = w.heap.size := by omega
  clear hc
  go_enter_defers Tryz.func140, Tryz.ntmps140
  go_wp2_with fail
  refine (HC.out _ (box2_below w B p) ((h.alloc _).alloc _)).mono ?_
  rintro e w' (⟨rfl, rfl, hR, hg⟩ | ⟨hk, he, ⟨q', hR⟩, hg⟩)
  · go_wp2_with fail
    refine leaves_cons (f := 175) (args := #[.pointer (some ⟨w.heap.size + 1, 0, none⟩), .pointer (some ⟨w.heap.size, 0, none⟩)]) (by simp) (by simp [go_sem]) ?_
    refine (idleU _ _ _).mono ?_
    rintro e u' w'' ⟨rfl, rfl, rfl⟩
    exact ⟨_, results_tmp rfl _ _ _, fun _ => ⟨rfl, hR⟩, fun h => absurd rfl h, grown_trans (grown_below (box2_below w B p) _) hg⟩
  · unfold Gives at he
    subst he
    have cX := hg.cell (box2_X w B p) (by simp; omega)
    have cZ := hg.cell (box2_Z w B p) (by simp; omega)
    go_wp2_with fail
    refine leaves_cons (f := 175) (args := #[.pointer (some ⟨w.heap.size + 1, 0, none⟩), .pointer (some ⟨w.heap.size, 0, none⟩)]) (by simp) (by simp [go_sem]) ?_
    refine (catchU hR cZ cX []).mono ?_
    rintro e u' w'' ⟨rfl, rfl, rfl⟩
    exact ⟨_, results_tmp rfl _ _ _, fun h0 => absurd h0 hk, fun _ => ⟨rfl, (hR.set1).set2⟩, grown_trans (grown_trans (grown_below (box2_below w B p) _) hg) (grown_trans (grown_set _ _ _ _) (grown_set _ _ _ _))⟩

set_option maxHeartbeats 400000 in
theorem faceU_dead {w : World} {B : Nat} {b : ByteArray} {p f : Int} (h : Rd w B b p f) (hf : f ≠ 0) (C : FuncId) (caps : Array Value) :
    Calls Tryz.prog 140 #[.pointer (some ⟨B, 0, none⟩), .func (.func C) #[] caps] w fun e w' => e = .returned (.int .u64 0) ∧ Below w.heap.size w w' := by
  have hlt := h.lt
  have c2 := h.c2
  have hne : ¬ B = w.heap.size := by omega
  have b0 : (f != 0) = true := by rw [bne_iff_ne]; exact hf
  clear hf
  go_enter_defers Tryz.func140, Tryz.ntmps140
  go_wp2_with fail
  exact ⟨_, results_tmp rfl _ _ _, rfl, below_alloc _ _⟩

set_option maxHeartbeats 400000 in
theorem faceI {w : World} {B p : Nat} {b : ByteArray} (h : Rd w B b p 0) (C : FuncId) (caps : Array Value) (A : Value) (q k : Nat)
    (hrun : ∀ w1 : World, (callFunc C caps).run Tryz.prog w1 = .ok (.enter C caps) w1)
    (hc : ∀ w1, Below w.heap.size w w1 → Rd w1 B b p 0 → Calls Tryz.prog C caps w1 (RPost w1 B b A q k)) :
    Calls Tryz.prog 257 #[.pointer (some ⟨B, 0, none⟩), .func (.func C) #[] caps] w (FPost w B b p A (.int .i64 0) q k) := by
  have hmf : ∀ (fn : Fn) (first cap : Array Value) (w : World), (Instr.makeFunc fn first cap).run Tryz.prog w = .ok (.func fn first cap) w := fun _ _ _ _ => rfl
  have HC : Hid (∀ w1, Below w.heap.size w w1 → Rd w1 B b p 0 → Calls Tryz.prog C caps w1 (RPost w1 B b A q k)) := hc
  have hlt := h.lt
  have c1 := h.c1
  have c2 := h.c2
  have hne : ¬ B = w.heap.size := by omega
  clear hc
  go_enter_defers Tryz.func257, Tryz.ntmps257
  go_wp2_with fail
  refine (HC.out _ (box2_below w B p) ((h.alloc _).alloc _)).mono ?_
  rintro e w' (⟨rfl, rfl, hR, hg⟩ | ⟨hk, he, ⟨q', hR⟩, hg⟩)
  · go_wp2_with fail
    refine leaves_cons (f := 278) (args := #[.pointer (some ⟨w.heap.size + 1, 0, none⟩), .pointer (some ⟨w.heap.size, 0, none⟩)]) (by simp) (by simp [go_sem]) ?_
    refine (idleI _ _ _).mono ?_
    rintro e u' w'' ⟨rfl, rfl, rfl⟩
    exact ⟨_, results_tmp rfl _ _ _, fun _ => ⟨rfl, hR⟩, fun h => absurd rfl h, grown_trans (grown_below (box2_below w B p) _) hg⟩
  · unfold Gives at he
    subst he
    have cX := hg.cell (box2_X w B p) (by simp; omega)
    have cZ := hg.cell (box2_Z w B p) (by simp; omega)
    go_wp2_with fail
    refine leaves_cons (f := 278) (args := #[.pointer (some ⟨w.heap.size + 1, 0, none⟩), .pointer (some ⟨w.heap.size, 0, none⟩)]) (by simp) (by simp [go_sem]) ?_
    refine (catchI hR cZ cX []).mono ?_
    rintro e u' w'' ⟨rfl, rfl, rfl⟩
    exact ⟨_, results_tmp rfl _ _ _, fun h0 => absurd h0 hk, fun _ => ⟨rfl, (hR.set1).set2⟩, grown_trans (grown_trans (grown_below (box2_below w B p) _) hg) (grown_trans (grown_set _ _ _ _) (grown_set _ _ _ _))⟩

set_option maxHeartbeats 400000 in
theorem faceI_dead {w : World} {B : Nat} {b : ByteArray} {p f : Int} (h : Rd w B b p f) (hf : f ≠ 0) (C : FuncId) (caps : Array Value) :
    Calls Tryz.prog 257 #[.pointer (some ⟨B, 0, none⟩), .func (.func C) #[] caps] w fun e w' => e = .returned (.int .i64 0) ∧ Below w.heap.size w w' := by
  have hlt := h.lt
  have c2 := h.c2
  have hne : ¬ B = w.heap.size := by omega
  have b0 : (f != 0) = true := by rw [bne_iff_ne]; exact hf
  clear hf
  go_enter_defers Tryz.func257, Tryz.ntmps257
  go_wp2_with fail
  exact ⟨_, results_tmp rfl _ _ _, rfl, below_alloc _ _⟩

set_option maxHeartbeats 400000 in
theorem faceS {w : World} {B p : Nat} {b : ByteArray} (h : Rd w B b p 0) (C : FuncId) (caps : Array Value) (A : Value) (q k : Nat)
    (hrun : ∀ w1 : World, (callFunc C caps).run Tryz.prog w1 = .ok (.enter C caps) w1)
    (hc : ∀ w1, Below w.heap.size w w1 → Rd w1 B b p 0 → Calls Tryz.prog C caps w1 (RPost w1 B b A q k)) :
    Calls Tryz.prog 253 #[.pointer (some ⟨B, 0, none⟩), .func (.func C) #[] caps] w (FPost w B b p A (.string ⟨#[]⟩) q k) := by
  have hmf : ∀ (fn : Fn) (first cap : Array Value) (w : World), (Instr.makeFunc fn first cap).run Tryz.prog w = .ok (.func fn first cap) w := fun _ _ _ _ => rfl
  have HC : Hid (∀ w1, Below w.heap.size w w1 → Rd w1 B b p 0 → Calls Tryz.prog C caps w1 (RPost w1 B b A q k)) := hc
  have hlt := h.lt
  have c1 := h.c1
  have c2 := h.c2
  have hne : ¬ B = w.heap.size := by omega
  clear hc
  go_enter_defers Tryz.func253, Tryz.ntmps253
  go_wp2_with fail
  refine (HC.out _ (box2_below w B p) ((h.alloc _).alloc _)).mono ?_
  rintro e w' (⟨rfl, rfl, hR, hg⟩ | ⟨hk, he, ⟨q', hR⟩, hg⟩)
  · go_wp2_with fail
    refine leaves_cons (f := 276) (args := #[.pointer (some ⟨w.heap.size + 1, 0, none⟩), .pointer (some ⟨w.heap.size, 0, none⟩)]) (by simp) (by simp [go_sem]) ?_
    refine (idleS _ _ _).mono ?_
    rintro e u' w'' ⟨rfl, rfl, rfl⟩
    exact ⟨_, results_tmp rfl _ _ _, fun _ => ⟨rfl, hR⟩, fun h => absurd rfl h, grown_trans (grown_below (box2_below w B p) _) hg⟩
  · unfold Gives at he
    subst he
    have cX := hg.cell (box2_X w B p) (by simp; omega)
    have cZ := hg.cell (box2_Z w B p) (by simp; omega)
    go_wp2_with fail
    refine leaves_cons (f := 276) (args := #[.pointer (some ⟨w.heap.size + 1, 0, none⟩), .pointer (some ⟨w.heap.size, 0, none⟩)]) (by simp) (by simp [go_sem]) ?_
    refine (catchS hR cZ cX []).mono ?_
    rintro e u' w'' ⟨rfl, rfl, rfl⟩
    exact ⟨_, results_tmp rfl _ _ _, fun h0 => absurd h0 hk, fun _ => ⟨rfl, (hR.set1).set2⟩, grown_trans (grown_trans (grown_below (box2_below w B p) _) hg) (grown_trans (grown_set _ _ _ _) (grown_set _ _ _ _))⟩

set_option maxHeartbeats 400000 in
theorem faceS_dead {w : World} {B : Nat} {b : ByteArray} {p f : Int} (h : Rd w B b p f) (hf : f ≠ 0) (C : FuncId) (caps : Array Value) :
    Calls Tryz.prog 253 #[.pointer (some ⟨B, 0, none⟩), .func (.func C) #[] caps] w fun e w' => e = .returned (.string ⟨#[]⟩) ∧ Below w.heap.size w w' := by
  have hlt := h.lt
  have c2 := h.c2
  have hne : ¬ B = w.heap.size := by omega
  have b0 : (f != 0) = true := by rw [bne_iff_ne]; exact hf
  clear hf
  go_enter_defers Tryz.func253, Tryz.ntmps253
  go_wp2_with fail
  exact ⟨_, results_tmp rfl _ _ _, rfl, below_alloc _ _⟩
end Go.Proofs.YtkfnedhllfdghaaGreatDoor
end
