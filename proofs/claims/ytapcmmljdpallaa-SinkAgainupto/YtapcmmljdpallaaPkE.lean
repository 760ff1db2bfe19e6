import Derived.Test.YtapcmmljdpallaaPkD
namespace Go.Proofs.Ytapcmmljdpallaa
open Go.RowKit

/-- what count comes to -/
def CPost (w : World) (B p : Nat) (b : ByteArray) (f : Int) (D : Nat × Nat × Nat) (most : Nat) (e : Ending) (w' : World) : Prop :=
  (∃ n m, D = (0, n, m) ∧ n ≤ most ∧ e = .returned (.int .i64 (n : Int)) ∧ Rd w' B b ((p + m : Nat) : Int) f ∧ w.grownBy w' (some B)) ∨
  (∃ n m, D = (0, n, m) ∧ most < n ∧ Gives e 23 ∧ (∃ q : Int, Rd w' B b q f) ∧ w.grownBy w' (some B)) ∨
  (∃ k : Nat, k ≠ 0 ∧ D = (k, 0, 0) ∧ Gives e k ∧ (∃ q : Int, Rd w' B b q f) ∧ w.grownBy w' (some B))

set_option maxHeartbeats 400000 in
theorem count_pos {w : World} {B p most : Nat} {b : ByteArray} {f : Int} (h : Rd w B b p f) (hp : p ≤ b.size) (hb : b.size ≤ 140737488351232) (hm : most ≤ 9223372036854775807) :
    Calls Try.prog 90 #[.pointer (some ⟨B, 0, none⟩), .int .i64 (most : Int)] w (CPost w B p b f (Pk.dec 0 0 (rest b p)) most) := by
  go_enter Try.func90, Try.ntmps90
  go_wp2_with fail
  refine (number_any (most := most) h hp hb).mono ?_
  rintro e w' (⟨n, m, hD, hn, rfl, hR, hg⟩ | ⟨n, m, hD, hn, he, hR, hg⟩ | ⟨k, hk, hD, he, hR, hg⟩)
  · have HD : Hid (Pk.dec 0 0 (rest b p) = (0, n, m)) := hD
    clear hD
    go_wp2_with fail
    go_ret
    exact .inl ⟨n, m, HD.out, hn, by go_num, hR, hg⟩
  · have HD : Hid (Pk.dec 0 0 (rest b p) = (0, n, m)) := hD
    clear hD
    unfold Gives at he
    subst he
    go_wp2_with fail
    exact ⟨rfl, .inr (.inl ⟨n, m, HD.out, hn, rfl, hR, hg⟩)⟩
  · have HD : Hid (Pk.dec 0 0 (rest b p) = (k, 0, 0)) := hD
    clear hD
    unfold Gives at he
    subst he
    go_wp2_with fail
    exact ⟨rfl, .inr (.inr ⟨k, hk, HD.out, rfl, hR, hg⟩)⟩
set_option maxRecDepth 8000 in
set_option maxHeartbeats 400000 in
theorem count_neg {w : World} {B p : Nat} {most : Int} {b : ByteArray} {f : Int} (h : Rd w B b p f) (hp : p ≤ b.size) (hb : b.size ≤ 140737488351232) (hm : most < 0) :
    Calls Try.prog 90 #[.pointer (some ⟨B, 0, none⟩), .int .i64 most] w (CPost w B p b f (Pk.dec 0 0 (rest b p)) 0) := by
  go_enter Try.func90, Try.ntmps90
  have HN' : Hid (Calls Try.prog 37 #[.pointer (some ⟨B, 0, none⟩), .int .u64 0, .int .i64 23] w (NPost w B p b f (Pk.dec 0 0 (rest b p)) 0 23)) := (by have h0 := number_any (most := 0) (above := 23) h hp hb; rw [show ((0 : Nat) : Int) = 0 from rfl] at h0; exact h0)
  go_wp2_with fail
  try rw [Int.max_eq_right (show most ≤ 0 by omega)]
  refine HN'.out.mono ?_
  rintro e w' (⟨n, m, hD, hn, rfl, hR, hg⟩ | ⟨n, m, hD, hn, he, hR, hg⟩ | ⟨k, hk, hD, he, hR, hg⟩)
  · have HD : Hid (Pk.dec 0 0 (rest b p) = (0, n, m)) := hD
    clear hD
    go_wp2_with fail
    go_ret
    exact .inl ⟨n, m, HD.out, hn, by go_num, hR, hg⟩
  · have HD : Hid (Pk.dec 0 0 (rest b p) = (0, n, m)) := hD
    clear hD
    unfold Gives at he
    subst he
    go_wp2_with fail
    exact ⟨rfl, .inr (.inl ⟨n, m, HD.out, hn, rfl, hR, hg⟩)⟩
  · have HD : Hid (Pk.dec 0 0 (rest b p) = (k, 0, 0)) := hD
    clear hD
    unfold Gives at he
    subst he
    go_wp2_with fail
    exact ⟨rfl, .inr (.inr ⟨k, hk, HD.out, rfl, hR, hg⟩)⟩
theorem count_any {w : World} {B p : Nat} {most : Int} {b : ByteArray} {f : Int} (h : Rd w B b p f) (hp : p ≤ b.size) (hb : b.size ≤ 140737488351232) (hm : most ≤ 9223372036854775807) :
    Calls Try.prog 90 #[.pointer (some ⟨B, 0, none⟩), .int .i64 most] w (CPost w B p b f (Pk.dec 0 0 (rest b p)) most.toNat) := by
  rcases Int.lt_or_le most 0 with h0 | h0
  · rw [show most.toNat = 0 by omega]; exact count_neg h hp hb h0
  · obtain ⟨n, rfl⟩ := Int.eq_ofNat_of_zero_le h0
    exact count_pos h hp hb (by omega)

set_option maxHeartbeats 400000 in
theorem clone_any (s : ByteArray) (w : World) (hlim : s.size ≤ 281474976710656) : Calls Try.prog 89 #[.string s] w fun e w' => e = .returned (.string s) ∧ Below w.heap.size w w' := by
  go_enter Try.func89, Try.ntmps89
  go_wp2_with (go_at_call 93; refine (Try.stringslite_Clone s _ hlim).mono ?_; rintro e w' ⟨rfl, hb⟩)
  go_ret
  exact ⟨rfl, hb⟩

/- what a closure that reads comes to: an answer and a place, or an error's number -/
def RPost (w : World) (B : Nat) (b : ByteArray) (A : Value) (q k : Nat) (e : Ending) (w' : World) : Prop :=
  (k = 0 ∧ e = .returned A ∧ Rd w' B b (q : Int) 0 ∧ w.grownBy w' (some B)) ∨ (k ≠ 0 ∧ Gives e k ∧ (∃ q : Int, Rd w' B b q 0) ∧ w.grownBy w' (some B))

/-- Num's outcome: the error's number (0: none), the number, the place -/
def numK (b : ByteArray) (p most : Nat) (above : Nat) : Nat := if (Pk.dec 0 0 (rest b p)).1 ≠ 0 then (Pk.dec 0 0 (rest b p)).1 else if most < (Pk.dec 0 0 (rest b p)).2.1 then above else 0
def numV (b : ByteArray) (p : Nat) : Nat := (Pk.dec 0 0 (rest b p)).2.1
def numQ (b : ByteArray) (p : Nat) : Nat := p + (Pk.dec 0 0 (rest b p)).2.2
theorem numK_ok {b : ByteArray} {p most above n m : Nat} (h : Pk.dec 0 0 (rest b p) = (0, n, m)) (hn : n ≤ most) : numK b p most above = 0 := by
  unfold numK; rw [h]; simp; omega
theorem numK_above {b : ByteArray} {p most above n m : Nat} (h : Pk.dec 0 0 (rest b p) = (0, n, m)) (hn : most < n) : numK b p most above = above := by
  unfold numK; rw [h]; simp; omega
theorem numK_bad {b : ByteArray} {p most above k : Nat} (h : Pk.dec 0 0 (rest b p) = (k, 0, 0)) (hk : k ≠ 0) : numK b p most above = k := by
  unfold numK; rw [h]; simp [hk]

set_option maxHeartbeats 400000 in
theorem num1_any {w : World} {B X Y p most : Nat} {b : ByteArray} (h : Rd w B b p 0) (hp : p ≤ b.size) (hb : b.size ≤ 140737488351232)
    (hX : w.cell? ⟨X, 0, none⟩ = some (.pointer (some ⟨B, 0, none⟩))) (hY : w.cell? ⟨Y, 0, none⟩ = some (.int .u64 (most : Int))) :
    Calls Try.prog 36 #[.pointer (some ⟨X, 0, none⟩), .pointer (some ⟨Y, 0, none⟩)] w (RPost w B b (.int .u64 (numV b p : Int)) (numQ b p) (numK b p most 21)) := by
  go_enter Try.func36, Try.ntmps36
  go_wp2_with fail
  refine (number_any (most := most) h hp hb).mono ?_
  rintro e w' (⟨n, m, hD, hn, rfl, hR, hg⟩ | ⟨n, m, hD, hn, he, hR, hg⟩ | ⟨k, hk, hD, he, hR, hg⟩)
  · have HK : Hid (numK b p most 21 = 0) := numK_ok hD hn
    have HV : Hid (numV b p = n) := (show numV b p = n by unfold numV; rw [hD])
    have HQ : Hid (numQ b p = p + m) := (show numQ b p = p + m by unfold numQ; rw [hD])
    clear hD
    go_wp2_with fail
    go_ret
    exact .inl ⟨HK.out, by rw [HV.out]; rfl, by rw [HQ.out]; exact hR, hg⟩
  · have HK : Hid (numK b p most 21 = 21) := numK_above hD hn
    clear hD
    unfold Gives at he
    subst he
    go_wp2_with fail
    exact ⟨rfl, .inr ⟨by rw [HK.out]; decide, by rw [HK.out]; rfl, hR, hg⟩⟩
  · have HK : Hid (numK b p most 21 = k) := numK_bad hD hk
    clear hD
    unfold Gives at he
    subst he
    go_wp2_with fail
    exact ⟨rfl, .inr ⟨by rw [HK.out]; exact hk, by rw [HK.out]; rfl, hR, hg⟩⟩
end Go.Proofs.Ytapcmmljdpallaa
