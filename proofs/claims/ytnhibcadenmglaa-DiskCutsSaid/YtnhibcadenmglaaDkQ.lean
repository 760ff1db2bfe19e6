import Derived.Test.YtnhibcadenmglaaDkP
import Derived.Test.YtnhibcadenmglaaDkO
namespace Go.Proofs.Ytnhibcadenmglaa
open Go.RowKit

set_option maxHeartbeats 400000 in
theorem place_any {w : World} {n : Int} {m : Nat} (h0 : 0 < m) (h1 : m ≤ 1000) (_ : -9223372036854775808 ≤ n ∧ n ≤ 9223372036854775807) :
    Calls Try.prog 30 #[.int .i64 n, .int .i64 (m : Int)] w fun e w' => ∃ p : Nat, p < m ∧ e = .returned (.int .i64 (p : Int)) ∧ w' = w := by
  have ht1 : n.tmod (m : Int) < (m : Int) := Int.tmod_lt_of_pos _ (by omega)
  have ht2 : -(m : Int) < n.tmod (m : Int) := Int.lt_tmod_of_pos _ (by omega)
  have hz : (m : Int) ≠ 0 := by omega
  have hz1 : (m : Int) ≠ -1 := by omega
  generalize ht : n.tmod (m : Int) = t at *
  by_cases h : t < 0
  · have b0 : decide (t < 0) = true := by simpa using h
    go_enter Try.func30, Try.ntmps30
    go_wp2
    go_ret
    exact ⟨(t + m).toNat, by omega, by rw [show ((t + m).toNat : Int) = t + m by omega]; rfl, rfl⟩
  · have b0 : decide (t < 0) = false := by simpa using h
    go_enter Try.func30, Try.ntmps30
    go_wp2
    go_ret
    exact ⟨t.toNat, by omega, by rw [show (t.toNat : Int) = t by omega]; rfl, rfl⟩

set_option maxHeartbeats 1000000 in
set_option maxRecDepth 8000 in
/-- a write that is refused leaves all -/
theorem write_still {base : Nat} {w : World} {b : Nat} {F : Nat → Prop} {d : DS} (h : Dk base w b F d) (k : Int) (data : ByteArray) (hs : d.dead = true ∨ ¬ (0 ≤ k ∧ k < (d.S.length : Int)) ∨ data.size ≠ 128) :
    Calls Try.prog 20 #[.pointer (some ⟨b, 0, none⟩), .int .i64 k, .string data] w fun e w' => e = .returned (.int .i64 (d.write k data).1) ∧ w' = w := by
  have hsz := size_any h
  obtain ⟨vs, vr, h, rfl⟩ := h
  have c2 := h.c2
  have hS := h.ok.s1
  have HSZ := hide hsz
  clear hsz
  cases hd : d.dead
  · rw [hd] at c2
    by_cases hk : 0 ≤ k ∧ k < (d.S.length : Int)
    · obtain ⟨n, rfl⟩ : ∃ n : Nat, k = (n : Int) := ⟨k.toNat, by omega⟩
      have hn : n < d.S.length := by omega
      have b0 : decide ((0 : Int) ≤ (n : Int)) = true := by simp
      have b1 : decide ((n : Int) < (d.S.length : Int)) = true := by simp; omega
      by_cases hz : data.size = 128
      · exfalso
        rcases hs with hs | hs | hs
        · rw [hd] at hs; cases hs
        · exact hs hk
        · exact hs hz
      · rw [DS.write_size hd hk hz]
        have b2 : ((data.size : Int) == 128) = false := by simp; omega
        clear h hk
        go_enter Try.func20, Try.ntmps20
        go_wp2_with (first
          | (go_at_call 26; refine HSZ.out.mono ?_; rintro e w1 ⟨rfl, rfl⟩)
          | go_in)
        go_ret
        exact ⟨rfl, rfl⟩
    · rw [DS.write_none hd hk]
      by_cases h0 : 0 ≤ k
      · have b0 : decide ((0 : Int) ≤ k) = true := by simp; omega
        have b1 : decide (k < (d.S.length : Int)) = false := by simp; omega
        clear h hk h0
        go_enter Try.func20, Try.ntmps20
        go_wp2_with (first
          | (go_at_call 26; refine HSZ.out.mono ?_; rintro e w1 ⟨rfl, rfl⟩)
          | go_in)
        go_ret
        exact ⟨rfl, rfl⟩
      · have b0 : decide ((0 : Int) ≤ k) = false := by simp; omega
        clear h hk h0
        go_enter Try.func20, Try.ntmps20
        go_wp2_with (first
          | (go_at_call 26; refine HSZ.out.mono ?_; rintro e w1 ⟨rfl, rfl⟩)
          | go_in)
        go_ret
        exact ⟨rfl, rfl⟩
  · rw [hd] at c2
    rw [DS.write_dead hd]
    clear h
    go_enter Try.func20, Try.ntmps20
    go_wp2
    go_ret
    exact ⟨rfl, rfl⟩

set_option maxHeartbeats 1000000 in
/-- an Arm that is refused leaves all -/
theorem arm_still {base : Nat} {w : World} {b : Nat} {F : Nat → Prop} {d : DS} (h : Dk base w b F d) (n m : Int) (hd : d.dead = false) (hs : n < 0 ∨ ¬ (0 ≤ m ∧ m ≤ 128)) :
    Calls Try.prog 19 #[.pointer (some ⟨b, 0, none⟩), .int .i64 n, .int .i64 m] w fun e w' => e = .returned (.int .i64 1) ∧ w' = w := by
  obtain ⟨vs, vr, h, rfl⟩ := h
  have c2 := h.c2
  rw [hd] at c2
  clear h
  by_cases h1 : n < 0
  · have b0 : decide (n < 0) = true := by simp; omega
    go_enter Try.func19, Try.ntmps19
    go_wp2
    go_ret
    exact ⟨rfl, rfl⟩
  · have b0 : decide (n < 0) = false := by simp; omega
    by_cases h3 : 0 ≤ m
    · have b1 : decide (0 ≤ m) = true := by simp; omega
      have b2 : decide (m ≤ 128) = false := by simp; omega
      clear h1 h3 hs
      go_enter Try.func19, Try.ntmps19
      go_wp2
      go_ret
      exact ⟨rfl, rfl⟩
    · have b1 : decide (0 ≤ m) = false := by simp; omega
      clear h1 h3 hs
      go_enter Try.func19, Try.ntmps19
      go_wp2
      go_ret
      exact ⟨rfl, rfl⟩

theorem sectors_len {base : Nat} {w : World} {b : Nat} {F : Nat → Prop} {d : DS} (h : Dk base w b F d) {S : List ByteArray} {L : Nat} (e : d.S = S) (eL : S.length = L) :
    Calls Try.prog 22 #[.pointer (some ⟨b, 0, none⟩)] w fun e w' => ∃ ad cap ab, e = .returned (.slice ad L cap) ∧ Rs w' ad ab 0 S ∧ w.heap.size ≤ ab ∧ Below w.heap.size w w' := by
  subst e; subst eL
  exact sectors_rs h
theorem same_len {w : World} {ad ad' : Option Addr} {ab ao ab' ao' cap cap' : Nat} {l : List ByteArray} {L : Nat} (h : Rs w ad ab ao l) (h' : Rs w ad' ab' ao' l) (e : l.length = L) (hl : L ≤ 8796093021952) :
    Calls Try.prog 15 #[.slice ad L cap, .slice ad' L cap'] w fun e w' => e = .returned (.bool true) ∧ Below w.heap.size w w' := by
  subst e
  exact same_b h h' hl
theorem raw_len {base : Nat} {w : World} {b : Nat} {F : Nat → Prop} {d : DS} (h : Dk base w b F d) {R : List Wr} {L : Nat} (e : d.R = R) (eL : R.length = L) (hl : L * 24 ≤ 140737488355328) :
    Calls Try.prog 21 #[.pointer (some ⟨b, 0, none⟩)] w fun e w' => ∃ ad cap ab, e = .returned (.slice ad L cap) ∧ Rw w' ad ab 0 R ∧ (0 < L → w.heap.size ≤ ab) ∧ Below w.heap.size w w' := by
  subst e; subst eL
  exact raw_rw h hl
theorem sameRaw_len {w : World} {ad ad' : Option Addr} {ab ao ab' ao' cap cap' : Nat} {l : List Wr} {L : Nat} (h : Rw w ad ab ao l) (h' : Rw w ad' ab' ao' l) (e : l.length = L) (hl : L ≤ 5864062014634) :
    Calls Try.prog 18 #[.slice ad L cap, .slice ad' L cap'] w fun e w' => e = .returned (.bool true) ∧ Below w.heap.size w w' := by
  subst e
  exact sameRaw_b h h' hl
end Go.Proofs.Ytnhibcadenmglaa
