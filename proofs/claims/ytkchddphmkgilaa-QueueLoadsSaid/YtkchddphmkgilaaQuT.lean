import Derived.Test.YtkchddphmkgilaaQuS
namespace Go.Proofs.Ytkchddphmkgilaa
open Go.RowKit

/-- a number, counted round -/
def pl (n : Int) (m : Nat) : Nat := (if n.tmod (m : Int) < 0 then n.tmod (m : Int) + m else n.tmod (m : Int)).toNat
theorem pl_lt {n : Int} {m : Nat} (h0 : 0 < m) : pl n m < m := by
  have ht1 : n.tmod (m : Int) < (m : Int) := Int.tmod_lt_of_pos _ (by omega)
  unfold pl
  split <;> omega
set_option maxHeartbeats 400000 in
theorem place_any {w : World} {n : Int} {m : Nat} (h0 : 0 < m) (h1 : m ≤ 1000) (_ : -9223372036854775808 ≤ n ∧ n ≤ 9223372036854775807) :
    Calls Try.prog 13 #[.int .i64 n, .int .i64 (m : Int)] w fun e w' => e = .returned (.int .i64 (pl n m : Int)) ∧ w' = w := by
  have ht1 : n.tmod (m : Int) < (m : Int) := Int.tmod_lt_of_pos _ (by omega)
  have ht2 : -(m : Int) < n.tmod (m : Int) := Int.lt_tmod_of_pos _ (by omega)
  have hz : (m : Int) ≠ 0 := by omega
  have hz1 : (m : Int) ≠ -1 := by omega
  unfold pl
  generalize ht : n.tmod (m : Int) = t at *
  obtain ⟨r, hr⟩ : ∃ r : Int, (((if t < 0 then t + m else t).toNat : Nat) : Int) = r := ⟨_, rfl⟩
  rw [hr]
  by_cases h : t < 0
  · have b0 : decide (t < 0) = true := by simpa using h
    have HR : Hid (r = t + m) := by rw [if_pos h] at hr; show r = t + m; omega
    clear hr
    go_enter Try.func13, Try.ntmps13
    go_wp2
    go_ret
    rw [HR.out]
    exact ⟨rfl, rfl⟩
  · have b0 : decide (t < 0) = false := by simpa using h
    have HR : Hid (r = t) := by rw [if_neg h] at hr; show r = t; omega
    clear hr
    go_enter Try.func13, Try.ntmps13
    go_wp2
    go_ret
    rw [HR.out]
    exact ⟨rfl, rfl⟩
section
variable {base : Nat} {w : World} {b : Nat} {v : Value} {L : List Rr} {m : Int}
/-- Submit, either way -/
def sbJ (L : List Rr) : Int := if L.length < 8 then (L.length : Int) + 1 else 0
def sbE (L : List Rr) : Int := if L.length < 8 then 0 else 110
def sbL (L : List Rr) : List Rr := if L.length < 8 then L ++ [nrow ((L.length : Int) + 1)] else L
theorem submit_any (h : Qm 47 base w b v m L) : Calls Try.prog 21 #[.pointer (some ⟨b, 0, none⟩)] w fun e w' => e = .returned (.tuple #[.int .i64 (sbJ L), .int .i64 (sbE L)]) ∧ ∃ v', Qm 47 base w' b v' m (sbL L) ∧ Mv (Ft b v) (Ft b v') w w' := by
  unfold sbJ sbE sbL
  by_cases hl : L.length < 8
  · rw [if_pos hl, if_pos hl, if_pos hl]; exact submit_yes h hl
  · rw [if_neg hl, if_neg hl, if_neg hl]
    refine (submit_no h (by omega)).mono ?_
    rintro e w' ⟨rfl, rfl⟩
    exact ⟨rfl, v, h, mv_refl _ _⟩
theorem Ok.submit (h : Ok m L) : Ok m (sbL L) := by
  unfold sbL; split
  · exact h.push (by assumption)
  · exact h
end
set_option maxHeartbeats 1000000 in
set_option maxRecDepth 8000 in
theorem fixed_any (w : World) : Calls Try.prog 8 #[] w fun e w' => e = .returned (.bool true) ∧ Below w.heap.size w w' := by
  have hg := guardR
  have heq : ∀ W : World, (binOp .eql 30 (.agg #[.int .i64 1, .int .i64 2, .int .i64 1, .int .i64 5, .int .i64 2, .int .i64 1, .int .i64 0, .int .u64 0]) (.agg #[.int .i64 1, .int .i64 2, .int .i64 1, .int .i64 5, .int .i64 2, .int .i64 1, .int .i64 0, .int .u64 0])).run Try.prog W = .ok (.bool true) W := fun W => by
    have := eqlR_any ⟨1, 2, 1, 5, 2, 1, 0, 0⟩ ⟨1, 2, 1, 5, 2, 1, 0, 0⟩ W
    rw [decide_eq_true rfl] at this
    exact this
  have HEQ := hide heq
  clear heq
  go_enter Try.func8, Try.ntmps8
  go_wp2_with fail
  refine (qnew_any w 2).mono ?_
  rintro e w1 (⟨h, _⟩ | ⟨b, v, hk, rfl, hq, hB⟩)
  · exact absurd (by decide) h
  have HQ := hide hq
  have HB := hide hB
  clear hk hq hB
  go_wp2_with fail
  refine (qhead_any HQ.out (by decide)).mono ?_
  rintro e w2 ⟨rfl, hB2⟩
  rw [show hd [] = 0 from rfl]
  have HQ2 := hide (HQ.out.below hB2)
  have HB2 := hide (HB.out.trans (hB2.mono HB.out.size))
  clear hB2 HQ HB
  go_wp2_with fail
  refine (submit_yes HQ2.out (by decide)).mono ?_
  rintro e w3 ⟨rfl, v3, hq3, hm3⟩
  simp only [List.length_nil, List.nil_append] at hq3 ⊢
  rw [show ((0 : Nat) : Int) + 1 = 1 from rfl] at hq3 ⊢
  have HQ3 := hide hq3
  have HB3 := hide (HB2.out.trans (hm3.below HB2.out.size fun k hk => (HQ2.out.ftlt k hk).1))
  have HK3 : Hid (Ok 2 [nrow 1]) := hide ((⟨ROk.nil 2, by decide, by decide⟩ : Ok 2 []).push (by decide))
  clear hq3 hm3 HQ2 HB2
  go_wp2_with fail
  refine (grant_any HQ3.out HK3.out 1 5 2 1).mono ?_
  rintro e w4 ⟨rfl, hq4, hm4⟩
  rw [show grE [nrow 1] 1 5 2 1 = 0 by decide] at *
  rw [show grL [nrow 1] 1 5 2 1 = [⟨1, 2, 1, 5, 2, 1, 0, 0⟩] by decide] at hq4
  have HQ4 := hide hq4
  have HB4 := hide (HB3.out.trans (hm4.below HB3.out.size fun k hk => (HQ3.out.ftlt k hk).1))
  clear hq4 hm4 HQ3 HB3 HK3
  go_wp2_with fail
  refine (qfind_any HQ4.out (by decide) 5).mono ?_
  rintro e w5 ⟨rfl, hB5⟩
  rw [show fnd 5 [⟨1, 2, 1, 5, 2, 1, 0, 0⟩] = ⟨1, 2, 1, 5, 2, 1, 0, 0⟩ by decide]
  rw [show (!decide ((⟨1, 2, 1, 5, 2, 1, 0, 0⟩ : Rr) = rr0)) = true by decide]
  have HB5 := hide (HB4.out.trans (hB5.mono HB4.out.size))
  clear hB5 HQ4 HB4
  have heq := HEQ.out
  go_wp2
  go_ret
  exact ⟨rfl, HB5.out.alloc HB5.out.size _⟩
end Go.Proofs.Ytkchddphmkgilaa
