import Derived.Test.YthnmjjlbocofbaaQuUw
namespace Go.Proofs.Ythnmjjlbocofbaa
open Go.RowKit

/-- a call, boxed -/
abbrev Rr.oobj (d : Rr) : Obj := .cells #[.int .i64 d.job, .int .i64 d.st, .int .i64 d.att, .int .i64 d.bdg, .int .i64 d.node, .int .i64 d.life, .int .i64 d.code, .int .u64 d.bits] 48 (0, 0)
section
variable {base : Nat} {w : World} {b : Nat} {v : Value} {L : List Rr} {m : Int}
set_option maxHeartbeats 2000000 in
set_option maxRecDepth 8000 in
theorem does_any (h : Qm 73 base w b v m L) (hk : Ok m L) (o : Rr) : Calls Try.prog 23 #[.pointer (some ⟨b, 0, none⟩), o.val] w fun e w' => e = .returned (.bool (dsB L o)) ∧ ∃ v', Qm 73 base w' b v' m (dsL m L o) ∧ Mv (Ft b v) (Ft b v') w w' := by
  have HQ := hide (h.alloc o.oobj)
  have HM := hide (mv_alloc (mv_refl (Ft b v) w) o.oobj)
  have HK := hide hk
  clear h hk
  by_cases h0 : o.st = 0
  · have HE : Hid (dsB L o = (sbE L != 0)) := by show dsB L o = _; unfold dsB; rw [if_pos h0]; first | rfl | (unfold sbE; split <;> simp_all)
    have HL : Hid (dsL m L o = sbL L) := by show dsL m L o = _; unfold dsL; rw [if_pos h0]; first | rfl | (unfold sbE; split <;> simp_all)
    have b0 : (o.st == 0) = true := by simpa using h0
    clear h0
    go_enter Try.func23, Try.ntmps23
    go_wp2_with fail
    refine (submit_any HQ.out).mono ?_
    rintro e w1 ⟨rfl, v1, hq1, hm1⟩
    generalize sbE L = E at *
    go_wp2
    go_ret
    rw [HE.out, HL.out]
    exact ⟨rfl, v1, hq1, HM.out.trans hm1⟩
  have n0 : (o.st == 0) = false := by simpa using h0
  by_cases h2 : o.st = 2
  · have HE : Hid (dsB L o = (grE L o.att o.bdg o.node o.life != 0)) := by show dsB L o = _; unfold dsB; rw [if_neg h0, if_pos h2]
    have HL : Hid (dsL m L o = grL L o.att o.bdg o.node o.life) := by show dsL m L o = _; unfold dsL; rw [if_neg h0, if_pos h2]
    have b2 : (o.st == 2) = true := by simpa using h2
    clear h2
    go_enter Try.func23, Try.ntmps23
    go_wp2_with fail
    refine (grant_any HQ.out HK.out o.att o.bdg o.node o.life).mono ?_
    rintro e w1 ⟨rfl, hq1, hm1⟩
    generalize grE L o.att o.bdg o.node o.life = E at *
    go_wp2
    go_ret
    rw [HE.out, HL.out]
    exact ⟨rfl, v, hq1, HM.out.trans hm1⟩
  have n2 : (o.st == 2) = false := by simpa using h2
  by_cases h3 : o.st = 3
  · have HE : Hid (dsB L o = (exE L o.bdg != 0)) := by show dsB L o = _; unfold dsB; rw [if_neg h0, if_neg h2, if_pos h3]
    have HL : Hid (dsL m L o = exL m L o.bdg) := by show dsL m L o = _; unfold dsL; rw [if_neg h0, if_neg h2, if_pos h3]
    have b3 : (o.st == 3) = true := by simpa using h3
    clear h3
    go_enter Try.func23, Try.ntmps23
    go_wp2_with fail
    refine (expire_any HQ.out HK.out o.bdg).mono ?_
    rintro e w1 ⟨rfl, hq1, hm1⟩
    generalize exE L o.bdg = E at *
    go_wp2
    go_ret
    rw [HE.out, HL.out]
    exact ⟨rfl, v, hq1, HM.out.trans hm1⟩
  have n3 : (o.st == 3) = false := by simpa using h3
  by_cases h4 : o.st = 4
  · have HE : Hid (dsB L o = (seE L o.bdg o.code o.bits != 0)) := by show dsB L o = _; unfold dsB; rw [if_neg h0, if_neg h2, if_neg h3, if_pos h4]
    have HL : Hid (dsL m L o = seL L o.bdg o.code o.bits) := by show dsL m L o = _; unfold dsL; rw [if_neg h0, if_neg h2, if_neg h3, if_pos h4]
    have b4 : (o.st == 4) = true := by simpa using h4
    clear h4
    go_enter Try.func23, Try.ntmps23
    go_wp2_with fail
    refine (settle_any HQ.out HK.out o.bdg o.code o.bits).mono ?_
    rintro e w1 ⟨rfl, hq1, hm1⟩
    generalize seE L o.bdg o.code o.bits = E at *
    go_wp2
    go_ret
    rw [HE.out, HL.out]
    exact ⟨rfl, v, hq1, HM.out.trans hm1⟩
  have n4 : (o.st == 4) = false := by simpa using h4
  have HE : Hid (dsB L o = true) := by show dsB L o = _; unfold dsB; rw [if_neg h0, if_neg h2, if_neg h3, if_neg h4]
  have HL : Hid (dsL m L o = L) := by show dsL m L o = _; unfold dsL; rw [if_neg h0, if_neg h2, if_neg h3, if_neg h4]
  clear h0 h2 h3 h4
  go_enter Try.func23, Try.ntmps23
  go_wp2
  go_ret
  rw [HE.out, HL.out]
  exact ⟨rfl, v, HQ.out, HM.out⟩
end
theorem Rs.drewN {w : World} {ad : Option Addr} {ab ao : Nat} {L : List Rr} (h : Rs w ad ab ao L) (n : Nat) : Rs (w.drewN n) ad ab ao L := h.keep fun _ => rfl
set_option maxHeartbeats 2000000 in
set_option maxRecDepth 8000 in
/-- the same rows -/
theorem same_self {w : World} {ad ad' : Option Addr} {ab ao cap ab' ao' cap' : Nat} {L : List Rr} (h : Rs w ad ab ao L) (h' : Rs w ad' ab' ao' L) (hl : L.length ≤ 2199023255488) :
    Calls Try.prog 15 #[.slice ad L.length cap, .slice ad' L.length cap'] w fun e w' => e = .returned (.bool true) ∧ Below w.heap.size w w' := by
  have HR := hide h
  have HR' := hide h'
  have hg := guardR
  have b0 : ((L.length : Int) != (L.length : Int)) = false := by simp
  clear h h'
  go_enter Try.func15, Try.ntmps15
  go_wp2_with fail
  go_loopw [5] (fun s wr => ∃ (i : Nat), i ≤ L.length ∧ s = .int .i64 (i : Int) ∧ Hid (Below w.heap.size w wr)) (fun s _ => L.length - (intOf s).toNat)
  case atStart => exact ⟨0, Nat.zero_le _, rfl, hide (Below.refl _ _)⟩
  case round =>
    obtain ⟨i, hi, rfl, HB⟩ := hrel
    by_cases hii : i < L.length
    · have hik : (i : Int) < (L.length : Int) := by omega
      have hat := HR.out.at_ (by omega)
      have hat' := HR'.out.at_ (by omega)
      subst hat
      subst hat'
      obtain ⟨c0, c1, c2, c3, c4, c5, c6, c7⟩ := (HR.out.below HB.out).eight hii
      obtain ⟨d0, d1, d2, d3, d4, d5, d6, d7⟩ := (HR'.out.below HB.out).eight hii
      have hn := neqR_any L[i] L[i]
      rw [decide_eq_true rfl] at hn
      generalize L[i] = r at *
      go_wp2_with fail
      go_quiet (fail)
      go_wp2_with fail
      go_roundw
      case rel => exact ⟨i + 1, by omega, by go_num, hide (below_drewN HB.out _)⟩
      case measure => simp only [intOf]; omega
    · have hik : ¬ (i : Int) < (L.length : Int) := by omega
      go_wp2_with fail
      go_ret
      exact ⟨rfl, HB.out⟩
end Go.Proofs.Ythnmjjlbocofbaa
