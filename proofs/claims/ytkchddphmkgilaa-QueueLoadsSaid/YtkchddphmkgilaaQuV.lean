import Derived.Test.YtkchddphmkgilaaQuUw
namespace Go.Proofs.Ytkchddphmkgilaa
open Go.RowKit

/-- a call, boxed -/
abbrev Rr.oobj (d : Rr) : Obj := .cells #[.int .i64 d.job, .int .i64 d.st, .int .i64 d.att, .int .i64 d.bdg, .int .i64 d.node, .int .i64 d.life, .int .i64 d.code, .int .u64 d.bits] 54 (0, 0)
section
variable {base : Nat} {w : World} {b : Nat} {v : Value} {L : List Rr} {m : Int}
end
theorem Rs.drewN {w : World} {ad : Option Addr} {ab ao : Nat} {L : List Rr} (h : Rs w ad ab ao L) (n : Nat) : Rs (w.drewN n) ad ab ao L := h.keep fun _ => rfl
set_option maxHeartbeats 2000000 in
set_option maxRecDepth 8000 in
/-- the same rows -/
theorem same_self {w : World} {ad ad' : Option Addr} {ab ao cap ab' ao' cap' : Nat} {L : List Rr} (h : Rs w ad ab ao L) (h' : Rs w ad' ab' ao' L) (hl : L.length ≤ 2199023255488) :
    Calls Try.prog 6 #[.slice ad L.length cap, .slice ad' L.length cap'] w fun e w' => e = .returned (.bool true) ∧ Below w.heap.size w w' := by
  have HR := hide h
  have HR' := hide h'
  have hg := guardR
  have b0 : ((L.length : Int) != (L.length : Int)) = false := by simp
  clear h h'
  go_enter Try.func6, Try.ntmps6
  go_wp2_with fail
  go_loopw [5] (fun s wr => ∃ (i : Nat), i ≤ L.length ∧ s = .int .i64 (i : Int) ∧ Hid (Below w.heap.size w wr)) (fun s _ => L.length - (intOf s).toNat)
  case atStart => exact ⟨0, Nat.zero_le _, rfl, hide (Below.refl _ _)⟩
  case round =>
    obtain ⟨i, hi, rfl, HB⟩ := hrel
    by_cases hii : i < L.length
    · have hik : (i : Int) < (L.length : Int) := by omega
      have hat := HR.out.at_ (by omega)
      have hat' := HR'.out.at_ (by omega)
      subst hat
      subst hat'
      obtain ⟨c0, c1, c2, c3, c4, c5, c6, c7⟩ := (HR.out.below HB.out).eight hii
      obtain ⟨d0, d1, d2, d3, d4, d5, d6, d7⟩ := (HR'.out.below HB.out).eight hii
      have hn := neqR_any L[i] L[i]
      rw [decide_eq_true rfl] at hn
      generalize L[i] = r at *
      go_wp2_with fail
      go_quiet (fail)
      go_wp2_with fail
      go_roundw
      case rel => exact ⟨i + 1, by omega, by go_num, hide (below_drewN HB.out _)⟩
      case measure => simp only [intOf]; omega
    · have hik : ¬ (i : Int) < (L.length : Int) := by omega
      go_wp2_with fail
      go_ret
      exact ⟨rfl, HB.out⟩
end Go.Proofs.Ytkchddphmkgilaa
