import Derived.Test.YteokcgclmgleiaaDoorWalkB
import Derived.Test.YteokcgclmgleiaaDoorMathE
namespace Go.Proofs.YteokcgclmgleiaaDoor
open Go.RowKit

def cmpW (x y : Nat) : Int := if x < y then -1 else if y < x then 1 else 0
def ordW (a b : Nat) : Int := cmpW (rankW a) (rankW b)

set_option maxHeartbeats 400000 in
theorem compare_any (x y : Nat) (w : World) :
    Calls Tryd.prog 30 #[.int .u64 (x : Int), .int .u64 (y : Int)] w fun e w' => e = .returned (.int .i64 (cmpW x y)) ∧ w' = w := by
  unfold cmpW
  by_cases h1 : x < y
  · rw [if_pos h1]
    go_enter Tryd.func30, Tryd.ntmps30
    go_wp2
    go_ret
    exact ⟨rfl, rfl⟩
  · rw [if_neg h1]
    by_cases h2 : y < x
    · rw [if_pos h2]
      go_enter Tryd.func30, Tryd.ntmps30
      go_wp2
      go_ret
      exact ⟨rfl, rfl⟩
    · rw [if_neg h2]
      go_enter Tryd.func30, Tryd.ntmps30
      go_wp2
      go_ret
      exact ⟨rfl, rfl⟩

set_option maxHeartbeats 400000 in
theorem order_any (a b : Nat) (ha : a < 18446744073709551616) (hb : b < 18446744073709551616) (w : World) :
    Calls Tryd.prog 19 #[.int .u64 (a : Int), .int .u64 (b : Int)] w fun e w' => e = .returned (.int .i64 (ordW a b)) ∧ w' = w := by
  go_enter Tryd.func19, Tryd.ntmps19
  go_wp2_with (first | (go_at_call 31; refine (rank_any _ (by assumption) _).mono ?_; rintro e w' ⟨rfl, rfl⟩) | (go_at_call 30; refine (compare_any _ _ _).mono ?_; rintro e w' ⟨rfl, rfl⟩))
  go_ret
  exact ⟨rfl, rfl⟩

def anyN (a b : Nat) : Bool := clsN a == 0 || clsN b == 0
set_option maxHeartbeats 400000 in
theorem anyNaN_any (a b : Nat) (ha : a < 18446744073709551616) (hb : b < 18446744073709551616) (w : World) :
    Calls Tryd.prog 27 #[.int .u64 (a : Int), .int .u64 (b : Int)] w fun e w' => e = .returned (.bool (anyN a b)) ∧ w' = w := by
  unfold anyN
  by_cases h1 : clsN a = 0
  · have b1 : ((clsN a : Int) == 0) = true := beqN_t (y := 0) h1
    rw [show (clsN a == 0 || clsN b == 0) = true from by simp [h1]]
    clear h1
    go_enter Tryd.func27, Tryd.ntmps27
    go_wp2_with (go_at_call 18; refine (class_any _ (by assumption) _).mono ?_; rintro e w' ⟨rfl, rfl⟩)
    go_ret
    exact ⟨rfl, rfl⟩
  · have b1 : ((clsN a : Int) == 0) = false := beqN_f (y := 0) h1
    rw [show (clsN a == 0 || clsN b == 0) = (clsN b == 0) from by simp [h1]]
    have b2 : ((clsN b : Int) == 0) = (clsN b == 0) := by
      by_cases h2 : clsN b = 0
      · simp [h2]
      · have e : ((clsN b : Int) == 0) = false := beqN_f (y := 0) h2
        rw [e]; simp [h2]
    clear h1
    go_enter Tryd.func27, Tryd.ntmps27
    go_wp2_with (go_at_call 18; refine (class_any _ (by assumption) _).mono ?_; rintro e w' ⟨rfl, rfl⟩)
    go_ret
    exact ⟨rfl, rfl⟩

def minW (a b : Nat) : Nat := if anyN a b then 9221120237041090561 else if rankW b < rankW a then b else a
def maxW (a b : Nat) : Nat := if anyN a b then 9221120237041090561 else if rankW a < rankW b then b else a
theorem ord_pos {a b : Nat} (h : rankW b < rankW a) : 0 < ordW a b := by unfold ordW cmpW; rw [if_neg (by omega), if_pos h]; omega
theorem ord_pos' {a b : Nat} (h : ¬ rankW b < rankW a) : ¬ 0 < ordW a b := by unfold ordW cmpW; rw [if_neg h]; split <;> omega
theorem ord_neg {a b : Nat} (h : rankW a < rankW b) : ordW a b < 0 := by unfold ordW cmpW; rw [if_pos h]; omega
theorem ord_neg' {a b : Nat} (h : ¬ rankW a < rankW b) : ¬ ordW a b < 0 := by unfold ordW cmpW; rw [if_neg h]; split <;> omega
set_option maxHeartbeats 400000 in
theorem min_any (a b : Nat) (ha : a < 18446744073709551616) (hb : b < 18446744073709551616) (w : World) :
    Calls Tryd.prog 13 #[.int .u64 (a : Int), .int .u64 (b : Int)] w fun e w' => e = .returned (.int .u64 (minW a b : Int)) ∧ w' = w := by
  unfold minW
  cases hn : anyN a b
  · rw [if_neg (by simp)]
    by_cases h1 : rankW b < rankW a
    · rw [if_pos h1]
      have ho := ord_pos h1
      clear h1
      go_enter Tryd.func13, Tryd.ntmps13
      go_wp2_with (first | (go_at_call 27; refine (anyNaN_any a b ha hb _).mono ?_; rintro e w' ⟨rfl, rfl⟩) | (go_at_call 19; refine (order_any a b ha hb _).mono ?_; rintro e w' ⟨rfl, rfl⟩))
      go_ret
      exact ⟨rfl, rfl⟩
    · rw [if_neg h1]
      have ho := ord_pos' h1
      clear h1
      go_enter Tryd.func13, Tryd.ntmps13
      go_wp2_with (first | (go_at_call 27; refine (anyNaN_any a b ha hb _).mono ?_; rintro e w' ⟨rfl, rfl⟩) | (go_at_call 19; refine (order_any a b ha hb _).mono ?_; rintro e w' ⟨rfl, rfl⟩))
      go_ret
      exact ⟨rfl, rfl⟩
  · rw [if_pos rfl]
    go_enter Tryd.func13, Tryd.ntmps13
    go_wp2_with (first | (go_at_call 27; refine (anyNaN_any a b ha hb _).mono ?_; rintro e w' ⟨rfl, rfl⟩) | (go_at_call 19; refine (order_any a b ha hb _).mono ?_; rintro e w' ⟨rfl, rfl⟩))
    go_ret
    exact ⟨rfl, rfl⟩
set_option maxHeartbeats 400000 in
theorem max_any (a b : Nat) (ha : a < 18446744073709551616) (hb : b < 18446744073709551616) (w : World) :
    Calls Tryd.prog 14 #[.int .u64 (a : Int), .int .u64 (b : Int)] w fun e w' => e = .returned (.int .u64 (maxW a b : Int)) ∧ w' = w := by
  unfold maxW
  cases hn : anyN a b
  · rw [if_neg (by simp)]
    by_cases h1 : rankW a < rankW b
    · rw [if_pos h1]
      have ho := ord_neg h1
      clear h1
      go_enter Tryd.func14, Tryd.ntmps14
      go_wp2_with (first | (go_at_call 27; refine (anyNaN_any a b ha hb _).mono ?_; rintro e w' ⟨rfl, rfl⟩) | (go_at_call 19; refine (order_any a b ha hb _).mono ?_; rintro e w' ⟨rfl, rfl⟩))
      go_ret
      exact ⟨rfl, rfl⟩
    · rw [if_neg h1]
      have ho := ord_neg' h1
      clear h1
      go_enter Tryd.func14, Tryd.ntmps14
      go_wp2_with (first | (go_at_call 27; refine (anyNaN_any a b ha hb _).mono ?_; rintro e w' ⟨rfl, rfl⟩) | (go_at_call 19; refine (order_any a b ha hb _).mono ?_; rintro e w' ⟨rfl, rfl⟩))
      go_ret
      exact ⟨rfl, rfl⟩
  · rw [if_pos rfl]
    go_enter Tryd.func14, Tryd.ntmps14
    go_wp2_with (first | (go_at_call 27; refine (anyNaN_any a b ha hb _).mono ?_; rintro e w' ⟨rfl, rfl⟩) | (go_at_call 19; refine (order_any a b ha hb _).mono ?_; rintro e w' ⟨rfl, rfl⟩))
    go_ret
    exact ⟨rfl, rfl⟩

def signq : Question := .extern "math.Floor,Ceil,Trunc,RoundToEven.signallingNaN kept" 2
theorem integral_run (a : Nat) : Extern.MathFloor.toIntegral "math.archFloor" .down #[.float .f64 a] = (match FloatKind.f64.decode a with
    | .nan s t => if FloatKind.f64.format.quiet t = t then pure (.float .f64 a) else do
      let kept ← choose signq
      pure (.float .f64 (if kept == 1 then a else FloatKind.f64.encode (.nan s (FloatKind.f64.format.quiet t))))
    | d => pure (.float .f64 (FloatKind.f64.encode (d.integral .down)))) := rfl
theorem archFloor_ok (a : Nat) (h : Gn.okD (Ieee.double.read a)) (w : World) : (callFunc 49 #[.float .f64 a]).run Tryd.prog w = .ok (.value (.float .f64 (Gn.flrD a))) w := by
  rw [run_callFunc_extern (e := Extern.MathFloor.toIntegral "math.archFloor" .down) Tryd.func49 (by kernel_rfl) (by kernel_rfl) (by kernel_rfl) (by kernel_rfl)]
  unfold Gn.flrD
  have e : ∀ d, FloatKind.f64.decode a = d → Gn.okD d → (Extern.MathFloor.toIntegral "math.archFloor" .down #[.float .f64 a]) = pure (.float .f64 (FloatKind.f64.encode (d.integral .down))) := by
    intro d hd hk
    cases d with
    | nan s t => exact hk.elim
    | number s m i => rw [integral_run, hd]
    | infinity s => rw [integral_run, hd]
  rw [e _ rfl h]
  rfl
theorem nan_canon (a : Nat) (ha : a < 18446744073709551616) (h : Gn.IsNan (Ieee.double.read a)) : Gn.canonW a = 9221120237041090561 := by
  obtain ⟨s, t, hd⟩ := h
  rcases Gn.read_neg a ha with ⟨_, _, _, e⟩ | ⟨ok, _⟩
  · exact e
  · rw [hd] at ok; exact ok.elim
theorem archFloor_nan (a : Nat) (ha : a < 18446744073709551616) (h : Gn.IsNan (Ieee.double.read a)) :
    (∀ w, (callFunc 49 #[.float .f64 a]).run Tryd.prog w = .ok (.value (.float .f64 a)) w) ∨
    (∃ z : World → Nat, (∀ w, z w < 18446744073709551616) ∧ (∀ w, Gn.canonW (z w) = 9221120237041090561) ∧ ∀ w, (callFunc 49 #[.float .f64 a]).run Tryd.prog w = .ok (.value (.float .f64 (z w))) w.drew) := by
  have ca := nan_canon a ha h
  obtain ⟨s, t, hd⟩ := h
  have hd' : FloatKind.f64.decode a = .nan s t := hd
  have hx := fun w => run_callFunc_extern (e := Extern.MathFloor.toIntegral "math.archFloor" .down) Tryd.func49 (by kernel_rfl) (by kernel_rfl) (by kernel_rfl) (by kernel_rfl) #[.float .f64 a] w
  by_cases hq : FloatKind.f64.format.quiet t = t
  · refine .inl fun w => ?_
    rw [hx w, integral_run, hd']
    simp only [hq, if_true]
    rfl
  · refine .inr ?_
    have hy : ∃ y, y < 18446744073709551616 ∧ Gn.canonW y = 9221120237041090561 ∧ y = FloatKind.f64.encode (.nan s (FloatKind.f64.format.quiet t)) := by
      refine ⟨_, Ieee.double.write_lt _, ?_, rfl⟩
      show Gn.canonW (Ieee.double.word s (Ieee.double.infRung + Ieee.double.quiet t % Ieee.double.binade)) = _
      rw [Gn.word_wd, Gn.infr, Gn.bin]
      have h1 : Ieee.double.quiet t % 4503599627370496 < 4503599627370496 := Nat.mod_lt _ (by decide)
      have h2 : 0 < Ieee.double.quiet t % 4503599627370496 := by
        have e1 : Ieee.double.quiet t % 4503599627370496 = Ieee.double.quiet t % 2 ^ 52 := rfl
        rcases Nat.eq_zero_or_pos (Ieee.double.quiet t % 2 ^ 52) with e | e
        · exfalso
          have hb : (Ieee.double.quiet t % 2 ^ 52).testBit 51 = true := by
            rw [Nat.testBit_mod_two_pow]
            show (decide (51 < 52) && (t ||| 2 ^ 51).testBit 51) = true
            rw [Nat.testBit_or, Nat.testBit_two_pow]; simp
          rw [e] at hb; simp at hb
        · omega
      rw [Gn.canon_wd _ _ (by omega), if_pos (by omega)]
    obtain ⟨y, hy, cy, ey⟩ := hy
    refine ⟨fun w => if (signq.cut (w.tape w.drawn signq) == 1) = true then a else y, fun w => ?_, fun w => ?_, fun w => ?_⟩
    · show (if _ then a else y) < _
      split <;> assumption
    · show Gn.canonW (if _ then a else y) = _
      split <;> assumption
    · rw [hx w, integral_run, hd']
      have hf : signq.forced = false := rfl
      simp only [hq, if_false, Sem.run_bind, run_choose_drew, hf]
      rw [ey]
      rfl
def floorW (a : Nat) : Nat := if 9218868437227405312 < a % 9223372036854775808 then 9221120237041090561 else Gn.flrD a
end Go.Proofs.YteokcgclmgleiaaDoor
