import Derived.Test.YtmmnjkbdldaniaaWrP
namespace Go.Proofs.Ytmmnjkbdldaniaa
open Go.RowKit Go.Shelf

set_option maxHeartbeats 400000 in
theorem wnan_any (a : Nat) (h : a < 18446744073709551616) (w : World) : Calls Try.prog 37 #[.int .u64 (a : Int)] w fun e w' => e = .returned (.bool (decide (clsN a = 0))) ∧ w' = w := by
  have hn := abs_andNot a h
  have hc := cls_nan a
  by_cases c : clsN a = 0
  · have h1 := hc.1 c
    rw [decide_eq_true c]
    have b1 : decide ((9218868437227405312 : Int) < ((a % 9223372036854775808 : Nat) : Int)) = true := by simp; omega
    clear hc c h1
    generalize a % 9223372036854775808 = x at *
    go_enter Try.func37, Try.ntmps37
    go_wp2
    go_ret
    exact ⟨rfl, rfl⟩
  · have h1 : ¬ 9218868437227405312 < a % 9223372036854775808 := fun e => c (hc.2 e)
    rw [decide_eq_false c]
    have b1 : decide ((9218868437227405312 : Int) < ((a % 9223372036854775808 : Nat) : Int)) = false := by simp; omega
    clear hc c h1
    generalize a % 9223372036854775808 = x at *
    go_enter Try.func37, Try.ntmps37
    go_wp2
    go_ret
    exact ⟨rfl, rfl⟩
set_option maxHeartbeats 400000 in
theorem wcanon_any (a : Nat) (h : a < 18446744073709551616) (w : World) : Calls Try.prog 21 #[.int .u64 (a : Int)] w fun e w' => e = .returned (.int .u64 (Gn.canonW a : Int)) ∧ w' = w := by
  unfold Gn.canonW
  have HN := hide (wnan_any a h)
  by_cases hn : clsN a = 0
  · rw [if_pos ((cls_nan a).1 hn)]
    rw [decide_eq_true hn] at HN
    clear hn
    go_enter Try.func21, Try.ntmps21
    go_wp2_with (go_at_call 37; refine (HN.out _).mono ?_; rintro e w' ⟨rfl, rfl⟩)
    go_ret
    exact ⟨rfl, rfl⟩
  · rw [if_neg (fun k => hn ((cls_nan a).2 k))]
    rw [decide_eq_false hn] at HN
    clear hn
    go_enter Try.func21, Try.ntmps21
    go_wp2_with (go_at_call 37; refine (HN.out _).mono ?_; rintro e w' ⟨rfl, rfl⟩)
    go_ret
    exact ⟨rfl, rfl⟩
end Go.Proofs.Ytmmnjkbdldaniaa
