import Derived.Test.YteokcgclmgleiaaDoorWalkD
namespace Go.Proofs.YteokcgclmgleiaaDoor
open Go.RowKit

def intR (a : Nat) : Value := .tuple #[.int .i64 (if Gn.intOk a then Gn.intV a else 0), .int .i64 (if Gn.intOk a then 0 else 11)]
theorem int_yes {a : Nat} (h : Gn.intOk a = true) : intR a = .tuple #[.int .i64 (Gn.intV a), .int .i64 0] := by unfold intR; rw [if_pos h, if_pos h]
theorem int_no {a : Nat} (h : Gn.intOk a = false) : intR a = .tuple #[.int .i64 0, .int .i64 11] := by unfold intR; rw [h]; rfl

set_option maxHeartbeats 400000 in
theorem int_any (a : Nat) (ha : a < 18446744073709551616) (w : World) :
    Calls Tryd.prog 43 #[.int .u64 (a : Int)] w fun e w' => e = .returned (intR a) ∧ w' = w := by
  by_cases t1 : (FloatKind.f64.format.order a 14114281232179134464 == some .gt || FloatKind.f64.format.order a 14114281232179134464 == some .eq) = true
  · by_cases t2 : (FloatKind.f64.format.order a 4890909195324358656 == some .lt) = true
    · have hs := Gn.int_some ha (by have q := t1; simp at q; first | exact q | (simp; exact q)) (by have q := t2; simp at q; first | exact q | (simp; exact q))
      have hk : Gn.okD (Ieee.double.read a) := by
        obtain ⟨s, r, hr, rfl, _⟩ := Gn.int_num ha (by have q := t1; simp at q; first | exact q | (simp; exact q)) (by have q := t2; simp at q; first | exact q | (simp; exact q))
        rw [Gn.read_wd s r (by omega)]; exact Gn.rd_ok s r (by omega)
      by_cases t3 : (FloatKind.f64.format.order a (Gn.flrD a) == some .eq) = true
      · have hv : Gn.intOk a = true := by unfold Gn.intOk; show (_ && _ && _) = true; rw [Bool.and_eq_true, Bool.and_eq_true]; exact ⟨⟨t1, t2⟩, t3⟩
        rw [int_yes hv]
        have hcv := fun w => run_convert_float_int (P := Tryd.prog) w 38 2 .f64 .i64 a (Gn.intV a) (by kernel_rfl) Tryd.underlying2 hs
        clear hs hv
        go_enter Tryd.func43, Tryd.ntmps43
        go_wp2_with (first | (go_at_call 26; refine (floatOf_any _ _).mono ?_; rintro e w' ⟨rfl, rfl⟩) | (go_at_call 28; refine (floor_calls_ok a hk _).mono ?_; rintro e w' ⟨rfl, rfl⟩))
        go_ret2
        exact ⟨rfl, rfl⟩
      · have hv : Gn.intOk a = false := by unfold Gn.intOk; show (_ && _ && _) = false; rw [Bool.and_eq_false_iff]; exact .inr (by have q := t3; simp at q; first | exact q | (simp; exact q))
        rw [int_no hv]
        have t3' : (FloatKind.f64.format.order a (Gn.flrD a) == some .eq) = false := by simpa using t3
        clear hs hv t3
        go_enter Tryd.func43, Tryd.ntmps43
        go_wp2_with (first | (go_at_call 26; refine (floatOf_any _ _).mono ?_; rintro e w' ⟨rfl, rfl⟩) | (go_at_call 28; refine (floor_calls_ok a hk _).mono ?_; rintro e w' ⟨rfl, rfl⟩))
        go_ret2
        exact ⟨rfl, rfl⟩
    · have hv : Gn.intOk a = false := by unfold Gn.intOk; show (_ && _ && _) = false; rw [Bool.and_eq_false_iff, Bool.and_eq_false_iff]; exact .inl (.inr (by have q := t2; simp at q; first | exact q | (simp; exact q)))
      rw [int_no hv]
      have t2' : (FloatKind.f64.format.order a 4890909195324358656 == some .lt) = false := by simpa using t2
      clear hv t2
      go_enter Tryd.func43, Tryd.ntmps43
      go_wp2_with (first | (go_at_call 26; refine (floatOf_any _ _).mono ?_; rintro e w' ⟨rfl, rfl⟩))
      go_ret2
      exact ⟨rfl, rfl⟩
  · have hv : Gn.intOk a = false := by unfold Gn.intOk; show (_ && _ && _) = false; rw [Bool.and_eq_false_iff, Bool.and_eq_false_iff]; exact .inl (.inl (by have q := t1; simp at q; first | exact q | (simp; exact q)))
    rw [int_no hv]
    have t1' : (FloatKind.f64.format.order a 14114281232179134464 == some .gt || FloatKind.f64.format.order a 14114281232179134464 == some .eq) = false := by simpa using t1
    clear hv t1
    go_enter Tryd.func43, Tryd.ntmps43
    go_wp2_with (first | (go_at_call 26; refine (floatOf_any _ _).mono ?_; rintro e w' ⟨rfl, rfl⟩))
    go_ret2
    exact ⟨rfl, rfl⟩
end Go.Proofs.YteokcgclmgleiaaDoor
