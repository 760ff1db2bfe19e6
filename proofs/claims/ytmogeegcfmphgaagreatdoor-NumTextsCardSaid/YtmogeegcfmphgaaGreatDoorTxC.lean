import Derived.Test.YtmogeegcfmphgaaGreatDoorWalkE
import Derived.Lib.ItoaMem
namespace Go.Proofs.YtmogeegcfmphgaaGreatDoor
open Go.RowKit

theorem conv1 (w : World) (c : Nat) (hc : c < 256) (d : Int) (hd : d = (c : Int)) : (convert 42 9 (.slice (some ⟨w.heap.size, 0, none⟩) 1 1)).run Tryz.prog (w.alloc (.cells #[.int .u8 d] 5)) = .ok (.string ⟨#[UInt8.ofNat c]⟩) (w.alloc (.cells #[.int .u8 d] 5)) := by
  subst hd
  refine run_convert_bytes_back (P := Tryz.prog) _ 42 9 5 ⟨w.heap.size, 0, none⟩ 1 [UInt8.ofNat c] Tryz.underlying42 Tryz.underlying5 Tryz.underlying9 (fun j hj => ?_)
  have h0 : j = 0 := by simp at hj; exact hj
  subst h0
  have e : (UInt8.ofNat c).toNat = c := by simp [UInt8.toNat_ofNat']; omega
  rw [Lib.add_plain, World.cell?_alloc_new]
  simp [e]
theorem ba_app (l m : List UInt8) : (⟨l.toArray⟩ : ByteArray) ++ ⟨m.toArray⟩ = ⟨(l ++ m).toArray⟩ := by
  apply ByteArray.ext
  simp
theorem nd_le (n : Nat) (hn : n < 18446744073709551616) : (Lib.decDigits n).length ≤ 20 := by
  rw [Lib.decDigits_length]
  by_cases h : 1 ≤ n
  · have := Lib.numDigits_eq n h hn; split at this <;> omega
  · rw [Lib.nDigits_small (by omega)]; decide
theorem dec_step (n : Nat) (h : ¬ n < 10) : Lib.decDigits n = Lib.decDigits (n / 10) ++ [UInt8.ofNat (48 + n % 10)] := by
  rw [Lib.decDigits, dif_neg h]
set_option maxHeartbeats 1000000 in
set_option maxRecDepth 8000 in
theorem digits_any (n : Nat) (hn : n < 18446744073709551616) (w : World) :
    Calls Tryz.prog 13 #[.int .u64 (n : Int)] w fun e w' => e = .returned (.string ⟨(Lib.decDigits n).toArray⟩) ∧ Below w.heap.size w w' := by
  induction n using Nat.strongRecOn generalizing w with
  | ind n ih =>
    have hcv := conv1 w (48 + n % 10) (by omega) (48 + (n : Int) % 10) (by omega)
    by_cases h10 : n < 10
    · have HD : Hid ((⟨(Lib.decDigits n).toArray⟩ : ByteArray) = ⟨#[UInt8.ofNat (48 + n % 10)]⟩) := by show _ = _; rw [Lib.decDigits_one h10, Nat.mod_eq_of_lt h10]
      generalize (⟨#[UInt8.ofNat (48 + n % 10)]⟩ : ByteArray) = s at *
      generalize (⟨(Lib.decDigits n).toArray⟩ : ByteArray) = D at *
      clear ih
      go_enter Tryz.func13, Tryz.ntmps13
      go_wp2_with fail
      go_ret
      exact ⟨by rw [HD.out]; rfl, (Below.refl _ w).alloc (Nat.le_refl _) _⟩
    · have HD : Hid ((⟨(Lib.decDigits n).toArray⟩ : ByteArray) = ⟨(Lib.decDigits (n / 10)).toArray⟩ ++ ⟨#[UInt8.ofNat (48 + n % 10)]⟩) := by show _ = _; rw [dec_step n h10, ← ba_app]
      have hadd : ∀ w1 : World, (Op.stringOp .add ⟨(Lib.decDigits (n / 10)).toArray⟩ ⟨#[UInt8.ofNat (48 + n % 10)]⟩).run Tryz.prog w1 = .ok (.string ((⟨(Lib.decDigits (n / 10)).toArray⟩ : ByteArray) ++ ⟨#[UInt8.ofNat (48 + n % 10)]⟩)) w1 := fun w1 =>
        run_string_add_sum w1 _ _ (by show (Lib.decDigits (n / 10)).toArray.size + 1 ≤ _; have := nd_le (n / 10) (by omega); simp; omega)
      have HI : Hid (∀ w : World, Calls Tryz.prog 13 #[.int .u64 ((n : Int) / 10)] w fun e w' => e = .returned (.string ⟨(Lib.decDigits (n / 10)).toArray⟩) ∧ Below w.heap.size w w') := fun w => ih (n / 10) (by omega) (by omega) w
      generalize (⟨(Lib.decDigits (n / 10)).toArray⟩ : ByteArray) ++ ⟨#[UInt8.ofNat (48 + n % 10)]⟩ = t at *
      generalize (⟨#[UInt8.ofNat (48 + n % 10)]⟩ : ByteArray) = s at *
      generalize (⟨(Lib.decDigits n).toArray⟩ : ByteArray) = D at *
      generalize (⟨(Lib.decDigits (n / 10)).toArray⟩ : ByteArray) = E at *
      clear ih
      go_enter Tryz.func13, Tryz.ntmps13
      go_wp2_with (go_at_call 13; refine (HI.out _).mono ?_; rintro e w' ⟨rfl, hb⟩)
      go_ret
      exact ⟨by rw [HD.out]; rfl, ((Below.refl _ w).alloc (Nat.le_refl _) _).trans (hb.mono (by rw [World.size_alloc]; omega))⟩
end Go.Proofs.YtmogeegcfmphgaaGreatDoor
