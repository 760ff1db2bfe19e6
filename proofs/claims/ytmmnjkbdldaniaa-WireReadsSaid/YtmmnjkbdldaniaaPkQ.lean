import Derived.Test.YtmmnjkbdldaniaaPkP
namespace Go.Proofs.Ytmmnjkbdldaniaa
open Go.RowKit

set_option maxHeartbeats 800000 in
set_option maxRecDepth 8000 in
theorem qnum_any (n : Nat) (hn : n < 18446744073709551616) (w : World) :
    Calls Try.prog 25 #[.int .u64 (n : Int)] w fun e w' => e = .returned (.string ⟨(Pk.enc n).toArray⟩) ∧ Below w.heap.size w w' := by
  obtain ⟨i0, hi, hz0, hz1, hz2⟩ := info_parts Try.infoB
  go_enter Try.func25, Try.ntmps25
  go_wp2
  go_loopw [0, 3] (fun u v wr => ∃ (m : Nat) (pre : List UInt8), u = .int .u64 (m : Int) ∧ m ≤ n ∧ Hid (Pk.enc n = pre ++ Pk.enc m) ∧ wr.ownsRow w.heap.size 5 1 v pre.length (bc pre) ∧ Below w.heap.size w wr) (fun u _ _ => (intOf u).toNat)
  case atStart => exact ⟨n, [], rfl, Nat.le_refl _, rfl, World.ownsRow_made w #[] 0 (Nat.le_refl _) (by decide) rfl, below_alloc _ _⟩
  case round =>
    obtain ⟨m, pre, rfl, hm, HE, hown, hbel⟩ := hrel
    have hlen := Pk.enc_ten hn
    rw [HE.out, List.length_append] at hlen
    have hpos := Pk.enc_pos m
    by_cases h128 : m < 128
    · have b0 : decide ((128 : Int) ≤ (m : Int)) = false := by simp; omega
      have HN : Hid (bc (Pk.enc n) = bc pre ++ [.int .u8 (m : Int)]) := (show bc (Pk.enc n) = _ by
        rw [HE.out, bc_append, Pk.enc_lt h128]; simp only [bc, List.map_cons, List.map_nil]; rw [Pk.toNat_ofNat (by omega)])
      have HM : Hid (pre.length + 1 = (Pk.enc n).length) := (show pre.length + 1 = _ by rw [HE.out, List.length_append, Pk.enc_lt h128]; rfl)
      go_wp2_with (first
        | (at_builtin; refine wpList_append_own _ rfl _ _ 53 rfl w.heap.size 5 i0 (.int .u8 0) 1 1 Try.underlying53 hi hz0 hz1 hz2 rfl (by decide) _ _ _ rfl (hown.alloc _) ⟨wr.heap.size, 0, none⟩ 1 1 [.int .u8 (m : Int)] rfl rfl (one_new _ _ _) (by intro u hu; simp at hu; subst hu; rfl) (by unfold maxLen; omega) (by omega) (by have := hbel.size; simp; omega) ?_; intro v' w1 hown' hgrow hnil; clear hnil; have hcv : (convert 53 9 v').run Try.prog w1 = .ok (.string ⟨(Pk.enc n).toArray⟩) w1 := own_str (base := w.heap.size) (by rw [← HM.out, HN.out]; exact hown'); have hb1 : Below w.heap.size w w1 := grow_below (Nat.le_refl _) hbel hown _ hgrow; clear hown' hgrow hown hbel)
        | go_in)
      go_ret
      exact ⟨rfl, hb1⟩
    · have b0 : decide ((128 : Int) ≤ (m : Int)) = true := by simp; omega
      have HE' : Hid (Pk.enc n = (pre ++ [UInt8.ofNat (m % 128 + 128)]) ++ Pk.enc (m / 128)) := (show Pk.enc n = _ by rw [HE.out, Pk.enc_ge h128]; simp)
      have HN : Hid (bc (pre ++ [UInt8.ofNat (m % 128 + 128)]) = bc pre ++ [.int .u8 ((m : Int) % 128 + 128)]) := (show bc _ = _ by
        rw [bc_append]; simp only [bc, List.map_cons, List.map_nil]; rw [Pk.toNat_ofNat (by omega)]; rfl)
      go_wp2_with (first
        | (at_builtin; refine wpList_append_own _ rfl _ _ 53 rfl w.heap.size 5 i0 (.int .u8 0) 1 1 Try.underlying53 hi hz0 hz1 hz2 rfl (by decide) _ _ _ rfl (hown.alloc _) ⟨wr.heap.size, 0, none⟩ 1 1 [.int .u8 ((m : Int) % 128 + 128)] rfl rfl (one_new _ _ _) (by intro u hu; simp at hu; subst hu; rfl) (by unfold maxLen; omega) (by omega) (by have := hbel.size; simp; omega) ?_; intro v' w1 hown' hgrow hnil; clear hnil; have HB1 : Hid (Below w.heap.size w w1) := grow_below (Nat.le_refl _) hbel hown _ hgrow)
        | go_in)
      refine ⟨⟨m / 128, pre ++ [UInt8.ofNat (m % 128 + 128)], by go_num, by omega, HE', ?_, HB1.out⟩, by simp [intOf]; omega⟩
      rw [HN.out, List.length_append]
      exact hown'

set_option maxHeartbeats 400000 in
theorem qtext_any (s : ByteArray) (hs : s.size ≤ 140737488351232) (w : World) :
    Calls Try.prog 27 #[.string s] w fun e w' => e = .returned (.string ((⟨(Pk.enc s.size).toArray⟩ : ByteArray) ++ s)) ∧ Below w.heap.size w w' := by
  have hlen := Pk.enc_ten (n := s.size) (by omega)
  have hadd : ∀ w1 : World, (Op.stringOp .add ⟨(Pk.enc s.size).toArray⟩ s).run Try.prog w1 = .ok (.string ((⟨(Pk.enc s.size).toArray⟩ : ByteArray) ++ s)) w1 := fun w1 =>
    run_string_add_sum w1 _ _ (by show (Pk.enc s.size).toArray.size + s.size ≤ _; simp; omega)
  generalize (⟨(Pk.enc s.size).toArray⟩ : ByteArray) ++ s = t at *
  go_enter Try.func27, Try.ntmps27
  go_wp2_with (go_at_call 25; refine (qnum_any s.size (by omega) _).mono ?_; rintro e w' ⟨rfl, hb⟩)
  go_ret
  exact ⟨rfl, hb⟩
end Go.Proofs.Ytmmnjkbdldaniaa
