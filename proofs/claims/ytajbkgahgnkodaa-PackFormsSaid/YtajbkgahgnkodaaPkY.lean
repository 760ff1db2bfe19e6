import Derived.Test.YtajbkgahgnkodaaPkX
namespace Go.Proofs.Ytajbkgahgnkodaa
open Go.RowKit

/-- a slice of calls that came in: the cells of each -/
structure Ops (w : World) (ad : Option Addr) (len : Nat) (ab ao : Nat) (K M : Nat → Int) : Prop where
  some : 0 < len → ad = some ⟨ab, ao, none⟩
  old : 0 < len → ab < w.heap.size
  c0 : ∀ i, i < len → w.cell? ⟨ab, ao + i * 2, none⟩ = Option.some (.int .i64 (K i))
  c1 : ∀ i, i < len → w.cell? ⟨ab, ao + i * 2 + 1, none⟩ = Option.some (.int .i64 (M i))
  bd : ∀ i, i < len → M i ≤ 9223372036854775807
  few : len ≤ 9223372036854775807

set_option maxHeartbeats 2000000 in
set_option maxRecDepth 8000 in
theorem packFaults_walk (b : ByteArray) (hb : b.size ≤ 140737488351232) (ad ad2 : Option Addr) (ab ao len cap ab2 ao2 len2 cap2 : Nat) (K M K2 M2 : Nat → Int) (w : World) (hO : Ops w ad len ab ao K M) (hO2 : Ops w ad2 len2 ab2 ao2 K2 M2) :
    Calls Try.prog 8 #[.string b, .slice ad len cap, .slice ad2 len2 cap2] w fun e w' => e = .returned (.bool true) ∧ Below w.heap.size w w' := by
  have hfew := hO.few
  have hfew2 := hO2.few
  go_enter Try.func8, Try.ntmps8
  go_wp2_with fail
  refine (read_any b w).mono ?_
  rintro e w1 ⟨rfl, hR1, hb1⟩
  go_wp2_with fail
  refine (awake_true w1).mono ?_
  rintro e w2 ⟨rfl, hb2⟩
  have HR2 : Hid (Rd w2 w.heap.size b ((0 : Nat) : Int) 0) := hR1.below hb2 hR1.lt
  have HB2 : Hid (Below w.heap.size w w2) := below_tr hb1 hb2
  clear hR1 hb1 hb2
  go_wp2_with fail
  go_loopw [8] (fun v wr => ∃ (i p : Nat) (f : Int), v = .int .i64 (i : Int) ∧ i ≤ len ∧ Rd wr w.heap.size b (p : Int) f ∧ p ≤ b.size ∧ Hid (Below w.heap.size w wr)) (fun v _ => len - (intOf v).toNat)
  case atStart => exact ⟨0, 0, 0, rfl, Nat.zero_le _, HR2.out, Nat.zero_le _, HB2⟩
  case round =>
    obtain ⟨i, p, f, rfl, hil, hR, hp, HB⟩ := hrel
    clear HR2 HB2
    by_cases hi2 : i < len
    · have hs' := hO.some (by omega)
      subst hs'
      have hck : wr.cell? ⟨ab, ao + i * 2, none⟩ = some (.int .i64 (K i)) := (HB.out.cell (hO.old (by omega))).trans (hO.c0 i hi2)
      have hcm : wr.cell? ⟨ab, ao + i * 2 + 1, none⟩ = some (.int .i64 (M i)) := (HB.out.cell (hO.old (by omega))).trans (hO.c1 i hi2)
      have hMi := hO.bd i hi2
      have hi3 : (i : Int) < (len : Int) := by omega
      generalize K i = Ki at *
      generalize M i = Mi at *
      clear hO hO2
      go_wp2_with fail
      refine (asks_any hR hp hb hMi).mono ?_
      rintro e w3 ⟨r, p', f', rfl, hR3, hp3, hg3, _⟩
      have HB3 : Hid (Below w.heap.size w w3) := below_of_grown HB.out (Nat.le_refl _) hg3
      clear hg3 HB hR
      go_wp2_with fail
      exact ⟨⟨i + 1, p', f', by go_num, by omega, hR3, hp3, HB3⟩, by simp [intOf]; omega⟩
    · have b0 : decide ((i : Int) < (len : Int)) = false := by simp; omega
      clear hO
      have HFt := hide (fault_any hR)
      by_cases hf : f = 0
      · subst hf
        have HFt' : Hid (Calls Try.prog 25 #[.pointer (some ⟨w.heap.size, 0, none⟩)] wr fun e w' => e = .returned (.tuple #[.int .i64 0, .int .i64 0]) ∧ ∃ n, w' = wr.drewN n) := HFt
        clear HFt hO2
        go_wp2_with (go_at_call 25; refine HFt'.out.mono ?_; rintro e w4 ⟨rfl, n4, rfl⟩)
        go_ret
        exact ⟨by simp, below_dn HB.out _⟩
      · have HFt' : Hid (∀ w1 : World, Rd w1 w.heap.size b (p : Int) f → Calls Try.prog 25 #[.pointer (some ⟨w.heap.size, 0, none⟩)] w1 fun e w' => e = .returned (.tuple #[.int .i64 f, .int .i64 (p : Int)]) ∧ ∃ n, w' = w1.drewN n) := fun w1 h1 => by
          have h := fault_any h1
          rw [if_neg hf] at h
          exact h
        have HE' : Hid (∀ w1 : World, Rd w1 w.heap.size b (p : Int) f → Calls Try.prog 29 #[.pointer (some ⟨w.heap.size, 0, none⟩)] w1 fun e w' => e = .returned (.tuple #[.int .i64 f, .int .i64 (p : Int)]) ∧ ∃ n, w' = w1.drewN n) := fun w1 h1 => by
          have h := end_any h1 (by omega) (by omega) hb
          rw [show endE b p f = f by unfold endE; rw [if_neg (fun k => hf k.1)], show endP b p f = p by unfold endP; rw [if_neg (fun k => hf k.1)]] at h
          exact h
        have b1 : (f == 0) = false := by rw [beq_eq_false_iff_ne]; exact hf
        have HF0 : Hid (f ≠ 0) := hf
        clear HFt hf
        go_wp2_with (first
          | (go_at_call 25; refine (HFt'.out _ hR).mono ?_; rintro e w4 ⟨rfl, n4, rfl⟩)
          | (go_at_call 26; refine (at_any (hR.drew _)).mono ?_; rintro e w5 ⟨rfl, rfl⟩)
          | (go_at_call 27; refine (left_any (hR.drew _) (by omega) (by omega) hb).mono ?_; rintro e w6 ⟨rfl, n6, rfl⟩))
        go_loopw [13] (fun v wq => ∃ (j : Nat), v = .int .i64 (j : Int) ∧ j ≤ len2 ∧ Rd wq w.heap.size b (p : Int) f ∧ Hid (Below w.heap.size w wq)) (fun v _ => len2 - (intOf v).toNat)
        case atStart => exact ⟨0, rfl, Nat.zero_le _, hR.drew _, below_dn HB.out _⟩
        case round =>
          obtain ⟨j, rfl, hjl, hR2, HB2⟩ := hrel
          clear HB hR
          by_cases hj2 : j < len2
          · have hs' := hO2.some (by omega)
            subst hs'
            have hck : wr.cell? ⟨ab2, ao2 + j * 2, none⟩ = some (.int .i64 (K2 j)) := (HB2.out.cell (hO2.old (by omega))).trans (hO2.c0 j hj2)
            have hcm : wr.cell? ⟨ab2, ao2 + j * 2 + 1, none⟩ = some (.int .i64 (M2 j)) := (HB2.out.cell (hO2.old (by omega))).trans (hO2.c1 j hj2)
            have hMj := hO2.bd j hj2
            have hj3 : (j : Int) < (len2 : Int) := by omega
            generalize K2 j = Kj at *
            generalize M2 j = Mj at *
            clear hO2
            go_wp2_with fail
            refine (HE'.out _ hR2).mono ?_
            rintro e w7 ⟨rfl, n7, rfl⟩
            go_wp2_with fail
            refine (asks_any (hR2.drew n7) hp hb hMj).mono ?_
            rintro e w8 ⟨r, p', f', rfl, hR8, _, hg8, hd⟩
            obtain ⟨rfl, rfl, rfl⟩ := hd HF0.out
            have HB8 : Hid (Below w.heap.size w w8) := below_of_grown (below_dn HB2.out n7) (Nat.le_refl _) hg8
            clear hg8 HB2 hR2 hd
            go_wp2_with fail
            exact ⟨⟨j + 1, by go_num, by omega, hR8, HB8⟩, by simp [intOf]; omega⟩
          · have b2 : decide ((j : Int) < (len2 : Int)) = false := by simp; omega
            clear hO2
            go_wp2_with (first
              | (go_at_call 25; refine (HFt'.out _ hR2).mono ?_; rintro e w7 ⟨rfl, n7, rfl⟩)
              | (go_at_call 26; refine (at_any (hR2.drew _)).mono ?_; rintro e w8 ⟨rfl, rfl⟩)
              | (go_at_call 27; refine (left_any (hR2.drew _) (by omega) (by omega) hb).mono ?_; rintro e w9 ⟨rfl, n9, rfl⟩))
            go_ret
            exact ⟨by simp; omega, below_dn HB2.out _⟩
end Go.Proofs.Ytajbkgahgnkodaa
