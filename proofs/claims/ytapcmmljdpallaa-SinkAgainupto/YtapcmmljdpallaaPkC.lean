import Derived.Test.YtapcmmljdpallaaPkN
namespace Go.Proofs.Ytapcmmljdpallaa
open Go.RowKit

/-- what groups comes to -/
def GPost (w : World) (B p : Nat) (b : ByteArray) (f : Int) (D : Nat × Nat × Nat) (e : Ending) (w' : World) : Prop :=
  (∃ n m, D = (0, n, m) ∧ e = .returned (.int .u64 (n : Int)) ∧ Rd w' B b ((p + m : Nat) : Int) f ∧ w.grownBy w' (some B)) ∨
  (∃ k : Nat, k ≠ 0 ∧ D = (k, 0, 0) ∧ Gives e k ∧ ∃ n, w' = w.drewN n)

set_option maxHeartbeats 1600000 in
set_option maxRecDepth 40000 in
theorem groups_any {w : World} {B p : Nat} {b : ByteArray} {f : Int} (hRd : Rd w B b p f) (hp : p ≤ b.size) (hb : b.size ≤ 140737488351232) :
    Calls Try.prog 54 #[.pointer (some ⟨B, 0, none⟩)] w (GPost w B p b f (Pk.dec 0 0 (rest b p))) := by
  have c0 := hRd.c0
  have c1 := hRd.c1
  have z1 := hRd.z 1
  go_enter Try.func54, Try.ntmps54
  go_wp2_with (go_at_call 40; refine (left_any hRd (by omega) (by omega) hb).mono ?_; rintro e w' ⟨rfl, n, rfl⟩)
  all_goals go_loopw [3, 9] (fun v i wr => ∃ k acc : Nat, i = .int .i64 (k : Int) ∧ v = .int .u64 (acc : Int) ∧ k ≤ 10 ∧ p + k ≤ b.size ∧ GRel (Pk.dec 0 0 (rest b p)) (rest b p) k acc ∧ ∃ n, wr = w.drewN n) (fun _ i _ => 10 - (intOf i).toNat)
  all_goals try (case atStart => exact ⟨0, 0, rfl, rfl, by omega, by omega, ⟨by omega, fun _ => ⟨by decide, rfl⟩, fun h => by cases h⟩, _, rfl⟩)
  all_goals
    obtain ⟨k, acc, rfl, rfl, hk10, hpk, hG, n, rfl⟩ := hrel
    by_cases hlt : k < 10 ∧ p + k < b.size
    · have hl1 := hlt.1
      have hl2 := hlt.2
      clear hlt
      have hw : IntKind.i64.wrap ((p : Int) + (k : Int)) = ((p + k : Nat) : Int) := by rw [IntKind.wrap_i64]; omega
      have hi : 0 ≤ (p : Int) + (k : Int) ∧ (p : Int) + (k : Int) < (b.size : Int) := by omega
      obtain ⟨c, hc⟩ : ∃ c : UInt8, b[((p : Int) + (k : Int)).toNat]'(by omega) = c := ⟨_, rfl⟩
      rcases (show 128 ≤ c.toNat ∨ (c.toNat < 128 ∧ 0 < k ∧ c.toNat = 0) ∨ (c.toNat < 128 ∧ k = 9 ∧ 1 < c.toNat) ∨ (c.toNat < 128 ∧ k = 0) ∨ (c.toNat < 128 ∧ 0 < k ∧ 0 < c.toNat ∧ k ≠ 9) ∨ (k = 9 ∧ c.toNat = 1) by omega) with hA | ⟨hA, hB, hC⟩ | ⟨hA, hB, hC⟩ | ⟨hA, hB⟩ | ⟨hA, hB, hC, hE⟩ | ⟨hB, hA⟩
      · obtain ⟨acc', he, hG'⟩ := hG.next hl1 hl2 hc hA
        have HE : Hid (bits .or .u64 (acc : Int) (IntKind.u64.wrap ((c.toNat : Int) % 128 * 2 ^ (7 * k))) = (acc' : Int)) := he
        clear he hG
        go_wp2
        go_quiet (fail)
        go_wp2
        go_roundw
        case rel => exact ⟨k + 1, acc', by go_num, by rw [HE.out], by omega, by omega, hG', _, rfl⟩
        case measure => simp [intOf]; omega
      · have hD := hG.bad hl1 hl2 hc hA (.inl ⟨hB, hC⟩)
        clear hG
        have b0 : 0 < k := by omega
        go_wp2
        go_quiet (fail)
        go_wp2
        exact ⟨rfl, .inr ⟨22, by decide, hD, rfl, _, rfl⟩⟩
      · have hD := hG.bad hl1 hl2 hc hA (.inr ⟨hB, hC⟩)
        clear hG
        by_cases hbig : b.size < p + 10
        · exfalso; omega
        have b0 : 0 < k := by omega
        have b1 : ((c.toNat : Int) == 0) = false := by rw [beq_eq_false_iff_ne]; omega
        have b2 : decide ((1 : Int) < (c.toNat : Int)) = true := by simp; omega
        have b3 : ((k : Int) == 9) = true := by rw [beq_iff_eq]; omega
        clear hB
        go_wp2
        all_goals go_quiet (fail)
        all_goals go_wp2
        all_goals exact ⟨rfl, .inr ⟨22, by decide, hD, rfl, _, rfl⟩⟩
      · obtain ⟨acc', he, hD⟩ := hG.good hl1 hl2 hc hA (by omega)
        have HE : Hid (bits .or .u64 (acc : Int) (IntKind.u64.wrap ((c.toNat : Int) % 128 * 2 ^ (7 * k))) = (acc' : Int)) := he
        have HD : Hid (Pk.dec 0 0 (rest b p) = (0, acc', k + 1)) := hD
        have b0 : ¬ 0 < k := by omega
        have b3 : ((k : Int) == 9) = false := by rw [beq_eq_false_iff_ne]; omega
        clear he hD hG hB
        go_wp2
        go_quiet (fail)
        go_wp2
        go_ret
        exact .inl ⟨acc', _, HD.out, by rw [HE.out]; rfl, hRd.set1, gSet1 _ _ _ _⟩
      · obtain ⟨acc', he, hD⟩ := hG.good hl1 hl2 hc hA (by omega)
        have HE : Hid (bits .or .u64 (acc : Int) (IntKind.u64.wrap ((c.toNat : Int) % 128 * 2 ^ (7 * k))) = (acc' : Int)) := he
        have HD : Hid (Pk.dec 0 0 (rest b p) = (0, acc', k + 1)) := hD
        clear he hD hG
        have b0 : 0 < k := by omega
        have b1 : ((c.toNat : Int) == 0) = false := by rw [beq_eq_false_iff_ne]; omega
        have b2 : ((k : Int) == 9) = false := by rw [beq_eq_false_iff_ne]; omega
        go_wp2
        go_quiet (fail)
        go_wp2
        go_ret
        exact .inl ⟨acc', _, HD.out, by rw [HE.out]; rfl, hRd.set1, gSet1 _ _ _ _⟩
      · obtain ⟨acc', he, hD⟩ := hG.good hl1 hl2 hc (by omega) (by omega)
        have HE : Hid (bits .or .u64 (acc : Int) (IntKind.u64.wrap ((c.toNat : Int) % 128 * 2 ^ (7 * k))) = (acc' : Int)) := he
        have HD : Hid (Pk.dec 0 0 (rest b p) = (0, acc', k + 1)) := hD
        clear he hD hG
        by_cases hbig : b.size < p + 10
        · exfalso; omega
        have b0 : 0 < k := by omega
        have b1 : ((c.toNat : Int) == 0) = false := by rw [beq_eq_false_iff_ne]; omega
        have b2 : decide ((1 : Int) < (c.toNat : Int)) = false := by simp; omega
        have b3 : ((k : Int) == 9) = true := by rw [beq_iff_eq]; omega
        have b4 : decide ((128 : Int) ≤ (c.toNat : Int)) = false := by simp; omega
        clear hA hB
        go_wp2
        all_goals go_quiet (fail)
        all_goals go_wp2
        all_goals go_ret
        all_goals exact .inl ⟨acc', _, HD.out, by rw [HE.out]; rfl, hRd.set1, gSet1 _ _ _ _⟩
    · by_cases hbig : b.size < p + 10
      · have HD : Hid (Pk.dec 0 0 (rest b p) = (20, 0, 0)) := hG.done (by omega) (by omega)
        have b0 : decide ((k : Int) < (b.size : Int) - (p : Int)) = false := by simp; omega
        have b1 : decide ((b.size : Int) - (p : Int) < 10) = true := by simp; omega
        clear hG hlt
        go_wp2_with (go_at_call 40; refine (left_any (hRd.drew _) (by omega) (by omega) hb).mono ?_; rintro e w' ⟨rfl, n, rfl⟩)
        all_goals exact ⟨rfl, .inr ⟨20, by decide, HD.out, rfl, _, rfl⟩⟩
      · have HD : Hid (Pk.dec 0 0 (rest b p) = (22, 0, 0)) := hG.ten (by omega)
        have b0 : decide ((k : Int) < 10) = false := by simp; omega
        have b1 : decide ((b.size : Int) - (p : Int) < 10) = false := by simp; omega
        clear hG hlt
        go_wp2_with (go_at_call 40; refine (left_any (hRd.drew _) (by omega) (by omega) hb).mono ?_; rintro e w' ⟨rfl, n, rfl⟩)
        all_goals exact ⟨rfl, .inr ⟨22, by decide, HD.out, rfl, _, rfl⟩⟩
end Go.Proofs.Ytapcmmljdpallaa
