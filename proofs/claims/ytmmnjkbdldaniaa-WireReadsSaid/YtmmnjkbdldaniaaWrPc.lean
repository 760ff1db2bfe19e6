import Derived.Test.YtmmnjkbdldaniaaWrPb
namespace Go.Proofs.Ytmmnjkbdldaniaa
open Go.RowKit

set_option maxHeartbeats 1000000 in
theorem qtext_live {w : World} {G o p : Nat} {most : Int} {b : ByteArray} (hm : most ≤ 9223372036854775807) (h : RR w G o b p 0 0) (hp : p ≤ b.size) (hb : b.size ≤ 140737488351232) :
    Calls Try.prog 33 #[.pointer (some ⟨G, o, none⟩), .int .i64 most] w (HPost w G o p b (.string (textV b p)) (.string ⟨#[]⟩) (numQ b p + numV b p) (textK b p most.toNat)) := by
  have HN := hide (number_live (most := most.toNat) (above := 23) h hp hb (by decide))
  clear h
  by_cases h0 : most < 0
  all_goals
    (first | (have e0 : ((most.toNat : Nat) : Int) = 0 := by omega) | (have e0 : ((most.toNat : Nat) : Int) = most := by omega))
    rw [e0] at HN
    clear e0
    go_enter Try.func33, Try.ntmps33
    go_wp2_with fail
    refine HN.out.mono ?_
    rintro e w1 (⟨hk, rfl, hR, hW⟩ | ⟨hk, rfl, hR, hW⟩)
    · have c0 := hR.c0
      have c1 := hR.c1
      have c2 := hR.c2
      have z1 := hR.z (o + 1)
      obtain ⟨_, n1, n2, n3⟩ := num_parts b p most.toNat hp hk
      have hTK : textK b p most.toNat = if b.size < numQ b p + numV b p then 20 else 0 := by unfold textK; rw [if_neg (by simpa using hk)]
      have HTV : Hid (textV b p = b.extract (numQ b p) (numQ b p + numV b p)) := rfl
      have HTK := hide hTK
      have HR := hide hR
      have HW := hide hW
      clear hk hR hW hTK
      generalize numQ b p = mq at *
      generalize numV b p = mv at *
      by_cases hs : b.size < mq + mv
      · first
        | (exfalso; omega)
        | (have b1 : decide ((b.size : Int) - (mq : Int) < (mv : Int)) = true := by simp; omega
           have HS := hide hs
           clear hs
           go_wp2_with fail
           refine (wrong_live HR.out 20).mono ?_
           rintro e w2 ⟨⟨u, rfl⟩, hR2, hW2⟩
           have k2 := hR2.c2
           have HR2 := hide hR2
           have HW2 := hide hW2
           clear hR2 hW2
           go_wp2_with fail
           go_ret
           exact .inr ⟨by rw [HTK.out, if_pos HS.out]; decide, rfl, by rw [HTK.out, if_pos HS.out]; exact HR2.out, HW.out.trans HW2.out⟩)
      · have b1 : decide ((b.size : Int) - (mq : Int) < (mv : Int)) = false := by simp; omega
        have hnv : (mv : Int) ≤ 9223372036854775807 := by omega
        have HE := hide (And.intro (HR.out.set1 ((mq + mv : Nat) : Int)) (HW.out.trans (RW.set G o w1 1 (by decide) (.int .i64 ((mq + mv : Nat) : Int)))))
        have hle : mq + mv ≤ b.size := by omega
        go_wp2_with fail
        go_quiet (fail)
        go_wp2_with fail
        go_ret
        exact .inl ⟨by rw [HTK.out, if_neg (by omega)], by rw [HTV.out]; rfl, HE.out.1.drewN _, HE.out.2.trans (RW.drewN _ _ _ _)⟩
    · have c2 := hR.c2
      have hTK : textK b p most.toNat = numK b p most.toNat 23 := by unfold textK; rw [if_pos hk]
      have b1 : ((numK b p most.toNat 23 : Int) == 0) = false := by rw [beq_eq_false_iff_ne]; omega
      have b2 : ((numK b p most.toNat 23 : Int) != 0) = true := by rw [bne_iff_ne]; omega
      have HTK := hide hTK
      have HK := hide hk
      have HR := hide hR
      have HW := hide hW
      clear hk hR hW hTK
      generalize numK b p most.toNat 23 = kk at *
      go_wp2_with fail
      go_ret
      exact .inr ⟨by rw [HTK.out]; exact HK.out, rfl, by rw [HTK.out]; exact HR.out, HW.out⟩
set_option maxHeartbeats 400000 in
theorem qtext_dead {w : World} {G o : Nat} {b : ByteArray} {p f a most : Int} (hm : most ≤ 9223372036854775807) (h : RR w G o b p f a) (hf : f ≠ 0) :
    Calls Try.prog 33 #[.pointer (some ⟨G, o, none⟩), .int .i64 most] w fun e w' => e = .returned (.string ⟨#[]⟩) ∧ RR w' G o b p f a ∧ RW G o w w' := by
  have H := hide h
  have c2 := h.c2
  have b1 : (f == 0) = false := by rw [beq_eq_false_iff_ne]; exact hf
  have b2 : (f != 0) = true := by rw [bne_iff_ne]; exact hf
  clear h
  by_cases h0 : most < 0
  all_goals
    go_enter Try.func33, Try.ntmps33
    go_wp2_with fail
    refine (number_dead H.out hf).mono ?_
    rintro e w1 ⟨rfl, n, rfl⟩
    go_wp2_with fail
    go_ret
    exact ⟨rfl, H.out.drewN n, RW.drewN G o w n⟩

set_option maxHeartbeats 1000000 in
theorem qbits_live {w : World} {G o p : Nat} {b : ByteArray} (h : RR w G o b p 0 0) (hp : p ≤ b.size) (hb : b.size ≤ 140737488351232) :
    Calls Try.prog 32 #[.pointer (some ⟨G, o, none⟩)] w (HPost w G o p b (.int .u64 (bitsV b p : Int)) (.int .u64 0) (p + 8) (bitsK b p)) := by
  have c0 := h.c0
  have c1 := h.c1
  have c2 := h.c2
  have z1 := h.z (o + 1)
  have H := hide h
  clear h
  by_cases hs : b.size < p + 8
  · have HK : Hid (bitsK b p = 20) := if_pos hs
    have b1 : decide ((b.size : Int) - (p : Int) < 8) = true := by simp; omega
    go_enter Try.func32, Try.ntmps32
    go_wp2_with fail
    go_quiet (fail)
    go_wp2_with fail
    refine (wrong_live (H.out.drewN _) 20).mono ?_
    rintro e w2 ⟨⟨u, rfl⟩, hR2, hW2⟩
    have k2 := hR2.c2
    have HR2 := hide hR2
    have HW2 := hide hW2
    clear hR2 hW2
    go_wp2_with fail
    go_ret
    exact .inr ⟨by rw [HK.out]; decide, rfl, by rw [HK.out]; exact HR2.out, (RW.drewN _ _ _ _).trans HW2.out⟩
  · have HK : Hid (bitsK b p = 0) := if_neg hs
    have b1 : decide ((b.size : Int) - (p : Int) < 8) = false := by simp; omega
    go_enter Try.func32, Try.ntmps32
    go_wp2_with fail
    go_quiet (fail)
    go_wp2_with fail
    go_loopw [3, 4] (fun v i wr => ∃ k : Nat, k ≤ 8 ∧ i = .int .i64 (k : Int) ∧ v = .int .u64 (Pk.fold8 ((rest b p).take k) : Int) ∧ ∃ n, wr = w.drewN n) (fun _ i _ => 8 - (intOf i).toNat)
    case atStart => exact ⟨0, by omega, rfl, rfl, _, rfl⟩
    case round =>
      obtain ⟨k, hk8, rfl, rfl, n, rfl⟩ := hrel
      by_cases hk : k < 8
      · have hi : 0 ≤ (p : Int) + (k : Int) ∧ (p : Int) + (k : Int) < (b.size : Int) := by omega
        have hl2 : p + k < b.size := by omega
        have hlen : (rest b p).length = b.size - p := rest_len b p
        obtain ⟨c, hc⟩ : ∃ c : UInt8, b[((p : Int) + (k : Int)).toNat]'(by omega) = c := ⟨_, rfl⟩
        have hcb : c.toNat < 256 := UInt8.toNat_lt c
        have hcc : (rest b p).getD k 0 = c := by
          have h1 := rest_at b p k hl2
          have h2 : (rest b p)[k]? = some b[p + k] := by
            have := congrArg (fun l => l[0]?) h1
            simpa using this
          rw [List.getD_eq_getElem?_getD, h2, ← hc]
          simp only [Option.getD_some]
          congr 1
        have HE : Hid (bits .or .u64 (IntKind.u64.wrap ((Pk.fold8 ((rest b p).take k) : Int) * 256)) (c.toNat : Int) = (Pk.fold8 ((rest b p).take (k + 1)) : Int)) := by
          rw [Pk.fold8_take _ k (by omega), hcc]
          exact or8 _ _ (Pk.fold8_small _ k (by omega) hk) hcb
        have hkI : (k : Int) < 8 := by omega
        clear hcc
        go_wp2_with fail
        go_quiet (fail)
        go_wp2_with fail
        exact ⟨⟨k + 1, by omega, by go_num, by rw [HE.out], _, rfl⟩, by simp [intOf]; omega⟩
      · have hk' : k = 8 := by omega
        subst hk'
        have HV : Hid (bitsV b p = Pk.fold8 ((rest b p).take 8)) := rfl
        have HE := hide (And.intro ((H.out.drewN n).set1 ((p + 8 : Nat) : Int)) ((RW.drewN G o w n).trans (RW.set G o _ 1 (by decide) (.int .i64 ((p + 8 : Nat) : Int)))))
        go_wp2_with fail
        go_ret
        exact .inl ⟨HK.out, by rw [HV.out]; rfl, HE.out.1, HE.out.2⟩
set_option maxHeartbeats 400000 in
theorem qbits_dead {w : World} {G o : Nat} {b : ByteArray} {p f a : Int} (h : RR w G o b p f a) (hf : f ≠ 0) :
    Calls Try.prog 32 #[.pointer (some ⟨G, o, none⟩)] w fun e w' => e = .returned (.int .u64 0) ∧ RR w' G o b p f a ∧ RW G o w w' := by
  have H := hide h
  have c2 := h.c2
  have b1 : (f == 0) = false := by rw [beq_eq_false_iff_ne]; exact hf
  have b2 : (f != 0) = true := by rw [bne_iff_ne]; exact hf
  clear h
  go_enter Try.func32, Try.ntmps32
  go_wp2_with fail
  go_quiet (fail)
  go_wp2_with fail
  go_ret
  exact ⟨rfl, H.out.drewN _, RW.drewN G o w _⟩
end Go.Proofs.Ytmmnjkbdldaniaa
