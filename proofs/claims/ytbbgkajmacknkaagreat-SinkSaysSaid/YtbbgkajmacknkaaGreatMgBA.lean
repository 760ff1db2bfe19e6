import Derived.Test.YtbbgkajmacknkaaGreatMgAZ

section
namespace Go.Proofs.YtbbgkajmacknkaaGreat
open Go.RowKit

/-- what a call of the document's reader comes to -/
def HPost (w : World) (G o p : Nat) (b : ByteArray) (A Z : Value) (q k : Nat) (e : Ending) (w' : World) : Prop :=
  (k = 0 ∧ e = .returned A ∧ RR w' G o b q 0 0 ∧ RW G o w w') ∨ (k ≠ 0 ∧ e = .returned Z ∧ RR w' G o b p (k : Int) p ∧ RW G o w w')

set_option maxHeartbeats 400000 in
theorem qnum_live {w : World} {G o p most : Nat} {b : ByteArray} (h : RR w G o b p 0 0) (hp : p ≤ b.size) (hb : b.size ≤ 140737488351232) :
    Calls Tryz.prog 26 #[.pointer (some ⟨G, o, none⟩), .int .u64 (most : Int)] w (HPost w G o p b (.int .u64 (numV b p : Int)) (.int .u64 0) (numQ b p) (numK b p most 21)) := by
  have HN := hide (number_live (most := most) (above := 21) h hp hb (by decide))
  clear h
  go_enter Tryz.func26, Tryz.ntmps26
  go_wp2_with fail
  refine HN.out.mono ?_
  rintro e w1 (⟨hk, rfl, hR, hW⟩ | ⟨hk, rfl, hR, hW⟩)
  · have c1 := hR.c1
    have z1 := hR.z (o + 1)
    have HK := hide hk
    have HE := hide (And.intro (hR.set1 (numQ b p)) (hW.trans (RW.set G o w1 1 (by decide) (.int .i64 (numQ b p : Int)))))
    clear hk hR hW
    go_wp2_with fail
    go_ret
    exact .inl ⟨HK.out, rfl, HE.out.1, HE.out.2⟩
  · have c1 := hR.c1
    have z1 := hR.z (o + 1)
    have HK := hide hk
    have HE := hide (And.intro (hR.set1 (p : Int)) (hW.trans (RW.set G o w1 1 (by decide) (.int .i64 (p : Int)))))
    clear hk hR hW
    go_wp2_with fail
    go_ret
    exact .inr ⟨HK.out, rfl, HE.out.1, HE.out.2⟩
set_option maxHeartbeats 400000 in
theorem qnum_dead {w : World} {G o : Nat} {b : ByteArray} {p f a most : Int} (h : RR w G o b p f a) (hf : f ≠ 0) :
    Calls Tryz.prog 26 #[.pointer (some ⟨G, o, none⟩), .int .u64 most] w fun e w' => e = .returned (.int .u64 0) ∧ RR w' G o b p f a ∧ RW G o w w' := by
  have H := hide h
  have c1 := h.c1
  have z1 := h.z (o + 1)
  go_enter Tryz.func26, Tryz.ntmps26
  go_wp2_with fail
  refine (number_dead H.out hf).mono ?_
  rintro e w1 ⟨rfl, n, rfl⟩
  have HE := hide (And.intro ((H.out.drewN n).set1 p) ((RW.drewN G o w n).trans (RW.set G o _ 1 (by decide) (.int .i64 p))))
  clear h
  go_wp2_with fail
  go_ret
  exact ⟨rfl, HE.out.1, HE.out.2⟩

theorem numV_le {b : ByteArray} {p most above : Nat} (ha : above ≠ 0) (h : numK b p most above = 0) : numV b p ≤ most := by
  unfold numK at h
  unfold numV
  split at h
  · next h1 => exact absurd h h1
  · split at h
    · exact absurd h ha
    · omega

set_option maxHeartbeats 1000000 in
theorem qend_any {w : World} {G o : Nat} {b : ByteArray} {p f : Int} (h : RR w G o b p f (if f = 0 then 0 else p)) :
    Calls Tryz.prog 29 #[.pointer (some ⟨G, o, none⟩)] w fun e w' => e = .returned (.tuple #[.int .i64 (endE b p f), .int .i64 (endP b p f)]) ∧ ∃ n, w' = w.drewN n := by
  have c0 := h.c0
  have c1 := h.c1
  have c2 := h.c2
  have c3 := h.c3
  clear h
  by_cases hf : f = 0
  · subst hf
    rw [if_pos rfl] at c3
    by_cases hl : p < (b.size : Int)
    · have e1 : endE b p 0 = 24 := by unfold endE; rw [if_pos ⟨rfl, hl⟩]
      have e2 : endP b p 0 = p := by unfold endP; rw [if_neg (fun k => k.2 hl)]
      rw [e1, e2]
      have hl' : decide (p < (b.size : Int)) = true := by simp; omega
      clear e1 e2 hl
      go_enter Tryz.func29, Tryz.ntmps29
      go_wp2_with fail
      go_quiet (fail)
      go_wp2_with fail
      go_quiet (fail)
      go_wp2_with fail
      go_ret2
      exact ⟨rfl, _, World.drewN_drewN _ _ _⟩
    · have e1 : endE b p 0 = 0 := by unfold endE; rw [if_neg (fun k => hl k.2)]
      have e2 : endP b p 0 = 0 := by unfold endP; rw [if_pos ⟨rfl, hl⟩]
      rw [e1, e2]
      have hl' : decide (p < (b.size : Int)) = false := by simp; omega
      clear e1 e2 hl
      go_enter Tryz.func29, Tryz.ntmps29
      go_wp2_with fail
      go_quiet (fail)
      go_wp2_with fail
      go_quiet (fail)
      go_wp2_with fail
      go_ret2
      exact ⟨rfl, _, World.drewN_drewN _ _ _⟩
  · have e1 : endE b p f = f := by unfold endE; rw [if_neg (fun k => hf k.1)]
    have e2 : endP b p f = p := by unfold endP; rw [if_neg (fun k => hf k.1)]
    rw [e1, e2]
    rw [if_neg hf] at c3
    have hf' : (f == 0) = false := by rw [beq_eq_false_iff_ne]; exact hf
    clear e1 e2 hf
    go_enter Tryz.func29, Tryz.ntmps29
    go_wp2_with fail
    go_quiet (fail)
    go_wp2_with fail
    go_quiet (fail)
    go_wp2_with fail
    go_ret2
    exact ⟨rfl, _, World.drewN_drewN _ _ _⟩
end Go.Proofs.YtbbgkajmacknkaaGreat
end

section
namespace Go.Proofs.YtbbgkajmacknkaaGreat
open Go.RowKit

set_option maxHeartbeats 1000000 in
theorem qtext_live {w : World} {G o p : Nat} {most : Int} {b : ByteArray} (hm : most ≤ 9223372036854775807) (h : RR w G o b p 0 0) (hp : p ≤ b.size) (hb : b.size ≤ 140737488351232) :
    Calls Tryz.prog 28 #[.pointer (some ⟨G, o, none⟩), .int .i64 most] w (HPost w G o p b (.string (textV b p)) (.string ⟨#[]⟩) (numQ b p + numV b p) (textK b p most.toNat)) := by
  have HN := hide (number_live (most := most.toNat) (above := 23) h hp hb (by decide))
  clear h
  by_cases h0 : most < 0
  all_goals
    (first | (have e0 : ((most.toNat : Nat) : Int) = 0 := by omega) | (have e0 : ((most.toNat : Nat) : Int) = most := by omega))
    rw [e0] at HN
    clear e0
    go_enter Tryz.func28, Tryz.ntmps28
    go_wp2_with fail
    refine HN.out.mono ?_
    rintro e w1 (⟨hk, rfl, hR, hW⟩ | ⟨hk, rfl, hR, hW⟩)
    · have c0 := hR.c0
      have c1 := hR.c1
      have c2 := hR.c2
      have z1 := hR.z (o + 1)
      obtain ⟨_, n1, n2, n3⟩ := num_parts b p most.toNat hp hk
      have hTK : textK b p most.toNat = if b.size < numQ b p + numV b p then 20 else 0 := by unfold textK; rw [if_neg (by simpa using hk)]
      have HTV : Hid (textV b p = b.extract (numQ b p) (numQ b p + numV b p)) := rfl
      have HTK := hide hTK
      have HR := hide hR
      have HW := hide hW
      clear hk hR hW hTK
      generalize numQ b p = mq at *
      generalize numV b p = mv at *
      by_cases hs : b.size < mq + mv
      · first
        | (exfalso; omega)
        | (have b1 : decide ((b.size : Int) - (mq : Int) < (mv : Int)) = true := by simp; omega
           have HS := hide hs
           clear hs
           go_wp2_with fail
           refine (wrong_live HR.out 20).mono ?_
           rintro e w2 ⟨⟨u, rfl⟩, hR2, hW2⟩
           have k2 := hR2.c2
           have HR2 := hide hR2
           have HW2 := hide hW2
           clear hR2 hW2
           go_wp2_with fail
           go_ret
           exact .inr ⟨by rw [HTK.out, if_pos HS.out]; decide, rfl, by rw [HTK.out, if_pos HS.out]; exact HR2.out, HW.out.trans HW2.out⟩)
      · have b1 : decide ((b.size : Int) - (mq : Int) < (mv : Int)) = false := by simp; omega
        have hnv : (mv : Int) ≤ 9223372036854775807 := by omega
        have HE := hide (And.intro (HR.out.set1 ((mq + mv : Nat) : Int)) (HW.out.trans (RW.set G o w1 1 (by decide) (.int .i64 ((mq + mv : Nat) : Int)))))
        have hle : mq + mv ≤ b.size := by omega
        go_wp2_with fail
        go_quiet (fail)
        go_wp2_with fail
        go_ret
        exact .inl ⟨by rw [HTK.out, if_neg (by omega)], by rw [HTV.out]; rfl, HE.out.1.drewN _, HE.out.2.trans (RW.drewN _ _ _ _)⟩
    · have c2 := hR.c2
      have hTK : textK b p most.toNat = numK b p most.toNat 23 := by unfold textK; rw [if_pos hk]
      have b1 : ((numK b p most.toNat 23 : Int) == 0) = false := by rw [beq_eq_false_iff_ne]; omega
      have b2 : ((numK b p most.toNat 23 : Int) != 0) = true := by rw [bne_iff_ne]; omega
      have HTK := hide hTK
      have HK := hide hk
      have HR := hide hR
      have HW := hide hW
      clear hk hR hW hTK
      generalize numK b p most.toNat 23 = kk at *
      go_wp2_with fail
      go_ret
      exact .inr ⟨by rw [HTK.out]; exact HK.out, rfl, by rw [HTK.out]; exact HR.out, HW.out⟩
set_option maxHeartbeats 400000 in
theorem qtext_dead {w : World} {G o : Nat} {b : ByteArray} {p f a most : Int} (hm : most ≤ 9223372036854775807) (h : RR w G o b p f a) (hf : f ≠ 0) :
    Calls Tryz.prog 28 #[.pointer (some ⟨G, o, none⟩), .int .i64 most] w fun e w' => e = .returned (.string ⟨#[]⟩) ∧ RR w' G o b p f a ∧ RW G o w w' := by
  have H := hide h
  have c2 := h.c2
  have b1 : (f == 0) = false := by rw [beq_eq_false_iff_ne]; exact hf
  have b2 : (f != 0) = true := by rw [bne_iff_ne]; exact hf
  clear h
  by_cases h0 : most < 0
  all_goals
    go_enter Tryz.func28, Tryz.ntmps28
    go_wp2_with fail
    refine (number_dead H.out hf).mono ?_
    rintro e w1 ⟨rfl, n, rfl⟩
    go_wp2_with fail
    go_ret
    exact ⟨rfl, H.out.drewN n, RW.drewN G o w n⟩

set_option maxHeartbeats 1000000 in
theorem qbits_live {w : World} {G o p : Nat} {b : ByteArray} (h : RR w G o b p 0 0) (hp : p ≤ b.size) (hb : b.size ≤ 140737488351232) :
    Calls Tryz.prog 27 #[.pointer (some ⟨G, o, none⟩)] w (HPost w G o p b (.int .u64 (bitsV b p : Int)) (.int .u64 0) (p + 8) (bitsK b p)) := by
  have c0 := h.c0
  have c1 := h.c1
  have c2 := h.c2
  have z1 := h.z (o + 1)
  have H := hide h
  clear h
  by_cases hs : b.size < p + 8
  · have HK : Hid (bitsK b p = 20) := if_pos hs
    have b1 : decide ((b.size : Int) - (p : Int) < 8) = true := by simp; omega
    go_enter Tryz.func27, Tryz.ntmps27
    go_wp2_with fail
    go_quiet (fail)
    go_wp2_with fail
    refine (wrong_live (H.out.drewN _) 20).mono ?_
    rintro e w2 ⟨⟨u, rfl⟩, hR2, hW2⟩
    have k2 := hR2.c2
    have HR2 := hide hR2
    have HW2 := hide hW2
    clear hR2 hW2
    go_wp2_with fail
    go_ret
    exact .inr ⟨by rw [HK.out]; decide, rfl, by rw [HK.out]; exact HR2.out, (RW.drewN _ _ _ _).trans HW2.out⟩
  · have HK : Hid (bitsK b p = 0) := if_neg hs
    have b1 : decide ((b.size : Int) - (p : Int) < 8) = false := by simp; omega
    go_enter Tryz.func27, Tryz.ntmps27
    go_wp2_with fail
    go_quiet (fail)
    go_wp2_with fail
    go_loopw [3, 4] (fun v i wr => ∃ k : Nat, k ≤ 8 ∧ i = .int .i64 (k : Int) ∧ v = .int .u64 (Pk.fold8 ((rest b p).take k) : Int) ∧ ∃ n, wr = w.drewN n) (fun _ i _ => 8 - (intOf i).toNat)
    case atStart => exact ⟨0, by omega, rfl, rfl, _, rfl⟩
    case round =>
      obtain ⟨k, hk8, rfl, rfl, n, rfl⟩ := hrel
      by_cases hk : k < 8
      · have hi : 0 ≤ (p : Int) + (k : Int) ∧ (p : Int) + (k : Int) < (b.size : Int) := by omega
        have hl2 : p + k < b.size := by omega
        have hlen : (rest b p).length = b.size - p := rest_len b p
        obtain ⟨c, hc⟩ : ∃ c : UInt8, b[((p : Int) + (k : Int)).toNat]'(by omega) = c := ⟨_, rfl⟩
        have hcb : c.toNat < 256 := UInt8.toNat_lt c
        have hcc : (rest b p).getD k 0 = c := by
          have h1 := rest_at b p k hl2
          have h2 : (rest b p)[k]? = some b[p + k] := by
            have := congrArg (fun l => l[0]?) h1
            simpa using this
          rw [List.getD_eq_getElem?_getD, h2, ← hc]
          simp only [Option.getD_some]
          congr 1
        have HE : Hid (bits .or .u64 (IntKind.u64.wrap ((Pk.fold8 ((rest b p).take k) : Int) * 256)) (c.toNat : Int) = (Pk.fold8 ((rest b p).take (k + 1)) : Int)) := by
          rw [Pk.fold8_take _ k (by omega), hcc]
          exact or8 _ _ (Pk.fold8_small _ k (by omega) hk) hcb
        have hkI : (k : Int) < 8 := by omega
        clear hcc
        go_wp2_with fail
        go_quiet (fail)
        go_wp2_with fail
        exact ⟨⟨k + 1, by omega, by go_num, by rw [HE.out], _, rfl⟩, by simp [intOf]; omega⟩
      · have hk' : k = 8 := by omega
        subst hk'
        have HV : Hid (bitsV b p = Pk.fold8 ((rest b p).take 8)) := rfl
        have HE := hide (And.intro ((H.out.drewN n).set1 ((p + 8 : Nat) : Int)) ((RW.drewN G o w n).trans (RW.set G o _ 1 (by decide) (.int .i64 ((p + 8 : Nat) : Int)))))
        go_wp2_with fail
        go_ret
        exact .inl ⟨HK.out, by rw [HV.out]; rfl, HE.out.1, HE.out.2⟩
set_option maxHeartbeats 400000 in
theorem qbits_dead {w : World} {G o : Nat} {b : ByteArray} {p f a : Int} (h : RR w G o b p f a) (hf : f ≠ 0) :
    Calls Tryz.prog 27 #[.pointer (some ⟨G, o, none⟩)] w fun e w' => e = .returned (.int .u64 0) ∧ RR w' G o b p f a ∧ RW G o w w' := by
  have H := hide h
  have c2 := h.c2
  have b1 : (f == 0) = false := by rw [beq_eq_false_iff_ne]; exact hf
  have b2 : (f != 0) = true := by rw [bne_iff_ne]; exact hf
  clear h
  go_enter Tryz.func27, Tryz.ntmps27
  go_wp2_with fail
  go_quiet (fail)
  go_wp2_with fail
  go_ret
  exact ⟨rfl, H.out.drewN _, RW.drewN G o w _⟩
end Go.Proofs.YtbbgkajmacknkaaGreat
end

section
namespace Go.Proofs.YtbbgkajmacknkaaGreat
set_option maxRecDepth 20000
open Go.RowKit Go.Shelf
open Wr (Ms V L)

def aD (p f : Nat) : Int := if (f : Int) = 0 then 0 else (p : Int)
theorem aD0 (p : Nat) : aD p 0 = 0 := rfl
theorem aDn {p f : Nat} (h : f ≠ 0) : aD p f = p := if_neg (by omega)
theorem dnumP {w : World} {G p f most : Nat} {b : ByteArray} (h : RR w G 0 b p f (aD p f)) (hp : p ≤ b.size) (hb : b.size ≤ 140737488351232) :
    Calls Tryz.prog 26 #[.pointer (some ⟨G, 0, none⟩), .int .u64 (most : Int)] w fun e w' => e = .returned (.int .u64 ((Wr.rdN b most p f).1 : Int)) ∧ RR w' G 0 b ((Wr.rdN b most p f).2.1 : Int) ((Wr.rdN b most p f).2.2 : Int) (aD (Wr.rdN b most p f).2.1 (Wr.rdN b most p f).2.2) ∧ RW G 0 w w' := by
  by_cases hf : f = 0
  · subst hf
    refine (qnum_live (most := most) h hp hb).mono ?_
    rintro e w' (⟨hk, e1, e2, e3⟩ | ⟨hk, e1, e2, e3⟩)
    · unfold Wr.rdN; rw [if_neg (by simp), if_pos hk]; exact ⟨e1, e2, e3⟩
    · unfold Wr.rdN; rw [if_neg (by simp), if_neg hk]; exact ⟨e1, by rw [aDn hk]; exact e2, e3⟩
  · refine (qnum_dead (most := (most : Int)) h (by omega)).mono ?_
    rintro e w' ⟨e1, e2, e3⟩
    rw [Wr.rdN_dead hf]; exact ⟨e1, e2, e3⟩
theorem dtextP {w : World} {G p f most : Nat} {b : ByteArray} (hm : most ≤ 9223372036854775807) (h : RR w G 0 b p f (aD p f)) (hp : p ≤ b.size) (hb : b.size ≤ 140737488351232) :
    Calls Tryz.prog 28 #[.pointer (some ⟨G, 0, none⟩), .int .i64 (most : Int)] w fun e w' => e = .returned (.string (Wr.rdT b most p f).1) ∧ RR w' G 0 b ((Wr.rdT b most p f).2.1 : Int) ((Wr.rdT b most p f).2.2 : Int) (aD (Wr.rdT b most p f).2.1 (Wr.rdT b most p f).2.2) ∧ RW G 0 w w' := by
  by_cases hf : f = 0
  · subst hf
    refine (qtext_live (most := (most : Int)) (by omega) h hp hb).mono ?_
    rw [show ((most : Int)).toNat = most from rfl]
    rintro e w' (⟨hk, e1, e2, e3⟩ | ⟨hk, e1, e2, e3⟩)
    · unfold Wr.rdT; rw [if_neg (by simp), if_pos hk]; exact ⟨e1, e2, e3⟩
    · unfold Wr.rdT; rw [if_neg (by simp), if_neg hk]; exact ⟨e1, by rw [aDn hk]; exact e2, e3⟩
  · refine (qtext_dead (most := (most : Int)) (by omega) h (by omega)).mono ?_
    rintro e w' ⟨e1, e2, e3⟩
    rw [Wr.rdT_dead hf]; exact ⟨e1, e2, e3⟩
theorem dbitsP {w : World} {G p f : Nat} {b : ByteArray} (h : RR w G 0 b p f (aD p f)) (hp : p ≤ b.size) (hb : b.size ≤ 140737488351232) :
    Calls Tryz.prog 27 #[.pointer (some ⟨G, 0, none⟩)] w fun e w' => e = .returned (.int .u64 ((Wr.rdB b p f).1 : Int)) ∧ RR w' G 0 b ((Wr.rdB b p f).2.1 : Int) ((Wr.rdB b p f).2.2 : Int) (aD (Wr.rdB b p f).2.1 (Wr.rdB b p f).2.2) ∧ RW G 0 w w' := by
  by_cases hf : f = 0
  · subst hf
    refine (qbits_live h hp hb).mono ?_
    rintro e w' (⟨hk, e1, e2, e3⟩ | ⟨hk, e1, e2, e3⟩)
    · unfold Wr.rdB; rw [if_neg (by simp), if_pos hk]; exact ⟨e1, e2, e3⟩
    · unfold Wr.rdB; rw [if_neg (by simp), if_neg hk]; exact ⟨e1, by rw [aDn hk]; exact e2, e3⟩
  · refine (qbits_dead h (by omega)).mono ?_
    rintro e w' ⟨e1, e2, e3⟩
    rw [Wr.rdB_dead hf]; exact ⟨e1, e2, e3⟩
def limD (_ : Int) : L → Nat
  | .T => 2048 | .P => 2048 | _ => 1099511627776
theorem lim_d : Wr.Lim limD := ⟨fun k l => by cases l <;> simp only [limD] <;> decide, fun k l => by cases l <;> simp only [Wr.most, limD] <;> (try split) <;> decide⟩
/-- the document's letters, one that is none beside them -/
def lsO (k : Int) : List (Option L) := if k < 1 ∨ 16 < k then [none] else (Wr.letters k).map some
def rdsO (b : ByteArray) (lim : L → Nat) : List (Option L) → Nat → Nat → Ms → Nat × Nat × Ms
  | [], p, f, m => (p, f, m)
  | none :: ls, p, f, m => rdsO b lim ls p f m
  | some l :: ls, p, f, m => rdsO b lim ls (Wr.rd b lim l p f).2.1 (Wr.rd b lim l p f).2.2 (Wr.set l (Wr.rd b lim l p f).1 m)
theorem rdsO_some (b : ByteArray) (lim : L → Nat) (ls : List L) : ∀ p f m, rdsO b lim (ls.map some) p f m = Wr.rds b lim ls p f m := by
  induction ls with
  | nil => intro p f m; rfl
  | cons l ls ih => intro p f m; simp only [List.map_cons, rdsO, Wr.rds]; exact ih _ _ _
theorem rdsO_k (b : ByteArray) (lim : L → Nat) (k : Nat) (hk : k ≤ 16) (p f : Nat) (m : Ms) : rdsO b lim (lsO k) p f m = Wr.rds b lim (Wr.letters k) p f m := by
  unfold lsO
  by_cases h : (k : Int) < 1 ∨ 16 < (k : Int)
  · rw [if_pos h]
    obtain rfl : k = 0 := by omega
    rfl
  · rw [if_neg h]; exact rdsO_some b lim _ p f m
def lowO : Option L → UInt8
  | none => 63 | some l => lowB l
theorem lsO_len (k : Int) : (nstr k).size = (lsO k).length := by
  unfold nstr lsO
  by_cases h : k < 1 ∨ 16 < k
  · rw [if_pos h, if_pos h]; rfl
  · rw [if_neg h, if_neg h]; show (List.toArray _).size = _; simp
theorem lsO_at (k : Int) (i : Nat) (hi : i < (lsO k).length) (hs : i < (nstr k).size) : (nstr k)[i]'hs = lowO (lsO k)[i] := by
  have e : (nstr k).data.toList = (lsO k).map lowO := by
    unfold nstr lsO
    by_cases h : k < 1 ∨ 16 < k
    · rw [if_pos h, if_pos h]; rfl
    · rw [if_neg h, if_neg h, List.map_map]; rfl
  have h : i < (nstr k).data.toList.length := hs
  have : (nstr k)[i]'hs = (nstr k).data.toList[i]'h := rfl
  rw [this]
  simp only [e, List.getElem_map]
theorem rdsO_drop {b : ByteArray} {lim : L → Nat} {ls : List (Option L)} {i : Nat} (hi : i < ls.length) (p f : Nat) (mi : Ms) : rdsO b lim (ls.drop i) p f mi = rdsO b lim (ls[i] :: ls.drop (i + 1)) p f mi := by
  rw [List.drop_eq_getElem_cons hi]
structure DdI (w : World) (A G : Nat) (b : ByteArray) (ls : List (Option L)) (R : Nat × Nat × Ms) (i p f : Nat) (mi : Ms) (wr : World) : Prop where
  mg : Mg wr A mi
  rr : RR wr G 0 b p f (aD p f)
  ple : p ≤ b.size
  bl : Below (w.heap.size + 1) (w.alloc (.cells (msgC (Wr.zM 0)) 27)) wr
  eq : R = rdsO b (limD 0) (ls.drop i) p f mi
theorem RW.bl {w wr w5 : World} {G : Nat} {o : Obj} (h : RW G 0 wr w5) (hb : Below (w.heap.size + 1) (w.alloc o) wr) (hG : w.heap.size + 1 ≤ G) : Below (w.heap.size + 1) (w.alloc o) w5 :=
  ⟨h.os.trans hb.os, h.tape.trans hb.tape, h.output.trans hb.output, by rw [h.size]; exact hb.size, fun j hj => (h.other j (by omega)).trans (hb.block j hj)⟩
theorem bl_set {w w5 : World} {A : Nat} {o : Obj} (hb : Below (w.heap.size + 1) (w.alloc o) w5) (hA : w.heap.size + 1 ≤ A) (k : Nat) (v : Value) : Below (w.heap.size + 1) (w.alloc o) (w5.setCell ⟨A, k, none⟩ v) :=
  ⟨hb.os, hb.tape, hb.output, by simpa using hb.size, fun j hj => (Below.heap_setCell w5 _ v j (by show j ≠ A; omega)).trans (hb.block j hj)⟩
theorem DdI.sw {w : World} {A G : Nat} {b : ByteArray} {ls : List (Option L)} {R : Nat × Nat × Ms} {i p f : Nat} {mi : Ms} {wr w5 : World} (h : DdI w A G b ls R i p f mi wr) (hi : i < ls.length) {l : L} (hl : ls[i] = some l) (hw : isW l = true) (hlim : limD 0 l = 1099511627776) (hAG : A ≠ G) (hA : w.heap.size + 1 ≤ A) (hG : w.heap.size + 1 ≤ G)
    (hr : RR w5 G 0 b ((Wr.rdN b 1099511627776 p f).2.1 : Int) ((Wr.rdN b 1099511627776 p f).2.2 : Int) (aD (Wr.rdN b 1099511627776 p f).2.1 (Wr.rdN b 1099511627776 p f).2.2)) (hW : RW G 0 wr w5) :
    DdI w A G b ls R (i + 1) (Wr.rdN b 1099511627776 p f).2.1 (Wr.rdN b 1099511627776 p f).2.2 (Wr.set l ⟨((Wr.rdN b 1099511627776 p f).1 : Int), 0, Wr.e0⟩ mi) (w5.setCell ⟨A, off l, none⟩ (.int .i64 ((Wr.rdN b 1099511627776 p f).1 : Int))) :=
  ⟨(h.mg.block (hW.other A hAG)).sw hw _, hr.keep (Below.heap_setCell _ _ _ _ (Ne.symm hAG)), (Wr.rdN_le _ _ _ _ h.ple).2, bl_set (hW.bl h.bl hG) hA _ _, by
    rw [h.eq, rdsO_drop hi, hl, rdsO, rd_w b _ hw, hlim]⟩
theorem DdI.st {w : World} {A G : Nat} {b : ByteArray} {ls : List (Option L)} {R : Nat × Nat × Ms} {i p f : Nat} {mi : Ms} {wr w5 : World} (h : DdI w A G b ls R i p f mi wr) (hi : i < ls.length) {l : L} (hl : ls[i] = some l) (hw : isT l = true) (hlim : limD 0 l = 2048) (hAG : A ≠ G) (hA : w.heap.size + 1 ≤ A) (hG : w.heap.size + 1 ≤ G)
    (hr : RR w5 G 0 b ((Wr.rdT b 2048 p f).2.1 : Int) ((Wr.rdT b 2048 p f).2.2 : Int) (aD (Wr.rdT b 2048 p f).2.1 (Wr.rdT b 2048 p f).2.2)) (hW : RW G 0 wr w5) :
    DdI w A G b ls R (i + 1) (Wr.rdT b 2048 p f).2.1 (Wr.rdT b 2048 p f).2.2 (Wr.set l ⟨0, 0, (Wr.rdT b 2048 p f).1⟩ mi) (w5.setCell ⟨A, off l, none⟩ (.string (Wr.rdT b 2048 p f).1)) :=
  ⟨(h.mg.block (hW.other A hAG)).st hw _, hr.keep (Below.heap_setCell _ _ _ _ (Ne.symm hAG)), rdT_le _ _ _ _ h.ple, bl_set (hW.bl h.bl hG) hA _ _, by
    rw [h.eq, rdsO_drop hi, hl, rdsO, rd_t b _ hw, hlim]⟩
theorem DdI.sr {w : World} {A G : Nat} {b : ByteArray} {ls : List (Option L)} {R : Nat × Nat × Ms} {i p f : Nat} {mi : Ms} {wr w5 w6 : World} (h : DdI w A G b ls R i p f mi wr) (hi : i < ls.length) (hl : ls[i] = some .R) (hAG : A ≠ G) (hA : w.heap.size + 1 ≤ A) (hG : w.heap.size + 1 ≤ G)
    (hW : RW G 0 wr w5) (hW2 : RW G 0 (w5.setCell ⟨A, 7, none⟩ (.int .i64 ((Wr.rdN b 1099511627776 p f).1 : Int))) w6)
    (hr : RR w6 G 0 b ((Wr.rdB b (Wr.rdN b 1099511627776 p f).2.1 (Wr.rdN b 1099511627776 p f).2.2).2.1 : Int) ((Wr.rdB b (Wr.rdN b 1099511627776 p f).2.1 (Wr.rdN b 1099511627776 p f).2.2).2.2 : Int) (aD (Wr.rdB b (Wr.rdN b 1099511627776 p f).2.1 (Wr.rdN b 1099511627776 p f).2.2).2.1 (Wr.rdB b (Wr.rdN b 1099511627776 p f).2.1 (Wr.rdN b 1099511627776 p f).2.2).2.2)) :
    DdI w A G b ls R (i + 1) (Wr.rdB b (Wr.rdN b 1099511627776 p f).2.1 (Wr.rdN b 1099511627776 p f).2.2).2.1 (Wr.rdB b (Wr.rdN b 1099511627776 p f).2.1 (Wr.rdN b 1099511627776 p f).2.2).2.2 (Wr.set .R ⟨((Wr.rdN b 1099511627776 p f).1 : Int), (Wr.rdB b (Wr.rdN b 1099511627776 p f).2.1 (Wr.rdN b 1099511627776 p f).2.2).1, Wr.e0⟩ mi) (w6.setCell ⟨A, 8, none⟩ (.int .u64 ((Wr.rdB b (Wr.rdN b 1099511627776 p f).2.1 (Wr.rdN b 1099511627776 p f).2.2).1 : Int))) := by
  have m1 := cells_set (h.mg.block (hW.other A hAG)) 7 (.int .i64 ((Wr.rdN b 1099511627776 p f).1 : Int))
  have m2 := cells_set ((hW2.other A hAG).trans m1) 8 (.int .u64 ((Wr.rdB b (Wr.rdN b 1099511627776 p f).2.1 (Wr.rdN b 1099511627776 p f).2.2).1 : Int))
  exact ⟨m2, hr.keep (Below.heap_setCell _ _ _ _ (Ne.symm hAG)), rdB_le _ _ _ (Wr.rdN_le _ _ _ _ h.ple).2, bl_set (hW2.bl (bl_set (hW.bl h.bl hG) hA _ _) hG) hA _ _, by
    rw [h.eq, rdsO_drop hi, hl, rdsO]; rfl⟩
theorem DdI.sn {w : World} {A G : Nat} {b : ByteArray} {ls : List (Option L)} {R : Nat × Nat × Ms} {i p f : Nat} {mi : Ms} {wr : World} (h : DdI w A G b ls R i p f mi wr) (hi : i < ls.length) (hl : ls[i] = none) : DdI w A G b ls R (i + 1) p f mi wr :=
  ⟨h.mg, h.rr, h.ple, h.bl, by rw [h.eq, rdsO_drop hi, hl, rdsO]⟩
end Go.Proofs.YtbbgkajmacknkaaGreat
end
