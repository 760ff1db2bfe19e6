import Derived.Test.YtmmnjkbdldaniaaWrPa
namespace Go.Proofs.Ytmmnjkbdldaniaa
open Go.RowKit

/-- what a call of the document's reader comes to -/
def HPost (w : World) (G o p : Nat) (b : ByteArray) (A Z : Value) (q k : Nat) (e : Ending) (w' : World) : Prop :=
  (k = 0 ∧ e = .returned A ∧ RR w' G o b q 0 0 ∧ RW G o w w') ∨ (k ≠ 0 ∧ e = .returned Z ∧ RR w' G o b p (k : Int) p ∧ RW G o w w')

set_option maxHeartbeats 400000 in
theorem qnum_live {w : World} {G o p most : Nat} {b : ByteArray} (h : RR w G o b p 0 0) (hp : p ≤ b.size) (hb : b.size ≤ 140737488351232) :
    Calls Try.prog 31 #[.pointer (some ⟨G, o, none⟩), .int .u64 (most : Int)] w (HPost w G o p b (.int .u64 (numV b p : Int)) (.int .u64 0) (numQ b p) (numK b p most 21)) := by
  have HN := hide (number_live (most := most) (above := 21) h hp hb (by decide))
  clear h
  go_enter Try.func31, Try.ntmps31
  go_wp2_with fail
  refine HN.out.mono ?_
  rintro e w1 (⟨hk, rfl, hR, hW⟩ | ⟨hk, rfl, hR, hW⟩)
  · have c1 := hR.c1
    have z1 := hR.z (o + 1)
    have HK := hide hk
    have HE := hide (And.intro (hR.set1 (numQ b p)) (hW.trans (RW.set G o w1 1 (by decide) (.int .i64 (numQ b p : Int)))))
    clear hk hR hW
    go_wp2_with fail
    go_ret
    exact .inl ⟨HK.out, rfl, HE.out.1, HE.out.2⟩
  · have c1 := hR.c1
    have z1 := hR.z (o + 1)
    have HK := hide hk
    have HE := hide (And.intro (hR.set1 (p : Int)) (hW.trans (RW.set G o w1 1 (by decide) (.int .i64 (p : Int)))))
    clear hk hR hW
    go_wp2_with fail
    go_ret
    exact .inr ⟨HK.out, rfl, HE.out.1, HE.out.2⟩
set_option maxHeartbeats 400000 in
theorem qnum_dead {w : World} {G o : Nat} {b : ByteArray} {p f a most : Int} (h : RR w G o b p f a) (hf : f ≠ 0) :
    Calls Try.prog 31 #[.pointer (some ⟨G, o, none⟩), .int .u64 most] w fun e w' => e = .returned (.int .u64 0) ∧ RR w' G o b p f a ∧ RW G o w w' := by
  have H := hide h
  have c1 := h.c1
  have z1 := h.z (o + 1)
  go_enter Try.func31, Try.ntmps31
  go_wp2_with fail
  refine (number_dead H.out hf).mono ?_
  rintro e w1 ⟨rfl, n, rfl⟩
  have HE := hide (And.intro ((H.out.drewN n).set1 p) ((RW.drewN G o w n).trans (RW.set G o _ 1 (by decide) (.int .i64 p))))
  clear h
  go_wp2_with fail
  go_ret
  exact ⟨rfl, HE.out.1, HE.out.2⟩

theorem numV_le {b : ByteArray} {p most above : Nat} (ha : above ≠ 0) (h : numK b p most above = 0) : numV b p ≤ most := by
  unfold numK at h
  unfold numV
  split at h
  · next h1 => exact absurd h h1
  · split at h
    · exact absurd h ha
    · omega

set_option maxHeartbeats 1000000 in
theorem qend_any {w : World} {G o : Nat} {b : ByteArray} {p f : Int} (h : RR w G o b p f (if f = 0 then 0 else p)) :
    Calls Try.prog 34 #[.pointer (some ⟨G, o, none⟩)] w fun e w' => e = .returned (.tuple #[.int .i64 (endE b p f), .int .i64 (endP b p f)]) ∧ ∃ n, w' = w.drewN n := by
  have c0 := h.c0
  have c1 := h.c1
  have c2 := h.c2
  have c3 := h.c3
  clear h
  by_cases hf : f = 0
  · subst hf
    rw [if_pos rfl] at c3
    by_cases hl : p < (b.size : Int)
    · have e1 : endE b p 0 = 24 := by unfold endE; rw [if_pos ⟨rfl, hl⟩]
      have e2 : endP b p 0 = p := by unfold endP; rw [if_neg (fun k => k.2 hl)]
      rw [e1, e2]
      have hl' : decide (p < (b.size : Int)) = true := by simp; omega
      clear e1 e2 hl
      go_enter Try.func34, Try.ntmps34
      go_wp2_with fail
      go_quiet (fail)
      go_wp2_with fail
      go_quiet (fail)
      go_wp2_with fail
      go_ret2
      exact ⟨rfl, _, World.drewN_drewN _ _ _⟩
    · have e1 : endE b p 0 = 0 := by unfold endE; rw [if_neg (fun k => hl k.2)]
      have e2 : endP b p 0 = 0 := by unfold endP; rw [if_pos ⟨rfl, hl⟩]
      rw [e1, e2]
      have hl' : decide (p < (b.size : Int)) = false := by simp; omega
      clear e1 e2 hl
      go_enter Try.func34, Try.ntmps34
      go_wp2_with fail
      go_quiet (fail)
      go_wp2_with fail
      go_quiet (fail)
      go_wp2_with fail
      go_ret2
      exact ⟨rfl, _, World.drewN_drewN _ _ _⟩
  · have e1 : endE b p f = f := by unfold endE; rw [if_neg (fun k => hf k.1)]
    have e2 : endP b p f = p := by unfold endP; rw [if_neg (fun k => hf k.1)]
    rw [e1, e2]
    rw [if_neg hf] at c3
    have hf' : (f == 0) = false := by rw [beq_eq_false_iff_ne]; exact hf
    clear e1 e2 hf
    go_enter Try.func34, Try.ntmps34
    go_wp2_with fail
    go_quiet (fail)
    go_wp2_with fail
    go_quiet (fail)
    go_wp2_with fail
    go_ret2
    exact ⟨rfl, _, World.drewN_drewN _ _ _⟩
end Go.Proofs.Ytmmnjkbdldaniaa
