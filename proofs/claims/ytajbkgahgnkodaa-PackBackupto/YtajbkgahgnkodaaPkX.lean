import Derived.Test.YtajbkgahgnkodaaPkU
namespace Go.Proofs.Ytajbkgahgnkodaa
open Go.RowKit

/-- what any call of a reader comes to, however it stands -/
structure APost (w : World) (B : Nat) (b : ByteArray) (p : Nat) (f : Int) (Z : Value) (mk : Value → Prop) (e : Ending) (w' : World) : Prop where
  ex : ∃ (A : Value) (p' : Nat) (f' : Int), e = .returned A ∧ mk A ∧ Rd w' B b (p' : Int) f' ∧ p' ≤ b.size ∧ (f ≠ 0 → A = Z ∧ p' = p ∧ f' = f)
  grown : w.grownBy w' (some B)

theorem apost_live {w : World} {B : Nat} {b : ByteArray} {p : Nat} {A Z : Value} {q k : Nat} {mk : Value → Prop} {e : Ending} {w' : World} (hp : p ≤ b.size) (hA : mk A) (hZ : mk Z) (hq : k = 0 → q ≤ b.size)
    (h : FPost w B b (p : Int) A Z q k e w') : APost w B b p 0 Z mk e w' := by
  refine ⟨?_, h.grown⟩
  by_cases hk : k = 0
  · obtain ⟨he, hR⟩ := h.ok hk
    exact ⟨A, q, 0, he, hA, hR, hq hk, fun h0 => absurd rfl h0⟩
  · obtain ⟨he, hR⟩ := h.no hk
    exact ⟨Z, p, (k : Int), he, hZ, hR, hp, fun h0 => absurd rfl h0⟩
theorem apost_dead {w : World} {B : Nat} {b : ByteArray} {p : Nat} {f : Int} {Z : Value} {mk : Value → Prop} {e : Ending} {w' : World} (h : Rd w B b (p : Int) f) (hp : p ≤ b.size) (hZ : mk Z)
    (hd : e = .returned Z ∧ Below w.heap.size w w') : APost w B b p f Z mk e w' :=
  ⟨⟨Z, p, f, hd.1, hZ, h.below hd.2 h.lt, hp, fun _ => ⟨rfl, rfl, rfl⟩⟩, grown_below hd.2 _⟩
def isU (v : Value) : Prop := ∃ n : Nat, v = .int .u64 (n : Int)
def isI (v : Value) : Prop := ∃ n : Nat, v = .int .i64 (n : Int)
def isS (v : Value) : Prop := ∃ s : ByteArray, v = .string s

theorem rnum_all {w : World} {B p most : Nat} {b : ByteArray} {f : Int} (h : Rd w B b p f) (hp : p ≤ b.size) (hb : b.size ≤ 140737488351232) :
    Calls Try.prog 21 #[.pointer (some ⟨B, 0, none⟩), .int .u64 (most : Int)] w (APost w B b p f (.int .u64 0) isU) := by
  by_cases hf : f = 0
  · subst hf
    exact (rnum_any h hp hb).mono fun e w' hF => apost_live hp ⟨_, rfl⟩ ⟨0, rfl⟩ (fun hk => (num_form hp (by decide) hk).2.1) hF
  · exact (rnum_dead h hf).mono fun e w' hd => apost_dead h hp ⟨0, rfl⟩ hd
theorem rlist_all {w : World} {B p : Nat} {most : Int} {b : ByteArray} {f : Int} (hm : most ≤ 9223372036854775807) (h : Rd w B b p f) (hp : p ≤ b.size) (hb : b.size ≤ 140737488351232) :
    Calls Try.prog 22 #[.pointer (some ⟨B, 0, none⟩), .int .i64 most] w (APost w B b p f (.int .i64 0) isI) := by
  by_cases hf : f = 0
  · subst hf
    exact (rlist_any hm h hp hb).mono fun e w' hF => apost_live hp ⟨_, rfl⟩ ⟨0, rfl⟩ (fun hk => (num_form hp (by decide) hk).2.1) hF
  · exact (rlist_dead h hf).mono fun e w' hd => apost_dead h hp ⟨0, rfl⟩ hd
theorem rtext_all {w : World} {B p : Nat} {most : Int} {b : ByteArray} {f : Int} (hm : most ≤ 9223372036854775807) (h : Rd w B b p f) (hp : p ≤ b.size) (hb : b.size ≤ 140737488351232) :
    Calls Try.prog 24 #[.pointer (some ⟨B, 0, none⟩), .int .i64 most] w (APost w B b p f (.string ⟨#[]⟩) isS) := by
  by_cases hf : f = 0
  · subst hf
    exact (rtext_any hm h hp hb).mono fun e w' hF => apost_live hp ⟨_, rfl⟩ ⟨_, rfl⟩ (fun hk => (text_form hp hk).1) hF
  · exact (rtext_dead h hf).mono fun e w' hd => apost_dead h hp ⟨_, rfl⟩ hd
theorem rbits_all {w : World} {B p : Nat} {b : ByteArray} {f : Int} (h : Rd w B b p f) (hp : p ≤ b.size) (hb : b.size ≤ 140737488351232) :
    Calls Try.prog 23 #[.pointer (some ⟨B, 0, none⟩)] w (APost w B b p f (.int .u64 0) isU) := by
  by_cases hf : f = 0
  · subst hf
    exact (rbits_any h hp hb).mono fun e w' hF => apost_live hp ⟨_, rfl⟩ ⟨0, rfl⟩ (fun hk => (bits_form hk).1) hF
  · exact (rbits_dead h hf).mono fun e w' hd => apost_dead h hp ⟨0, rfl⟩ hd

/-- what asks comes to -/
def KPost (w : World) (B : Nat) (b : ByteArray) (p : Nat) (f : Int) (e : Ending) (w' : World) : Prop :=
  ∃ (r : Bool) (p' : Nat) (f' : Int), e = .returned (.bool r) ∧ Rd w' B b (p' : Int) f' ∧ p' ≤ b.size ∧ w.grownBy w' (some B) ∧ (f ≠ 0 → r = true ∧ p' = p ∧ f' = f)

set_option maxHeartbeats 1000000 in
theorem asks_any {w : World} {B p : Nat} {b : ByteArray} {f K M : Int} (h : Rd w B b p f) (hp : p ≤ b.size) (hb : b.size ≤ 140737488351232) (hM : M ≤ 9223372036854775807) :
    Calls Try.prog 28 #[.pointer (some ⟨B, 0, none⟩), .agg #[.int .i64 K, .int .i64 M]] w (KPost w B b p f) := by
  have hlt := h.lt
  have hne : ¬ B = w.heap.size := by omega
  rcases (show K = 1 ∨ K = 2 ∨ K = 3 ∨ (K ≠ 1 ∧ K ≠ 2 ∧ K ≠ 3) by omega) with hK | hK | hK | ⟨hK1, hK2, hK3⟩
  · subst hK
    have e0 : ((IntKind.u64.wrap M).toNat : Int) = IntKind.u64.wrap M := by rw [IntKind.wrap_u64]; omega
    have HN : Hid (∀ w1 : World, Rd w1 B b p f → Calls Try.prog 21 #[.pointer (some ⟨B, 0, none⟩), .int .u64 (IntKind.u64.wrap M)] w1 (APost w1 B b p f (.int .u64 0) isU)) := fun w1 h1 => by
      have := rnum_all (most := (IntKind.u64.wrap M).toNat) h1 hp hb
      rw [e0] at this
      exact this
    clear e0
    go_enter Try.func28, Try.ntmps28
    go_wp2_with fail
    refine (HN.out _ (h.alloc _)).mono ?_
    rintro e w' ⟨⟨A, p', f', rfl, ⟨n, rfl⟩, hR, hp', hd⟩, hg⟩
    have HD := hide hd
    have HG : Hid (w.grownBy w' (some B)) := grown_trans (grown_below (below_alloc _ _) _) hg
    clear hd hg
    go_wp2_with fail
    go_ret
    exact ⟨_, p', f', rfl, hR, hp', HG.out, fun h0 => ⟨by have h1 := (HD.out h0).1; simp only [Value.int.injEq, true_and] at h1; simp [h1], (HD.out h0).2.1, (HD.out h0).2.2⟩⟩
  · subst hK
    go_enter Try.func28, Try.ntmps28
    go_wp2_with fail
    refine (rlist_all hM (h.alloc _) hp hb).mono ?_
    rintro e w' ⟨⟨A, p', f', rfl, ⟨n, rfl⟩, hR, hp', hd⟩, hg⟩
    have HD := hide hd
    have HG : Hid (w.grownBy w' (some B)) := grown_trans (grown_below (below_alloc _ _) _) hg
    clear hd hg
    go_wp2_with fail
    go_ret
    exact ⟨_, p', f', rfl, hR, hp', HG.out, fun h0 => ⟨by have h1 := (HD.out h0).1; simp only [Value.int.injEq, true_and] at h1; simp [h1], (HD.out h0).2.1, (HD.out h0).2.2⟩⟩
  · subst hK
    go_enter Try.func28, Try.ntmps28
    go_wp2_with fail
    refine (rtext_all hM (h.alloc _) hp hb).mono ?_
    rintro e w' ⟨⟨A, p', f', rfl, ⟨n, rfl⟩, hR, hp', hd⟩, hg⟩
    have HD := hide hd
    have HG : Hid (w.grownBy w' (some B)) := grown_trans (grown_below (below_alloc _ _) _) hg
    clear hd hg
    go_wp2_with fail
    go_ret
    exact ⟨_, p', f', rfl, hR, hp', HG.out, fun h0 => ⟨by have h1 := (HD.out h0).1; simp only [Value.string.injEq] at h1; simp [h1], (HD.out h0).2.1, (HD.out h0).2.2⟩⟩
  · have b1 : (K == 1) = false := by rw [beq_eq_false_iff_ne]; exact hK1
    have b3 : (K == 2) = false := by rw [beq_eq_false_iff_ne]; exact hK2
    have b4 : (K == 3) = false := by rw [beq_eq_false_iff_ne]; exact hK3
    clear hK1 hK2 hK3
    go_enter Try.func28, Try.ntmps28
    go_wp2_with fail
    refine (rbits_all (h.alloc _) hp hb).mono ?_
    rintro e w' ⟨⟨A, p', f', rfl, ⟨n, rfl⟩, hR, hp', hd⟩, hg⟩
    have HD := hide hd
    have HG : Hid (w.grownBy w' (some B)) := grown_trans (grown_below (below_alloc _ _) _) hg
    clear hd hg
    go_wp2_with fail
    go_ret
    exact ⟨_, p', f', rfl, hR, hp', HG.out, fun h0 => ⟨by have h1 := (HD.out h0).1; simp only [Value.int.injEq, true_and] at h1; simp [h1], (HD.out h0).2.1, (HD.out h0).2.2⟩⟩
end Go.Proofs.Ytajbkgahgnkodaa
