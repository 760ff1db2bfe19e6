import Derived.Test.YtkchddphmkgilaaQuA
namespace Go.Proofs.Ytkchddphmkgilaa
open Go.RowKit

theorem fold_take {α : Type} (f : α → Rr → α) (a0 : α) (L : List Rr) (i : Nat) (hi : i < L.length) : (L.take (i + 1)).foldl f a0 = f ((L.take i).foldl f a0) L[i] := by
  rw [List.take_succ_eq_append_getElem hi, List.foldl_append]; rfl
theorem below_drewN {B : Nat} {w w' : World} (h : Below B w w') (n : Nat) : Below B w (w'.drewN n) := ⟨h.os, h.tape, h.output, h.size, h.block⟩
theorem below_alloc (w : World) (o : Obj) : Below w.heap.size w (w.alloc o) := (Below.refl _ _).alloc (Nat.le_refl _) o

set_option maxHeartbeats 2000000 in
set_option maxRecDepth 8000 in
/-- askAll at numbers -/
theorem askI_any {w : World} {ad : Option Addr} {ab ao cap : Nat} {L : List Rr} (h : Rs w ad ab ao L) (hl : L.length ≤ 4398046511104) (C : FuncId) (caps : Array Value) (f : Int → Rr → Int) (P : Nat → Int → Prop) (a0 : Int) (h0 : P 0 a0)
    (hrun : ∀ (a r : Value) (w1 : World), (callFunc C (#[a, r] ++ caps)).run Try.prog w1 = .ok (.enter C (#[a, r] ++ caps)) w1)
    (hc : ∀ (w1 : World) (i : Nat) (hi : i < L.length) (a : Int), Below w.heap.size w w1 → P i a → P (i + 1) (f a L[i]) ∧ Calls Try.prog C (#[.int .i64 a, (L[i]).val] ++ caps) w1 fun e w' => e = .returned (.int .i64 (f a L[i])) ∧ Below w1.heap.size w1 w') :
    Calls Try.prog 24 #[.slice ad L.length cap, .int .i64 a0, .func (.func C) #[] caps] w fun e w' => e = .returned (.int .i64 (L.foldl f a0)) ∧ Below w.heap.size w w' ∧ P L.length (L.foldl f a0) := by
  have HC := hide hc
  have HR := hide h
  have HP := hide h0
  clear hc h h0
  go_enter Try.func24, Try.ntmps24
  go_wp2_with fail
  go_loopw [1, 11] (fun t s wr => ∃ (i : Nat), i ≤ L.length ∧ t = .int .i64 ((L.take i).foldl f a0) ∧ s = .int .i64 (i : Int) ∧ Hid (P i ((L.take i).foldl f a0)) ∧ Hid (Below w.heap.size w wr)) (fun _ s _ => L.length - (intOf s).toNat)
  case atStart => exact ⟨0, Nat.zero_le _, rfl, rfl, HP, hide (Below.refl _ _)⟩
  case round =>
    obtain ⟨i, hi, rfl, rfl, HPi, HB⟩ := hrel
    by_cases hii : i < L.length
    · have hik : (i : Int) < (L.length : Int) := by omega
      have hat := HR.out.at_ (by omega)
      subst hat
      have hR := HR.out.below HB.out
      obtain ⟨c0, c1, c2, c3, c4, c5, c6, c7⟩ := hR.eight hii
      have hlt := hR.lt (by omega)
      have HX := hide (HC.out (wr.alloc (L[i]).obj) i hii _ (HB.out.alloc HB.out.size _) HPi.out)
      have hf := fold_take f a0 L i hii
      generalize (L.take i).foldl f a0 = a at *
      have HF := hide hf
      clear hf hR
      generalize L[i] = r at *
      go_wp2_with fail
      refine HX.out.2.mono ?_
      rintro e w2 ⟨rfl, hB2⟩
      have HB2 : Hid (Below w.heap.size w w2) := hide ((HB.out.alloc HB.out.size _).trans (hB2.mono (by rw [World.size_alloc]; have := HB.out.size; omega)))
      have HP2 := hide HX.out.1
      rw [← HF.out] at HP2
      have HF2 : Hid (Value.int .i64 (f a r) = .int .i64 ((L.take (i + 1)).foldl f a0)) := by rw [HF.out]; exact hide rfl
      clear hB2 HX c0 c1 c2 c3 c4 c5 c6 c7
      go_wp2_with fail
      go_roundw
      case rel => exact ⟨i + 1, by omega, HF2.out, by go_num, HP2, HB2⟩
      case measure => simp only [intOf]; omega
    · have hik : ¬ (i : Int) < (L.length : Int) := by omega
      obtain rfl : i = L.length := by omega
      rw [List.take_length] at HPi ⊢
      go_wp2_with fail
      go_ret
      exact ⟨rfl, HB.out, HPi.out⟩
set_option maxHeartbeats 2000000 in
set_option maxRecDepth 8000 in
/-- askAll at bools -/
theorem askB_any {w : World} {ad : Option Addr} {ab ao cap : Nat} {L : List Rr} (h : Rs w ad ab ao L) (hl : L.length ≤ 4398046511104) (C : FuncId) (caps : Array Value) (f : Bool → Rr → Bool) (a0 : Bool)
    (hrun : ∀ (a r : Value) (w1 : World), (callFunc C (#[a, r] ++ caps)).run Try.prog w1 = .ok (.enter C (#[a, r] ++ caps)) w1)
    (hc : ∀ (w1 : World) (i : Nat) (hi : i < L.length) (a : Bool), Below w.heap.size w w1 → Calls Try.prog C (#[.bool a, (L[i]).val] ++ caps) w1 fun e w' => e = .returned (.bool (f a L[i])) ∧ Below w1.heap.size w1 w') :
    Calls Try.prog 44 #[.slice ad L.length cap, .bool a0, .func (.func C) #[] caps] w fun e w' => e = .returned (.bool (L.foldl f a0)) ∧ Below w.heap.size w w' := by
  have HC := hide hc
  have HR := hide h
  clear hc h
  go_enter Try.func44, Try.ntmps44
  go_wp2_with fail
  go_loopw [1, 11] (fun t s wr => ∃ (i : Nat), i ≤ L.length ∧ t = .bool ((L.take i).foldl f a0) ∧ s = .int .i64 (i : Int) ∧ Hid (Below w.heap.size w wr)) (fun _ s _ => L.length - (intOf s).toNat)
  case atStart => exact ⟨0, Nat.zero_le _, rfl, rfl, hide (Below.refl _ _)⟩
  case round =>
    obtain ⟨i, hi, rfl, rfl, HB⟩ := hrel
    by_cases hii : i < L.length
    · have hik : (i : Int) < (L.length : Int) := by omega
      have hat := HR.out.at_ (by omega)
      subst hat
      have hR := HR.out.below HB.out
      obtain ⟨c0, c1, c2, c3, c4, c5, c6, c7⟩ := hR.eight hii
      have hlt := hR.lt (by omega)
      have HX := hide (HC.out (wr.alloc (L[i]).obj) i hii ((L.take i).foldl f a0) (HB.out.alloc HB.out.size _))
      have hf := fold_take f a0 L i hii
      generalize (L.take i).foldl f a0 = a at *
      have HF := hide hf
      clear hf hR
      generalize L[i] = r at *
      go_wp2_with fail
      refine HX.out.mono ?_
      rintro e w2 ⟨rfl, hB2⟩
      have HB2 : Hid (Below w.heap.size w w2) := hide ((HB.out.alloc HB.out.size _).trans (hB2.mono (by rw [World.size_alloc]; have := HB.out.size; omega)))
      have HF2 : Hid (Value.bool (f a r) = .bool ((L.take (i + 1)).foldl f a0)) := by rw [HF.out]; exact hide rfl
      clear hB2 HX c0 c1 c2 c3 c4 c5 c6 c7
      go_wp2_with fail
      go_roundw
      case rel => exact ⟨i + 1, by omega, HF2.out, by go_num, HB2⟩
      case measure => simp only [intOf]; omega
    · have hik : ¬ (i : Int) < (L.length : Int) := by omega
      obtain rfl : i = L.length := by omega
      rw [List.take_length]
      go_wp2_with fail
      go_ret
      exact ⟨rfl, HB.out⟩
end Go.Proofs.Ytkchddphmkgilaa
