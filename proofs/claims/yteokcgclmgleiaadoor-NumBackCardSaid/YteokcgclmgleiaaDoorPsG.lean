import Derived.Test.YteokcgclmgleiaaDoorPsF
import Derived.Test.YteokcgclmgleiaaDoorHeedM
namespace Go.Proofs.YteokcgclmgleiaaDoor
open Go.RowKit

theorem digits_rec {n : Nat} (h : 10 ≤ n) : Lib.decDigits n = Lib.decDigits (n / 10) ++ [UInt8.ofNat (48 + n % 10)] := by
  rw [Lib.decDigits, dif_neg (by omega)]
theorem digit_nat {d : Nat} (h : d < 10) : (UInt8.ofNat (48 + d)).toNat = 48 + d := by
  rw [UInt8.toNat_ofNat']; omega
theorem digit_ok {d : Nat} (h : d < 10) : digB (UInt8.ofNat (48 + d)) = true := by
  unfold digB
  rw [digit_nat h]
  simp only [Bool.and_eq_true, decide_eq_true_eq]
  omega
theorem dec_digits : ∀ n : Nat, dec 0 (Lib.decDigits n) = n := by
  intro n
  induction n using Nat.strongRecOn with
  | _ n ih =>
    rcases Nat.lt_or_ge n 10 with h | h
    · rw [Lib.decDigits_one h]
      show 0 * 10 + ((UInt8.ofNat (48 + n)).toNat - 48) = n
      rw [digit_nat h]; omega
    · rw [digits_rec h, dec_append, ih (n / 10) (by omega), digit_nat (by omega)]
      omega
theorem digits_all : ∀ n : Nat, (Lib.decDigits n).all digB = true := by
  intro n
  induction n using Nat.strongRecOn with
  | _ n ih =>
    rcases Nat.lt_or_ge n 10 with h | h
    · rw [Lib.decDigits_one h, List.all_cons, digit_ok h]; rfl
    · rw [digits_rec h, List.all_append, ih (n / 10) (by omega), List.all_cons, digit_ok (by omega)]; rfl
theorem digits_ne (n : Nat) : Lib.decDigits n ≠ [] := by
  rcases Nat.lt_or_ge n 10 with h | h
  · rw [Lib.decDigits_one h]; exact List.cons_ne_nil _ _
  · rw [digits_rec h]; simp
theorem headD_append {l r : List UInt8} (h : l ≠ []) : (l ++ r).headD 0 = l.headD 0 := by
  cases l with
  | nil => exact absurd rfl h
  | cons c t => rfl
theorem digits_head : ∀ n : Nat, 1 ≤ n → (Lib.decDigits n).headD 0 ≠ 48 := by
  intro n
  induction n using Nat.strongRecOn with
  | _ n ih =>
    intro h1
    rcases Nat.lt_or_ge n 10 with h | h
    · rw [Lib.decDigits_one h]
      intro e
      have e2 : (UInt8.ofNat (48 + n)).toNat = 48 := by
        have : UInt8.ofNat (48 + n) = 48 := e
        rw [this]; rfl
      rw [digit_nat h] at e2; omega
    · rw [digits_rec h, headD_append (digits_ne _)]
      exact ih (n / 10) (by omega) (by omega)
/-- a whole number's text is its digits -/
def wholeL (l : List UInt8) : Bool := l.all digB && (l == [48] || !l.isEmpty && l.headD 0 != 48)
theorem whole_list (s : ByteArray) : wholeB s = wholeL s.toList := rfl
theorem digits_whole (n : Nat) : wholeL (Lib.decDigits n) = true := by
  unfold wholeL
  rw [digits_all n, Bool.true_and]
  rcases Nat.eq_zero_or_pos n with h | h
  · subst h; rw [Lib.decDigits_one (by decide)]; rfl
  · have h1 : (Lib.decDigits n).isEmpty = false := by
      have := digits_ne n
      cases hd : Lib.decDigits n with
      | nil => exact absurd hd this
      | cons _ _ => rfl
    rw [h1, bne_iff_ne.mpr (digits_head n h)]
    simp
theorem dec_pos : ∀ (l : List UInt8), l.all digB = true → l ≠ [] → l.headD 0 ≠ 48 → 1 ≤ dec 0 l
  | [], _, h, _ => absurd rfl h
  | c :: r, ha, _, hh => by
    simp only [List.all_cons, Bool.and_eq_true] at ha
    have hv := dig_val ha.1
    have hc : c.toNat ≠ 48 := fun e => hh (by show c = 48; apply UInt8.toNat_inj.mp; rw [e]; rfl)
    have hm : ∀ (r : List UInt8) (acc : Nat), acc ≤ dec acc r := by
      intro r
      induction r with
      | nil => intro acc; exact Nat.le_refl _
      | cons d t ih => intro acc; exact Nat.le_trans (by omega) (ih (acc * 10 + (d.toNat - 48)))
    have := hm r (0 * 10 + (c.toNat - 48))
    show 1 ≤ dec (0 * 10 + (c.toNat - 48)) r
    omega
theorem digits_of : ∀ (k : Nat) (l : List UInt8), l.length = k → l.all digB = true → l ≠ [] → (l = [48] ∨ l.headD 0 ≠ 48) → Lib.decDigits (dec 0 l) = l := by
  intro k
  induction k with
  | zero => intro l hl _ hne _; exact absurd (List.eq_nil_of_length_eq_zero hl) hne
  | succ k ih =>
    intro l hl ha hne hh
    rcases hh with hh | hh
    · subst hh; decide +kernel
    have hsp := List.dropLast_concat_getLast hne
    have hll : l.dropLast.length = k := by rw [List.length_dropLast, hl]; rfl
    have hlast : digB (l.getLast hne) = true := List.all_eq_true.mp ha _ (List.getLast_mem hne)
    have hv := dig_val hlast
    have hchar : UInt8.ofNat (48 + ((l.getLast hne).toNat - 48)) = l.getLast hne := by
      apply UInt8.toNat_inj.mp
      rw [digit_nat (by omega)]; omega
    by_cases hd : l.dropLast = []
    · rw [hd] at hsp
      rw [← hsp]
      show Lib.decDigits (0 * 10 + ((l.getLast hne).toNat - 48)) = _
      rw [Nat.zero_mul, Nat.zero_add, Lib.decDigits_one (by omega), hchar]; rfl
    · have ha2 : l.dropLast.all digB = true := by
        rw [← hsp, List.all_append, Bool.and_eq_true] at ha; exact ha.1
      have hh2 : l.dropLast.headD 0 ≠ 48 := by
        rw [← hsp, headD_append hd] at hh; exact hh
      have i1 := ih l.dropLast hll ha2 hd (Or.inr hh2)
      have p1 := dec_pos l.dropLast ha2 hd hh2
      have e : dec 0 l = dec 0 l.dropLast * 10 + ((l.getLast hne).toNat - 48) := by
        rw [← dec_append, hsp]
      rw [e, digits_rec (by omega), show (dec 0 l.dropLast * 10 + ((l.getLast hne).toNat - 48)) / 10 = dec 0 l.dropLast by omega, show (dec 0 l.dropLast * 10 + ((l.getLast hne).toNat - 48)) % 10 = (l.getLast hne).toNat - 48 by omega, i1, hchar, hsp]
theorem whole_digits {l : List UInt8} (h : wholeL l = true) : Lib.decDigits (dec 0 l) = l := by
  unfold wholeL at h
  simp only [Bool.and_eq_true, Bool.or_eq_true, beq_iff_eq, Bool.not_eq_true', bne_iff_ne] at h
  obtain ⟨ha, hh⟩ := h
  rcases hh with hh | ⟨hh, hx⟩
  · exact digits_of l.length l rfl ha (by rw [hh]; exact List.cons_ne_nil _ _) (Or.inl hh)
  · exact digits_of l.length l rfl ha (fun e => by rw [e] at hh; cases hh) (Or.inr hx)
end Go.Proofs.YteokcgclmgleiaaDoor
