import Derived.Test.YtijekbmhecnajabDoorOrdF
import Derived.Test.YtijekbmhecnajabDoorMathF
namespace Go.Proofs.YtijekbmhecnajabDoor
open Gn

theorem rank_wd (s : Bool) (r : Nat) (h : r ≤ 9218868437227405312) : rankW (wd s r) = if s then 9223372036854775807 - r else 9223372036854775808 + r := by
  cases s
  · rw [rank_f h, if_neg (by simp)]; omega
  · rw [rank_t h, if_pos rfl]

theorem add_il (s t : Bool) (q : Nat) (hq : q < 9218868437227405312) : addW (wd s 9218868437227405312) (wd t q) = wd s 9218868437227405312 := by
  obtain ⟨m, i, e, _, _⟩ := rd_num t q hq
  rw [add_ans, read_wd s _ (by omega), read_wd t q (by omega), e, rd_inf]
  exact write_inf s
theorem add_ir (s t : Bool) (q : Nat) (hq : q < 9218868437227405312) : addW (wd t q) (wd s 9218868437227405312) = wd s 9218868437227405312 := by
  rw [Gn.add_comm, add_il s t q hq]
theorem add_ii (s t : Bool) : addW (wd s 9218868437227405312) (wd t 9218868437227405312) = if s = t then wd s 9218868437227405312 else 9221120237041090561 := by
  cases s <;> cases t <;> decide

theorem sgn_of_rank {s t : Bool} {r q : Nat} (hr : r ≤ 9218868437227405312) (hq : q ≤ 9218868437227405312) (h : rankW (wd s r) ≤ rankW (wd t q)) : sgn s (vl r) ≤ sgn t (vl q) ∧ (s = false → t = false) := by
  rw [rank_wd s r hr, rank_wd t q hq] at h
  have h1 : r ≤ q → vl r ≤ vl q := fun k => by rcases Nat.lt_or_eq_of_le k with e | e; exact Nat.le_of_lt (vl_lt e); rw [e]; exact Nat.le_refl _
  have h2 : q ≤ r → vl q ≤ vl r := fun k => by rcases Nat.lt_or_eq_of_le k with e | e; exact Nat.le_of_lt (vl_lt e); rw [e]; exact Nat.le_refl _
  cases s <;> cases t <;> simp only [sgn] at * <;> simp at h ⊢
  all_goals first | exact h1 h | omega | exact h2 (by omega)

theorem rise_fin {s t u : Bool} {r q p : Nat} (hr : r < 9218868437227405312) (hq : q < 9218868437227405312) (hp : p < 9218868437227405312) (h : rankW (wd s r) ≤ rankW (wd t q)) :
    rankW (addW (wd s r) (wd u p)) ≤ rankW (addW (wd t q) (wd u p)) := by
  obtain ⟨h1, h2⟩ := sgn_of_rank (by omega) (by omega) h
  rw [add_fin s u r p hr hp, add_fin t u q p hq hp, rank_wd _ _ (rn_le _), rank_wd _ _ (rn_le _)]
  have hT : tot s u r p ≤ tot t u q p := by unfold tot; omega
  have hzs : tot s u r p = tot t u q p → sgn s (vl r) = sgn t (vl q) := by unfold tot; omega
  have hz : tot s u r p = 0 → tot t u q p = 0 → (t && u) = true → (s && u) = true := by
    intro a b c
    simp only [Bool.and_eq_true] at c ⊢
    refine ⟨?_, c.2⟩
    cases s
    · have := h2 rfl; rw [this] at c; cases c.1
    · rfl
  have l1 := rn_le (tot s u r p).natAbs
  have l2 := rn_le (tot t u q p).natAbs
  have m1 : (tot s u r p).natAbs ≤ (tot t u q p).natAbs → rn (tot s u r p).natAbs ≤ rn (tot t u q p).natAbs := fun k => rn_mono k
  have m2 : (tot t u q p).natAbs ≤ (tot s u r p).natAbs → rn (tot t u q p).natAbs ≤ rn (tot s u r p).natAbs := fun k => rn_mono k
  have z0 : ∀ x : Int, x = 0 → rn x.natAbs = 0 := fun x hx => by subst hx; rfl
  have z1 := z0 (tot s u r p)
  have z2 := z0 (tot t u q p)
  clear z0 hzs h h1 h2
  generalize tot s u r p = A at *
  generalize tot t u q p = B at *
  generalize rn A.natAbs = x at *
  generalize rn B.natAbs = y at *
  generalize (s && u) = f at *
  generalize (t && u) = g at *
  rcases Int.lt_trichotomy A 0 with ha | ha | ha
  · rw [if_neg (show ¬ A = 0 from by omega)]
    simp only [decide_eq_true_eq, ha, if_true]
    rcases Int.lt_trichotomy B 0 with hb | hb | hb
    · rw [if_neg (show ¬ B = 0 from by omega)]
      simp only [decide_eq_true_eq, hb, if_true]
      have := m2 (by omega)
      omega
    · rw [if_pos hb]
      have := z2 hb
      cases g <;> simp <;> omega
    · rw [if_neg (show ¬ B = 0 from by omega)]
      simp only [decide_eq_true_eq, show ¬ B < 0 from by omega, if_false]
      omega
  · rw [if_pos ha]
    have e1 := z1 ha
    rcases Int.lt_trichotomy B 0 with hb | hb | hb
    · omega
    · rw [if_pos hb]
      have e2 := z2 hb
      have := hz ha hb
      cases f <;> cases g <;> simp at this ⊢ <;> omega
    · rw [if_neg (show ¬ B = 0 from by omega)]
      simp only [decide_eq_true_eq, show ¬ B < 0 from by omega, if_false]
      cases f <;> simp <;> omega
  · rw [if_neg (show ¬ A = 0 from by omega)]
    simp only [decide_eq_true_eq, show ¬ A < 0 from by omega, if_false]
    have hb : 0 < B := by omega
    rw [if_neg (show ¬ B = 0 from by omega)]
    simp only [decide_eq_true_eq, show ¬ B < 0 from by omega, if_false]
    have := m1 (by omega)
    omega

theorem add_num {s t : Bool} {r q : Nat} (hr : r ≤ 9218868437227405312) (hq : q ≤ 9218868437227405312) (h : addW (wd s r) (wd t q) ≠ 9221120237041090561) : ∃ v m, m ≤ 9218868437227405312 ∧ addW (wd s r) (wd t q) = wd v m := by
  by_cases h1 : r = 9218868437227405312
  · subst h1
    by_cases h2 : q = 9218868437227405312
    · subst h2
      rw [add_ii] at h ⊢
      by_cases k : s = t
      · rw [if_pos k]; exact ⟨s, _, Nat.le_refl _, rfl⟩
      · rw [if_neg k] at h; exact absurd rfl h
    · rw [add_il s t q (by omega)]; exact ⟨s, _, Nat.le_refl _, rfl⟩
  · by_cases h2 : q = 9218868437227405312
    · subst h2; rw [add_ir t s r (by omega)]; exact ⟨t, _, Nat.le_refl _, rfl⟩
    · rw [add_fin s t r q (by omega) (by omega)]; exact ⟨_, _, rn_le _, rfl⟩

theorem rise_add {s t u : Bool} {r q p : Nat} (hr : r ≤ 9218868437227405312) (hq : q ≤ 9218868437227405312) (hp : p ≤ 9218868437227405312) (h : rankW (wd s r) ≤ rankW (wd t q))
    (hx : addW (wd s r) (wd u p) ≠ 9221120237041090561) (hy : addW (wd t q) (wd u p) ≠ 9221120237041090561) : rankW (addW (wd s r) (wd u p)) ≤ rankW (addW (wd t q) (wd u p)) := by
  by_cases hp1 : p = 9218868437227405312
  · subst hp1
    have key : ∀ (v : Bool) (m : Nat), m ≤ 9218868437227405312 → addW (wd v m) (wd u 9218868437227405312) ≠ 9221120237041090561 → addW (wd v m) (wd u 9218868437227405312) = wd u 9218868437227405312 := by
      intro v m hm hne
      by_cases e : m = 9218868437227405312
      · subst e
        rw [add_ii] at hne ⊢
        by_cases k : v = u
        · rw [if_pos k, k]
        · rw [if_neg k] at hne; exact absurd rfl hne
      · exact add_ir u v m (by omega)
    rw [key s r hr hx, key t q hq hy]; exact Nat.le_refl _
  · by_cases hr1 : r = 9218868437227405312
    · subst hr1
      rw [add_il s u p (by omega)]
      cases s
      · obtain ⟨v, m, hm, e⟩ := add_num hq hp hy
        rw [rank_wd false _ (by omega), rank_wd t q hq] at h
        cases t
        · have : q = 9218868437227405312 := by simp at h; omega
          subst this
          rw [add_il false u p (by omega)]; exact Nat.le_refl _
        · simp at h; omega
      · obtain ⟨v, m, hm, e⟩ := add_num hq hp hy
        rw [e, rank_wd true _ (by omega), rank_wd v m hm]
        cases v <;> simp <;> omega
    · by_cases hq1 : q = 9218868437227405312
      · subst hq1
        rw [add_il t u p (by omega)]
        cases t
        · obtain ⟨v, m, hm, e⟩ := add_num hr hp hx
          rw [e, rank_wd false _ (by omega), rank_wd v m hm]
          cases v <;> simp <;> omega
        · rw [rank_wd true _ (by omega), rank_wd s r hr] at h
          cases s <;> simp at h <;> omega
      · exact rise_fin (by omega) (by omega) (by omega) h

/-- products by what has no sign -/
theorem mul_il (s t : Bool) (q : Nat) (hq : q ≤ 9218868437227405312) (h0 : q ≠ 0) : mulW (wd s 9218868437227405312) (wd t q) = wd (s ^^ t) 9218868437227405312 := by
  rw [mul_ans, read_wd s _ (by omega), read_wd t q (by omega), rd_inf]
  by_cases h1 : q = 9218868437227405312
  · subst h1; rw [rd_inf]; exact write_inf _
  · obtain ⟨m, i, e, hi, hv⟩ := rd_num t q (by omega)
    have hm : m ≠ 0 := by
      intro k; subst k
      have := vl_pos (r := q) (by omega); simp at hv; omega
    rw [e]
    show ans (if m = 0 then none else some (.infinity (s ^^ t))) = _
    rw [if_neg hm]; exact write_inf _
theorem mul_i0 (s t : Bool) : mulW (wd s 9218868437227405312) (wd t 0) = 9221120237041090561 := by cases s <;> cases t <;> decide
theorem mul_num {s t : Bool} {r q : Nat} (hr : r ≤ 9218868437227405312) (hq : q ≤ 9218868437227405312) (h : mulW (wd s r) (wd t q) ≠ 9221120237041090561) : ∃ m, m ≤ 9218868437227405312 ∧ mulW (wd s r) (wd t q) = wd (s ^^ t) m := by
  by_cases h1 : r = 9218868437227405312
  · subst h1
    by_cases h2 : q = 0
    · subst h2; exact absurd (mul_i0 s t) h
    · exact ⟨_, Nat.le_refl _, mul_il s t q hq h2⟩
  · by_cases h2 : q = 9218868437227405312
    · subst h2
      rw [Gn.mul_comm] at h ⊢
      by_cases h3 : r = 0
      · subst h3; exact absurd (mul_i0 t s) h
      · rw [Bool.xor_comm]; exact ⟨_, Nat.le_refl _, mul_il t s r hr h3⟩
    · exact ⟨_, rung_le _ _, mul_fin s t r q (by omega) (by omega)⟩
theorem rise_mul {s t : Bool} {r q p : Nat} (hr : r ≤ 9218868437227405312) (hq : q ≤ 9218868437227405312) (hp : p ≤ 9218868437227405312) (h : rankW (wd s r) ≤ rankW (wd t q))
    (hx : mulW (wd s r) (wd false p) ≠ 9221120237041090561) (hy : mulW (wd t q) (wd false p) ≠ 9221120237041090561) : rankW (mulW (wd s r) (wd false p)) ≤ rankW (mulW (wd t q) (wd false p)) := by
  obtain ⟨h1, h2⟩ := sgn_of_rank hr hq h
  obtain ⟨m, hm, em⟩ := mul_num hr hp hx
  obtain ⟨n, hn, en⟩ := mul_num hq hp hy
  rw [em, en, rank_wd _ m hm, rank_wd _ n hn]
  -- the amounts: of one sign they keep the order
  have mono : ∀ (v v' : Bool) (x y k l : Nat), x ≤ y → y ≤ 9218868437227405312 → mulW (wd v x) (wd false p) = wd (v ^^ false) k → mulW (wd v' y) (wd false p) = wd (v' ^^ false) l → k ≤ 9218868437227405312 → l ≤ 9218868437227405312 →
      mulW (wd v x) (wd false p) ≠ 9221120237041090561 → mulW (wd v' y) (wd false p) ≠ 9221120237041090561 → k ≤ l := by
    intro v v' x y k l hxy hy1 ek el hk hl nx ny
    by_cases e1 : y = 9218868437227405312
    · subst e1
      by_cases e0 : p = 0
      · subst e0; exact absurd (mul_i0 v' false) ny
      · rw [mul_il v' false p hp e0] at el
        have := (wd_inj (by omega) (by omega) el).2
        omega
    · by_cases e2 : p = 9218868437227405312
      · subst e2
        by_cases e3 : x = 0
        · subst e3
          rw [Gn.mul_comm] at nx; exact absurd (mul_i0 false v) nx
        · rw [Gn.mul_comm, mul_il false v' y hy1 (by omega)] at el
          have := (wd_inj (by omega) (by omega) el).2
          omega
      · rw [mul_fin v false x p (by omega) (by omega)] at ek
        rw [mul_fin v' false y p (by omega) (by omega)] at el
        have r1 := rung_le (vl x * vl p) (-2148)
        have r2 := rung_le (vl y * vl p) (-2148)
        have a := (wd_inj (by omega) (by omega) ek).2
        have b := (wd_inj (by omega) (by omega) el).2
        have hv : vl x ≤ vl y := by rcases Nat.lt_or_eq_of_le hxy with e | e; exact Nat.le_of_lt (vl_lt e); rw [e]; exact Nat.le_refl _
        have := rung_mono (Nat.mul_le_mul_right (vl p) hv) (-2148)
        omega
  rw [rank_wd s r hr, rank_wd t q hq] at h
  cases s <;> cases t <;> simp at h ⊢
  · exact mono false false r q m n h hq em en hm hn hx hy
  · omega
  · omega
  · have := mono true true q r n m (by omega) hr en em hn hm hy hx
    omega
end Go.Proofs.YtijekbmhecnajabDoor
