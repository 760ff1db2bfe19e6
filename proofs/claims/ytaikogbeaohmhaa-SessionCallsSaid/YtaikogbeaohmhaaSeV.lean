import Derived.Test.YtaikogbeaohmhaaSeU
namespace Go.Proofs.Ytaikogbeaohmhaa
open Go.RowKit

/-- the document's last number behind Hear -/
def hearL (c : Cl) (m : Sm) (l : Int) : Int := if c.mns m = 1 then 0 else if c.mns m = 2 then 0 else l
section
variable {w : World} {g o b : Nat} {c : Cl} {l : Int}
theorem xhear_any (hk : c.ok) (h : Xb w g o (xC c l)) (m : Sm) : Calls Try.prog 37 #[.pointer (some ⟨g, o, none⟩), .agg (smC m)] w fun e w' => e = .returned (.int .i64 (c.hear m).e) ∧ Xb w' g o (xC (c.hear m).c (hearL c m l)) ∧ Xo g o w w' := by
  have no : ∀ (hm : c.mns m = 0), (Calls Try.prog 37 #[.pointer (some ⟨g, o, none⟩), .agg (smC m)] w fun e w' => e = .returned (.int .i64 0) ∧ Xb w' g o (xC c l) ∧ Xo g o w w') → Calls Try.prog 37 #[.pointer (some ⟨g, o, none⟩), .agg (smC m)] w fun e w' => e = .returned (.int .i64 (c.hear m).e) ∧ Xb w' g o (xC (c.hear m).c (hearL c m l)) ∧ Xo g o w w' := fun hm hh => by
    unfold Cl.hear hearL
    rw [if_neg (by omega), if_neg (by omega), if_neg (by omega), if_neg (by omega), if_neg (by omega)]
    exact hh
  by_cases h1 : c.m.k = 1
  · have ta := Cl.awt_hail hk h1 m
    have u1 : (c.m.k == 1) = true := by simpa using h1
    have g1 : decide (1 < c.m.k) = false := decide_eq_false (by omega)
    have n2 : ¬ (c.awt m = true ∧ m.k = 8) := fun x => by rw [ta] at x; cases x.1
    have n3 : ¬ (c.awt m = true ∧ fitB c.m.k m.k = true) := fun x => by rw [ta] at x; cases x.1
    by_cases h7 : m.k = 7
    · by_cases hg : c.gr < m.se
      · have hm : c.mns m = 1 := if_pos ⟨h1, h7, hg⟩
        unfold Cl.hear hearL
        rw [if_pos hm, if_pos hm]
        exact xhear_W h m g1 u1 (by simpa using h7) (decide_eq_true hg)
      · exact no (by unfold Cl.mns; rw [if_neg fun x => hg x.2.2, if_neg n2, if_neg n3]) (xhear_A h m g1 u1 (by simpa using h7) (decide_eq_false hg))
    · exact no (by unfold Cl.mns; rw [if_neg fun x => h7 x.2.1, if_neg n2, if_neg n3]) (xhear_B h m g1 u1 (by simpa using h7))
  have u1 : (c.m.k == 1) = false := by simpa using h1
  have hw : ¬ (c.m.k = 1 ∧ m.k = 7 ∧ c.gr < m.se) := fun x => h1 x.1
  rcases hk.k with ⟨hkk, hn⟩ | ⟨hkk, hn⟩
  · have ta : c.awt m = false := by unfold Cl.awt; rw [hn]; rfl
    exact no (by unfold Cl.mns; rw [if_neg hw, ta, if_neg (by simp), if_neg (by simp)]) (xhear_C h m (decide_eq_false (by omega)) u1)
  · have g1 : decide (1 < c.m.k) = true := decide_eq_true (by omega)
    have hnn : (c.m.nu != 0) = true := by simp; omega
    cases g2 : m.se == c.m.se with
    | false => exact no (by unfold Cl.mns Cl.awt; rw [if_neg hw, g2]; simp) (xhear_D h m g1 g2 u1)
    | true => cases g3 : m.nu == c.m.nu with
      | false => exact no (by unfold Cl.mns Cl.awt; rw [if_neg hw, g2, g3]; simp) (xhear_E h m g1 g2 g3 u1)
      | true =>
        have ta : c.awt m = true := by unfold Cl.awt; rw [hnn, g2, g3]; rfl
        by_cases h8 : m.k = 8
        · have hm : c.mns m = 2 := by unfold Cl.mns; rw [if_neg hw, if_pos ⟨ta, h8⟩]
          unfold Cl.hear hearL
          rw [if_neg (by omega), if_pos hm, if_neg (by omega), if_pos hm]
          exact xhear_L h m g1 g2 g3 u1 (by simpa using h8)
        · have u4 : (m.k == 8) = false := by simpa using h8
          cases tf : fitB c.m.k m.k with
          | true =>
            have hm : c.mns m = 3 := by unfold Cl.mns; rw [if_neg hw, if_neg fun x => h8 x.2, if_pos ⟨ta, tf⟩]
            unfold Cl.hear hearL
            rw [if_neg (by omega), if_neg (by omega), if_pos hm, if_neg (by omega), if_neg (by omega)]
            exact xhear_T h m g1 g2 g3 u1 u4 tf
          | false => exact no (by unfold Cl.mns; rw [if_neg hw, if_neg fun x => h8 x.2, tf, if_neg (by simp)]) (xhear_N h m g1 g2 g3 u1 u4 tf)
set_option maxHeartbeats 4000000 in
set_option maxRecDepth 8000 in
theorem stands_any (h : Cb w b c) (hx : Xb w g o (xC c l)) : Calls Try.prog 13 #[.pointer (some ⟨b, 0, none⟩), .pointer (some ⟨g, o, none⟩)] w fun e w' => e = .returned (.bool true) ∧ ∃ n, w' = w.drewN n := by
  have H1 : Hid (∀ n, Calls Try.prog 32 #[.pointer (some ⟨b, 0, none⟩)] (w.drewN n) fun e w' => e = .returned (.int .i64 c.se) ∧ w' = w.drewN n) := hide fun n => sess_any (h.drewN n)
  have H2 : Hid (∀ n, Calls Try.prog 38 #[.pointer (some ⟨b, 0, none⟩)] (w.drewN n) fun e w' => e = .returned (.int .i64 c.m.nu) ∧ w' = w.drewN n) := hide fun n => waits_any (h.drewN n)
  have H3 : Hid (∀ n, Calls Try.prog 39 #[.pointer (some ⟨g, o, none⟩)] (w.drewN n) fun e w' => e = .returned (.int .i64 c.m.nu) ∧ w' = w.drewN n) := hide fun n => xwaits_any (hx.drewN n)
  have H4 : Hid (∀ n, Calls Try.prog 26 #[.pointer (some ⟨b, 0, none⟩)] (w.drewN n) fun e w' => e = .returned (.bool (c.m.k != 0)) ∧ w' = w.drewN n) := hide fun n => busy_any (h.drewN n)
  have H5 : Hid (∀ n, Calls Try.prog 27 #[.pointer (some ⟨b, 0, none⟩)] (w.drewN n) fun e w' => e = .returned (.int .i64 c.ti) ∧ w' = w.drewN n) := hide fun n => timer_any (h.drewN n)
  have f1 := hx.f1
  have f3 := hx.f3
  have f5 := hx.f5
  have n1 : (c.se == c.se) = true := by simp
  have n2 : (c.m.nu == c.m.nu) = true := by simp
  have n3 : (c.ti == c.ti) = true := by simp
  clear h hx
  go_enter Try.func13, Try.ntmps13
  go_wp2_with fail
  go_quiet (first
    | (go_at_call 32; exact Calls.quiet_of_same (H1.out _))
    | (go_at_call 38; exact Calls.quiet_of_same (H2.out _))
    | (go_at_call 39; exact Calls.quiet_of_same (H3.out _))
    | (go_at_call 26; exact Calls.quiet_of_same (H4.out _))
    | (go_at_call 27; exact Calls.quiet_of_same (H5.out _)))
  go_wp2_with fail
  go_ret
  exact ⟨rfl, _, rfl⟩
end
/-- a caller and the document's, what may be -/
structure Lk (c : Cl) (l : Int) : Prop where
  ok : c.ok
  l0 : 0 ≤ l
  l1 : l ≤ 1099511627776
  ls : c.se ≠ 0 → l = c.la
/-- one call -/
def Cl.does (c : Cl) (q : Oc) : Cl := if q.k = 1 then c.hello.c else if q.k = 2 then (c.ask q.m).c else if q.k = 3 then c.tick else if q.k = 4 then c.due.c else if q.k = 5 then (c.hear q.m).c else c
def lDoes (c : Cl) (q : Oc) (l : Int) : Int := if q.k = 1 then (if c.m.k = 0 then 0 else l) else if q.k = 2 then askL c q.m l else if q.k = 5 then hearL c q.m l else l
theorem Lk.does {c : Cl} {l : Int} (h : Lk c l) (q : Oc) (hq : q.m.se ≤ 9223372036854775807) : Lk (c.does q) (lDoes c q l) := by
  unfold Cl.does lDoes
  by_cases k1 : q.k = 1
  · rw [if_pos k1, if_pos k1]
    refine ⟨Cl.hello_ok h.ok, ?_, ?_, ?_⟩
    · split
      · exact Int.le_refl _
      · exact h.l0
    · split
      · decide
      · exact h.l1
    · unfold Cl.hello
      split
      · intro hs; exact absurd rfl hs
      · exact h.ls
  rw [if_neg k1, if_neg k1]
  by_cases k2 : q.k = 2
  · rw [if_pos k2, if_pos k2]
    have hok := Cl.ask_ok h.ok q.m
    refine ⟨hok, ?_, ?_, ?_⟩
    · unfold askL; split
      · have := h.l0; omega
      · exact h.l0
    · unfold askL; split
      · rename_i he
        unfold Cl.ask at he
        split at he
        · cases he
        · split at he
          · cases he
          · split at he
            · cases he
            · rename_i hc
              have := h.ls (fun e => hc (.inl e))
              have h2 := h.l1
              omega
      · exact h.l1
    · unfold askL Cl.ask
      split
      · exact h.ls
      · split
        · exact h.ls
        · split
          · exact h.ls
          · intro hs
            have := h.ls hs
            show l + 1 = c.la + 1
            omega
  rw [if_neg k2, if_neg k2]
  by_cases k3 : q.k = 3
  · rw [if_pos k3, if_neg (by omega)]
    refine ⟨Cl.tick_ok h.ok, h.l0, h.l1, ?_⟩
    unfold Cl.tick; split <;> exact h.ls
  rw [if_neg k3]
  by_cases k4 : q.k = 4
  · rw [if_pos k4, if_neg (by omega)]
    refine ⟨Cl.due_ok h.ok, h.l0, h.l1, ?_⟩
    unfold Cl.due
    split
    · exact h.ls
    · split <;> exact h.ls
  rw [if_neg k4]
  by_cases k5 : q.k = 5
  · rw [if_pos k5, if_pos k5]
    refine ⟨Cl.hear_ok h.ok hq, ?_, ?_, ?_⟩
    · unfold hearL; split
      · exact Int.le_refl _
      · split
        · exact Int.le_refl _
        · exact h.l0
    · unfold hearL; split
      · decide
      · split
        · decide
        · exact h.l1
    · unfold hearL Cl.hear
      split
      · intro _; rfl
      · split
        · intro hs; exact absurd rfl hs
        · split <;> exact h.ls
  · rw [if_neg k5, if_neg k5]; exact h

end Go.Proofs.Ytaikogbeaohmhaa
