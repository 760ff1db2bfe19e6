import Derived.Test.YtkchddphmkgilaaQuRe
namespace Go.Proofs.Ytkchddphmkgilaa
open Go.RowKit

theorem Ok.fnd_pos {m : Int} {L : List Rr} (h : Ok m L) {g : Int} (i : Nat) (hi : i < L.length) (hg : 0 < g) (hb : (L[i]).bdg = g) : fnd g L = L[i] ∧ (!decide (fnd g L = rr0)) = true := by
  rcases h.fnd_at i hi with ⟨_, a, b⟩ | ⟨a, _⟩
  · rw [hb] at a; rw [a]; exact ⟨rfl, b⟩
  · omega
theorem Ok.fnd_no {m : Int} {L : List Rr} (h : Ok m L) {g : Int} (hn : ∀ i (hi : i < L.length), ¬ (0 < g ∧ (L[i]).bdg = g)) : fnd g L = rr0 := by
  rcases fnd_or g L with ⟨a, _⟩ | ⟨j, hj, _, b, c⟩
  · exact a
  · refine absurd ⟨?_, c⟩ (hn j hj)
    rcases h.bd j hj with ⟨a, _⟩ | ⟨_, a, _⟩ <;> omega
section
variable {w w' : World} {x : Nat} {ad : Option Addr} {ab cap : Nat} {m : Int} {L : List Rr}
set_option maxHeartbeats 2000000 in
set_option maxRecDepth 8000 in
theorem rfind_any (h : Xm w x ad ab cap m L) (hk : Ok m L) (g : Int) : Calls Try.prog 33 #[.pointer (some ⟨x, 0, none⟩), .int .i64 g] w fun e w' => e = .returned (.tuple #[(fnd g L).val, .bool (!decide (fnd g L = rr0))]) ∧ Below w.heap.size w w' := by
  have hlt := h.lt
  have hl := hk.len
  have c1 : ∀ o, (w.alloc o).cell? ⟨x, 1, none⟩ = some (.slice ad L.length cap) := fun o => Lib.cell?_alloc_some _ h.c1
  have c1w := h.c1
  have HR := hide h.rs
  have HK := hide hk
  clear h hk
  go_enter Try.func33, Try.ntmps33
  go_wp2_with fail
  go_loopw [6] (fun s wr => ∃ (i : Nat), i ≤ L.length ∧ s = .int .i64 (i : Int) ∧ wr = w.alloc (.cells #[.int .i64 0, .int .i64 0, .int .i64 0, .int .i64 0, .int .i64 0, .int .i64 0, .int .i64 0, .int .u64 0] 30) ∧ Hid (∀ k (_ : k < i) (hk : k < L.length), ¬ (0 < g ∧ (L[k]).bdg = g))) (fun s _ => L.length - (intOf s).toNat)
  case atStart => exact ⟨0, Nat.zero_le _, rfl, rfl, hide (fun k hk => absurd hk (by omega))⟩
  case round =>
    obtain ⟨i, hi, rfl, rfl, HP⟩ := hrel
    by_cases hii : i < L.length
    · have hik : (i : Int) < (L.length : Int) := by omega
      have hat := HR.out.at_ (by omega)
      subst hat
      have hlr := HR.out.lt (by omega)
      obtain ⟨k0, k1, k2, k3, k4, k5, k6, k7⟩ := HR.out.eight0 hii
      by_cases h0 : 0 < g
      · by_cases h1 : (L[i]).bdg = g
        · obtain ⟨e1, e2⟩ := HK.out.fnd_pos i hii h0 h1
          have HE1 := hide e1
          have HE2 := hide e2
          clear e1 e2
          have b1 : ((L[i]).bdg == g) = true := by simpa using h1
          clear h1
          generalize L[i] = r at *
          go_wp2
          refine bodyPost_ret (by rw [results_cell_tmp (fn := Try.f33) rfl]; go_simp; rfl) rfl ?_
          exact ⟨by rw [HE2.out, HE1.out], below_alloc _ _⟩
        · have HP2 : Hid (∀ k (_ : k < i + 1) (hk : k < L.length), ¬ (0 < g ∧ (L[k]).bdg = g)) := hide fun k hk hkl => by
            by_cases e : k = i
            · subst e; exact fun hx => h1 hx.2
            · exact HP.out k (by omega) hkl
          have b1 : ((L[i]).bdg == g) = false := by simpa using h1
          clear h1 HP
          generalize L[i] = r at *
          go_wp2_with fail
          go_roundw
          case rel => exact ⟨i + 1, by omega, by go_num, by first | rfl | trivial, HP2⟩
          case measure => simp only [intOf]; omega
      · have HP2 : Hid (∀ k (_ : k < i + 1) (hk : k < L.length), ¬ (0 < g ∧ (L[k]).bdg = g)) := hide fun k hk hkl hx => h0 hx.1
        have b0 : decide (0 < g) = false := decide_eq_false h0
        clear h0 HP
        generalize L[i] = r at *
        go_wp2_with fail
        go_roundw
        case rel => exact ⟨i + 1, by omega, by go_num, by first | rfl | trivial, HP2⟩
        case measure => simp only [intOf]; omega
    · have hik : ¬ (i : Int) < (L.length : Int) := by omega
      have HE := hide (HK.out.fnd_no (g := g) fun k hk => HP.out k (by omega) hk)
      go_wp2
      refine bodyPost_ret (by rw [results_cell_tmp (fn := Try.f33) rfl]; go_simp; rfl) rfl ?_
      exact ⟨by rw [HE.out]; rfl, below_alloc _ _⟩
set_option maxHeartbeats 2000000 in
set_option maxRecDepth 8000 in
theorem ropen_any (h : Xm w x ad ab cap m L) (hk : Ok m L) : Calls Try.prog 35 #[.pointer (some ⟨x, 0, none⟩)] w fun e w' => e = .returned (.tuple #[.int .i64 (opn m L).1, .int .i64 (opn m L).2]) ∧ Below w.heap.size w w' := by
  have hlt := h.lt
  have hl := hk.len
  have m1 := hk.m1
  have m8 := hk.m8
  have HX := hide h
  have HK := hide hk
  clear h hk
  have c0w := HX.out.c0
  have c1w := HX.out.c1
  go_enter Try.func35, Try.ntmps35
  go_wp2_with fail
  clear c0w c1w
  go_loopw [4, 5, 6] (fun a c s wr => ∃ (i : Nat) (p : Int × Int), i ≤ L.length ∧ a = .int .i64 p.1 ∧ c = .int .i64 p.2 ∧ s = .int .i64 (i : Int) ∧ (0 ≤ p.1 ∧ p.1 ≤ i ∧ 0 ≤ p.2 ∧ p.2 ≤ 8 * i) ∧ Hid (p = (L.take i).foldl (opF m) (0, 0)) ∧ Hid (Below w.heap.size w wr)) (fun _ _ s _ => L.length - (intOf s).toNat)
  case atStart => exact ⟨0, (0, 0), Nat.zero_le _, rfl, rfl, rfl, by simp, hide rfl, hide (Below.refl _ _)⟩
  case round =>
    obtain ⟨i, p, hi, rfl, rfl, rfl, hp, HP, HB⟩ := hrel
    have hX := HX.out.below HB.out
    have c0 := hX.c0
    have c1 := hX.c1
    by_cases hii : i < L.length
    · have hik : (i : Int) < (L.length : Int) := by omega
      have hat := HX.out.rs.at_ (by omega)
      subst hat
      have hlr := hX.rs.lt (by omega)
      obtain ⟨k0, k1, k2, k3, k4, k5, k6, k7⟩ := hX.rs.eight0 hii
      have hbd := opF_bd m1 m8 i p L[i] hp (HK.out.att i hii).1 (HK.out.att i hii).2
      have ha := HK.out.att i hii
      have HF2 : Hid ((L.take (i + 1)).foldl (opF m) (0, 0) = opF m p L[i]) := by rw [HP.out]; exact hide (fold_take (opF m) (0, 0) L i hii)
      have hst : (L[i]).st = 1 ∨ (L[i]).st = 2 ∨ (L[i]).st = 3 ∨ (L[i]).st = 4 := by
        rcases HK.out.st i hii with ⟨a, _⟩ | ⟨a, _⟩ | ⟨a, _⟩ | ⟨a, _⟩
        · exact .inl a
        · exact .inr (.inl a)
        · exact .inr (.inr (.inl a))
        · exact .inr (.inr (.inr a))
      clear hX HP
      generalize L[i] = r at *
      by_cases h3 : r.st < 3
      · have HO : Hid (opF m p r = (p.1 + 1, p.2 + m - r.att)) := if_pos (by omega)
        rw [HO.out] at HF2 hbd
        simp only at hbd
        clear hst
        go_wp2_with fail
        go_quiet (fail)
        go_wp2_with fail
        go_roundw
        case rel => exact ⟨i + 1, (p.1 + 1, p.2 + m - r.att), by omega, rfl, by show Value.int .i64 _ = Value.int .i64 (p.2 + m - r.att); congr 1; omega, by go_num, hbd, hide HF2.out.symm, hide (below_drewN HB.out _)⟩
        case measure => simp only [intOf]; omega
      · have HO : Hid (opF m p r = p) := if_neg (by omega)
        rw [HO.out] at HF2 hbd
        clear hst
        go_wp2_with fail
        go_roundw
        case rel => exact ⟨i + 1, p, by omega, rfl, rfl, by go_num, hbd, hide HF2.out.symm, HB⟩
        case measure => simp only [intOf]; omega
    · have hik : ¬ (i : Int) < (L.length : Int) := by omega
      obtain rfl : i = L.length := by omega
      rw [List.take_length] at HP
      have HO : Hid (opn m L = p) := hide HP.out.symm
      go_wp2
      go_ret2
      exact ⟨by rw [HO.out]; rfl, HB.out⟩
end
end Go.Proofs.Ytkchddphmkgilaa
