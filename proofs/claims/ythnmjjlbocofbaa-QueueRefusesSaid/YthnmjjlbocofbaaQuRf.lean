import Derived.Test.YthnmjjlbocofbaaQuV
namespace Go.Proofs.Ythnmjjlbocofbaa
open Go.RowKit

/-- how many of the first k differ -/
def dfc (L M : List Rr) : Nat → Nat
  | 0 => 0
  | k + 1 => dfc L M k + (if L[k]? = M[k]? then 0 else 1)
theorem dfc_app (L s : List Rr) (k : Nat) (hk : k ≤ L.length) : dfc L (L ++ s) k = 0 := by
  induction k with
  | zero => rfl
  | succ k ih => rw [dfc, ih (by omega), List.getElem?_append_left (by omega), if_pos rfl]
theorem dfc_set (L : List Rr) (i : Nat) (r : Rr) (hi : i < L.length) (hr : r ≠ L[i]) (k : Nat) : dfc L (L.set i r) k = if i < k then 1 else 0 := by
  induction k with
  | zero => rfl
  | succ k ih =>
    rw [dfc, ih]
    by_cases e : i = k
    · subst e
      rw [List.getElem?_set_self hi, List.getElem?_eq_getElem hi, if_neg (by omega), if_neg (by simpa using fun h => hr h.symm), if_pos (by omega)]
    · rw [List.getElem?_set_ne e, if_pos rfl]
      by_cases h : i < k
      · rw [if_pos h, if_pos (by omega)]
      · rw [if_neg h, if_neg (by omega)]
theorem dfc_le (L M : List Rr) (k : Nat) : dfc L M k ≤ k := by
  induction k with
  | zero => exact Nat.le_refl _
  | succ k ih => rw [dfc]; split <;> omega
/-- what a call makes of the rows: how many differ, how long they are -/
theorem Ok.differ {m : Int} {L : List Rr} (h : Ok m L) (o : Rr) : L.length ≤ (dsL m L o).length ∧ (dsL m L o).length ≤ 8 ∧ ((dsB L o = true ∧ dfc L (dsL m L o) L.length = 0 ∧ (dsL m L o).length = L.length) ∨ (dsB L o = false ∧ dfc L (dsL m L o) L.length + (dsL m L o).length = L.length + 1)) := by
  have h8 := (h.does o).len
  rcases h.step o with ⟨a, b⟩ | ⟨a, r, b⟩ | ⟨a, i, r, hi, b, c, _⟩
  · rw [b] at h8 ⊢
    exact ⟨Nat.le_refl _, h8, .inl ⟨a, by have := dfc_app L [] L.length (Nat.le_refl _); rwa [List.append_nil] at this, rfl⟩⟩
  · rw [b] at h8 ⊢
    refine ⟨by simp, h8, .inr ⟨a, ?_⟩⟩
    rw [dfc_app L [r] L.length (Nat.le_refl _)]; simp
  · rw [b] at h8 ⊢
    refine ⟨by simp, h8, .inr ⟨a, ?_⟩⟩
    rw [dfc_set L i r hi (fun e => c (by rw [e])), if_pos hi]; simp; omega
set_option maxHeartbeats 4000000 in
set_option maxRecDepth 8000 in
theorem queueRefuses_walk {w : World} {x : Int} (_ : -9223372036854775808 ≤ x ∧ x ≤ 9223372036854775807) {ad : Option Addr} {ab ao cap : Nat} {Q : List Rr} (hQ : Rs w ad ab ao Q) (hQl : Q.length ≤ 2199023255488) (_ : ∀ i (h : i < Q.length), -9223372036854775808 ≤ (Q[i]).job ∧ (Q[i]).job ≤ 9223372036854775807) :
    Calls Try.prog 6 #[.int .i64 x, .slice ad Q.length cap] w fun e w' => e = .returned (.bool true) ∧ Below w.heap.size w w' := by
  have HN := hide (qnew_any w x)
  have HS := hide hQ
  have hg := guardR
  clear hQ
  go_enter Try.func6, Try.ntmps6
  go_wp2_with fail
  refine HN.out.mono ?_
  rintro e w1 (⟨h, rfl, hB1⟩ | ⟨b, v, hk, rfl, hq, hB1⟩)
  · have HB1 := hide hB1
    clear HN h hB1
    go_wp2_with fail
    refine (fixed_any _).mono ?_
    rintro e w2 ⟨rfl, hB2⟩
    go_wp2_with fail
    go_ret
    exact ⟨rfl, HB1.out.trans (hB2.mono HB1.out.size)⟩
  have HQ : Hid (Qt w b v x [] w1) := hide ⟨hq, hB1⟩
  have HK := hide hk
  clear HN hk hq hB1
  go_wp2_with fail
  go_loopw [7] (fun s wr => ∃ (i : Nat) (v : Value) (L : List Rr), i ≤ Q.length ∧ s = .int .i64 (i : Int) ∧ Hid (Ok x L) ∧ Hid (Qt w b v x L wr)) (fun s _ => Q.length - (intOf s).toNat)
  case atStart => exact ⟨0, v, [], Nat.zero_le _, rfl, HK, HQ⟩
  case round =>
    clear HK HQ
    obtain ⟨i, v, L, hi, rfl, HK, HQ⟩ := hrel
    by_cases hiq : i < Q.length
    · have hii : (i : Int) < (Q.length : Int) := by omega
      have hat := HS.out.at_ (by omega)
      subst hat
      go_wp2_with fail
      refine (qrows_any HQ.out.q HK.out.len).mono ?_
      rintro e w2 ⟨rfl, ho2, hB2⟩
      have HQ2 := hide (HQ.out.below hB2)
      have HR2 := hide (Rs.own0 ho2)
      obtain ⟨G, hG⟩ : ∃ G, wr.heap.size = G := ⟨_, rfl⟩
      have hvG : ∀ k, Ft b v k → k < G := fun k hk => by rw [← hG]; exact (HQ.out.q.ftlt k hk).2
      rw [hG] at HR2 ⊢
      clear ho2 hB2 hG HQ
      have hS := HS.out.below HQ2.out.bel
      obtain ⟨c0, c1, c2, c3, c4, c5, c6, c7⟩ := hS.eight hiq
      have hlt := hS.lt (by omega)
      clear hS
      generalize Q[i] = o at *
      go_wp2_with fail
      refine (does_any HQ2.out.q HK.out o).mono ?_
      rintro e w3 ⟨rfl, v3, hq3, hm3⟩
      have HQ3 := hide (HQ2.out.mv hq3 hm3)
      have HR3 := hide (HR2.out.keep fun h0 => hm3.block _ (HR2.out.lt h0) fun hf => absurd (hvG _ hf) (by omega))
      have HK3 := hide (HK.out.does o)
      obtain ⟨l1, l2, hd⟩ := HK.out.differ o
      have HD := hide hd
      generalize dsL x L o = M at *
      generalize dsB L o = B at *
      clear hq3 hm3 HQ2 HR2 c0 c1 c2 c3 c4 c5 c6 c7 hd
      go_wp2_with fail
      refine (qrows_any HQ3.out.q l2).mono ?_
      rintro e w4 ⟨rfl, ho4, hB4⟩
      have HQ4 := hide (HQ3.out.below hB4)
      have HR4 := hide (HR3.out.below hB4)
      have HT4 := hide (Rs.own0 ho4)
      obtain ⟨G2, hG2⟩ : ∃ G, w3.heap.size = G := ⟨_, rfl⟩
      rw [hG2] at HT4 ⊢
      clear ho4 hB4 hG2 HQ3 HR3
      have hL8 := HK.out.len
      go_wp2_with fail
      go_loopw [11, 12] (fun t s wq => ∃ (k : Nat), k ≤ L.length ∧ t = .int .i64 (dfc L M k : Int) ∧ s = .int .i64 (k : Int) ∧ Hid (Qt w b v3 x M wq ∧ Rs wq (some ⟨G, 0, none⟩) G 0 L ∧ Rs wq (some ⟨G2, 0, none⟩) G2 0 M)) (fun _ s _ => L.length - (intOf s).toNat)
      case atStart => exact ⟨0, Nat.zero_le _, rfl, rfl, hide ⟨HQ4.out, HR4.out, HT4.out⟩⟩
      case round =>
        clear HQ4 HR4 HT4
        obtain ⟨k, hk, rfl, rfl, HX⟩ := hrel
        have hdk := dfc_le L M k
        by_cases hkk : k < L.length
        · have hkI : (k : Int) < (L.length : Int) := by omega
          have hkJ : (k : Int) < (M.length : Int) := by omega
          obtain ⟨c0, c1, c2, c3, c4, c5, c6, c7⟩ := HX.out.2.1.eight0 hkk
          obtain ⟨d0, d1, d2, d3, d4, d5, d6, d7⟩ := HX.out.2.2.eight0 (show k < M.length by omega)
          have hn := neqR_any L[k] M[k]
          have hs : dfc L M (k + 1) = dfc L M k + (if L[k] = M[k] then 0 else 1) := by
            rw [dfc, List.getElem?_eq_getElem hkk, List.getElem?_eq_getElem (show k < M.length by omega)]
            simp
          by_cases he : L[k] = M[k]
          · rw [decide_eq_true he] at hn
            rw [if_pos he] at hs
            clear he
            have HSe := hide hs
            clear hs
            generalize L[k] = r at *
            generalize M[k] = r2 at *
            generalize hD : dfc L M k = D at *
            clear hD
            go_wp2_with fail
            go_quiet (fail)
            go_wp2_with fail
            go_roundw
            case rel => exact ⟨k + 1, by omega, by rw [HSe.out]; rfl, by go_num, hide ⟨⟨HX.out.1.q.drewN _, below_drewN HX.out.1.bel _⟩, HX.out.2.1.drewN _, HX.out.2.2.drewN _⟩⟩
            case measure => simp only [intOf]; omega
          · rw [decide_eq_false he] at hn
            rw [if_neg he] at hs
            clear he
            have HSe := hide hs
            clear hs
            generalize L[k] = r at *
            generalize M[k] = r2 at *
            generalize hD : dfc L M k = D at *
            clear hD
            go_wp2_with fail
            go_quiet (fail)
            go_wp2_with fail
            go_roundw
            case rel => exact ⟨k + 1, by omega, by rw [HSe.out]; go_num, by go_num, hide ⟨⟨HX.out.1.q.drewN _, below_drewN HX.out.1.bel _⟩, HX.out.2.1.drewN _, HX.out.2.2.drewN _⟩⟩
            case measure => simp only [intOf]; omega
        · have hkI : ¬ (k : Int) < (L.length : Int) := by omega
          obtain rfl : k = L.length := by omega
          have HQ9 := hide HX.out.1
          clear HX
          rcases HD.out with ⟨rfl, e1, e2⟩ | ⟨rfl, e1⟩
          · rw [e1]
            have e3 : ((L.length : Int) != (M.length : Int)) = false := by rw [e2]; simp
            clear HD e1
            have HE2 := hide e2
            clear e2
            go_wp2_with fail
            go_roundw
            case rel => exact ⟨i + 1, v3, M, by omega, by go_num, HK3, HQ9⟩
            case measure => simp only [intOf]; omega
          · generalize dfc L M L.length = D at *
            clear HD
            have e3 : (D : Int) + (M.length : Int) - (L.length : Int) = 1 := by omega
            clear e1
            go_wp2_with fail
            go_roundw
            case rel => exact ⟨i + 1, v3, M, by omega, by go_num, HK3, HQ9⟩
            case measure => simp only [intOf]; omega
    · have hii : ¬ (i : Int) < (Q.length : Int) := by omega
      have HB := hide HQ.out.bel
      clear HQ HK
      go_wp2_with fail
      refine (fixed_any _).mono ?_
      rintro e w6 ⟨rfl, hB6⟩
      go_wp2_with fail
      go_ret
      exact ⟨rfl, HB.out.trans (hB6.mono HB.out.size)⟩
end Go.Proofs.Ythnmjjlbocofbaa
