import Derived.Test.YtlaaggpfmcehaaaRcZ
namespace Go.Proofs.Ytlaaggpfmcehaaa
open Go.RowKit
open Rc (L V Ch)

set_option maxHeartbeats 1600000 in
set_option maxRecDepth 8000 in
theorem recordTells_walk {w : World} {v : Value} {l : List Ch} (h : Rw w v l) (hl : l.length ≤ 1353245080301) :
    Calls Try.prog 6 #[v] w fun e w' => e = .returned (.bool true) ∧ Below w.heap.size w w' := by
  have HE := hide (encode_any h)
  have HRW := hide h
  have HT : Hid (∀ W, Below w.heap.size w W → Calls Try.prog 11 #[] W fun e w' => e = .returned (.bool true) ∧ Below w.heap.size w w') := hide fun W hW => (fixed_any W).mono fun _ _ hf => ⟨hf.1, hW.trans (hf.2.mono hW.size)⟩
  obtain ⟨p, cap, rfl, hp⟩ := h
  have HP : Hid (0 < l.length → ∃ b off, p = some ⟨b, off, none⟩ ∧ b < w.heap.size) := hide fun h => by obtain ⟨b, off, h1, h2, _⟩ := hp h; exact ⟨b, off, h1, h2⟩
  clear hp
  by_cases hno : l.length = 0 ∨ 16 < l.length
  · have hen : Rc.enco l = (⟨#[]⟩, 82) := by unfold Rc.enco; rw [if_pos hno]; rfl
    rw [hen] at HE
    clear hen HRW HP
    go_enter Try.func6, Try.ntmps6
    go_wp2_with fail
    refine HE.out.mono ?_
    rintro e w1 ⟨rfl, hb1⟩
    have HB3 := hide hb1
    clear HE hb1
    by_cases h0 : l.length = 0
    · rw [h0] at hno ⊢
      go_wp2_with fail
      refine (HT.out _ HB3.out).mono ?_
      rintro e wf ⟨rfl, hbf⟩
      have HF := hide hbf
      clear hbf HT
      go_wp2
      go_ret
      exact ⟨rfl, HF.out⟩
    · have b0 : ((l.length : Int) == 0) = false := beq_eq_false_iff_ne.2 (by omega)
      have b1 : decide ((16 : Int) < (l.length : Int)) = true := by simp; omega
      generalize l.length = n at *
      clear hno h0 hl
      go_wp2_with fail
      refine (HT.out _ HB3.out).mono ?_
      rintro e wf ⟨rfl, hbf⟩
      have HF := hide hbf
      clear hbf HT
      go_wp2
      go_ret
      exact ⟨rfl, HF.out⟩
  have hen : Rc.enco l = if Rc.first l ≠ 0 then (Rc.e0, Rc.first l) else if 2048 < (Rc.row l).length then (Rc.e0, 82) else (⟨(Rc.row l).toArray⟩, 0) := by unfold Rc.enco; rw [if_neg hno]
  have HEN := hide hen
  have b0 : ((l.length : Int) == 0) = false := beq_eq_false_iff_ne.2 (by omega)
  have b1 : decide ((16 : Int) < (l.length : Int)) = false := by simp; omega
  have hrow : ¬ (⟨(Rc.row l).toArray⟩ : ByteArray).toList = [] := by
    rw [ByteArray.toList_eq]
    have := Pk.enc_pos l.length
    intro h
    have h2 := congrArg List.length h
    simp only [Rc.row, List.length_append, List.length_nil] at h2
    omega
  have HROW := hide hrow
  clear hen hrow
  obtain ⟨n, hn⟩ : ∃ n, l.length = n := ⟨_, rfl⟩
  generalize Rc.enco l = E at *
  obtain ⟨a, e1⟩ := E
  simp only at HE
  have hn16 : n ≤ 16 := by omega
  rw [hn] at HE b0 b1 hl ⊢
  clear hno
  go_enter Try.func6, Try.ntmps6
  go_wp2_with fail
  refine HE.out.mono ?_
  rintro e w1 ⟨rfl, hb1⟩
  have HB1 := hide hb1
  clear HE hb1
  go_wp2_with fail
  go_loopw [5, 6] (fun s _ wr => ∃ k : Nat, k ≤ n ∧ s = .int .i64 (k : Int) ∧ Hid (Rc.first l = Rc.first (l.drop k)) ∧ Hid (Below w.heap.size w wr)) (fun s _ _ => n - (intOf s).toNat)
  case atStart => exact ⟨0, Nat.zero_le _, rfl, hide rfl, HB1⟩
  case round =>
    obtain ⟨k, hk, rfl, HK, HBk⟩ := hrel
    by_cases hkl : k < n
    · have hki : (k : Int) < (n : Int) := by omega
      obtain ⟨b, off, rfl, hlt⟩ := HP.out (by omega)
      obtain ⟨pt, ct, hTt, htl, -, -, hx⟩ := HRW.out.at rfl (show k < l.length by omega)
      have hc : ∀ i u, (chC l[k]! (.slice pt (l[k]!).tx.length ct))[i]? = some u → wr.cell? ⟨b, off + k * 10 + i, none⟩ = some u := fun i u hi => (HBk.out.cell (p := ⟨b, off + k * 10 + i, none⟩) hlt).trans (hx i u hi)
      have HS := hide (HK.out.trans (first_step (l := l) (k := k) (by omega)))
      generalize l[k]! = c at *
      have c0 : wr.cell? ⟨b, off + k * 10, none⟩ = some (.int .i64 c.k) := hc 0 _ rfl
      have c1 : wr.cell? ⟨b, off + k * 10 + 1, none⟩ = some (.int .i64 c.n) := hc 1 _ rfl
      have c2 : wr.cell? ⟨b, off + k * 10 + 2, none⟩ = some (.int .i64 c.jo) := hc 2 _ rfl
      have c3 : wr.cell? ⟨b, off + k * 10 + 3, none⟩ = some (.int .i64 c.ba) := hc 3 _ rfl
      have c4 : wr.cell? ⟨b, off + k * 10 + 4, none⟩ = some (.int .i64 c.sl) := hc 4 _ rfl
      have c5 : wr.cell? ⟨b, off + k * 10 + 5, none⟩ = some (.int .i64 c.li) := hc 5 _ rfl
      have c6 : wr.cell? ⟨b, off + k * 10 + 6, none⟩ = some (.int .i64 c.rc) := hc 6 _ rfl
      have c7 : wr.cell? ⟨b, off + k * 10 + 7, none⟩ = some (.int .u64 (c.rb : Int)) := hc 7 _ rfl
      have c8 : wr.cell? ⟨b, off + k * 10 + 8, none⟩ = some (.string c.pr) := hc 8 _ rfl
      have c9 : wr.cell? ⟨b, off + k * 10 + 9, none⟩ = some (.slice pt c.tx.length ct) := hc 9 _ rfl
      have HC := hide (check_any c _ wr (hTt.below HBk.out (Nat.le_refl _)) htl)
      have H80 := hide (Rc.check_80 c)
      have H3 := hide (Rc.check_three c)
      have hbl : b < wr.heap.size := Nat.lt_of_lt_of_le hlt HBk.out.size
      have hsz := HBk.out.size
      have HCC : Hid (∀ W, Below wr.heap.size wr W → W.cell? ⟨b, off + k * 10, none⟩ = some (.int .i64 c.k)) := hide fun W hW => (hW.cell (p := ⟨b, off + k * 10, none⟩) hbl).trans c0
      simp only [chC] at HC
      clear hc hx hTt htl HK
      generalize Rc.check c = X at *
      go_wp2_with fail
      refine HC.out.mono ?_
      rintro e w2 ⟨rfl, hb2⟩
      have HB2 := hide (HBk.out.trans (hb2.mono HBk.out.size))
      have ck := HCC.out _ hb2
      have hb2l : b < w2.heap.size := Nat.lt_of_lt_of_le hbl hb2.size
      clear HC hb2 HBk HCC c0 c1 c2 c3 c4 c5 c6 c7 c8 c9
      by_cases hX : X = 0
      · subst hX
        clear ck H80 H3
        go_wp2
        go_roundw
        case rel => exact ⟨k + 1, by omega, by go_num, hide (by have := HS.out; rw [if_neg (by simp)] at this; exact this), HB2⟩
        case measure => simp [intOf]; omega
      · have hxne : ((X : Int) != 0) = true := by simp [hX]
        have hen := HEN.out
        have hf := HS.out
        rw [if_pos hX] at hf
        rw [hf, if_pos hX] at hen
        simp only [Prod.mk.injEq] at hen
        obtain ⟨rfl, rfl⟩ := hen
        rw [show Rc.e0 = (⟨#[]⟩ : ByteArray) from rfl] at *
        clear HS HEN hf HROW
        by_cases h80 : e1 = 80
        · subst h80
          have hkk := H80.out.mp rfl
          by_cases hk1 : c.k < 1
          · clear H80 H3 hkk
            go_wp2_with fail
            refine (HT.out _ HB2.out).mono ?_
            rintro e wf ⟨rfl, hbf⟩
            have HF := hide hbf
            clear hbf HT
            go_wp2
            go_ret
            exact ⟨rfl, HF.out⟩
          · have hk6 : 6 < c.k := by omega
            clear H80 H3 hkk
            go_wp2_with fail
            refine (HT.out _ HB2.out).mono ?_
            rintro e wf ⟨rfl, hbf⟩
            have HF := hide hbf
            clear hbf HT
            go_wp2
            go_ret
            exact ⟨rfl, HF.out⟩
        · have h81 : e1 = 81 := by have := H3.out; omega
          subst h81
          have hk1 : decide (c.k < 1) = false := decide_eq_false fun h => h80 (H80.out.mpr (.inl h))
          have hk6 : decide (6 < c.k) = false := decide_eq_false fun h => h80 (H80.out.mpr (.inr h))
          clear H80 H3 h80
          go_wp2_with fail
          refine (HT.out _ HB2.out).mono ?_
          rintro e wf ⟨rfl, hbf⟩
          have HF := hide hbf
          clear hbf HT
          go_wp2
          go_ret
          exact ⟨rfl, HF.out⟩
    · obtain rfl : k = n := by omega
      have hki : ¬ (k : Int) < (k : Int) := by omega
      have hf : Rc.first l = 0 := by rw [HK.out, ← hn, List.drop_length]; rfl
      have hen := HEN.out
      rw [hf, if_neg (by simp)] at hen
      clear HK HEN hf HRW HP
      by_cases h2 : 2048 < (Rc.row l).length
      · rw [if_pos h2] at hen
        simp only [Prod.mk.injEq] at hen
        obtain ⟨rfl, rfl⟩ := hen
        rw [show Rc.e0 = (⟨#[]⟩ : ByteArray) from rfl] at *
        clear h2 HROW
        go_wp2_with fail
        refine (HT.out _ HBk.out).mono ?_
        rintro e wf ⟨rfl, hbf⟩
        have HF := hide hbf
        clear hbf HT
        go_wp2
        go_ret
        exact ⟨rfl, HF.out⟩
      · rw [if_neg h2] at hen
        simp only [Prod.mk.injEq] at hen
        obtain ⟨ha, rfl⟩ := hen
        have hane : ¬ a.toList = [] := by rw [ha]; exact HROW.out
        have hane2 : (a.toList == []) = false := beq_eq_false_iff_ne.2 hane
        have hane3 : (a.toList != []) = true := by simp [bne, hane2]
        clear h2 HROW ha
        go_wp2_with fail
        refine (HT.out _ HBk.out).mono ?_
        rintro e wf ⟨rfl, hbf⟩
        have HF := hide hbf
        clear hbf HT
        go_wp2
        go_ret
        exact ⟨rfl, HF.out⟩
end Go.Proofs.Ytlaaggpfmcehaaa
