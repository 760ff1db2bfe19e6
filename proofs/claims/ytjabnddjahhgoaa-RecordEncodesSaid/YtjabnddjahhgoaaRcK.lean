import Derived.Test.YtjabnddjahhgoaaRcJ
namespace Go.Proofs.Ytjabnddjahhgoaa
open Go.RowKit
open Rc (L V Ch)

theorem first_step {l : List Ch} {k : Nat} (h : k < l.length) : Rc.first (l.drop k) = if Rc.check l[k]! ≠ 0 then Rc.check l[k]! else Rc.first (l.drop (k + 1)) := by
  rw [List.drop_eq_getElem_cons h, getElem!_pos l k h]; rfl
theorem Rw.len {w : World} {v : Value} {l : List Ch} (h : Rw w v l) : ∃ p cap, v = .slice p l.length cap := by obtain ⟨p, cap, hv, _⟩ := h; exact ⟨p, cap, hv⟩
set_option maxHeartbeats 800000 in
theorem encode_any {w : World} {v : Value} {l : List Ch} (h : Rw w v l) :
    Calls Try.prog 6 #[v] w fun e w' => e = .returned (.tuple #[.string (Rc.enco l).1, .int .i64 ((Rc.enco l).2 : Int)]) ∧ Below w.heap.size w w' := by
  have HRW := hide h
  obtain ⟨p, cap, rfl, h2⟩ := h
  generalize hE : Rc.enco l = E
  unfold Rc.enco at hE
  by_cases h0 : l.length = 0
  · rw [if_pos (.inl h0)] at hE
    rw [← hE, h0]
    clear h2 HRW
    go_enter Try.func6, Try.ntmps6
    go_wp2
    go_ret2
    exact ⟨rfl, Below.refl _ _⟩
  by_cases h16 : 16 < l.length
  · rw [if_pos (.inr h16)] at hE
    rw [← hE]
    have b0 : ((l.length : Int) == 0) = false := beq_eq_false_iff_ne.2 (by omega)
    have b1 : decide ((16 : Int) < (l.length : Int)) = true := by simp; omega
    clear h2 HRW hE
    generalize l.length = m at *
    go_enter Try.func6, Try.ntmps6
    go_wp2
    go_ret2
    exact ⟨rfl, Below.refl _ _⟩
  rw [if_neg (by omega)] at hE
  have HE := hide hE
  obtain ⟨b, off, rfl, hlt, hx⟩ := h2 (by omega)
  have HX := hide hx
  have b0 : ((l.length : Int) == 0) = false := beq_eq_false_iff_ne.2 (by omega)
  have b1 : decide ((16 : Int) < (l.length : Int)) = false := by simp; omega
  clear h2 hx hE
  generalize hn : l.length = n at *
  go_enter Try.func6, Try.ntmps6
  go_wp2_with fail
  go_loopw [18] (fun s wr => ∃ k : Nat, k ≤ n ∧ s = .int .i64 (k : Int) ∧ Hid (Rc.first l = Rc.first (l.drop k)) ∧ Hid (Below w.heap.size w wr)) (fun s _ => n - (intOf s).toNat)
  case atStart => exact ⟨0, Nat.zero_le _, rfl, hide rfl, hide (Below.refl _ _)⟩
  case round =>
    obtain ⟨k, hk, rfl, HK, HBk⟩ := hrel
    by_cases hkl : k < n
    · obtain ⟨t, ht, htl, hrb, hx⟩ := HX.out k hkl
      have hc : ∀ i u, (chC l[k]! t)[i]? = some u → wr.cell? ⟨b, off + k * 10 + i, none⟩ = some u := fun i u hi => (HBk.out.cell (p := ⟨b, off + k * 10 + i, none⟩) hlt).trans (hx i u hi)
      have HS := hide (HK.out.trans (first_step (l := l) (k := k) (by omega)))
      generalize l[k]! = c at *
      have HT := hide (ht.below HBk.out (Nat.le_refl _))
      obtain ⟨pt, capt, rfl, -⟩ := ht
      have c0 : wr.cell? ⟨b, off + k * 10, none⟩ = some (.int .i64 c.k) := hc 0 _ rfl
      have c1 : wr.cell? ⟨b, off + k * 10 + 1, none⟩ = some (.int .i64 c.n) := hc 1 _ rfl
      have c2 : wr.cell? ⟨b, off + k * 10 + 2, none⟩ = some (.int .i64 c.jo) := hc 2 _ rfl
      have c3 : wr.cell? ⟨b, off + k * 10 + 3, none⟩ = some (.int .i64 c.ba) := hc 3 _ rfl
      have c4 : wr.cell? ⟨b, off + k * 10 + 4, none⟩ = some (.int .i64 c.sl) := hc 4 _ rfl
      have c5 : wr.cell? ⟨b, off + k * 10 + 5, none⟩ = some (.int .i64 c.li) := hc 5 _ rfl
      have c6 : wr.cell? ⟨b, off + k * 10 + 6, none⟩ = some (.int .i64 c.rc) := hc 6 _ rfl
      have c7 : wr.cell? ⟨b, off + k * 10 + 7, none⟩ = some (.int .u64 (c.rb : Int)) := hc 7 _ rfl
      have c8 : wr.cell? ⟨b, off + k * 10 + 8, none⟩ = some (.string c.pr) := hc 8 _ rfl
      have c9 : wr.cell? ⟨b, off + k * 10 + 9, none⟩ = some (.slice pt c.tx.length capt) := hc 9 _ rfl
      have hki : (k : Int) < (n : Int) := by omega
      have hbl : b < wr.heap.size := Nat.lt_of_lt_of_le hlt HBk.out.size
      have hb0 : Below wr.heap.size wr (wr.alloc (.cells (chC c (.slice pt c.tx.length capt)) 29)) := below_alloc _ _
      have H2 := hide (check_any c (.slice pt c.tx.length capt) _ (HT.out.below hb0 (Nat.le_refl _)) htl)
      have HB2 := hide (HBk.out.trans (hb0.mono HBk.out.size))
      have hsz := HBk.out.size
      clear hc hx HK HBk hb0 hrb htl
      generalize Rc.check c = X at *
      go_wp2_with fail
      refine H2.out.mono ?_
      rintro e w2 ⟨rfl, hb2⟩
      have HB3 := hide (HB2.out.trans (hb2.mono (by simp; omega)))
      clear H2 HB2 hb2 HT c0 c1 c2 c3 c4 c5 c6 c7 c8 c9
      by_cases hX : X = 0
      · subst hX
        go_wp2
        go_roundw
        case rel => exact ⟨k + 1, by omega, by go_num, hide (by have := HS.out; rw [if_neg (by simp)] at this; exact this), HB3⟩
        case measure => simp [intOf]; omega
      · have hb : ((X : Int) != 0) = true := by simp [hX]
        have HE2 : Hid (E = (Rc.e0, X)) := hide (by
          have := HS.out
          rw [if_pos hX] at this
          rw [← HE.out, this, if_pos hX])
        clear HE HS
        go_wp2
        go_ret2
        exact ⟨by rw [HE2.out]; rfl, HB3.out⟩
    · obtain rfl : k = n := by omega
      have hki : ¬ (k : Int) < (k : Int) := by omega
      have hf : Rc.first l = 0 := by rw [HK.out, ← hn, List.drop_length]; rfl
      have hE := HE.out
      rw [if_neg (by rw [hf]; simp)] at hE
      have HL := hide (layRow_any (HRW.out.below HBk.out (Nat.le_refl _)) (by omega) fun c hc => (Rc.check_iff c).mp ((Rc.first_iff l).mp hf c hc))
      have HE3 := hide hE
      have hsz := HBk.out.size
      clear hf HK HE hE HRW
      go_wp2_with fail
      refine HL.out.mono ?_
      rintro e w2 ⟨rfl, hb2⟩
      have HB3 := hide (HBk.out.trans (hb2.mono hsz))
      have hz : ((⟨(Rc.row l).toArray⟩ : ByteArray).size : Int) = ((Rc.row l).length : Int) := by simp [ByteArray.size]
      clear HL HBk hb2
      generalize (⟨(Rc.row l).toArray⟩ : ByteArray) = S at *
      generalize (Rc.row l).length = m at *
      by_cases hm : 2048 < m
      · have hd : decide ((2048 : Int) < (S.size : Int)) = true := by rw [hz]; simp; omega
        have hE := HE3.out
        rw [if_pos hm] at hE
        have HE4 := hide hE
        clear HE3 hE
        go_wp2
        go_ret2
        exact ⟨by rw [← HE4.out]; rfl, HB3.out⟩
      · have hd : decide ((2048 : Int) < (S.size : Int)) = false := by rw [hz]; simp; omega
        have hE := HE3.out
        rw [if_neg hm] at hE
        have HE4 := hide hE
        clear HE3 hE
        go_wp2
        go_ret2
        exact ⟨by rw [← HE4.out]; rfl, HB3.out⟩
end Go.Proofs.Ytjabnddjahhgoaa
