import Derived.Test.YtlgcimfbhjidgaaMgAW
import Derived.Test.YtlgcimfbhjidgaaMgAX
import Derived.Test.YtlgcimfbhjidgaaMgAN

section
namespace Go.Proofs.Ytlgcimfbhjidgaa
open Go.RowKit
open Rc (L V Ch)

theorem first_at : ∀ (l : List Ch) (i : Nat), i < l.length → (∀ c ∈ l.take i, Rc.check c = 0) → Rc.check l[i]! ≠ 0 → Rc.first l = Rc.check l[i]! := by
  intro l
  induction l with
  | nil => intro i hi; simp at hi
  | cons c l ih =>
    intro i hi h hc
    unfold Rc.first
    cases i with
    | zero => exact if_pos hc
    | succ i =>
      have h0 := h c (by simp)
      rw [if_neg (by simp [h0])]
      have h3 : i < l.length := by simpa using hi
      have h1 := ih i h3 (fun d hd => h d (by simp [hd]))
      have h2 : (c :: l)[i + 1]! = l[i]! := by rw [getElem!_pos (c :: l) (i + 1) hi, getElem!_pos l i h3]; rfl
      rw [h2] at hc ⊢
      exact h1 hc
theorem all_short (l : List Ch) (h : ∀ c ∈ l, Rc.check c = 0) : (Rc.all l).length ≤ l.length * 1100 := by
  induction l with
  | nil => simp [Rc.all]
  | cons c l ih =>
    have h1 := bytes_short c (h c (by simp))
    have h2 := ih (fun d hd => h d (by simp [hd]))
    simp only [Rc.all, List.flatMap_cons, List.length_append, List.length_cons] at h2 ⊢
    omega
theorem take_ok {l : List Ch} {i : Nat} (hi : i < l.length) (h : ∀ c ∈ l.take i, Rc.check c = 0) (hc : Rc.check l[i]! = 0) : ∀ c ∈ l.take (i + 1), Rc.check c = 0 := by
  intro c hm
  rw [← List.take_append_getElem hi, List.mem_append] at hm
  rcases hm with hm | hm
  · exact h c hm
  · rw [List.mem_singleton] at hm; subst hm; rw [getElem!_pos l i hi] at hc; exact hc
set_option maxHeartbeats 4000000 in
set_option maxRecDepth 8000 in
theorem rencode_any {w : World} {v : Value} {l : List Ch} (h : Rw w v l) : Calls Try.prog 12 #[v] w fun e w' => e = .returned (.tuple #[.string (Rc.enco l).1, .int .i64 ((Rc.enco l).2 : Int)]) ∧ Below w.heap.size w w' := by
  obtain ⟨p, cap, rfl, h2⟩ := h
  by_cases h0 : l.length = 0
  · have HE : Hid (Rc.enco l = (Rc.e0, 82)) := hide (if_pos (.inl h0))
    have hi : (l.length : Int) < 1 := by omega
    clear h0 h2
    go_enter Try.func12, Try.ntmps12
    go_wp2
    go_ret2
    rw [HE.out]
    exact ⟨rfl, Below.refl _ _⟩
  by_cases h16 : 16 < l.length
  · have HE : Hid (Rc.enco l = (Rc.e0, 82)) := hide (if_pos (.inr h16))
    have hi : ¬ (l.length : Int) < 1 := by omega
    have hi2 : (16 : Int) < (l.length : Int) := by omega
    clear h0 h2 h16
    go_enter Try.func12, Try.ntmps12
    go_wp2
    go_ret2
    rw [HE.out]
    exact ⟨rfl, Below.refl _ _⟩
  obtain ⟨b, off, rfl, hlt, hc⟩ := h2 (by omega)
  have HCc := hide hc
  have hn1 : ¬ (l.length : Int) < 1 := by omega
  have hn2 : ¬ (16 : Int) < (l.length : Int) := by omega
  have hneg : ¬ (l.length = 0 ∨ 16 < l.length) := by omega
  have en := Pk.enc_ten (n := l.length) (by omega)
  obtain ⟨RES, hRES⟩ : ∃ R, R = Rc.enco l := ⟨_, rfl⟩
  rw [← hRES]
  have HRES := hide hRES
  have HNeg := hide hneg
  clear h2 hc hRES hneg
  go_enter Try.func12, Try.ntmps12
  go_wp2_with fail
  refine (dnum_any l.length (by omega) _).mono ?_
  rintro e w1 ⟨rfl, hB1⟩
  have HB1 := hide hB1
  clear hB1
  go_wp2_with fail
  go_loopw [4, 5] (fun a s wr => ∃ (i : Nat) (A : List UInt8), i ≤ l.length ∧ a = .string ⟨A.toArray⟩ ∧ s = .int .i64 (i : Int) ∧ Hid (A = Pk.enc l.length ++ Rc.all (l.take i)) ∧ Hid (∀ c ∈ l.take i, Rc.check c = 0) ∧ Hid (Below w.heap.size w wr)) (fun _ s _ => l.length - (intOf s).toNat)
  case atStart => exact ⟨0, _, Nat.zero_le _, rfl, rfl, hide (by simp [Rc.all]), hide (by simp), HB1⟩
  case round =>
    clear HB1
    obtain ⟨i, A, hi, rfl, rfl, HA, HK, HB⟩ := hrel
    have hAl : A.length ≤ 20000 := by
      have h1 := all_short _ HK.out
      have h3 : (l.take i).length ≤ 16 := by rw [List.length_take]; omega
      rw [HA.out, List.length_append]; omega
    by_cases hii : i < l.length
    · have hik : (i : Int) < (l.length : Int) := by omega
      obtain ⟨t, hT, _, hrb, hcell⟩ := HCc.out i hii
      obtain ⟨tp, tc, rfl, _⟩ := id hT
      have KV : Hid (∀ V, Below w.heap.size w V → Tx V (.slice tp (l[i]!).tx.length tc) (l[i]!).tx ∧ V.cell? ⟨b, off + i * 10, none⟩ = some (.int .i64 (l[i]!).k) ∧ V.cell? ⟨b, off + i * 10 + 1, none⟩ = some (.int .i64 (l[i]!).n) ∧ V.cell? ⟨b, off + i * 10 + 2, none⟩ = some (.int .i64 (l[i]!).jo) ∧ V.cell? ⟨b, off + i * 10 + 3, none⟩ = some (.int .i64 (l[i]!).ba) ∧ V.cell? ⟨b, off + i * 10 + 4, none⟩ = some (.int .i64 (l[i]!).sl) ∧ V.cell? ⟨b, off + i * 10 + 5, none⟩ = some (.int .i64 (l[i]!).li) ∧ V.cell? ⟨b, off + i * 10 + 6, none⟩ = some (.int .i64 (l[i]!).rc) ∧ V.cell? ⟨b, off + i * 10 + 7, none⟩ = some (.int .u64 ((l[i]!).rb : Int)) ∧ V.cell? ⟨b, off + i * 10 + 8, none⟩ = some (.string (l[i]!).pr) ∧ V.cell? ⟨b, off + i * 10 + 9, none⟩ = some (.slice tp (l[i]!).tx.length tc)) := hide fun V hV => by
        have g : ∀ k u, (chC l[i]! (.slice tp (l[i]!).tx.length tc))[k]? = some u → V.cell? ⟨b, off + i * 10 + k, none⟩ = some u := fun k u hu => (hV.cell (p := ⟨b, off + i * 10 + k, none⟩) hlt).trans (hcell k u hu)
        exact ⟨hT.below hV (Nat.le_refl _), g 0 _ rfl, g 1 _ rfl, g 2 _ rfl, g 3 _ rfl, g 4 _ rfl, g 5 _ rfl, g 6 _ rfl, g 7 _ rfl, g 8 _ rfl, g 9 _ rfl⟩
      have HF := hide (fun h => first_at l i hii HK.out h)
      have HTk := hide (fun h => take_ok hii HK.out h)
      have HSt := hide (all_step hii)
      generalize l[i]! = c at *
      clear hT hcell
      obtain ⟨hTr, g0, g1, g2, g3, g4, g5, g6, g7, g8, g9⟩ := KV.out _ HB.out
      have HCk := hide (rcheck_any c _ _ hTr)
      clear hTr
      go_wp2_with fail
      refine HCk.out.mono ?_
      rintro e w5 ⟨rfl, hB5⟩
      have HB5 := hide (HB.out.trans (hB5.mono HB.out.size))
      clear hB5 HCk g0 g1 g2 g3 g4 g5 g6 g7 g8 g9
      by_cases hck : Rc.check c = 0
      · obtain ⟨hTr, g0, g1, g2, g3, g4, g5, g6, g7, g8, g9⟩ := KV.out _ HB5.out
        have HPt := hide (rput_any c hck hrb _ _ hTr)
        have hbs := bytes_short c hck
        have HTk2 := hide (HTk.out hck)
        rw [hck]
        rw [show ((0 : Nat) : Int) = 0 from rfl]
        generalize Rc.bytes c = T at *
        have hadd := fun W => addS (a := A) (b := T) (by omega) W
        clear hTr HTk HF hck
        go_wp2_with fail
        refine HPt.out.mono ?_
        rintro e w6 ⟨rfl, hB6⟩
        have HB6 := hide (HB5.out.trans (hB6.mono HB5.out.size))
        clear hB6 HPt g0 g1 g2 g3 g4 g5 g6 g7 g8 g9
        go_wp2_with fail
        go_roundw
        case rel => exact ⟨i + 1, _, by omega, rfl, by go_num, hide (by rw [HSt.out, HA.out, List.append_assoc]), HTk2, HB6⟩
        case measure => simp only [intOf]; omega
      · have hne : ((Rc.check c : Int) == 0) = false := by simp; omega
        have HE : Hid (RES = (Rc.e0, Rc.check c)) := hide (by
          have h1 := HF.out hck
          rw [HRES.out]; unfold Rc.enco; rw [if_neg HNeg.out, if_pos (by rw [h1]; exact hck), h1])
        clear HTk HF hck
        generalize Rc.check c = E at *
        go_wp2
        go_ret2
        rw [HE.out]
        exact ⟨rfl, HB5.out⟩
    · have hik : ¬ (i : Int) < (l.length : Int) := by omega
      have he : l.take i = l := List.take_of_length_le (by omega)
      have HK2 := hide HK.out
      have HA2 := hide HA.out
      rw [he] at HK2 HA2
      have HR0 : Hid (Rc.first l = 0) := hide ((Rc.first_iff l).2 HK2.out)
      have HRow : Hid (A = Rc.row l) := hide HA2.out
      clear HK HA he
      by_cases h20 : 2048 < A.length
      · have hA20 : (2048 : Int) < (A.length : Int) := by omega
        have HE : Hid (RES = (Rc.e0, 82)) := hide (by rw [HRES.out]; unfold Rc.enco; rw [if_neg HNeg.out, if_neg (by rw [HR0.out]; simp), if_pos (by rw [← HRow.out]; exact h20)])
        go_wp2
        go_ret2
        rw [HE.out]
        exact ⟨rfl, HB.out⟩
      · have hA20 : ¬ (2048 : Int) < (A.length : Int) := by omega
        have HE : Hid (RES = (⟨A.toArray⟩, 0)) := hide (by rw [HRES.out]; unfold Rc.enco; rw [if_neg HNeg.out, if_neg (by rw [HR0.out]; simp), if_neg (by rw [← HRow.out]; exact h20), HRow.out])
        go_wp2
        go_ret2
        rw [HE.out]
        exact ⟨rfl, HB.out⟩
end Go.Proofs.Ytlgcimfbhjidgaa
end
