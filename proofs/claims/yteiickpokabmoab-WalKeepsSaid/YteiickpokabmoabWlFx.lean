import Derived.Test.YteiickpokabmoabWlZb
namespace Go.Proofs.Yteiickpokabmoab
open Go.RowKit Go.Shelf
open Wl (Hd WS Log)

theorem h1_may (n : Nat) : Wl.MayBe Wl.h1 n := ⟨by decide, by decide, by decide, by decide, Nat.zero_le _⟩
theorem fresh_write {n : Nat} (h2 : 2 ≤ n) (h3 : n ≤ 1026) : (D.fresh (List.replicate n D.zsec)).write 1 (Wl.headB Wl.h1) = (0, { D.fresh (List.replicate n D.zsec) with S := (List.replicate n D.zsec).set 1 (Wl.headB Wl.h1), R := [⟨1, Wl.headB Wl.h1⟩] }) :=
  write_calm (k := 1) (D.fresh_ok (D.rep_128 n) (by simp; omega) (by simp; omega)) rfl rfl (by show 1 < (List.replicate n D.zsec).length; simp; omega) (Wl.headB_size _)
/-- a log that is laid on noughts -/
theorem con_format {n : Nat} (hf : Wl.Fits n) : ∃ d, Wl.fmt (D.fresh (List.replicate n D.zsec)) = (0, d) ∧ Con d ⟨Wl.h1, 0, false⟩ ⟨#[]⟩ [] ∧ d.R.length = 1 ∧ d.S.length = n := by
  obtain ⟨g1, g2, g3⟩ := hf
  have hl : (List.replicate n D.zsec).length = n := List.length_replicate
  have e : Wl.fmt (D.fresh (List.replicate n D.zsec)) = (D.fresh (List.replicate n D.zsec)).write 1 (Wl.headB Wl.h1) := by
    rw [fmt_yes rfl (by show Wl.Fits (List.replicate n D.zsec).length; rw [hl]; exact ⟨g1, g2, g3⟩)]
    show (match Wl.find (List.replicate n D.zsec) with | some _ => _ | none => _) = _
    rw [find_fresh n (by omega)]
  have ew := fresh_write (n := n) (by omega) (by omega)
  have hok := D.DS.write_ok (D.fresh_ok (D.rep_128 n) (by rw [hl]; omega) (by rw [hl]; omega)) 1 (Wl.headB Wl.h1)
  rw [ew] at hok
  refine ⟨_, e.trans ew, ⟨hok, ⟨?_, by decide, by decide, by decide, Nat.zero_le _, Nat.zero_le _⟩, rfl, rfl, ?_, by decide, ?_, rfl, rfl, (fun r hr => by cases hr), rfl, rfl⟩, rfl, ?_⟩
  · show Wl.Fits ((List.replicate n D.zsec).set 1 _).length; rw [List.length_set, hl]; exact ⟨g1, g2, g3⟩
  · exact getD_set_self (by rw [hl]; omega) _
  · intro L hL
    have : Wl.logOf ((List.replicate n D.zsec).set 1 (Wl.headB Wl.h1)) 0 = none := logOf_zero (by
      rw [getD_set_far (by decide), List.getD_eq_getElem?_getD, List.getElem?_replicate, if_pos (by omega)]; rfl)
    rw [show (1 - (⟨Wl.h1, 0, false⟩ : WS).h.num % 2) = 0 from rfl] at hL
    exact absurd (this.symm.trans hL) (by simp)
  · show ((List.replicate n D.zsec).set 1 _).length = n; rw [List.length_set, hl]
theorem room6 : Wl.room 6 Wl.h1 = 254 := by
  show Wl.roomF 256 256 = 254
  have l2 : ∀ k, 128 ≤ k → k < 16384 → (Pk.enc k).length = 2 := fun k h1 h2 => by rw [Pk.enc_ge (by omega), Pk.enc_lt (by omega)]; rfl
  rw [show (256 : Nat) = 255 + 1 from rfl, roomF_succ, l2 _ (by decide) (by decide), if_neg (by decide), show (255 : Nat) = 254 + 1 from rfl, roomF_succ, l2 _ (by decide) (by decide), if_neg (by decide), show (254 : Nat) = 253 + 1 from rfl, roomF_succ, l2 _ (by decide) (by decide), if_pos (by decide)]
theorem Con.opens {w : World} {b : Nat} {d : D.DS} {ws : WS} {s : ByteArray} {l : List ByteArray} (h : Con d ws s l) {e : Ending} {w' : World} (hP : OPost w b d e w') :
    Below w.heap.size w w' ∧ ∃ (W : Nat) (ad : Option Addr) (cp : Nat), e = .returned (.tuple #[.pointer (some ⟨W, 0, none⟩), .string s, .slice ad l.length cp, .int .i64 0]) ∧ w.heap.size ≤ W ∧ Wm w' W b ⟨ws.h, l.length, false⟩ ∧ w'.ownsRow w.heap.size 9 1 (.slice ad l.length cp) l.length (l.map .string) ∧ (Value.slice ad l.length cp).ownBlock ≠ some W := by
  refine ⟨hP.1, ?_⟩
  have := hP.2
  rw [if_neg (by simp [h.live]), if_neg (by simpa using h.wok.fits), h.find] at this
  exact this
def ab : ByteArray := ⟨#[97, 98]⟩
set_option maxHeartbeats 2000000 in
set_option maxRecDepth 8000 in
theorem fixed_any (w : World) : Calls Try.prog 5 #[] w fun e w' => e = .returned (.bool true) ∧ Below w.heap.size w w' := by
  have hfit : Wl.Fits 6 := by decide
  obtain ⟨d1, hf1, hC1, hR1, hS1⟩ := con_format hfit
  have HN := hide (D.new_any (w := w) (n := 6) (by decide) (by decide))
  have hrm : Wl.room d1.S.length (⟨Wl.h1, 0, false⟩ : WS).h = 254 := by rw [hS1]; exact room6
  obtain ⟨a1, a2, a3, a4, a5⟩ := hC1.append (r := ab) (by decide) (by decide) (by rw [hrm]; decide) (by decide)
  have hf2 : Wl.fmt d1 = (95, d1) := by rw [fmt_yes hC1.live hC1.wok.fits, hC1.find]
  have hRb : (d1.R.length + 600) * 24 ≤ 140737488355328 := by rw [hR1]; decide
  generalize hAp : Wl.append d1 ⟨Wl.h1, 0, false⟩ ab = X at *
  obtain ⟨xe, xd, xw⟩ := X
  simp only at a1 a2 a3 a4 a5
  subst a1
  have HC1 := hide hC1
  have HC2 := hide a2
  have HAp := hide hAp
  have Hf1 := hide hf1
  have Hf2 := hide hf2
  have Hrm := hide hrm
  clear hC1 a2 a3 a4 a5 hAp hf1 hf2 hrm hR1 hS1 hfit
  go_enter Try.func5, Try.ntmps5
  go_wp2_with fail
  refine HN.out.mono ?_
  rintro e w1 ⟨b, F, rfl, hD, hB1⟩
  have HF := hide (format_any hD (by decide))
  have HFl1 := hide hD.ftlow
  have HB1 := hide hB1
  clear hD hB1 HN
  rw [Hf1.out] at HF
  go_wp2_with fail
  refine HF.out.mono ?_
  rintro e w2 ⟨rfl, F2, hD2, hM2⟩
  have HB2 := hide (HB1.out.trans (hM2.below HB1.out.size HFl1.out))
  have HF2 := hide (format_any hD2 (Nat.le_trans (Nat.mul_le_mul_right 24 (by omega)) hRb))
  have HFl2 := hide hD2.ftlow
  clear hD2 hM2 HF
  rw [Hf2.out] at HF2
  go_wp2_with fail
  refine HF2.out.mono ?_
  rintro e w3 ⟨rfl, F3, hD3, hM3⟩
  have HB3 := hide (HB2.out.trans (hM3.below HB2.out.size HFl2.out))
  have HO := hide (open_any hD3)
  have HD3 := hide hD3
  have HFl3 := hide hD3.ftlow
  clear hD3 hM3 HF2
  go_wp2_with fail
  refine HO.out.mono ?_
  intro e w4 hP
  obtain ⟨hB4, W, ad, cp, rfl, hW, hWm, -, -⟩ := HC1.out.opens hP
  have HB4 := hide (HB3.out.trans (hB4.mono HB3.out.size))
  have HD4 := hide (HD3.out.below hB4)
  have hFW : ¬ F3 W := fun k => absurd (HD3.out.ftlt W k).2 (by omega)
  have HRo := hide (room_any HD4.out hWm HC1.out.wok)
  have HWm := hide hWm
  have h3s := HB3.out.size
  have hWw : w.heap.size ≤ W := by omega
  clear hP hB4 hWm HO
  simp only [List.length_nil] at HRo HWm ⊢
  rw [Hrm.out] at HRo
  go_wp2_with fail
  refine HRo.out.mono ?_
  rintro e w5 ⟨rfl, hB5⟩
  have HB5 := hide (HB4.out.trans (hB5.mono HB4.out.size))
  have HD5 := hide (HD4.out.below hB5)
  have HW5 := hide (HWm.out.below hB5)
  have HA := hide (append_any HD5.out HW5.out hFW HC1.out.wok hRb ab)
  rw [HAp.out] at HA
  simp only at HA
  have HFl5 := hide HD5.out.ftlow
  clear hB5 HRo
  go_wp2_with fail
  refine HA.out.mono ?_
  rintro e w6 ⟨rfl, hW6, F6, hD6, hM6, hn6⟩
  have HB6 := hide (HB5.out.trans (hM6.below HB5.out.size (fun k hk => by rcases hk with hk | hk; exact HFl5.out k hk; omega)))
  have HO6 := hide (open_any hD6)
  clear hW6 hD6 hM6 HA
  go_wp2_with fail
  refine HO6.out.mono ?_
  intro e w7 hP
  obtain ⟨hB7, W7, ad7, cp7, rfl, hW7, hWm7, hO7, -⟩ := HC2.out.opens hP
  have HB7 := hide (HB6.out.trans (hB7.mono HB6.out.size))
  clear hP hB7 hWm7 HO6
  simp only [List.nil_append, List.length_singleton, List.map_singleton] at hO7 ⊢
  have hg7 : ∃ g, ad7 = some ⟨g, 0, none⟩ ∧ g < w7.heap.size := by
    rcases D.own_form hO7 with ⟨h9, _⟩ | ⟨g, cap, h9, hg, _⟩
    · injection h9 with _ h9; cases h9
    · injection h9 with h9; exact ⟨g, h9, hg⟩
  obtain ⟨g, rfl, hgl⟩ := hg7
  have hc : w7.cell? ⟨g, 0, none⟩ = some (.string ⟨#[97, 98]⟩) := by
    have := hO7.cells (g := g) rfl 0 _ rfl
    rwa [Addr.add_lit, Nat.zero_add] at this
  clear hO7 HC1 HC2
  go_wp2_with fail
  go_ret
  exact ⟨rfl, HB7.out⟩
end Go.Proofs.Yteiickpokabmoab
