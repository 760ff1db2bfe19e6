import Derived.Test.YtjabnddjahhgoaaRcF
import Derived.Test.YtjabnddjahhgoaaRcC
namespace Go.Proofs.Ytjabnddjahhgoaa
open Go.RowKit
open Rc (L V Ch)

theorem Wt.off {n0 A G : Nat} {c : Ch} {t : Value} {acc : List UInt8} {w : World} (h : Wt n0 A G c t acc w) : Ca w A c t := h.ca
theorem wwhole_any {n0 A G : Nat} {c : Ch} {t : Value} {acc : List UInt8} {w : World} (h : Wt n0 A G c t acc w) {l : L} (hl : isW l = true) (lo hi : Int) (hm : Rc.may l (Rc.get l c) = true) (ha : acc.length ≤ 90000000) :
    Calls Try.prog 76 #[.pointer (some ⟨G, 0, none⟩), .pointer (some ⟨A, 0 + offL l, none⟩), .int .i64 lo, .int .i64 hi] w fun e w' => e = .returned (.tuple #[]) ∧ Wt n0 A G c t (acc ++ Rc.lay l (Rc.get l c)) w' ∧ Below n0 w w' := by
  have hb := Rc.may_num hm
  obtain ⟨x, hx, hx2⟩ : ∃ x : Nat, (Rc.get l c).i = (x : Int) ∧ x < 9223372036854775808 := by
    refine ⟨(Rc.get l c).i.toNat, ?_, ?_⟩ <;> (cases l <;> first | (cases hl; done) | (simp only [Rc.sz, Rc.least, Rc.most] at hb; omega))
  have hlay : Rc.lay l (Rc.get l c) = Pk.enc x := by
    cases l <;> first | (cases hl; done) | (simp only [Rc.lay, hx, Int.toNat_natCast])
  rw [hlay]
  have hc := h.ca.cw hl
  rw [hx] at hc
  have HL := hide (layNumber_any h x hx2 (by omega))
  clear h hb hm hlay hx
  generalize 0 + offL l = q at *
  go_enter Try.func76, Try.ntmps76
  go_wp2_with fail
  refine HL.out.mono ?_
  rintro e w1 ⟨rfl, h1⟩
  replace h1 := hide h1
  clear HL
  go_wp2
  go_end0
  exact ⟨rfl, h1.out⟩
theorem wtext_any {n0 A G : Nat} {c : Ch} {t : Value} {acc : List UInt8} {w : World} (h : Wt n0 A G c t acc w) (lo hi : Int) (hm : Rc.may .P (Rc.get .P c) = true) (ha : acc.length ≤ 90000000) :
    Calls Try.prog 74 #[.pointer (some ⟨G, 0, none⟩), .pointer (some ⟨A, 0 + 8, none⟩), .int .i64 lo, .int .i64 hi] w fun e w' => e = .returned (.tuple #[]) ∧ Wt n0 A G c t (acc ++ Rc.lay .P (Rc.get .P c)) w' ∧ Below n0 w w' := by
  have hb := Rc.may_num hm
  simp only [Rc.sz, Rc.get, Rc.most] at hb
  have hc := h.ca.cp
  have hs : c.pr.size ≤ 1024 := by omega
  have hd : ((⟨(Pk.enc c.pr.size).toArray⟩ : ByteArray) ++ c.pr).data.toList = Rc.lay .P (Rc.get .P c) := by simp [Rc.lay, Rc.get]
  have hz : ((⟨(Pk.enc c.pr.size).toArray⟩ : ByteArray) ++ c.pr).size ≤ 2000 := by
    have := Pk.enc_ten (n := c.pr.size) (by omega)
    rw [ByteArray.size_append]; simp only [ByteArray.size, List.size_toArray] at this hs ⊢; omega
  have HW := hide (fun (w1 : World) (hb : Below w.heap.size w w1) => lay_any (h.below hb) ((⟨(Pk.enc c.pr.size).toArray⟩ : ByteArray) ++ c.pr) (by omega))
  have HB := hide (fun (w1 : World) (hb : Below w.heap.size w w1) => hb.mono h.szG)
  have HT := hide (ptext_any c.pr (by omega))
  rw [← hd]
  clear h hb hm hd hz
  generalize c.pr = s at *
  generalize 0 + 8 = q at *
  go_enter Try.func74, Try.ntmps74
  go_wp2_with fail
  refine (HT.out _).mono ?_
  rintro e w1 ⟨rfl, hb1⟩
  have HW1 := hide (HW.out _ hb1)
  have HB1 := hide (HB.out _ hb1)
  clear HW HB hb1
  go_wp2_with fail
  refine HW1.out.mono ?_
  rintro e w2 ⟨rfl, h2, hb2⟩
  have HF := hide (And.intro h2 (HB1.out.trans hb2))
  clear HW1 HB1 h2 hb2
  go_wp2
  go_end0
  exact ⟨rfl, HF.out⟩
theorem wresult_any {n0 A G : Nat} {c : Ch} {t : Value} {acc : List UInt8} {w : World} (h : Wt n0 A G c t acc w) (hm : Rc.may .R (Rc.get .R c) = true) (hr : c.rb < 18446744073709551616) (ha : acc.length ≤ 90000000) :
    Calls Try.prog 73 #[.pointer (some ⟨G, 0, none⟩), .pointer (some ⟨A, 0 + 6, none⟩)] w fun e w' => e = .returned (.tuple #[]) ∧ Wt n0 A G c t (acc ++ Rc.lay .R (Rc.get .R c)) w' ∧ Below n0 w w' := by
  have hb := Rc.may_num hm
  simp only [Rc.sz, Rc.get, Rc.most, Rc.least] at hb
  obtain ⟨hc, _⟩ := h.ca.cr
  obtain ⟨x, hx⟩ : ∃ x : Nat, c.rc = (x : Int) := ⟨c.rc.toNat, by omega⟩
  have hd : acc ++ Rc.lay .R (Rc.get .R c) = acc ++ Pk.enc x ++ (⟨(Pk.big8 c.rb).toArray⟩ : ByteArray).data.toList := by simp [Rc.lay, Rc.get, hx]
  rw [hx] at hc
  have h10 := Pk.enc_ten (n := x) (by omega)
  rw [hd]
  have HL := hide (layNumber_any h x (by omega) (by omega))
  have HT := hide (pbits_any c.rb hr)
  clear h hb hm hd hx
  go_enter Try.func73, Try.ntmps73
  go_wp2_with fail
  refine HL.out.mono ?_
  rintro e w1 ⟨rfl, h1, hb1⟩
  obtain ⟨-, hc1⟩ := h1.ca.cr
  have H1 := hide h1
  have HB1 := hide hb1
  simp only [Nat.zero_add] at hc1
  clear HL hc h1 hb1
  go_wp2_with fail
  refine (HT.out _).mono ?_
  rintro e w2 ⟨rfl, hb2⟩
  have hsz : (⟨(Pk.big8 c.rb).toArray⟩ : ByteArray).size = 8 := rfl
  have H2 := hide (lay_any (H1.out.below hb2) ⟨(Pk.big8 c.rb).toArray⟩ (by rw [List.length_append, hsz]; omega))
  have HB2 := hide (HB1.out.trans (hb2.mono H1.out.szG))
  clear H1 HB1 hb2 hsz
  go_wp2_with fail
  refine H2.out.mono ?_
  rintro e w3 ⟨rfl, h3, hb3⟩
  have HF := hide (And.intro h3 (HB2.out.trans hb3))
  clear H2 HB2 h3 hb3
  go_wp2
  go_end0
  exact ⟨rfl, HF.out⟩
end Go.Proofs.Ytjabnddjahhgoaa
