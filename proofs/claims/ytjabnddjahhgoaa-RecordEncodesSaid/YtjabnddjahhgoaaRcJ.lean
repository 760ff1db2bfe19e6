import Derived.Test.YtjabnddjahhgoaaRcI
namespace Go.Proofs.Ytjabnddjahhgoaa
open Go.RowKit
open Rc (L V Ch)

set_option maxHeartbeats 800000 in
theorem layRow_any {w : World} {v : Value} {l : List Ch} (h : Rw w v l) (hl : 0 < l.length ∧ l.length ≤ 16) (hok : ∀ c ∈ l, Rc.Ok c) :
    Calls Try.prog 13 #[v] w fun e w' => e = .returned (.string ⟨(Rc.row l).toArray⟩) ∧ Below w.heap.size w w' := by
  obtain ⟨p, cap, rfl, h2⟩ := h
  obtain ⟨b, off, rfl, hlt, hx⟩ := h2 hl.1
  have HX := hide hx
  have HOK : Hid (∀ j, j < l.length → Rc.Ok l[j]!) := hide fun j hj => hok _ (by rw [getElem!_pos l j hj]; exact List.getElem_mem hj)
  have HAL : Hid (∀ k, (Rc.all (l.take k)).length ≤ 80000) := hide fun k => by
    have := all_len (l.take k) fun c hc => hok c (List.mem_of_mem_take hc)
    have h2 : (l.take k).length ≤ 16 := by rw [List.length_take]; omega
    omega
  have h10 := Pk.enc_ten (n := l.length) (by omega)
  clear h2 hx hok
  have H0 : Hid (WtO w.heap.size w.heap.size [] (w.alloc (.cells #[.slice none 0 0] 58))) := hide
    ⟨⟨.slice none 0 0, heap_alloc_new w _, World.ownsRow_nil _ _ _ _⟩, Nat.le_refl _⟩
  generalize hn : l.length = n at *
  have HL := hide (layNumberO_any H0.out n (by omega) (by simp))
  clear H0
  go_enter Try.func13, Try.ntmps13
  go_wp2_with fail
  refine HL.out.mono ?_
  rintro e w1 ⟨rfl, h1, hb1, -⟩
  have H1 := hide h1
  have HB1 := hide ((below_alloc w _).trans hb1)
  have hw1 : w.heap.size < w1.heap.size := by obtain ⟨_, hv, _⟩ := h1.wt; exact lt_of_block hv
  clear HL h1 hb1
  go_wp2_with fail
  go_loopw [11] (fun s wr => ∃ k : Nat, k ≤ n ∧ s = .int .i64 (k : Int) ∧ Hid (WtO w.heap.size w.heap.size (Pk.enc n ++ Rc.all (l.take k)) wr) ∧ Hid (Below w.heap.size w wr)) (fun s _ => n - (intOf s).toNat)
  case atStart => exact ⟨0, Nat.zero_le _, rfl, hide (by have := H1.out; simpa [Rc.all] using this), HB1⟩
  case round =>
    obtain ⟨k, hk, rfl, HK, HBk⟩ := hrel
    by_cases hkl : k < n
    · obtain ⟨t, ht, htl, hrb, hx⟩ := HX.out k hkl
      have hc : ∀ i u, (chC l[k]! t)[i]? = some u → wr.cell? ⟨b, off + k * 10 + i, none⟩ = some u := fun i u hi => (HBk.out.cell (p := ⟨b, off + k * 10 + i, none⟩) hlt).trans (hx i u hi)
      have HS := hide (all_step (l := l) (k := k) (by omega))
      have hOk := HOK.out k hkl
      have hal := HAL.out k
      generalize l[k]! = c at *
      have HT := hide ht
      obtain ⟨pt, capt, rfl, -⟩ := ht
      have c0 : wr.cell? ⟨b, off + k * 10, none⟩ = some (.int .i64 c.k) := hc 0 _ rfl
      have c1 : wr.cell? ⟨b, off + k * 10 + 1, none⟩ = some (.int .i64 c.n) := hc 1 _ rfl
      have c2 : wr.cell? ⟨b, off + k * 10 + 2, none⟩ = some (.int .i64 c.jo) := hc 2 _ rfl
      have c3 : wr.cell? ⟨b, off + k * 10 + 3, none⟩ = some (.int .i64 c.ba) := hc 3 _ rfl
      have c4 : wr.cell? ⟨b, off + k * 10 + 4, none⟩ = some (.int .i64 c.sl) := hc 4 _ rfl
      have c5 : wr.cell? ⟨b, off + k * 10 + 5, none⟩ = some (.int .i64 c.li) := hc 5 _ rfl
      have c6 : wr.cell? ⟨b, off + k * 10 + 6, none⟩ = some (.int .i64 c.rc) := hc 6 _ rfl
      have c7 : wr.cell? ⟨b, off + k * 10 + 7, none⟩ = some (.int .u64 (c.rb : Int)) := hc 7 _ rfl
      have c8 : wr.cell? ⟨b, off + k * 10 + 8, none⟩ = some (.string c.pr) := hc 8 _ rfl
      have c9 : wr.cell? ⟨b, off + k * 10 + 9, none⟩ = some (.slice pt c.tx.length capt) := hc 9 _ rfl
      have hki : (k : Int) < (n : Int) := by omega
      have hbl : b < wr.heap.size := Nat.lt_of_lt_of_le hlt HBk.out.size
      obtain ⟨x, hxk⟩ : ∃ x : Nat, c.k = (x : Int) := ⟨c.k.toNat, by have := hOk.1; omega⟩
      have hx6 : x ≤ 6 := by have := hOk.1; omega
      have HO := hide hOk
      have HXK := hide hxk
      have hb0 : Below wr.heap.size wr (wr.alloc (.cells (chC c (.slice pt c.tx.length capt)) 29)) := below_alloc _ _
      have H2 : Hid (Calls Try.prog 24 #[.pointer (some ⟨w.heap.size, 0, none⟩), .int .i64 c.k] (wr.alloc (.cells (chC c (.slice pt c.tx.length capt)) 29)) _) := hide (by rw [HXK.out]; exact layNumberO_any (HK.out.below hb0) x (by omega) (by rw [List.length_append]; omega))
      have HB2 := hide (HBk.out.trans (hb0.mono HBk.out.size))
      have HC2 : Hid (Ca (wr.alloc (.cells (chC c (.slice pt c.tx.length capt)) 29)) wr.heap.size c (.slice pt c.tx.length capt)) := hide (heap_alloc_new wr _)
      have hsz := HBk.out.size
      clear hc hx hOk hxk HK HBk hb0
      go_wp2_with fail
      refine H2.out.mono ?_
      rintro e w2 ⟨rfl, h2, hb2, hk2⟩
      have hA2 := hk2 _ _ _ HC2.out
      have H3 := hide (wvisit_any (h2.with hA2 hsz) (HB2.out.trans hb2) HT.out hrb HO.out (by rw [List.length_append, List.length_append]; have := Pk.enc_ten (n := x) (by omega); omega))
      clear H2 HB2 HC2 h2 hb2 hk2 hA2
      go_wp2_with fail
      refine H3.out.mono ?_
      rintro e w3 ⟨rfl, h3, hb3⟩
      have H4 := hide h3.o
      have HB4 := hide hb3
      clear H3 h3 hb3
      go_wp2
      go_roundw
      case rel => exact ⟨k + 1, by omega, by go_num, hide (by
        have := H4.out
        rw [HS.out, Rc.bytes, HXK.out, Int.toNat_natCast, ← List.append_assoc, ← List.append_assoc]
        rw [HXK.out] at this
        exact this), HB4⟩
      case measure => simp [intOf]; omega
    · obtain rfl : k = n := by omega
      have hki : ¬ (k : Int) < (k : Int) := by omega
      obtain ⟨v, hv, ho⟩ := HK.out.wt
      have cg : wr.cell? ⟨w.heap.size, 0, none⟩ = some v := by simp [World.cell?, hv]
      have hcv := own_str ho
      obtain ⟨p', m', cap', rfl⟩ := own_slice ho
      have HR : Hid (Rc.row l = Pk.enc k ++ Rc.all (l.take k)) := hide (by rw [← hn, List.take_length]; rfl)
      have HF := hide HBk.out
      clear HK HBk hv ho
      go_wp2
      go_ret
      exact ⟨by rw [HR.out]; rfl, HF.out⟩
end Go.Proofs.Ytjabnddjahhgoaa
