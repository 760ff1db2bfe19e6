import Derived.Test.YtjabnddjahhgoaaRcG
namespace Go.Proofs.Ytjabnddjahhgoaa
open Go.RowKit
open Rc (L V Ch)

theorem layT_step {l : List ByteArray} {k : Nat} (h : k < l.length) : Rc.layT (l.take (k + 1)) = Rc.layT (l.take k) ++ (Pk.enc (l[k]!).size ++ (l[k]!).data.toList) := by
  rw [← List.take_append_getElem h, getElem!_pos l k h]; simp only [Rc.layT, List.flatMap_append, List.flatMap_cons, List.flatMap_nil, List.append_nil]
theorem layT_len (l : List ByteArray) (h : ∀ t ∈ l, t.size ≤ 32) : (Rc.layT l).length ≤ l.length * 42 := by
  induction l with
  | nil => simp [Rc.layT]
  | cons t l ih =>
    have h1 := h t List.mem_cons_self
    have h2 := ih fun x hx => h x (List.mem_cons_of_mem _ hx)
    have h10 := Pk.enc_ten (n := t.size) (by omega)
    have e : (Rc.layT (t :: l)).length = (Pk.enc t.size).length + t.size + (Rc.layT l).length := by simp [Rc.layT]; omega
    rw [e, List.length_cons]; omega
theorem lay_len {l : L} {v : V} (h : Rc.may l v = true) : (Rc.lay l v).length ≤ 1100 := by
  have hb := Rc.may_num h
  cases l
  case R => 
    simp only [Rc.sz, Rc.most] at hb
    have := Pk.enc_ten (n := v.i.toNat) (by omega)
    simp only [Rc.lay, List.length_append, show (Pk.big8 v.n).length = 8 from rfl]; omega
  case P =>
    simp only [Rc.sz, Rc.most] at hb
    have := Pk.enc_ten (n := v.t.size) (by omega)
    simp only [Rc.lay, List.length_append, show v.t.data.toList.length = v.t.size from rfl]; omega
  case T =>
    simp only [Rc.sz, Rc.most] at hb
    have := Pk.enc_ten (n := v.l.length) (by omega)
    have h2 : ∀ t ∈ v.l, t.size ≤ 32 := by
      unfold Rc.may at h; simp only [Bool.and_eq_true, decide_eq_true_eq, Bool.or_eq_true] at h
      rcases h.2 with h | h
      · exact absurd rfl h
      · simpa using h
    have := layT_len v.l h2
    simp only [Rc.lay, List.length_append]; omega
  all_goals
    simp only [Rc.sz, Rc.most] at hb
    have := Pk.enc_ten (n := v.i.toNat) (by omega)
    simp only [Rc.lay]; omega
set_option maxHeartbeats 400000 in
theorem wtexts_any {w0 : World} {A G : Nat} {c : Ch} {t : Value} {acc : List UInt8} {w : World} (h : Wt w0.heap.size A G c t acc w) (hB : Below w0.heap.size w0 w) (hT : Tx w0 t c.tx) (hm : Rc.may .T (Rc.get .T c) = true) (ha : acc.length ≤ 90000000) :
    Calls Try.prog 75 #[.pointer (some ⟨G, 0, none⟩), .pointer (some ⟨A, 0 + 9, none⟩)] w fun e w' => e = .returned (.tuple #[]) ∧ Wt w0.heap.size A G c t (acc ++ Rc.lay .T (Rc.get .T c)) w' ∧ Below w0.heap.size w0 w' := by
  have hb := Rc.may_num hm
  simp only [Rc.sz, Rc.get, Rc.most, Rc.least] at hb
  have h32 : ∀ j, j < c.tx.length → (c.tx[j]!).size ≤ 32 := by
    unfold Rc.may at hm; simp only [Bool.and_eq_true, decide_eq_true_eq, Bool.or_eq_true] at hm
    rcases hm.2 with h | h
    · exact absurd rfl h
    · intro j hj
      rw [getElem!_pos c.tx j hj]
      simp only [Rc.get, List.all_eq_true, decide_eq_true_eq] at h
      exact h _ (List.getElem_mem hj)
  obtain ⟨p, cap, ht, hx⟩ := hT
  obtain ⟨bb, off, rfl, hlt, hx⟩ := hx (by omega)
  subst ht
  have HX := hide hx
  have H32 := hide h32
  have hlay : Rc.lay .T (Rc.get .T c) = Pk.enc c.tx.length ++ Rc.layT c.tx := rfl
  rw [hlay]
  have hlen := layT_len c.tx (fun t ht => by
    obtain ⟨j, hj, e⟩ := List.mem_iff_getElem.mp ht
    have := h32 j hj
    rw [getElem!_pos c.tx j hj, e] at this; exact this)
  have hct : w.cell? ⟨A, 9, none⟩ = some (.slice (some ⟨bb, off, none⟩) c.tx.length cap) := h.ca.ct
  have HL := hide (layNumber_any h c.tx.length (by omega) (by omega))
  have HB := hide hB
  have h10 := Pk.enc_ten (n := c.tx.length) (by omega)
  have htl : ∀ k, (Rc.layT (c.tx.take k)).length ≤ 42 * 8 := fun k => by
    have := layT_len (c.tx.take k) (fun t ht => by
      obtain ⟨j, hj, e⟩ := List.mem_iff_getElem.mp (List.mem_of_mem_take ht)
      have := h32 j hj
      rw [getElem!_pos c.tx j hj, e] at this; exact this)
    have h2 : (c.tx.take k).length ≤ 8 := by rw [List.length_take]; omega
    omega
  have HTL := hide htl
  clear h hm hlay hx h32 hB hlen htl
  generalize hn : c.tx.length = n at *
  go_enter Try.func75, Try.ntmps75
  go_wp2_with fail
  refine HL.out.mono ?_
  rintro e w1 ⟨rfl, h1, hb1⟩
  have hct1 : w1.cell? ⟨A, 9, none⟩ = some (.slice (some ⟨bb, off, none⟩) n cap) := h1.ca.ct
  have H1 := hide h1
  have HB1 := hide (HB.out.trans hb1)
  clear HL hct h1 hb1 HB
  go_wp2_with fail
  go_loopw [16] (fun s wr => ∃ k : Nat, k ≤ n ∧ s = .int .i64 (k : Int) ∧ Hid (Wt w0.heap.size A G c (.slice (some ⟨bb, off, none⟩) n cap) (acc ++ Pk.enc n ++ Rc.layT (c.tx.take k)) wr) ∧ Hid (Below w0.heap.size w0 wr)) (fun s _ => n - (intOf s).toNat)
  case atStart => exact ⟨0, Nat.zero_le _, rfl, hide (by have := H1.out; simpa [Rc.layT] using this), HB1⟩
  case round =>
    obtain ⟨k, hk, rfl, HK, HBk⟩ := hrel
    by_cases hkl : k < n
    · have hcx : wr.cell? ⟨bb, off + k, none⟩ = some (.string c.tx[k]!) := (HBk.out.cell (p := ⟨bb, off + k, none⟩) hlt).trans (HX.out k hkl)
      have HS := hide (layT_step (l := c.tx) (k := k) (by omega))
      have hsz := H32.out k hkl
      have htl := HTL.out k
      generalize c.tx[k]! = tt at *
      have hki : (k : Int) < (n : Int) := by omega
      have hbl : bb < wr.heap.size := Nat.lt_of_lt_of_le hlt HBk.out.size
      have HT := hide (ptext_any tt (by omega))
      go_wp2_with fail
      refine (HT.out _).mono ?_
      rintro e w2 ⟨rfl, hb2⟩
      have he10 := Pk.enc_ten (n := tt.size) (by omega)
      have hz : ((⟨(Pk.enc tt.size).toArray⟩ : ByteArray) ++ tt).size ≤ 100 := by
        rw [ByteArray.size_append]; simp only [ByteArray.size, List.size_toArray] at he10 hsz ⊢; omega
      have HL := hide (lay_any (HK.out.below hb2) ((⟨(Pk.enc tt.size).toArray⟩ : ByteArray) ++ tt) (by rw [List.length_append, List.length_append]; omega))
      have HB2 := hide (HBk.out.trans (hb2.mono HK.out.szG))
      clear HK HBk hb2 hz HT
      go_wp2_with fail
      refine HL.out.mono ?_
      rintro e w3 ⟨rfl, h3, hb3⟩
      have H3 := hide h3
      have HB3 := hide (HB2.out.trans hb3)
      clear HL HB2 h3 hb3
      go_wp2
      go_roundw
      case rel => exact ⟨k + 1, by omega, by go_num, hide (by
        have := H3.out
        rw [HS.out, ← List.append_assoc]
        simpa using this), HB3⟩
      case measure => simp [intOf]; omega
    · obtain rfl : k = n := by omega
      have hki : ¬ (k : Int) < (k : Int) := by omega
      have HF := hide (And.intro HK.out HBk.out)
      clear HK HBk
      go_wp2
      go_end0
      refine ⟨rfl, ?_⟩
      have := HF.out
      rw [← hn, List.take_length, List.append_assoc] at this
      rw [← hn]; exact this
end Go.Proofs.Ytjabnddjahhgoaa
