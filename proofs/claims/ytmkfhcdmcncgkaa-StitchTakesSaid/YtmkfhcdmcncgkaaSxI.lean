import Derived.Test.YtmkfhcdmcncgkaaSxH
namespace Go.Proofs.Ytmkfhcdmcncgkaa
open Go.RowKit Go.Shelf

theorem own_keep {w w' : World} {B : Nat} {e : TypeId} {size n : Nat} {v : Value} {xs : List Value} (h : w.ownsRow B e size v n xs) (hk : ∀ k, v.ownBlock = some k → w'.heap[k]? = w.heap[k]?) : w'.ownsRow B e size v n xs := by
  refine ⟨h.1, ?_⟩
  rcases h.2 with h1 | ⟨g, cap, cur, rfl, hg, hb, h2⟩
  · exact .inl h1
  · exact .inr ⟨g, cap, cur, rfl, hg, (hk g rfl).trans hb, h2⟩
/-- a row of one's own, under another's call -/
theorem Mv.own {b m : Nat} {w w' : World} (hv : Mv b m w w') {B n size : Nat} {e : TypeId} {v : Value} {xs : List Value} (h : w.ownsRow B e size v n xs) (hb : b < B) (hm : m < B) : w'.ownsRow B e size v n xs :=
  own_keep h fun k hk => hv.block k (h.lt k hk).2 (by have := (h.lt k hk).1; omega) (by have := (h.lt k hk).1; omega)
/-- what has been made since may turn -/
theorem Mv.from {b m : Nat} {w w1 w2 : World} (hb : Below w.heap.size w w1) (hv : Mv b m w1 w2) (h1 : w.heap.size ≤ b) (h2 : w.heap.size ≤ m) : Below w.heap.size w w2 :=
  ⟨hv.os.trans hb.os, hv.tape.trans hb.tape, hv.output.trans hb.output, Nat.le_trans hb.size hv.size, fun k hk => (hv.block k (Nat.lt_of_lt_of_le hk hb.size) (by omega) (by omega)).trans (hb.block k hk)⟩
/-- a cell of a row of one's own -/
theorem own_cell {w : World} {B n g cap : Nat} {e : TypeId} {xs : List Value} (h : w.ownsRow B e 1 (.slice (some ⟨g, 0, none⟩) n cap) n xs) {k : Nat} {u : Value} (hk : xs[k]? = some u) : w.cell? ⟨g, k, none⟩ = some u := by
  have e1 := h.cells (g := g) rfl k u hk
  rw [Addr.add_lit, Nat.zero_add] at e1
  exact e1
theorem own_at {w : World} {B n : Nat} {e : TypeId} {v : Value} {xs : List Value} (h : w.ownsRow B e 1 v n xs) (h0 : 0 < n) : ∃ g cap, v = .slice (some ⟨g, 0, none⟩) n cap ∧ B ≤ g ∧ g < w.heap.size := by
  rcases own_form h with ⟨h1, h2⟩ | ⟨g, cap, h1, h2⟩
  · omega
  · exact ⟨g, cap, h1, (h.lt g (by rw [h1]; rfl)).1, h2⟩

def bA : ByteArray := ⟨#[97]⟩
def bB : ByteArray := ⟨#[98]⟩
def bD : ByteArray := ⟨#[100]⟩
def aw0 : Sw := ⟨3, 0, []⟩
def aw1 : Sw := ⟨3, 0, [⟨1, bB⟩]⟩
def aw2 : Sw := ⟨3, 2, []⟩
theorem aw0_ok : aw0.ok := ok_new (by decide)
theorem aw_a : aw0.bad 1 bB = 0 ∧ aw0.out 1 bB = [] ∧ aw0.tk 1 bB = aw1 := by
  have h1 : aw0.bad 1 bB = 0 := by decide
  have h2 : has 1 aw0.L = false := by decide
  have h3 : aw0.hand 1 bB = ([], 0, [⟨1, bB⟩]) := by
    have : hnd 0 [⟨1, bB⟩] = ([], 0, [⟨1, bB⟩]) := hnd_no (by decide)
    exact this
  refine ⟨h1, ?_, ?_⟩
  · unfold Sw.out; rw [h1, h2, h3]; rfl
  · unfold Sw.tk; rw [h1, h2, h3]; rfl
theorem aw1_ok : aw1.ok := by
  have := aw0_ok.tk 1 bB
  rwa [aw_a.2.2] at this
theorem aw_b : aw1.bad 3 bD = 151 ∧ aw1.out 3 bD = [] ∧ aw1.tk 3 bD = aw1 := by
  have h1 : aw1.bad 3 bD = 151 := by decide
  refine ⟨h1, ?_, ?_⟩
  · unfold Sw.out; rw [h1]; rfl
  · unfold Sw.tk; rw [h1]; rfl
theorem aw_c : aw1.bad 0 bA = 0 ∧ aw1.out 0 bA = [bA, bB] ∧ aw1.tk 0 bA = aw2 := by
  have h1 : aw1.bad 0 bA = 0 := by decide
  have h2 : has 0 aw1.L = false := by decide
  have h3 : aw1.hand 0 bA = ([bA, bB], 2, []) := by
    have e0 : hnd 2 [] = ([], 2, []) := hnd_no (by decide)
    have e1 : hnd 1 [⟨1, bB⟩] = ([bB], 2, []) := by
      rw [hnd_yes (by decide), show del 1 [⟨1, bB⟩] = [] from by decide, show (1 : Int) + 1 = 2 from rfl, e0]
      rfl
    have e2 : hnd 0 [⟨0, bA⟩, ⟨1, bB⟩] = ([bA, bB], 2, []) := by
      rw [hnd_yes (by decide), show del 0 [⟨0, bA⟩, ⟨1, bB⟩] = [⟨1, bB⟩] from by decide, show (0 : Int) + 1 = 1 from rfl, e1]
      rfl
    exact e2
  refine ⟨h1, ?_, ?_⟩
  · unfold Sw.out; rw [h1, h2, h3]; rfl
  · unfold Sw.tk; rw [h1, h2, h3]; rfl

set_option maxRecDepth 8000 in
set_option maxHeartbeats 4000000 in
theorem awake_any (w : World) : Calls Try.prog 8 #[] w fun e w' => e = .returned (.bool true) ∧ Below w.heap.size w w' := by
  have HN := hide (new_yes (a := 3) (c := 0) (by decide) w)
  go_enter Try.func8, Try.ntmps8
  go_wp2_with fail
  refine HN.out.mono ?_
  rintro e w1 ⟨rfl, hW1, hB1⟩
  obtain ⟨b, hb⟩ : ∃ b, w.heap.size + 1 = b := ⟨_, rfl⟩
  obtain ⟨m, hm⟩ : ∃ m, w.heap.size = m := ⟨_, rfl⟩
  rw [show Value.pointer (some ⟨w.heap.size + 1, 0, none⟩) = Value.pointer (some ⟨b, 0, none⟩) by rw [hb]]
  have HW1 : Hid (Sb w1 b m aw0) := by rw [hb, hm] at hW1; exact hW1
  have HB1 := hide hB1
  have HL : Hid (w.heap.size ≤ b ∧ w.heap.size ≤ m) := hide ⟨by omega, by omega⟩
  clear HN hW1 hB1 hb hm
  go_wp2_with fail
  refine (new_no (a := 0) (c := 0) (by decide) _).mono ?_
  rintro e w2 ⟨rfl, rfl⟩
  go_wp2_with fail
  refine (take_any HW1.out aw0_ok 1 bB).mono ?_
  rintro e w3 ⟨v3, rfl, hr3, hw3, hm3⟩
  rw [aw_a.2.1] at hr3
  rw [aw_a.2.2] at hw3
  rw [aw_a.1]
  obtain ⟨ad3, cap3, rfl⟩ := own_slice hr3
  have HW3 := hide hw3
  have HB3 := hide (Mv.from HB1.out hm3 HL.out.1 HL.out.2)
  clear HW1 HB1 hr3 hw3 hm3
  simp only [List.length_nil]
  go_wp2_with fail
  refine (take_any HW3.out aw1_ok 3 bD).mono ?_
  rintro e w4 ⟨v4, rfl, hr4, hw4, hm4⟩
  rw [aw_b.2.1] at hr4
  rw [aw_b.2.2] at hw4
  rw [aw_b.1]
  obtain ⟨ad4, cap4, rfl⟩ := own_slice hr4
  have HW4 := hide hw4
  have HB4 := hide (Mv.from HB3.out hm4 HL.out.1 HL.out.2)
  clear HW3 HB3 hr4 hw4 hm4
  simp only [List.length_nil]
  go_wp2_with fail
  refine (held_any HW4.out (by decide)).mono ?_
  rintro e w5 ⟨v5, rfl, hr5, hb5⟩
  obtain ⟨g5, cap5, rfl, hg5, hl5⟩ := own_at hr5 (by decide)
  have HR5 := hide hr5
  have HW5 := hide (HW4.out.below hb5)
  have HB5 := hide (below_of HB4.out (hb5.mono (Nat.le_refl _)))
  have HL5 := hide (show b < w4.heap.size ∧ m < w4.heap.size from ⟨HW4.out.lt, HW4.out.map.lt⟩)
  clear HW4 HB4 hr5 hb5 hg5 hl5
  rw [show aw1.L.length = 1 from rfl]
  go_wp2_with fail
  refine (take_any HW5.out aw1_ok 0 bA).mono ?_
  rintro e w6 ⟨v6, rfl, hr6, hw6, hm6⟩
  rw [aw_c.2.1] at hr6
  rw [aw_c.2.2] at hw6
  rw [aw_c.1]
  obtain ⟨g6, cap6, rfl, hg6, hl6⟩ := own_at hr6 (by decide)
  have c5 := own_cell (hm6.own HR5.out HL5.out.1 HL5.out.2) (k := 0) (u := .int .i64 1) rfl
  have c6 := own_cell hr6 (k := 0) (u := .string bA) rfl
  have c7 := own_cell hr6 (k := 1) (u := .string bB) rfl
  have hN := next_any hw6
  have HB6 := hide (Mv.from HB5.out hm6 HL.out.1 HL.out.2)
  clear HW5 HB5 hr6 hw6 hm6 HR5 hg6 hl6
  rw [show [bA, bB].length = 2 from rfl]
  simp only [bA, bB] at c6 c7
  go_wp2_with (go_at_call 14; refine hN.mono ?_; rintro e w' ⟨rfl, rfl⟩)
  go_ret
  exact ⟨rfl, HB6.out⟩
end Go.Proofs.Ytmkfhcdmcncgkaa
