import Derived.Test.YteiickpokabmoabWlFx
import Derived.Test.YteiickpokabmoabDkH
namespace Go.Proofs.Yteiickpokabmoab
open Go.RowKit Go.Shelf
open Wl (Hd WS Log)

/-- an append: taken, or nothing is turned -/
theorem Con.append_or {d : D.DS} {ws : WS} {s : ByteArray} {l : List ByteArray} (h : Con d ws s l) (hn : ws.h.num < 1099511627776) (r : ByteArray) :
    ((Wl.append d ws r).1 = 0 ∧ Con (Wl.append d ws r).2.1 (Wl.append d ws r).2.2 s (l ++ [r]) ∧ (Wl.append d ws r).2.2.h = Wl.hdA ws.h r ∧ (Wl.append d ws r).2.1.R.length ≤ d.R.length + 600 ∧ (Wl.append d ws r).2.1.S.length = d.S.length) ∨ ((Wl.append d ws r).1 ≠ 0 ∧ (Wl.append d ws r).2.1 = d ∧ (Wl.append d ws r).2.2 = ws) := by
  by_cases h1 : r.size < 1 ∨ 2048 < r.size
  · refine .inr ?_
    have : Wl.append d ws r = (92, d, ws) := by unfold Wl.append Wl.powered; rw [if_neg (by simp [h.gone, h.live]), if_pos h1]
    rw [this]; exact ⟨by show (92 : Int) ≠ 0; decide, rfl, rfl⟩
  · by_cases h2 : Wl.room d.S.length ws.h < r.size
    · refine .inr ?_
      have : Wl.append d ws r = (93, d, ws) := by unfold Wl.append Wl.powered; rw [if_neg (by simp [h.gone, h.live]), if_neg h1, if_pos h2]
      rw [this]; exact ⟨by show (93 : Int) ≠ 0; decide, rfl, rfl⟩
    · exact .inl (h.append (by omega) (by omega) (by omega) hn)
/-- a row of texts is none of a disk's blocks -/
theorem dk_str {base : Nat} {w : World} {b : Nat} {F : Nat → Prop} {d : D.DS} (h : D.Dk base w b F d) {X : Nat} {cs : Array Value} (hX : w.heap[X]? = some (.cells cs 9 (0, 0))) : ¬ F X := by
  obtain ⟨vs, vr, h, rfl⟩ := h
  rintro (rfl | hk | hk)
  · rw [h.blk] at hX; injection hX with hX; injection hX with _ hX; exact absurd hX (by decide)
  · rcases h.sec.2 with ⟨rfl, _⟩ | ⟨g, cap, cur, rfl, _, hg, _⟩
    · cases hk
    · injection hk with hk; subst hk; rw [hg] at hX; injection hX with hX; injection hX with _ hX; exact absurd hX (by decide)
  · rcases h.raw.2 with ⟨rfl, _⟩ | ⟨g, cap, cur, rfl, _, hg, _⟩
    · cases hk
    · injection hk with hk; subst hk; rw [hg] at hX; injection hX with hX; injection hX with _ hX; exact absurd hX (by decide)
theorem own_blk {w : World} {B n : Nat} {v : Value} {xs : List Value} (h : w.ownsRow B 9 1 v n xs) {k : Nat} (hk : v.ownBlock = some k) : ∃ cs, w.heap[k]? = some (.cells cs 9 (0, 0)) := by
  rcases h.2 with ⟨rfl, _⟩ | ⟨g, cap, cur, rfl, _, hg, _⟩
  · cases hk
  · injection hk with hk; subst hk; exact ⟨cur, hg⟩
theorem wm_str {w : World} {W b : Nat} {ws : WS} (h : Wm w W b ws) {X : Nat} {cs : Array Value} (hX : w.heap[X]? = some (.cells cs 9 (0, 0))) : X ≠ W := by
  rintro rfl
  rw [h] at hX; injection hX with hX; injection hX with _ hX; exact absurd hX (by decide)
end Go.Proofs.Yteiickpokabmoab
