import Derived.Test.YtnhibcadenmglaaDkK
namespace Go.Proofs.Ytnhibcadenmglaa
open Go.RowKit

/-- live, and not armed -/
structure DS.calm (d : DS) : Prop where
  ok : d.ok
  live : d.dead = false
  un : d.left = 0
theorem calm_fresh {l : List ByteArray} (h : loadE l = 0) : (fresh l).calm := by
  obtain ⟨h8, h0, h1⟩ := loadE_ok h
  exact ⟨fresh_ok h8 h0 h1, rfl, rfl⟩
theorem DS.calm.write {d : DS} (h : d.calm) (k : Int) (x : ByteArray) : (d.write k x).2.calm := by
  have hok := DS.write_ok h.ok k x
  refine ⟨hok, ?_, ?_⟩
  · by_cases hk : 0 ≤ k ∧ k < (d.S.length : Int)
    · by_cases hx : x.size = 128
      · rw [DS.write_all h.live hk hx (by rw [h.un]; decide)]; exact h.live
      · rw [DS.write_size h.live hk hx]; exact h.live
    · rw [DS.write_none h.live hk]; exact h.live
  · by_cases hk : 0 ≤ k ∧ k < (d.S.length : Int)
    · by_cases hx : x.size = 128
      · rw [DS.write_all h.live hk hx (by rw [h.un]; decide)]; show (if 0 < d.left then d.left - 1 else d.left) = 0; rw [h.un]; rfl
      · rw [DS.write_size h.live hk hx]; exact h.un
    · rw [DS.write_none h.live hk]; exact h.un
theorem DS.calm.wrs {d : DS} (h : d.calm) (R : List Wr) : (d.wrs R).calm := by
  induction R generalizing d with
  | nil => exact h
  | cons r R ih => exact ih (h.write r.sec r.data)
theorem sectors_rs {base : Nat} {w : World} {b : Nat} {F : Nat → Prop} {d : DS} (h : Dk base w b F d) :
    Calls Try.prog 22 #[.pointer (some ⟨b, 0, none⟩)] w fun e w' => ∃ ad cap ab, e = .returned (.slice ad d.S.length cap) ∧ Rs w' ad ab 0 d.S ∧ w.heap.size ≤ ab ∧ Below w.heap.size w w' := by
  refine (sectors_any h).mono ?_
  rintro e w1 ⟨v, rfl, hown, hb⟩
  obtain ⟨ad, cap, rfl⟩ := own_slice hown
  obtain ⟨_, ab, hr⟩ := Rs.own hown
  have hp := h.ok.s0
  refine ⟨ad, cap, ab, rfl, hr, ?_, hb⟩
  have ea := hr.at_ hp
  subst ea
  exact (hown.lt ab rfl).1
theorem raw_rw {base : Nat} {w : World} {b : Nat} {F : Nat → Prop} {d : DS} (h : Dk base w b F d) (hl : d.R.length * 24 ≤ 140737488355328) :
    Calls Try.prog 21 #[.pointer (some ⟨b, 0, none⟩)] w fun e w' => ∃ ad cap ab, e = .returned (.slice ad d.R.length cap) ∧ Rw w' ad ab 0 d.R ∧ (0 < d.R.length → w.heap.size ≤ ab) ∧ Below w.heap.size w w' := by
  refine (raw_any h hl).mono ?_
  rintro e w1 ⟨v, rfl, hown, hb⟩
  obtain ⟨ad, cap, rfl⟩ := own_slice hown
  obtain ⟨_, ab, hr⟩ := Rw.own hown
  refine ⟨ad, cap, ab, rfl, hr, fun hp => ?_, hb⟩
  have ea := hr.at_ hp
  subst ea
  exact (hown.lt ab rfl).1
theorem same_b {w : World} {ad ad' : Option Addr} {ab ao ab' ao' cap cap' : Nat} {l : List ByteArray} (h : Rs w ad ab ao l) (h' : Rs w ad' ab' ao' l) (hl : l.length ≤ 8796093021952) :
    Calls Try.prog 15 #[.slice ad l.length cap, .slice ad' l.length cap'] w fun e w' => e = .returned (.bool true) ∧ Below w.heap.size w w' := by
  refine (same_true (cap := cap) (cap' := cap') h h' hl).mono ?_
  rintro e w1 ⟨rfl, n, rfl⟩
  exact ⟨rfl, below_drewN _ _⟩
theorem sameRaw_b {w : World} {ad ad' : Option Addr} {ab ao ab' ao' cap cap' : Nat} {l : List Wr} (h : Rw w ad ab ao l) (h' : Rw w ad' ab' ao' l) (hl : l.length ≤ 5864062014634) :
    Calls Try.prog 18 #[.slice ad l.length cap, .slice ad' l.length cap'] w fun e w' => e = .returned (.bool true) ∧ Below w.heap.size w w' := by
  refine (sameRaw_true (cap := cap) (cap' := cap') h h' hl).mono ?_
  rintro e w1 ⟨rfl, n, rfl⟩
  exact ⟨rfl, below_drewN _ _⟩
theorem Rw.nil (w : World) : Rw w none 0 0 [] := ⟨fun h => absurd h (by simp), fun i h => absurd h (by simp), fun i h => absurd h (by simp)⟩
theorem laid_none (s : ByteArray) {x : ByteArray} (h : x.size = 0) : laid x s = s := by
  apply ba_ext
  rw [laid_list, h, List.drop_zero]
  have : x.data.toList = [] := by rw [← List.length_eq_zero_iff, ← size_list]; exact h
  rw [this, List.nil_append]
theorem layS_none (S : List ByteArray) (k : Nat) {x : ByteArray} (h : x.size = 0) : layS S k x = S := by
  unfold layS
  rw [laid_none _ h]
  by_cases hk : k < S.length
  · rw [List.getD_eq_getElem?_getD, List.getElem?_eq_getElem hk]; exact List.set_getElem_self hk
  · exact List.set_eq_of_length_le (by omega)
end Go.Proofs.Ytnhibcadenmglaa
