import Derived.Test.YtoiibpkfpeceeaaGreatDoorMgBJ
import Derived.Test.YtoiibpkfpeceeaaGreatDoorMgAF
import Derived.Shelf.Strings.BuilderK

section
namespace Go.Proofs.YtoiibpkfpeceeaaGreatDoor.W
set_option maxRecDepth 20000
open Go.RowKit Go.Shelf

theorem ownsRowF_below {w w' : World} {base e size n m : Nat} {v : Value} {xs : List Value} (h : w.ownsRowF base e size v n xs) (hb : Below m w w') (hm : w.heap.size ≤ m) : w'.ownsRowF base e size v n xs := by
  refine ⟨h.1, ?_⟩
  rcases h.2 with hn | ⟨g, cap, cur, fz, hv, hbg, hg, rest⟩
  · exact .inl hn
  · exact .inr ⟨g, cap, cur, fz, hv, hbg, (hb.block g (Nat.lt_of_lt_of_le (lt_of_block hg) hm)).trans hg, rest⟩
theorem builder_below {T e B b m : Nat} {bs : List Value} {w w' : World} (h : Lib.IsBuilderF T e B b bs w) (hb : Below m w w') (hm : w.heap.size ≤ m) : Lib.IsBuilderF T e B b bs w' := by
  rcases h with ⟨hB, v, hv, hown, hne⟩ | ⟨hB, v, hv, hown, hne⟩
  · exact .inl ⟨hB, v, (hb.block b (Nat.lt_of_lt_of_le (lt_of_block hv) hm)).trans hv, ownsRowF_below hown hb hm, hne⟩
  · exact .inr ⟨hB, v, (hb.block b (Nat.lt_of_lt_of_le (lt_of_block hv) hm)).trans hv, ownsRowF_below hown hb hm, hne⟩
theorem builder_lt {T e B b : Nat} {bs : List Value} {w : World} (h : Lib.IsBuilderF T e B b bs w) : b < w.heap.size := by
  rcases h with ⟨_, v, hv, _⟩ | ⟨_, v, hv, _⟩ <;> exact lt_of_block hv
end Go.Proofs.YtoiibpkfpeceeaaGreatDoor.W
end
