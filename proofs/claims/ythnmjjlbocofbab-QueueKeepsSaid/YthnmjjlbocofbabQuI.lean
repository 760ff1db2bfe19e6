import Derived.Test.YthnmjjlbocofbabQuG
namespace Go.Proofs.Ythnmjjlbocofbab
open Go.RowKit

abbrev sval (s : Int × Int) : Value := .agg #[.int .i64 s.1, .int .i64 s.2]
abbrev set2 (w : World) (X : Nat) (s : Int × Int) : World := (w.setCell ⟨X, 0, none⟩ (.int .i64 s.1)).setCell ⟨X, 1, none⟩ (.int .i64 s.2)
theorem set2_other (w : World) (X : Nat) (s : Int × Int) (k : Nat) (hk : k ≠ X) : (set2 w X s).heap[k]? = w.heap[k]? :=
  (Below.heap_setCell _ ⟨X, 1, none⟩ _ k hk).trans (Below.heap_setCell _ ⟨X, 0, none⟩ _ k hk)

theorem below_drew {B : Nat} {w w' : World} (h : Below B w w') : Below B w w'.drew := ⟨h.os, h.tape, h.output, h.size, h.block⟩
end Go.Proofs.Ythnmjjlbocofbab
