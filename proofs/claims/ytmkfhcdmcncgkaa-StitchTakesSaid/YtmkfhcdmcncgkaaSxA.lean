import Derived.Test.YtmkfhcdmcncgkaaRows
import Derived.WalkKit
import Derived.WalkSpells
import Derived.WalkLawsBesides
import Derived.BigQuiet
import Derived.BigRegion
import Derived.Deep.Cut
import Derived.Deep.AppendLies
import Derived.Deep.RegionLaw
import Derived.Deep.RegionHeld3
import Derived.Laws.ResultCell
import Derived.Laws.MakeOwn
import Derived.Maps.RangeWalk
import Derived.RangeFuncNested
import Derived.RangeFuncBound
import Derived.RangeFuncCalls
import Derived.RangeFuncLeaves
import Derived.Shelf.Abstract
import Derived.Laws.EntriesVeiled
import Derived.Deep.SlicePairs
import Derived.Lib.SmallJoins
import Derived.Sort.MapsRangeIn
import Derived.Shelf.RegionOpen
import Derived.OwnWalkIn
import Derived.TacticsInMore
import Derived.LoopNIn
import Derived.LoopIn
import Derived.Sort.QuietIn
import Derived.Laws.CopyOwn
import Derived.Lib.SliceRun
namespace Go.Proofs.Ytmkfhcdmcncgkaa
open Go.RowKit

theorem hide {p : Prop} (h : p) : Hid p := h
/-- a text that is held, with its number -/
structure Hx where
  no : Int
  tx : ByteArray
  deriving DecidableEq
/-- as a value -/
abbrev Hx.val (d : Hx) : Value := .string d.tx
def hx0 : Hx := ⟨0, ⟨#[]⟩⟩
/-- texts as cells -/
def tcs (l : List ByteArray) : List Value := l.map Value.string
theorem tcs_len (l : List ByteArray) : (tcs l).length = l.length := by simp [tcs]
theorem tcs_snoc (l : List ByteArray) (s : ByteArray) : tcs (l ++ [s]) = tcs l ++ [.string s] := by simp [tcs]
theorem tcs_one (l : List ByteArray) : ∀ u ∈ tcs l, u.oneCell' = true := by
  intro u hu
  simp only [tcs, List.mem_map] at hu
  obtain ⟨s, _, rfl⟩ := hu
  rfl
end Go.Proofs.Ytmkfhcdmcncgkaa
