/-
  No cell of these rows narrows 'for every input' (looked for: loops, veiled, ifaces, maps, wideKeys, modest, calm, conditions, laid).
  DERIVED. THE GIVEN ROWS OF THIS SEAT. 4 by the template 'for every input the law returns true; each argument reads behind the call as it read before'; 0 by the template 'total and deterministic' (their statements: YtpmjhndkcdfpfaaTotals.lean).
  GIVEN WITH THE SEED: the statements are not yours to turn. If you find one false, say at which input.
  Laid BY PROGRAM, IN A SANDBOX (cutbox-rows.mjs): the forced cells as the released guide's own fill.sh prints them over the translation b1e6822641572e0a… (all of the seat's roots in one cut). By AI agents, Wed Nov 11 2026. No macro, syntax, notation, axiom, sorry.
-/
import Derived.Test.YtpmjhndkcdfpfaaChecked
import GoSem.Claim
import GoSem.ClaimJoined
import GoSem.ClaimMapViews
import Derived.JoinedTies
import Derived.KernelRfl
namespace Go.Proofs.Ytpmjhndkcdfpfaa
/- THE CELL 'sum', in the pinned program and in every row, IS THE sha256 OF THE DUMP (.gsa) THAT YtpmjhndkcdfpfaaProg.lean LOADS. Nothing in Lean hashes anything: it is a label: what it is worth is what the hold of that sum in a sandbox is worth. -/
noncomputable def Try.pinned : Pinned := { name := "ytpmjhndkcdfpfaa", sum := "b1e6822641572e0a9664a6adddb9258bc10b98f31e90dd08107fd31d0b68a8af", checked := Try.checked }
namespace Rows
def none {H : Type} : Left H := { results := [], args := [] }

/-- 'gafferlaw10.BadgeDoes': WHATEVER THE INPUT: true; the input reads as it did. -/
def badgeDoesSpec : ChangeSpec := { name := "badgeDoes", fn := fun _ => fun
  | [d1, d2, d3] => { results := [.lit (.bool true)], args := [d1, d2, d3] }
  | _ => none }
def badgeDoesRow : OpenClaim := { program := "ytpmjhndkcdfpfaa", sum := "b1e6822641572e0a9664a6adddb9258bc10b98f31e90dd08107fd31d0b68a8af", func := "gaffer/gafferlaw10.BadgeDoes", spec := "badgeDoes", unfollowed := true, recurses := true, apart := false }
def BadgeDoesSaid : Prop := badgeDoesRow.holds Try.pinned (OpenSpec.ofChange badgeDoesSpec)

/-- ITS FALSE NEIGHBOUR: 'it returns false'. Refute it at one input. -/
def badgeDoesWrong : ChangeSpec := { name := "badgeDoes", fn := fun _ => fun
  | [d1, d2, d3] => { results := [.lit (.bool false)], args := [d1, d2, d3] }
  | _ => none }
def BadgeDoesWrongFalsely : Prop := badgeDoesRow.holds Try.pinned (OpenSpec.ofChange badgeDoesWrong)

/-- 'gafferlaw10.BadgeRises': WHATEVER THE INPUT: true; the input reads as it did. -/
def badgeRisesSpec : ChangeSpec := { name := "badgeRises", fn := fun _ => fun
  | [d1, d2] => { results := [.lit (.bool true)], args := [d1, d2] }
  | _ => none }
def badgeRisesRow : OpenClaim := { program := "ytpmjhndkcdfpfaa", sum := "b1e6822641572e0a9664a6adddb9258bc10b98f31e90dd08107fd31d0b68a8af", func := "gaffer/gafferlaw10.BadgeRises", spec := "badgeRises", unfollowed := true, recurses := true, apart := false }
def BadgeRisesSaid : Prop := badgeRisesRow.holds Try.pinned (OpenSpec.ofChange badgeRisesSpec)

/-- ITS FALSE NEIGHBOUR: 'it returns false'. Refute it at one input. -/
def badgeRisesWrong : ChangeSpec := { name := "badgeRises", fn := fun _ => fun
  | [d1, d2] => { results := [.lit (.bool false)], args := [d1, d2] }
  | _ => none }
def BadgeRisesWrongFalsely : Prop := badgeRisesRow.holds Try.pinned (OpenSpec.ofChange badgeRisesWrong)

/-- 'gafferlaw10.BadgeBlocks': WHATEVER THE INPUT: true; the input reads as it did. -/
def badgeBlocksSpec : ChangeSpec := { name := "badgeBlocks", fn := fun _ => fun
  | [d1, d2, d3] => { results := [.lit (.bool true)], args := [d1, d2, d3] }
  | _ => none }
def badgeBlocksRow : OpenClaim := { program := "ytpmjhndkcdfpfaa", sum := "b1e6822641572e0a9664a6adddb9258bc10b98f31e90dd08107fd31d0b68a8af", func := "gaffer/gafferlaw10.BadgeBlocks", spec := "badgeBlocks", unfollowed := true, recurses := true, apart := false }
def BadgeBlocksSaid : Prop := badgeBlocksRow.holds Try.pinned (OpenSpec.ofChange badgeBlocksSpec)

/-- ITS FALSE NEIGHBOUR: 'it returns false'. Refute it at one input. -/
def badgeBlocksWrong : ChangeSpec := { name := "badgeBlocks", fn := fun _ => fun
  | [d1, d2, d3] => { results := [.lit (.bool false)], args := [d1, d2, d3] }
  | _ => none }
def BadgeBlocksWrongFalsely : Prop := badgeBlocksRow.holds Try.pinned (OpenSpec.ofChange badgeBlocksWrong)

/-- 'gafferlaw10.BadgeTwins': WHATEVER THE INPUT: true; the input reads as it did. -/
def badgeTwinsSpec : ChangeSpec := { name := "badgeTwins", fn := fun _ => fun
  | [d1, d2, d3] => { results := [.lit (.bool true)], args := [d1, d2, d3] }
  | _ => none }
def badgeTwinsRow : OpenClaim := { program := "ytpmjhndkcdfpfaa", sum := "b1e6822641572e0a9664a6adddb9258bc10b98f31e90dd08107fd31d0b68a8af", func := "gaffer/gafferlaw10.BadgeTwins", spec := "badgeTwins", unfollowed := true, recurses := true, apart := false }
def BadgeTwinsSaid : Prop := badgeTwinsRow.holds Try.pinned (OpenSpec.ofChange badgeTwinsSpec)

/-- ITS FALSE NEIGHBOUR: 'it returns false'. Refute it at one input. -/
def badgeTwinsWrong : ChangeSpec := { name := "badgeTwins", fn := fun _ => fun
  | [d1, d2, d3] => { results := [.lit (.bool false)], args := [d1, d2, d3] }
  | _ => none }
def BadgeTwinsWrongFalsely : Prop := badgeTwinsRow.holds Try.pinned (OpenSpec.ofChange badgeTwinsWrong)

/- THE SECOND FORM. 'bulk': how many values and letters a reading holds, each counted each time it is reached (what is shared counts as often as it is met; a slice's spare places count too). A statement '..UptoSaid' is the law's where the arguments, and the package variables that the reading takes, are together of bulk at most 1048576: NARROWER than '..Said'. Prove '..Said' where nothing that the law and all that it calls make is longer than what came in: it says more and counts as full. Else prove '..UptoSaid'. A law counts once. -/
mutual
def uptoBulk {H : Type} : DataW H → Nat
  | .lit (.string bytes) => bytes.length + 1
  | .lit _ => 1
  | .nil => 1
  | .ptr d => uptoBulk d + 1
  | .slice elems spare => uptoBulkAll elems + uptoBulkAll spare + 1
  | .agg parts => uptoBulkAll parts + 1
  | .iface _ d => uptoBulk d + 1
  | .map entries => uptoBulkEntries entries + 1
  | .held _ => 1
def uptoBulkAll {H : Type} : List (DataW H) → Nat
  | [] => 0
  | d :: r => uptoBulk d + uptoBulkAll r
def uptoBulkEntries {H : Type} : List (Lit × DataW H) → Nat
  | [] => 0
  | x :: r => uptoBulkEntry x + uptoBulkEntries r
def uptoBulkEntry {H : Type} : Lit × DataW H → Nat
  | (.string bytes, d) => bytes.length + uptoBulk d + 1
  | (_, d) => uptoBulk d + 1
 end
def uptoSmall : (H : Type) → List (DataW H) → Bool := fun _ ds => decide (uptoBulkAll ds ≤ 1048576)
def OpenSpec.upto (s : _root_.Go.ChangeSpec) : _root_.Go.OpenSpec := { _root_.Go.OpenSpec.ofChange s with cond := some uptoSmall }

/-- 'gafferlaw10.BadgeDoes', WHERE WHAT IT READS IS OF BULK AT MOST 1048576: true; the input reads as it did. -/
def badgeDoesUptoRow : OpenClaim := { program := "ytpmjhndkcdfpfaa", sum := "b1e6822641572e0a9664a6adddb9258bc10b98f31e90dd08107fd31d0b68a8af", func := "gaffer/gafferlaw10.BadgeDoes", spec := "badgeDoes", unfollowed := true, recurses := true, apart := false, narrowed := true }
def BadgeDoesUptoSaid : Prop := badgeDoesUptoRow.holds Try.pinned (OpenSpec.upto badgeDoesSpec)

/-- 'gafferlaw10.BadgeRises', WHERE WHAT IT READS IS OF BULK AT MOST 1048576: true; the input reads as it did. -/
def badgeRisesUptoRow : OpenClaim := { program := "ytpmjhndkcdfpfaa", sum := "b1e6822641572e0a9664a6adddb9258bc10b98f31e90dd08107fd31d0b68a8af", func := "gaffer/gafferlaw10.BadgeRises", spec := "badgeRises", unfollowed := true, recurses := true, apart := false, narrowed := true }
def BadgeRisesUptoSaid : Prop := badgeRisesUptoRow.holds Try.pinned (OpenSpec.upto badgeRisesSpec)

/-- 'gafferlaw10.BadgeBlocks', WHERE WHAT IT READS IS OF BULK AT MOST 1048576: true; the input reads as it did. -/
def badgeBlocksUptoRow : OpenClaim := { program := "ytpmjhndkcdfpfaa", sum := "b1e6822641572e0a9664a6adddb9258bc10b98f31e90dd08107fd31d0b68a8af", func := "gaffer/gafferlaw10.BadgeBlocks", spec := "badgeBlocks", unfollowed := true, recurses := true, apart := false, narrowed := true }
def BadgeBlocksUptoSaid : Prop := badgeBlocksUptoRow.holds Try.pinned (OpenSpec.upto badgeBlocksSpec)

/-- 'gafferlaw10.BadgeTwins', WHERE WHAT IT READS IS OF BULK AT MOST 1048576: true; the input reads as it did. -/
def badgeTwinsUptoRow : OpenClaim := { program := "ytpmjhndkcdfpfaa", sum := "b1e6822641572e0a9664a6adddb9258bc10b98f31e90dd08107fd31d0b68a8af", func := "gaffer/gafferlaw10.BadgeTwins", spec := "badgeTwins", unfollowed := true, recurses := true, apart := false, narrowed := true }
def BadgeTwinsUptoSaid : Prop := badgeTwinsUptoRow.holds Try.pinned (OpenSpec.upto badgeTwinsSpec)

end Rows
end Go.Proofs.Ytpmjhndkcdfpfaa
