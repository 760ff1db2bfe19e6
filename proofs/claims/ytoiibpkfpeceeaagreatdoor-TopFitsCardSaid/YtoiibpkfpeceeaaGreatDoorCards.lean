/-
  DERIVED. GIVEN WITH THE SEED: THE CARDS: each row of YtoiibpkfpeceeaaGreatDoorRows.lean that lists a variable, with what it lists TIED to the program's text (the seventh form; the later family's looks); each row that meets fmt, with fmt's text TOLD by the authors' own Lean function (tested against real Go, not proved from fmt's source: count such statements apart). THE CARD IS WHAT COUNTS. Prove the row's statement (the work); the ties are given (YtoiibpkfpeceeaaGreatDoorTie.lean); close each card by the builder's one call (the guide's Derived/Test/ToyasCard.lean, 'card_holds'). Laid BY PROGRAM, IN A SANDBOX (cutbox-door.mjs). By AI agents, Wed Nov 11 2026. No macro, syntax, notation, axiom, sorry.
-/
import Derived.Test.YtoiibpkfpeceeaaGreatDoorRows
import GoSem.ClaimSeven
namespace Go.Proofs.YtoiibpkfpeceeaaGreatDoor
namespace Rows

/-- THE TIED CARD OF 'gaffertop.TopFits'. -/
def topFitsCard : Claim7 := { stood := { row := topFitsRow, standIns := [], harness := (true, "d3ebe1a79ae0cf31b2de8bd24f6f64464067eb2ceff4da3b1ac5aa2054038f3f"), looks := true }, kinds := [], alts := [], laidByText := true, laidKinds := [.data, .data, .data, .data, .sentinel, .sentinel, .pinned], laidTests := true, laidLooks := .later }
def TopFitsCardSaid : Prop := Claim7.holds Tryz.pinned (.plain (OpenSpec.ofChange topFitsSpec)) topFitsCard

/-- THE SECOND FORM's CARD OF 'gaffertop.TopFits'. -/
def topFitsUptoCard : Claim7 := { stood := { row := topFitsUptoRow, standIns := [], harness := (true, "d3ebe1a79ae0cf31b2de8bd24f6f64464067eb2ceff4da3b1ac5aa2054038f3f"), looks := true }, kinds := [], alts := [], laidByText := true, laidKinds := [.data, .data, .data, .data, .sentinel, .sentinel, .pinned], laidTests := true, laidLooks := .later }
def TopFitsUptoCardSaid : Prop := Claim7.holds Tryz.pinned (.plain (OpenSpec.upto topFitsSpec)) topFitsUptoCard
end Rows
end Go.Proofs.YtoiibpkfpeceeaaGreatDoor
