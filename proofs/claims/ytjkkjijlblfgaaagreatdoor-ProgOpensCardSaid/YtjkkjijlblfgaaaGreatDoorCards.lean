/-
  DERIVED. GIVEN WITH THE SEED: THE CARDS: each row of YtjkkjijlblfgaaaGreatDoorRows.lean that lists a variable, with what it lists TIED to the program's text (the seventh form; the later family's looks); each row that meets fmt, with fmt's text TOLD by the authors' own Lean function (tested against real Go, not proved from fmt's source: count such statements apart). THE CARD IS WHAT COUNTS. Prove the row's statement (the work); the ties are given (YtjkkjijlblfgaaaGreatDoorTie.lean); close each card by the builder's one call (the guide's Derived/Test/ToyasCard.lean, 'card_holds'). Laid BY PROGRAM, IN A SANDBOX (cutbox-door.mjs). By AI agents, Wed Nov 11 2026. No macro, syntax, notation, axiom, sorry.
-/
import Derived.Test.YtjkkjijlblfgaaaGreatDoorRows
import GoSem.ClaimSeven
namespace Go.Proofs.YtjkkjijlblfgaaaGreatDoor
namespace Rows

/-- THE TIED CARD OF 'gafferlaw05.ProgReads'. -/
def progReadsCard : Claim7 := { stood := { row := progReadsRow, standIns := [], harness := (true, "3212ab72511cb6c2c980faf1d499db791364de1fee11bfaf488373366fc7da44"), looks := true }, kinds := [], alts := [], laidByText := true, laidKinds := [.data, .data, .data, .data, .sentinel, .sentinel, .pinned], laidTests := true, laidLooks := .later }
def ProgReadsCardSaid : Prop := Claim7.holds Tryz.pinned (.plain (OpenSpec.ofChange progReadsSpec)) progReadsCard

/-- THE TIED CARD OF 'gafferlaw05.ProgOpens'. -/
def progOpensCard : Claim7 := { stood := { row := progOpensRow, standIns := [], harness := (true, "3212ab72511cb6c2c980faf1d499db791364de1fee11bfaf488373366fc7da44"), looks := true }, kinds := [], alts := [], laidByText := true, laidKinds := [.data, .data, .data, .data, .sentinel, .sentinel, .pinned], laidTests := true, laidLooks := .later }
def ProgOpensCardSaid : Prop := Claim7.holds Tryz.pinned (.plain (OpenSpec.ofChange progOpensSpec)) progOpensCard

/-- THE SECOND FORM's CARD OF 'gafferlaw05.ProgReads'. -/
def progReadsUptoCard : Claim7 := { stood := { row := progReadsUptoRow, standIns := [], harness := (true, "3212ab72511cb6c2c980faf1d499db791364de1fee11bfaf488373366fc7da44"), looks := true }, kinds := [], alts := [], laidByText := true, laidKinds := [.data, .data, .data, .data, .sentinel, .sentinel, .pinned], laidTests := true, laidLooks := .later }
def ProgReadsUptoCardSaid : Prop := Claim7.holds Tryz.pinned (.plain (OpenSpec.upto progReadsSpec)) progReadsUptoCard

/-- THE SECOND FORM's CARD OF 'gafferlaw05.ProgOpens'. -/
def progOpensUptoCard : Claim7 := { stood := { row := progOpensUptoRow, standIns := [], harness := (true, "3212ab72511cb6c2c980faf1d499db791364de1fee11bfaf488373366fc7da44"), looks := true }, kinds := [], alts := [], laidByText := true, laidKinds := [.data, .data, .data, .data, .sentinel, .sentinel, .pinned], laidTests := true, laidLooks := .later }
def ProgOpensUptoCardSaid : Prop := Claim7.holds Tryz.pinned (.plain (OpenSpec.upto progOpensSpec)) progOpensUptoCard
end Rows
end Go.Proofs.YtjkkjijlblfgaaaGreatDoor
