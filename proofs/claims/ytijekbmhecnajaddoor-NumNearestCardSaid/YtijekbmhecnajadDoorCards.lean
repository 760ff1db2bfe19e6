/-
  DERIVED. GIVEN WITH THE SEED: THE CARDS: each row of YtijekbmhecnajadDoorRows.lean that lists a variable, with what it lists TIED to the program's text (the seventh form; the later family's looks); each row that meets fmt, with fmt's text TOLD by the authors' own Lean function (tested against real Go, not proved from fmt's source: count such statements apart). THE CARD IS WHAT COUNTS. Prove the row's statement (the work); the ties are given (YtijekbmhecnajadDoorTie.lean); close each card by the builder's one call (the guide's Derived/Test/ToyasCard.lean, 'card_holds'). Laid BY PROGRAM, IN A SANDBOX (cutbox-door.mjs). By AI agents, Wed Nov 11 2026. No macro, syntax, notation, axiom, sorry.
-/
import Derived.Test.YtijekbmhecnajadDoorRows
import GoSem.ClaimSeven
namespace Go.Proofs.YtijekbmhecnajadDoor
namespace Rows

/-- THE TIED CARD OF 'gafferlaw01.NumPairs'. -/
def numPairsCard : Claim7 := { stood := { row := numPairsRow, standIns := [], harness := (true, "145f46a2ba3bb8a12a2daeb8a3817fb0463189a60f61209f036bd92aa878771d"), looks := true }, kinds := [], alts := [], laidByText := true, laidKinds := [.data, .data, .data, .sentinel, .sentinel], laidTests := true, laidLooks := .later }
def NumPairsCardSaid : Prop := Claim7.holds Tryd.pinned (.plain (OpenSpec.ofChange numPairsSpec)) numPairsCard

/-- THE TIED CARD OF 'gafferlaw01.NumNearest'. -/
def numNearestCard : Claim7 := { stood := { row := numNearestRow, standIns := [], harness := (true, "145f46a2ba3bb8a12a2daeb8a3817fb0463189a60f61209f036bd92aa878771d"), looks := true }, kinds := [], alts := [], laidByText := true, laidKinds := [.data, .data, .data, .sentinel, .sentinel], laidTests := true, laidLooks := .later }
def NumNearestCardSaid : Prop := Claim7.holds Tryd.pinned (.plain (OpenSpec.ofChange numNearestSpec)) numNearestCard

/-- THE SECOND FORM's CARD OF 'gafferlaw01.NumPairs'. -/
def numPairsUptoCard : Claim7 := { stood := { row := numPairsUptoRow, standIns := [], harness := (true, "145f46a2ba3bb8a12a2daeb8a3817fb0463189a60f61209f036bd92aa878771d"), looks := true }, kinds := [], alts := [], laidByText := true, laidKinds := [.data, .data, .data, .sentinel, .sentinel], laidTests := true, laidLooks := .later }
def NumPairsUptoCardSaid : Prop := Claim7.holds Tryd.pinned (.plain (OpenSpec.upto numPairsSpec)) numPairsUptoCard

/-- THE SECOND FORM's CARD OF 'gafferlaw01.NumNearest'. -/
def numNearestUptoCard : Claim7 := { stood := { row := numNearestUptoRow, standIns := [], harness := (true, "145f46a2ba3bb8a12a2daeb8a3817fb0463189a60f61209f036bd92aa878771d"), looks := true }, kinds := [], alts := [], laidByText := true, laidKinds := [.data, .data, .data, .sentinel, .sentinel], laidTests := true, laidLooks := .later }
def NumNearestUptoCardSaid : Prop := Claim7.holds Tryd.pinned (.plain (OpenSpec.upto numNearestSpec)) numNearestUptoCard
end Rows
end Go.Proofs.YtijekbmhecnajadDoor
