/-
  DERIVED. GIVEN WITH THE SEED: THE CARDS: each row of YtijekbmhecnajabDoorRows.lean that lists a variable, with what it lists TIED to the program's text (the seventh form; the later family's looks); each row that meets fmt, with fmt's text TOLD by the authors' own Lean function (tested against real Go, not proved from fmt's source: count such statements apart). THE CARD IS WHAT COUNTS. Prove the row's statement (the work); the ties are given (YtijekbmhecnajabDoorTie.lean); close each card by the builder's one call (the guide's Derived/Test/ToyasCard.lean, 'card_holds'). Laid BY PROGRAM, IN A SANDBOX (cutbox-door.mjs). By AI agents, Wed Nov 11 2026. No macro, syntax, notation, axiom, sorry.
-/
import Derived.Test.YtijekbmhecnajabDoorRows
import GoSem.ClaimSeven
namespace Go.Proofs.YtijekbmhecnajabDoor
namespace Rows

/-- THE TIED CARD OF 'gafferlaw01.NumBack'. -/
def numBackCard : Claim7 := { stood := { row := numBackRow, standIns := [], harness := (true, "0784717dfa13e4e0d7af6a9392b15b5fde9fec2a87ef46fdf88664d53408f569"), looks := true }, kinds := [], alts := [], laidByText := true, laidKinds := [.data, .data, .data, .sentinel, .sentinel], laidTests := true, laidLooks := .later }
def NumBackCardSaid : Prop := Claim7.holds Tryd.pinned (.plain (OpenSpec.ofChange numBackSpec)) numBackCard

/-- THE TIED CARD OF 'gafferlaw01.NumTurns'. -/
def numTurnsCard : Claim7 := { stood := { row := numTurnsRow, standIns := [], harness := (true, "0784717dfa13e4e0d7af6a9392b15b5fde9fec2a87ef46fdf88664d53408f569"), looks := true }, kinds := [], alts := [], laidByText := true, laidKinds := [.data, .data, .data, .sentinel, .sentinel], laidTests := true, laidLooks := .later }
def NumTurnsCardSaid : Prop := Claim7.holds Tryd.pinned (.plain (OpenSpec.ofChange numTurnsSpec)) numTurnsCard

/-- THE TIED CARD OF 'gafferlaw01.NumSterbenz'. -/
def numSterbenzCard : Claim7 := { stood := { row := numSterbenzRow, standIns := [], harness := (true, "0784717dfa13e4e0d7af6a9392b15b5fde9fec2a87ef46fdf88664d53408f569"), looks := true }, kinds := [], alts := [], laidByText := true, laidKinds := [.data, .data, .data, .sentinel, .sentinel], laidTests := true, laidLooks := .later }
def NumSterbenzCardSaid : Prop := Claim7.holds Tryd.pinned (.plain (OpenSpec.ofChange numSterbenzSpec)) numSterbenzCard

/-- THE TIED CARD OF 'gafferlaw01.NumRises'. -/
def numRisesCard : Claim7 := { stood := { row := numRisesRow, standIns := [], harness := (true, "0784717dfa13e4e0d7af6a9392b15b5fde9fec2a87ef46fdf88664d53408f569"), looks := true }, kinds := [], alts := [], laidByText := true, laidKinds := [.data, .data, .data, .sentinel, .sentinel], laidTests := true, laidLooks := .later }
def NumRisesCardSaid : Prop := Claim7.holds Tryd.pinned (.plain (OpenSpec.ofChange numRisesSpec)) numRisesCard

/-- THE SECOND FORM's CARD OF 'gafferlaw01.NumBack'. -/
def numBackUptoCard : Claim7 := { stood := { row := numBackUptoRow, standIns := [], harness := (true, "0784717dfa13e4e0d7af6a9392b15b5fde9fec2a87ef46fdf88664d53408f569"), looks := true }, kinds := [], alts := [], laidByText := true, laidKinds := [.data, .data, .data, .sentinel, .sentinel], laidTests := true, laidLooks := .later }
def NumBackUptoCardSaid : Prop := Claim7.holds Tryd.pinned (.plain (OpenSpec.upto numBackSpec)) numBackUptoCard

/-- THE SECOND FORM's CARD OF 'gafferlaw01.NumTurns'. -/
def numTurnsUptoCard : Claim7 := { stood := { row := numTurnsUptoRow, standIns := [], harness := (true, "0784717dfa13e4e0d7af6a9392b15b5fde9fec2a87ef46fdf88664d53408f569"), looks := true }, kinds := [], alts := [], laidByText := true, laidKinds := [.data, .data, .data, .sentinel, .sentinel], laidTests := true, laidLooks := .later }
def NumTurnsUptoCardSaid : Prop := Claim7.holds Tryd.pinned (.plain (OpenSpec.upto numTurnsSpec)) numTurnsUptoCard

/-- THE SECOND FORM's CARD OF 'gafferlaw01.NumSterbenz'. -/
def numSterbenzUptoCard : Claim7 := { stood := { row := numSterbenzUptoRow, standIns := [], harness := (true, "0784717dfa13e4e0d7af6a9392b15b5fde9fec2a87ef46fdf88664d53408f569"), looks := true }, kinds := [], alts := [], laidByText := true, laidKinds := [.data, .data, .data, .sentinel, .sentinel], laidTests := true, laidLooks := .later }
def NumSterbenzUptoCardSaid : Prop := Claim7.holds Tryd.pinned (.plain (OpenSpec.upto numSterbenzSpec)) numSterbenzUptoCard

/-- THE SECOND FORM's CARD OF 'gafferlaw01.NumRises'. -/
def numRisesUptoCard : Claim7 := { stood := { row := numRisesUptoRow, standIns := [], harness := (true, "0784717dfa13e4e0d7af6a9392b15b5fde9fec2a87ef46fdf88664d53408f569"), looks := true }, kinds := [], alts := [], laidByText := true, laidKinds := [.data, .data, .data, .sentinel, .sentinel], laidTests := true, laidLooks := .later }
def NumRisesUptoCardSaid : Prop := Claim7.holds Tryd.pinned (.plain (OpenSpec.upto numRisesSpec)) numRisesUptoCard
end Rows
end Go.Proofs.YtijekbmhecnajabDoor
