/-
  DERIVED. GIVEN WITH THE SEED: THE CARDS: each row of YtkfnedhllfdghaaGreatDoorRows.lean that lists a variable, with what it lists TIED to the program's text (the seventh form; the later family's looks); each row that meets fmt, with fmt's text TOLD by the authors' own Lean function (tested against real Go, not proved from fmt's source: count such statements apart). THE CARD IS WHAT COUNTS. Prove the row's statement (the work); the ties are given (YtkfnedhllfdghaaGreatDoorTie.lean); close each card by the builder's one call (the guide's Derived/Test/ToyasCard.lean, 'card_holds'). Laid BY PROGRAM, IN A SANDBOX (cutbox-door.mjs). By AI agents, Wed Nov 11 2026. No macro, syntax, notation, axiom, sorry.
-/
import Derived.Test.YtkfnedhllfdghaaGreatDoorRows
import GoSem.ClaimSeven
namespace Go.Proofs.YtkfnedhllfdghaaGreatDoor
namespace Rows

/-- THE TIED CARD OF 'gafferlaw19.RunnerDoes'. -/
def runnerDoesCard : Claim7 := { stood := { row := runnerDoesRow, standIns := [], harness := (true, "b64548c1f9ad20f37c846ca2ffbab64a8ddfe3218cdb0ece4f62470abab89978"), looks := true }, kinds := [], alts := [], laidByText := true, laidKinds := [.data, .data, .data], laidTests := true, laidLooks := .later }
def RunnerDoesCardSaid : Prop := Claim7.holds Tryz.pinned (.plain (OpenSpec.ofChange runnerDoesSpec)) runnerDoesCard

/-- THE TIED CARD OF 'gafferlaw19.RunnerTrue'. -/
def runnerTrueCard : Claim7 := { stood := { row := runnerTrueRow, standIns := [], harness := (true, "b64548c1f9ad20f37c846ca2ffbab64a8ddfe3218cdb0ece4f62470abab89978"), looks := true }, kinds := [], alts := [], laidByText := true, laidKinds := [.data, .data, .data], laidTests := true, laidLooks := .later }
def RunnerTrueCardSaid : Prop := Claim7.holds Tryz.pinned (.plain (OpenSpec.ofChange runnerTrueSpec)) runnerTrueCard

/-- THE TIED CARD OF 'gafferlaw19.RunnerFresh'. -/
def runnerFreshCard : Claim7 := { stood := { row := runnerFreshRow, standIns := [], harness := (true, "b64548c1f9ad20f37c846ca2ffbab64a8ddfe3218cdb0ece4f62470abab89978"), looks := true }, kinds := [], alts := [], laidByText := true, laidKinds := [.data, .data, .data], laidTests := true, laidLooks := .later }
def RunnerFreshCardSaid : Prop := Claim7.holds Tryz.pinned (.plain (OpenSpec.ofChange runnerFreshSpec)) runnerFreshCard

/-- THE TIED CARD OF 'gafferlaw19.RunnerAnew'. -/
def runnerAnewCard : Claim7 := { stood := { row := runnerAnewRow, standIns := [], harness := (true, "b64548c1f9ad20f37c846ca2ffbab64a8ddfe3218cdb0ece4f62470abab89978"), looks := true }, kinds := [], alts := [], laidByText := true, laidKinds := [.data, .data, .data], laidTests := true, laidLooks := .later }
def RunnerAnewCardSaid : Prop := Claim7.holds Tryz.pinned (.plain (OpenSpec.ofChange runnerAnewSpec)) runnerAnewCard

/-- THE SECOND FORM's CARD OF 'gafferlaw19.RunnerDoes'. -/
def runnerDoesUptoCard : Claim7 := { stood := { row := runnerDoesUptoRow, standIns := [], harness := (true, "b64548c1f9ad20f37c846ca2ffbab64a8ddfe3218cdb0ece4f62470abab89978"), looks := true }, kinds := [], alts := [], laidByText := true, laidKinds := [.data, .data, .data], laidTests := true, laidLooks := .later }
def RunnerDoesUptoCardSaid : Prop := Claim7.holds Tryz.pinned (.plain (OpenSpec.upto runnerDoesSpec)) runnerDoesUptoCard

/-- THE SECOND FORM's CARD OF 'gafferlaw19.RunnerTrue'. -/
def runnerTrueUptoCard : Claim7 := { stood := { row := runnerTrueUptoRow, standIns := [], harness := (true, "b64548c1f9ad20f37c846ca2ffbab64a8ddfe3218cdb0ece4f62470abab89978"), looks := true }, kinds := [], alts := [], laidByText := true, laidKinds := [.data, .data, .data], laidTests := true, laidLooks := .later }
def RunnerTrueUptoCardSaid : Prop := Claim7.holds Tryz.pinned (.plain (OpenSpec.upto runnerTrueSpec)) runnerTrueUptoCard

/-- THE SECOND FORM's CARD OF 'gafferlaw19.RunnerFresh'. -/
def runnerFreshUptoCard : Claim7 := { stood := { row := runnerFreshUptoRow, standIns := [], harness := (true, "b64548c1f9ad20f37c846ca2ffbab64a8ddfe3218cdb0ece4f62470abab89978"), looks := true }, kinds := [], alts := [], laidByText := true, laidKinds := [.data, .data, .data], laidTests := true, laidLooks := .later }
def RunnerFreshUptoCardSaid : Prop := Claim7.holds Tryz.pinned (.plain (OpenSpec.upto runnerFreshSpec)) runnerFreshUptoCard

/-- THE SECOND FORM's CARD OF 'gafferlaw19.RunnerAnew'. -/
def runnerAnewUptoCard : Claim7 := { stood := { row := runnerAnewUptoRow, standIns := [], harness := (true, "b64548c1f9ad20f37c846ca2ffbab64a8ddfe3218cdb0ece4f62470abab89978"), looks := true }, kinds := [], alts := [], laidByText := true, laidKinds := [.data, .data, .data], laidTests := true, laidLooks := .later }
def RunnerAnewUptoCardSaid : Prop := Claim7.holds Tryz.pinned (.plain (OpenSpec.upto runnerAnewSpec)) runnerAnewUptoCard
end Rows
end Go.Proofs.YtkfnedhllfdghaaGreatDoor
