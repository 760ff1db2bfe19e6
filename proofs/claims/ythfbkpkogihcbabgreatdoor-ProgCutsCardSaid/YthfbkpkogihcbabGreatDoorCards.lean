/-
  DERIVED. GIVEN WITH THE SEED: THE CARDS: each row of YthfbkpkogihcbabGreatDoorRows.lean that lists a variable, with what it lists TIED to the program's text (the seventh form; the later family's looks); each row that meets fmt, with fmt's text TOLD by the authors' own Lean function (tested against real Go, not proved from fmt's source: count such statements apart). THE CARD IS WHAT COUNTS. Prove the row's statement (the work); the ties are given (YthfbkpkogihcbabGreatDoorTie.lean); close each card by the builder's one call (the guide's Derived/Test/ToyasCard.lean, 'card_holds'). Laid BY PROGRAM, IN A SANDBOX (cutbox-door.mjs). By AI agents, Wed Nov 11 2026. No macro, syntax, notation, axiom, sorry.
-/
import Derived.Test.YthfbkpkogihcbabGreatDoorRows
import GoSem.ClaimSeven
namespace Go.Proofs.YthfbkpkogihcbabGreatDoor
namespace Rows

/-- THE TIED CARD OF 'gafferlaw05.ProgForms'. -/
def progFormsCard : Claim7 := { stood := { row := progFormsRow, standIns := [], harness := (true, "3349bd0775fe5f5cca331f9a8c308136ee9d98789dc2911eebaaee2a6a2a16d7"), looks := true }, kinds := [], alts := [], laidByText := true, laidKinds := [.data, .data, .data, .data, .sentinel, .sentinel, .pinned], laidTests := true, laidLooks := .later }
def ProgFormsCardSaid : Prop := Claim7.holds Tryz.pinned (.plain (OpenSpec.ofChange progFormsSpec)) progFormsCard

/-- THE TIED CARD OF 'gafferlaw05.ProgCuts'. -/
def progCutsCard : Claim7 := { stood := { row := progCutsRow, standIns := [], harness := (true, "3349bd0775fe5f5cca331f9a8c308136ee9d98789dc2911eebaaee2a6a2a16d7"), looks := true }, kinds := [], alts := [], laidByText := true, laidKinds := [.data, .data, .data, .data, .sentinel, .sentinel, .pinned], laidTests := true, laidLooks := .later }
def ProgCutsCardSaid : Prop := Claim7.holds Tryz.pinned (.plain (OpenSpec.ofChange progCutsSpec)) progCutsCard

/-- THE TIED CARD OF 'gafferlaw05.ProgPlaces'. -/
def progPlacesCard : Claim7 := { stood := { row := progPlacesRow, standIns := [], harness := (true, "3349bd0775fe5f5cca331f9a8c308136ee9d98789dc2911eebaaee2a6a2a16d7"), looks := true }, kinds := [], alts := [], laidByText := true, laidKinds := [.data, .data, .data, .data, .sentinel, .sentinel, .pinned], laidTests := true, laidLooks := .later }
def ProgPlacesCardSaid : Prop := Claim7.holds Tryz.pinned (.plain (OpenSpec.ofChange progPlacesSpec)) progPlacesCard

/-- THE SECOND FORM's CARD OF 'gafferlaw05.ProgForms'. -/
def progFormsUptoCard : Claim7 := { stood := { row := progFormsUptoRow, standIns := [], harness := (true, "3349bd0775fe5f5cca331f9a8c308136ee9d98789dc2911eebaaee2a6a2a16d7"), looks := true }, kinds := [], alts := [], laidByText := true, laidKinds := [.data, .data, .data, .data, .sentinel, .sentinel, .pinned], laidTests := true, laidLooks := .later }
def ProgFormsUptoCardSaid : Prop := Claim7.holds Tryz.pinned (.plain (OpenSpec.upto progFormsSpec)) progFormsUptoCard

/-- THE SECOND FORM's CARD OF 'gafferlaw05.ProgCuts'. -/
def progCutsUptoCard : Claim7 := { stood := { row := progCutsUptoRow, standIns := [], harness := (true, "3349bd0775fe5f5cca331f9a8c308136ee9d98789dc2911eebaaee2a6a2a16d7"), looks := true }, kinds := [], alts := [], laidByText := true, laidKinds := [.data, .data, .data, .data, .sentinel, .sentinel, .pinned], laidTests := true, laidLooks := .later }
def ProgCutsUptoCardSaid : Prop := Claim7.holds Tryz.pinned (.plain (OpenSpec.upto progCutsSpec)) progCutsUptoCard

/-- THE SECOND FORM's CARD OF 'gafferlaw05.ProgPlaces'. -/
def progPlacesUptoCard : Claim7 := { stood := { row := progPlacesUptoRow, standIns := [], harness := (true, "3349bd0775fe5f5cca331f9a8c308136ee9d98789dc2911eebaaee2a6a2a16d7"), looks := true }, kinds := [], alts := [], laidByText := true, laidKinds := [.data, .data, .data, .data, .sentinel, .sentinel, .pinned], laidTests := true, laidLooks := .later }
def ProgPlacesUptoCardSaid : Prop := Claim7.holds Tryz.pinned (.plain (OpenSpec.upto progPlacesSpec)) progPlacesUptoCard
end Rows
end Go.Proofs.YthfbkpkogihcbabGreatDoor
