/-
  DERIVED. GIVEN WITH THE SEED: THE CARDS: each row of YteokcgclmgleiaaDoorRows.lean that lists a variable, with what it lists TIED to the program's text (the seventh form; the later family's looks); each row that meets fmt, with fmt's text TOLD by the authors' own Lean function (tested against real Go, not proved from fmt's source: count such statements apart). THE CARD IS WHAT COUNTS. Prove the row's statement (the work); the ties are given (YteokcgclmgleiaaDoorTie.lean); close each card by the builder's one call (the guide's Derived/Test/ToyasCard.lean, 'card_holds'). Laid BY PROGRAM, IN A SANDBOX (cutbox-door.mjs). By AI agents, Wed Nov 11 2026. No macro, syntax, notation, axiom, sorry.
-/
import Derived.Test.YteokcgclmgleiaaDoorRows
import GoSem.ClaimSeven
namespace Go.Proofs.YteokcgclmgleiaaDoor
namespace Rows

/-- THE TIED CARD OF 'gafferlaw01.NumBack'. -/
def numBackCard : Claim7 := { stood := { row := numBackRow, standIns := [], harness := (true, "927c29feaa8edec56248913802c25eaaebb8956cec47f8d89e6cb128a9b64c25"), looks := true }, kinds := [], alts := [], laidByText := true, laidKinds := [.data, .data, .data, .sentinel, .sentinel], laidTests := true, laidLooks := .later }
def NumBackCardSaid : Prop := Claim7.holds Tryd.pinned (.plain (OpenSpec.ofChange numBackSpec)) numBackCard

/-- THE TIED CARD OF 'gafferlaw01.NumHeeds'. -/
def numHeedsCard : Claim7 := { stood := { row := numHeedsRow, standIns := [], harness := (true, "927c29feaa8edec56248913802c25eaaebb8956cec47f8d89e6cb128a9b64c25"), looks := true }, kinds := [], alts := [], laidByText := true, laidKinds := [.data, .data, .data, .sentinel, .sentinel], laidTests := true, laidLooks := .later }
def NumHeedsCardSaid : Prop := Claim7.holds Tryd.pinned (.plain (OpenSpec.ofChange numHeedsSpec)) numHeedsCard

/-- THE SECOND FORM's CARD OF 'gafferlaw01.NumBack'. -/
def numBackUptoCard : Claim7 := { stood := { row := numBackUptoRow, standIns := [], harness := (true, "927c29feaa8edec56248913802c25eaaebb8956cec47f8d89e6cb128a9b64c25"), looks := true }, kinds := [], alts := [], laidByText := true, laidKinds := [.data, .data, .data, .sentinel, .sentinel], laidTests := true, laidLooks := .later }
def NumBackUptoCardSaid : Prop := Claim7.holds Tryd.pinned (.plain (OpenSpec.upto numBackSpec)) numBackUptoCard

/-- THE SECOND FORM's CARD OF 'gafferlaw01.NumHeeds'. -/
def numHeedsUptoCard : Claim7 := { stood := { row := numHeedsUptoRow, standIns := [], harness := (true, "927c29feaa8edec56248913802c25eaaebb8956cec47f8d89e6cb128a9b64c25"), looks := true }, kinds := [], alts := [], laidByText := true, laidKinds := [.data, .data, .data, .sentinel, .sentinel], laidTests := true, laidLooks := .later }
def NumHeedsUptoCardSaid : Prop := Claim7.holds Tryd.pinned (.plain (OpenSpec.upto numHeedsSpec)) numHeedsUptoCard
end Rows
end Go.Proofs.YteokcgclmgleiaaDoor
