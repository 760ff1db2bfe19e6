/-
  DERIVED. GIVEN WITH THE SEED: THE CARDS: each row of YtijekbmhecnajacDoorRows.lean that lists a variable, with what it lists TIED to the program's text (the seventh form; the later family's looks); each row that meets fmt, with fmt's text TOLD by the authors' own Lean function (tested against real Go, not proved from fmt's source: count such statements apart). THE CARD IS WHAT COUNTS. Prove the row's statement (the work); the ties are given (YtijekbmhecnajacDoorTie.lean); close each card by the builder's one call (the guide's Derived/Test/ToyasCard.lean, 'card_holds'). Laid BY PROGRAM, IN A SANDBOX (cutbox-door.mjs). By AI agents, Wed Nov 11 2026. No macro, syntax, notation, axiom, sorry.
-/
import Derived.Test.YtijekbmhecnajacDoorRows
import GoSem.ClaimSeven
namespace Go.Proofs.YtijekbmhecnajacDoor
namespace Rows

/-- THE TIED CARD OF 'gafferlaw01.NumLines'. -/
def numLinesCard : Claim7 := { stood := { row := numLinesRow, standIns := [], harness := (true, "fcbc3e45d2cf9f678ce70c40885ecb10bc110cc82f499aab84f87ae3281201e4"), looks := true }, kinds := [], alts := [], laidByText := true, laidKinds := [.data, .data, .data, .sentinel, .sentinel], laidTests := true, laidLooks := .later }
def NumLinesCardSaid : Prop := Claim7.holds Tryd.pinned (.plain (OpenSpec.ofChange numLinesSpec)) numLinesCard

/-- THE TIED CARD OF 'gafferlaw01.NumFloors'. -/
def numFloorsCard : Claim7 := { stood := { row := numFloorsRow, standIns := [], harness := (true, "fcbc3e45d2cf9f678ce70c40885ecb10bc110cc82f499aab84f87ae3281201e4"), looks := true }, kinds := [], alts := [], laidByText := true, laidKinds := [.data, .data, .data, .sentinel, .sentinel], laidTests := true, laidLooks := .later }
def NumFloorsCardSaid : Prop := Claim7.holds Tryd.pinned (.plain (OpenSpec.ofChange numFloorsSpec)) numFloorsCard

/-- THE TIED CARD OF 'gafferlaw01.NumHeeds'. -/
def numHeedsCard : Claim7 := { stood := { row := numHeedsRow, standIns := [], harness := (true, "fcbc3e45d2cf9f678ce70c40885ecb10bc110cc82f499aab84f87ae3281201e4"), looks := true }, kinds := [], alts := [], laidByText := true, laidKinds := [.data, .data, .data, .sentinel, .sentinel], laidTests := true, laidLooks := .later }
def NumHeedsCardSaid : Prop := Claim7.holds Tryd.pinned (.plain (OpenSpec.ofChange numHeedsSpec)) numHeedsCard

/-- THE TIED CARD OF 'gafferlaw01.NumSigns'. -/
def numSignsCard : Claim7 := { stood := { row := numSignsRow, standIns := [], harness := (true, "fcbc3e45d2cf9f678ce70c40885ecb10bc110cc82f499aab84f87ae3281201e4"), looks := true }, kinds := [], alts := [], laidByText := true, laidKinds := [.data, .data, .data, .sentinel, .sentinel], laidTests := true, laidLooks := .later }
def NumSignsCardSaid : Prop := Claim7.holds Tryd.pinned (.plain (OpenSpec.ofChange numSignsSpec)) numSignsCard

/-- THE TIED CARD OF 'gafferlaw01.NumScales'. -/
def numScalesCard : Claim7 := { stood := { row := numScalesRow, standIns := [], harness := (true, "fcbc3e45d2cf9f678ce70c40885ecb10bc110cc82f499aab84f87ae3281201e4"), looks := true }, kinds := [], alts := [], laidByText := true, laidKinds := [.data, .data, .data, .sentinel, .sentinel], laidTests := true, laidLooks := .later }
def NumScalesCardSaid : Prop := Claim7.holds Tryd.pinned (.plain (OpenSpec.ofChange numScalesSpec)) numScalesCard

/-- THE TIED CARD OF 'gafferlaw01.NumCounts'. -/
def numCountsCard : Claim7 := { stood := { row := numCountsRow, standIns := [], harness := (true, "fcbc3e45d2cf9f678ce70c40885ecb10bc110cc82f499aab84f87ae3281201e4"), looks := true }, kinds := [], alts := [], laidByText := true, laidKinds := [.data, .data, .data, .sentinel, .sentinel], laidTests := true, laidLooks := .later }
def NumCountsCardSaid : Prop := Claim7.holds Tryd.pinned (.plain (OpenSpec.ofChange numCountsSpec)) numCountsCard

/-- THE SECOND FORM's CARD OF 'gafferlaw01.NumLines'. -/
def numLinesUptoCard : Claim7 := { stood := { row := numLinesUptoRow, standIns := [], harness := (true, "fcbc3e45d2cf9f678ce70c40885ecb10bc110cc82f499aab84f87ae3281201e4"), looks := true }, kinds := [], alts := [], laidByText := true, laidKinds := [.data, .data, .data, .sentinel, .sentinel], laidTests := true, laidLooks := .later }
def NumLinesUptoCardSaid : Prop := Claim7.holds Tryd.pinned (.plain (OpenSpec.upto numLinesSpec)) numLinesUptoCard

/-- THE SECOND FORM's CARD OF 'gafferlaw01.NumFloors'. -/
def numFloorsUptoCard : Claim7 := { stood := { row := numFloorsUptoRow, standIns := [], harness := (true, "fcbc3e45d2cf9f678ce70c40885ecb10bc110cc82f499aab84f87ae3281201e4"), looks := true }, kinds := [], alts := [], laidByText := true, laidKinds := [.data, .data, .data, .sentinel, .sentinel], laidTests := true, laidLooks := .later }
def NumFloorsUptoCardSaid : Prop := Claim7.holds Tryd.pinned (.plain (OpenSpec.upto numFloorsSpec)) numFloorsUptoCard

/-- THE SECOND FORM's CARD OF 'gafferlaw01.NumHeeds'. -/
def numHeedsUptoCard : Claim7 := { stood := { row := numHeedsUptoRow, standIns := [], harness := (true, "fcbc3e45d2cf9f678ce70c40885ecb10bc110cc82f499aab84f87ae3281201e4"), looks := true }, kinds := [], alts := [], laidByText := true, laidKinds := [.data, .data, .data, .sentinel, .sentinel], laidTests := true, laidLooks := .later }
def NumHeedsUptoCardSaid : Prop := Claim7.holds Tryd.pinned (.plain (OpenSpec.upto numHeedsSpec)) numHeedsUptoCard

/-- THE SECOND FORM's CARD OF 'gafferlaw01.NumSigns'. -/
def numSignsUptoCard : Claim7 := { stood := { row := numSignsUptoRow, standIns := [], harness := (true, "fcbc3e45d2cf9f678ce70c40885ecb10bc110cc82f499aab84f87ae3281201e4"), looks := true }, kinds := [], alts := [], laidByText := true, laidKinds := [.data, .data, .data, .sentinel, .sentinel], laidTests := true, laidLooks := .later }
def NumSignsUptoCardSaid : Prop := Claim7.holds Tryd.pinned (.plain (OpenSpec.upto numSignsSpec)) numSignsUptoCard

/-- THE SECOND FORM's CARD OF 'gafferlaw01.NumScales'. -/
def numScalesUptoCard : Claim7 := { stood := { row := numScalesUptoRow, standIns := [], harness := (true, "fcbc3e45d2cf9f678ce70c40885ecb10bc110cc82f499aab84f87ae3281201e4"), looks := true }, kinds := [], alts := [], laidByText := true, laidKinds := [.data, .data, .data, .sentinel, .sentinel], laidTests := true, laidLooks := .later }
def NumScalesUptoCardSaid : Prop := Claim7.holds Tryd.pinned (.plain (OpenSpec.upto numScalesSpec)) numScalesUptoCard

/-- THE SECOND FORM's CARD OF 'gafferlaw01.NumCounts'. -/
def numCountsUptoCard : Claim7 := { stood := { row := numCountsUptoRow, standIns := [], harness := (true, "fcbc3e45d2cf9f678ce70c40885ecb10bc110cc82f499aab84f87ae3281201e4"), looks := true }, kinds := [], alts := [], laidByText := true, laidKinds := [.data, .data, .data, .sentinel, .sentinel], laidTests := true, laidLooks := .later }
def NumCountsUptoCardSaid : Prop := Claim7.holds Tryd.pinned (.plain (OpenSpec.upto numCountsSpec)) numCountsUptoCard
end Rows
end Go.Proofs.YtijekbmhecnajacDoor
