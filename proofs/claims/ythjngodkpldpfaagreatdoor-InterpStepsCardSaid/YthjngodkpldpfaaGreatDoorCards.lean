/-
  DERIVED. GIVEN WITH THE SEED: THE CARDS: each row of YthjngodkpldpfaaGreatDoorRows.lean that lists a variable, with what it lists TIED to the program's text (the seventh form; the later family's looks); each row that meets fmt, with fmt's text TOLD by the authors' own Lean function (tested against real Go, not proved from fmt's source: count such statements apart). THE CARD IS WHAT COUNTS. Prove the row's statement (the work); the ties are given (YthjngodkpldpfaaGreatDoorTie.lean); close each card by the builder's one call (the guide's Derived/Test/ToyasCard.lean, 'card_holds'). Laid BY PROGRAM, IN A SANDBOX (cutbox-door.mjs). By AI agents, Wed Nov 11 2026. No macro, syntax, notation, axiom, sorry.
-/
import Derived.Test.YthjngodkpldpfaaGreatDoorRows
import GoSem.ClaimSeven
namespace Go.Proofs.YthjngodkpldpfaaGreatDoor
namespace Rows

/-- THE TIED CARD OF 'gafferlaw06.InterpSteps'. -/
def interpStepsCard : Claim7 := { stood := { row := interpStepsRow, standIns := [], harness := (true, "884ea2bdb5577a9576981f3423a081b200ed93420367fd7ca15920d3af906b20"), looks := true }, kinds := [], alts := [], laidByText := true, laidKinds := [.data, .data, .data], laidTests := true, laidLooks := .later }
def InterpStepsCardSaid : Prop := Claim7.holds Tryz.pinned (.plain (OpenSpec.ofChange interpStepsSpec)) interpStepsCard

/-- THE TIED CARD OF 'gafferlaw06.InterpWhole'. -/
def interpWholeCard : Claim7 := { stood := { row := interpWholeRow, standIns := [], harness := (true, "884ea2bdb5577a9576981f3423a081b200ed93420367fd7ca15920d3af906b20"), looks := true }, kinds := [], alts := [], laidByText := true, laidKinds := [.data, .data, .data], laidTests := true, laidLooks := .later }
def InterpWholeCardSaid : Prop := Claim7.holds Tryz.pinned (.plain (OpenSpec.ofChange interpWholeSpec)) interpWholeCard

/-- THE TIED CARD OF 'gafferlaw06.InterpEnds'. -/
def interpEndsCard : Claim7 := { stood := { row := interpEndsRow, standIns := [], harness := (true, "884ea2bdb5577a9576981f3423a081b200ed93420367fd7ca15920d3af906b20"), looks := true }, kinds := [], alts := [], laidByText := true, laidKinds := [.data, .data, .data], laidTests := true, laidLooks := .later }
def InterpEndsCardSaid : Prop := Claim7.holds Tryz.pinned (.plain (OpenSpec.ofChange interpEndsSpec)) interpEndsCard

/-- THE TIED CARD OF 'gafferlaw06.InterpFuel'. -/
def interpFuelCard : Claim7 := { stood := { row := interpFuelRow, standIns := [], harness := (true, "884ea2bdb5577a9576981f3423a081b200ed93420367fd7ca15920d3af906b20"), looks := true }, kinds := [], alts := [], laidByText := true, laidKinds := [.data, .data, .data], laidTests := true, laidLooks := .later }
def InterpFuelCardSaid : Prop := Claim7.holds Tryz.pinned (.plain (OpenSpec.ofChange interpFuelSpec)) interpFuelCard

/-- THE TIED CARD OF 'gafferlaw06.InterpStraight'. -/
def interpStraightCard : Claim7 := { stood := { row := interpStraightRow, standIns := [], harness := (true, "884ea2bdb5577a9576981f3423a081b200ed93420367fd7ca15920d3af906b20"), looks := true }, kinds := [], alts := [], laidByText := true, laidKinds := [.data, .data, .data], laidTests := true, laidLooks := .later }
def InterpStraightCardSaid : Prop := Claim7.holds Tryz.pinned (.plain (OpenSpec.ofChange interpStraightSpec)) interpStraightCard

/-- THE TIED CARD OF 'gafferlaw06.InterpSpare'. -/
def interpSpareCard : Claim7 := { stood := { row := interpSpareRow, standIns := [], harness := (true, "884ea2bdb5577a9576981f3423a081b200ed93420367fd7ca15920d3af906b20"), looks := true }, kinds := [], alts := [], laidByText := true, laidKinds := [.data, .data, .data], laidTests := true, laidLooks := .later }
def InterpSpareCardSaid : Prop := Claim7.holds Tryz.pinned (.plain (OpenSpec.ofChange interpSpareSpec)) interpSpareCard

/-- THE SECOND FORM's CARD OF 'gafferlaw06.InterpSteps'. -/
def interpStepsUptoCard : Claim7 := { stood := { row := interpStepsUptoRow, standIns := [], harness := (true, "884ea2bdb5577a9576981f3423a081b200ed93420367fd7ca15920d3af906b20"), looks := true }, kinds := [], alts := [], laidByText := true, laidKinds := [.data, .data, .data], laidTests := true, laidLooks := .later }
def InterpStepsUptoCardSaid : Prop := Claim7.holds Tryz.pinned (.plain (OpenSpec.upto interpStepsSpec)) interpStepsUptoCard

/-- THE SECOND FORM's CARD OF 'gafferlaw06.InterpWhole'. -/
def interpWholeUptoCard : Claim7 := { stood := { row := interpWholeUptoRow, standIns := [], harness := (true, "884ea2bdb5577a9576981f3423a081b200ed93420367fd7ca15920d3af906b20"), looks := true }, kinds := [], alts := [], laidByText := true, laidKinds := [.data, .data, .data], laidTests := true, laidLooks := .later }
def InterpWholeUptoCardSaid : Prop := Claim7.holds Tryz.pinned (.plain (OpenSpec.upto interpWholeSpec)) interpWholeUptoCard

/-- THE SECOND FORM's CARD OF 'gafferlaw06.InterpEnds'. -/
def interpEndsUptoCard : Claim7 := { stood := { row := interpEndsUptoRow, standIns := [], harness := (true, "884ea2bdb5577a9576981f3423a081b200ed93420367fd7ca15920d3af906b20"), looks := true }, kinds := [], alts := [], laidByText := true, laidKinds := [.data, .data, .data], laidTests := true, laidLooks := .later }
def InterpEndsUptoCardSaid : Prop := Claim7.holds Tryz.pinned (.plain (OpenSpec.upto interpEndsSpec)) interpEndsUptoCard

/-- THE SECOND FORM's CARD OF 'gafferlaw06.InterpFuel'. -/
def interpFuelUptoCard : Claim7 := { stood := { row := interpFuelUptoRow, standIns := [], harness := (true, "884ea2bdb5577a9576981f3423a081b200ed93420367fd7ca15920d3af906b20"), looks := true }, kinds := [], alts := [], laidByText := true, laidKinds := [.data, .data, .data], laidTests := true, laidLooks := .later }
def InterpFuelUptoCardSaid : Prop := Claim7.holds Tryz.pinned (.plain (OpenSpec.upto interpFuelSpec)) interpFuelUptoCard

/-- THE SECOND FORM's CARD OF 'gafferlaw06.InterpStraight'. -/
def interpStraightUptoCard : Claim7 := { stood := { row := interpStraightUptoRow, standIns := [], harness := (true, "884ea2bdb5577a9576981f3423a081b200ed93420367fd7ca15920d3af906b20"), looks := true }, kinds := [], alts := [], laidByText := true, laidKinds := [.data, .data, .data], laidTests := true, laidLooks := .later }
def InterpStraightUptoCardSaid : Prop := Claim7.holds Tryz.pinned (.plain (OpenSpec.upto interpStraightSpec)) interpStraightUptoCard

/-- THE SECOND FORM's CARD OF 'gafferlaw06.InterpSpare'. -/
def interpSpareUptoCard : Claim7 := { stood := { row := interpSpareUptoRow, standIns := [], harness := (true, "884ea2bdb5577a9576981f3423a081b200ed93420367fd7ca15920d3af906b20"), looks := true }, kinds := [], alts := [], laidByText := true, laidKinds := [.data, .data, .data], laidTests := true, laidLooks := .later }
def InterpSpareUptoCardSaid : Prop := Claim7.holds Tryz.pinned (.plain (OpenSpec.upto interpSpareSpec)) interpSpareUptoCard
end Rows
end Go.Proofs.YthjngodkpldpfaaGreatDoor
