/-
  DERIVED. GIVEN WITH THE SEED: THE CARDS: each row of YtdbkphgamkeboaaDoorRows.lean that lists a variable, with what it lists TIED to the program's text (the seventh form; the later family's looks); each row that meets fmt, with fmt's text TOLD by the authors' own Lean function (tested against real Go, not proved from fmt's source: count such statements apart). THE CARD IS WHAT COUNTS. Prove the row's statement (the work); the ties are given (YtdbkphgamkeboaaDoorTie.lean); close each card by the builder's one call (the guide's Derived/Test/ToyasCard.lean, 'card_holds'). Laid BY PROGRAM, IN A SANDBOX (cutbox-door.mjs). By AI agents, Wed Nov 11 2026. No macro, syntax, notation, axiom, sorry.
-/
import Derived.Test.YtdbkphgamkeboaaDoorRows
import GoSem.ClaimSeven
namespace Go.Proofs.YtdbkphgamkeboaaDoor
namespace Rows

/-- THE TIED CARD OF 'proofprogramslaw03.SubstTypes'. -/
def substTypesCard : Claim7 := { stood := { row := substTypesRow, standIns := [], harness := (true, "8540899280575b63b6a2218b8312df9bf0d3cd1f922fd8849d0cd9fb095e06f9"), looks := true }, kinds := [], alts := [], laidByText := true, laidKinds := [.data], laidTests := true, laidLooks := .later }
def SubstTypesCardSaid : Prop := Claim7.holds Tryd.pinned (.plain (OpenSpec.ofChange substTypesSpec)) substTypesCard

/-- THE TIED CARD OF 'proofprogramslaw03.SubstSizes'. -/
def substSizesCard : Claim7 := { stood := { row := substSizesRow, standIns := [], harness := (true, "8540899280575b63b6a2218b8312df9bf0d3cd1f922fd8849d0cd9fb095e06f9"), looks := true }, kinds := [], alts := [], laidByText := true, laidKinds := [.data], laidTests := true, laidLooks := .later }
def SubstSizesCardSaid : Prop := Claim7.holds Tryd.pinned (.plain (OpenSpec.ofChange substSizesSpec)) substSizesCard

/-- THE TIED CARD OF 'proofprogramslaw03.SubstLifts'. -/
def substLiftsCard : Claim7 := { stood := { row := substLiftsRow, standIns := [], harness := (true, "8540899280575b63b6a2218b8312df9bf0d3cd1f922fd8849d0cd9fb095e06f9"), looks := true }, kinds := [], alts := [], laidByText := true, laidKinds := [.data], laidTests := true, laidLooks := .later }
def SubstLiftsCardSaid : Prop := Claim7.holds Tryd.pinned (.plain (OpenSpec.ofChange substLiftsSpec)) substLiftsCard

/-- THE TIED CARD OF 'proofprogramslaw04.ReduceTypes'. -/
def reduceTypesCard : Claim7 := { stood := { row := reduceTypesRow, standIns := [], harness := (true, "8540899280575b63b6a2218b8312df9bf0d3cd1f922fd8849d0cd9fb095e06f9"), looks := true }, kinds := [], alts := [], laidByText := true, laidKinds := [.data], laidTests := true, laidLooks := .later }
def ReduceTypesCardSaid : Prop := Claim7.holds Tryd.pinned (.plain (OpenSpec.ofChange reduceTypesSpec)) reduceTypesCard

/-- THE TIED CARD OF 'proofprogramslaw04.ReduceCloses'. -/
def reduceClosesCard : Claim7 := { stood := { row := reduceClosesRow, standIns := [], harness := (true, "8540899280575b63b6a2218b8312df9bf0d3cd1f922fd8849d0cd9fb095e06f9"), looks := true }, kinds := [], alts := [], laidByText := true, laidKinds := [.data], laidTests := true, laidLooks := .later }
def ReduceClosesCardSaid : Prop := Claim7.holds Tryd.pinned (.plain (OpenSpec.ofChange reduceClosesSpec)) reduceClosesCard

/-- THE TIED CARD OF 'proofprogramslaw04.ReduceAdds'. -/
def reduceAddsCard : Claim7 := { stood := { row := reduceAddsRow, standIns := [], harness := (true, "8540899280575b63b6a2218b8312df9bf0d3cd1f922fd8849d0cd9fb095e06f9"), looks := true }, kinds := [], alts := [], laidByText := true, laidKinds := [.data], laidTests := true, laidLooks := .later }
def ReduceAddsCardSaid : Prop := Claim7.holds Tryd.pinned (.plain (OpenSpec.ofChange reduceAddsSpec)) reduceAddsCard

/-- THE TIED CARD OF 'proofprogramslaw04.ReduceParts'. -/
def reducePartsCard : Claim7 := { stood := { row := reducePartsRow, standIns := [], harness := (true, "8540899280575b63b6a2218b8312df9bf0d3cd1f922fd8849d0cd9fb095e06f9"), looks := true }, kinds := [], alts := [], laidByText := true, laidKinds := [.data], laidTests := true, laidLooks := .later }
def ReducePartsCardSaid : Prop := Claim7.holds Tryd.pinned (.plain (OpenSpec.ofChange reducePartsSpec)) reducePartsCard

/-- THE TIED CARD OF 'proofprogramslaw04.ReduceMatches'. -/
def reduceMatchesCard : Claim7 := { stood := { row := reduceMatchesRow, standIns := [], harness := (true, "8540899280575b63b6a2218b8312df9bf0d3cd1f922fd8849d0cd9fb095e06f9"), looks := true }, kinds := [], alts := [], laidByText := true, laidKinds := [.data], laidTests := true, laidLooks := .later }
def ReduceMatchesCardSaid : Prop := Claim7.holds Tryd.pinned (.plain (OpenSpec.ofChange reduceMatchesSpec)) reduceMatchesCard

/-- THE TIED CARD OF 'proofprogramslaw05.ValueBack'. -/
def valueBackCard : Claim7 := { stood := { row := valueBackRow, standIns := [], harness := (true, "8540899280575b63b6a2218b8312df9bf0d3cd1f922fd8849d0cd9fb095e06f9"), looks := true }, kinds := [], alts := [], laidByText := true, laidKinds := [.data], laidTests := true, laidLooks := .later }
def ValueBackCardSaid : Prop := Claim7.holds Tryd.pinned (.plain (OpenSpec.ofChange valueBackSpec)) valueBackCard

/-- THE TIED CARD OF 'proofprogramslaw06.MachineWork'. -/
def machineWorkCard : Claim7 := { stood := { row := machineWorkRow, standIns := [], harness := (true, "8540899280575b63b6a2218b8312df9bf0d3cd1f922fd8849d0cd9fb095e06f9"), looks := true }, kinds := [], alts := [], laidByText := true, laidKinds := [.data], laidTests := true, laidLooks := .later }
def MachineWorkCardSaid : Prop := Claim7.holds Tryd.pinned (.plain (OpenSpec.ofChange machineWorkSpec)) machineWorkCard

/-- THE TIED CARD OF 'proofprogramslaw06.MachineParts'. -/
def machinePartsCard : Claim7 := { stood := { row := machinePartsRow, standIns := [], harness := (true, "8540899280575b63b6a2218b8312df9bf0d3cd1f922fd8849d0cd9fb095e06f9"), looks := true }, kinds := [], alts := [], laidByText := true, laidKinds := [.data], laidTests := true, laidLooks := .later }
def MachinePartsCardSaid : Prop := Claim7.holds Tryd.pinned (.plain (OpenSpec.ofChange machinePartsSpec)) machinePartsCard

/-- THE TIED CARD OF 'proofprogramslaw06.MachineCalls'. -/
def machineCallsCard : Claim7 := { stood := { row := machineCallsRow, standIns := [], harness := (true, "8540899280575b63b6a2218b8312df9bf0d3cd1f922fd8849d0cd9fb095e06f9"), looks := true }, kinds := [], alts := [], laidByText := true, laidKinds := [.data], laidTests := true, laidLooks := .later }
def MachineCallsCardSaid : Prop := Claim7.holds Tryd.pinned (.plain (OpenSpec.ofChange machineCallsSpec)) machineCallsCard

/-- THE SECOND FORM's CARD OF 'proofprogramslaw03.SubstTypes'. -/
def substTypesUptoCard : Claim7 := { stood := { row := substTypesUptoRow, standIns := [], harness := (true, "8540899280575b63b6a2218b8312df9bf0d3cd1f922fd8849d0cd9fb095e06f9"), looks := true }, kinds := [], alts := [], laidByText := true, laidKinds := [.data], laidTests := true, laidLooks := .later }
def SubstTypesUptoCardSaid : Prop := Claim7.holds Tryd.pinned (.plain (OpenSpec.upto substTypesSpec)) substTypesUptoCard

/-- THE SECOND FORM's CARD OF 'proofprogramslaw03.SubstSizes'. -/
def substSizesUptoCard : Claim7 := { stood := { row := substSizesUptoRow, standIns := [], harness := (true, "8540899280575b63b6a2218b8312df9bf0d3cd1f922fd8849d0cd9fb095e06f9"), looks := true }, kinds := [], alts := [], laidByText := true, laidKinds := [.data], laidTests := true, laidLooks := .later }
def SubstSizesUptoCardSaid : Prop := Claim7.holds Tryd.pinned (.plain (OpenSpec.upto substSizesSpec)) substSizesUptoCard

/-- THE SECOND FORM's CARD OF 'proofprogramslaw03.SubstLifts'. -/
def substLiftsUptoCard : Claim7 := { stood := { row := substLiftsUptoRow, standIns := [], harness := (true, "8540899280575b63b6a2218b8312df9bf0d3cd1f922fd8849d0cd9fb095e06f9"), looks := true }, kinds := [], alts := [], laidByText := true, laidKinds := [.data], laidTests := true, laidLooks := .later }
def SubstLiftsUptoCardSaid : Prop := Claim7.holds Tryd.pinned (.plain (OpenSpec.upto substLiftsSpec)) substLiftsUptoCard

/-- THE SECOND FORM's CARD OF 'proofprogramslaw04.ReduceTypes'. -/
def reduceTypesUptoCard : Claim7 := { stood := { row := reduceTypesUptoRow, standIns := [], harness := (true, "8540899280575b63b6a2218b8312df9bf0d3cd1f922fd8849d0cd9fb095e06f9"), looks := true }, kinds := [], alts := [], laidByText := true, laidKinds := [.data], laidTests := true, laidLooks := .later }
def ReduceTypesUptoCardSaid : Prop := Claim7.holds Tryd.pinned (.plain (OpenSpec.upto reduceTypesSpec)) reduceTypesUptoCard

/-- THE SECOND FORM's CARD OF 'proofprogramslaw04.ReduceCloses'. -/
def reduceClosesUptoCard : Claim7 := { stood := { row := reduceClosesUptoRow, standIns := [], harness := (true, "8540899280575b63b6a2218b8312df9bf0d3cd1f922fd8849d0cd9fb095e06f9"), looks := true }, kinds := [], alts := [], laidByText := true, laidKinds := [.data], laidTests := true, laidLooks := .later }
def ReduceClosesUptoCardSaid : Prop := Claim7.holds Tryd.pinned (.plain (OpenSpec.upto reduceClosesSpec)) reduceClosesUptoCard

/-- THE SECOND FORM's CARD OF 'proofprogramslaw04.ReduceAdds'. -/
def reduceAddsUptoCard : Claim7 := { stood := { row := reduceAddsUptoRow, standIns := [], harness := (true, "8540899280575b63b6a2218b8312df9bf0d3cd1f922fd8849d0cd9fb095e06f9"), looks := true }, kinds := [], alts := [], laidByText := true, laidKinds := [.data], laidTests := true, laidLooks := .later }
def ReduceAddsUptoCardSaid : Prop := Claim7.holds Tryd.pinned (.plain (OpenSpec.upto reduceAddsSpec)) reduceAddsUptoCard

/-- THE SECOND FORM's CARD OF 'proofprogramslaw04.ReduceParts'. -/
def reducePartsUptoCard : Claim7 := { stood := { row := reducePartsUptoRow, standIns := [], harness := (true, "8540899280575b63b6a2218b8312df9bf0d3cd1f922fd8849d0cd9fb095e06f9"), looks := true }, kinds := [], alts := [], laidByText := true, laidKinds := [.data], laidTests := true, laidLooks := .later }
def ReducePartsUptoCardSaid : Prop := Claim7.holds Tryd.pinned (.plain (OpenSpec.upto reducePartsSpec)) reducePartsUptoCard

/-- THE SECOND FORM's CARD OF 'proofprogramslaw04.ReduceMatches'. -/
def reduceMatchesUptoCard : Claim7 := { stood := { row := reduceMatchesUptoRow, standIns := [], harness := (true, "8540899280575b63b6a2218b8312df9bf0d3cd1f922fd8849d0cd9fb095e06f9"), looks := true }, kinds := [], alts := [], laidByText := true, laidKinds := [.data], laidTests := true, laidLooks := .later }
def ReduceMatchesUptoCardSaid : Prop := Claim7.holds Tryd.pinned (.plain (OpenSpec.upto reduceMatchesSpec)) reduceMatchesUptoCard

/-- THE SECOND FORM's CARD OF 'proofprogramslaw05.ValueBack'. -/
def valueBackUptoCard : Claim7 := { stood := { row := valueBackUptoRow, standIns := [], harness := (true, "8540899280575b63b6a2218b8312df9bf0d3cd1f922fd8849d0cd9fb095e06f9"), looks := true }, kinds := [], alts := [], laidByText := true, laidKinds := [.data], laidTests := true, laidLooks := .later }
def ValueBackUptoCardSaid : Prop := Claim7.holds Tryd.pinned (.plain (OpenSpec.upto valueBackSpec)) valueBackUptoCard

/-- THE SECOND FORM's CARD OF 'proofprogramslaw06.MachineWork'. -/
def machineWorkUptoCard : Claim7 := { stood := { row := machineWorkUptoRow, standIns := [], harness := (true, "8540899280575b63b6a2218b8312df9bf0d3cd1f922fd8849d0cd9fb095e06f9"), looks := true }, kinds := [], alts := [], laidByText := true, laidKinds := [.data], laidTests := true, laidLooks := .later }
def MachineWorkUptoCardSaid : Prop := Claim7.holds Tryd.pinned (.plain (OpenSpec.upto machineWorkSpec)) machineWorkUptoCard

/-- THE SECOND FORM's CARD OF 'proofprogramslaw06.MachineParts'. -/
def machinePartsUptoCard : Claim7 := { stood := { row := machinePartsUptoRow, standIns := [], harness := (true, "8540899280575b63b6a2218b8312df9bf0d3cd1f922fd8849d0cd9fb095e06f9"), looks := true }, kinds := [], alts := [], laidByText := true, laidKinds := [.data], laidTests := true, laidLooks := .later }
def MachinePartsUptoCardSaid : Prop := Claim7.holds Tryd.pinned (.plain (OpenSpec.upto machinePartsSpec)) machinePartsUptoCard

/-- THE SECOND FORM's CARD OF 'proofprogramslaw06.MachineCalls'. -/
def machineCallsUptoCard : Claim7 := { stood := { row := machineCallsUptoRow, standIns := [], harness := (true, "8540899280575b63b6a2218b8312df9bf0d3cd1f922fd8849d0cd9fb095e06f9"), looks := true }, kinds := [], alts := [], laidByText := true, laidKinds := [.data], laidTests := true, laidLooks := .later }
def MachineCallsUptoCardSaid : Prop := Claim7.holds Tryd.pinned (.plain (OpenSpec.upto machineCallsSpec)) machineCallsUptoCard
end Rows
end Go.Proofs.YtdbkphgamkeboaaDoor
