/-
  DERIVED. GIVEN WITH THE SEED: THE CARDS: each row of YtdhidofmojaheaaDoorRows.lean that lists a variable, with what it lists TIED to the program's text (the seventh form; the later family's looks); each row that meets fmt, with fmt's text TOLD by the authors' own Lean function (tested against real Go, not proved from fmt's source: count such statements apart). THE CARD IS WHAT COUNTS. Prove the row's statement (the work); the ties are given (YtdhidofmojaheaaDoorTie.lean); close each card by the builder's one call (the guide's Derived/Test/ToyasCard.lean, 'card_holds'). Laid BY PROGRAM, IN A SANDBOX (cutbox-door.mjs). By AI agents, Wed Nov 11 2026. No macro, syntax, notation, axiom, sorry.
-/
import Derived.Test.YtdhidofmojaheaaDoorRows
import GoSem.ClaimSeven
namespace Go.Proofs.YtdhidofmojaheaaDoor
namespace Rows

/-- THE TIED CARD OF 'proofprogramslaw04.ReduceMatches'. -/
def reduceMatchesCard : Claim7 := { stood := { row := reduceMatchesRow, standIns := [], harness := (true, "bfd6f31158545f6054bf02a6f91d4599df19ad0d88362e086ec085dbad8fd174"), looks := false }, kinds := [], alts := [], laidByText := true, laidKinds := [.data], laidTests := true, laidLooks := .later }
def ReduceMatchesCardSaid : Prop := Claim7.holds Tryd.pinned (.plain (OpenSpec.ofChange reduceMatchesSpec)) reduceMatchesCard

/-- THE TIED CARD OF 'proofprogramslaw04.ReduceParts'. -/
def reducePartsCard : Claim7 := { stood := { row := reducePartsRow, standIns := [], harness := (true, "bfd6f31158545f6054bf02a6f91d4599df19ad0d88362e086ec085dbad8fd174"), looks := false }, kinds := [], alts := [], laidByText := true, laidKinds := [.data], laidTests := true, laidLooks := .later }
def ReducePartsCardSaid : Prop := Claim7.holds Tryd.pinned (.plain (OpenSpec.ofChange reducePartsSpec)) reducePartsCard

/-- THE TIED CARD OF 'proofprogramslaw04.ReduceTypes'. -/
def reduceTypesCard : Claim7 := { stood := { row := reduceTypesRow, standIns := [], harness := (true, "bfd6f31158545f6054bf02a6f91d4599df19ad0d88362e086ec085dbad8fd174"), looks := false }, kinds := [], alts := [], laidByText := true, laidKinds := [.data], laidTests := true, laidLooks := .later }
def ReduceTypesCardSaid : Prop := Claim7.holds Tryd.pinned (.plain (OpenSpec.ofChange reduceTypesSpec)) reduceTypesCard

/-- THE TIED CARD OF 'proofprogramslaw04.ReduceUnique'. -/
def reduceUniqueCard : Claim7 := { stood := { row := reduceUniqueRow, standIns := [], harness := (true, "bfd6f31158545f6054bf02a6f91d4599df19ad0d88362e086ec085dbad8fd174"), looks := false }, kinds := [], alts := [], laidByText := true, laidKinds := [.data], laidTests := true, laidLooks := .later }
def ReduceUniqueCardSaid : Prop := Claim7.holds Tryd.pinned (.plain (OpenSpec.ofChange reduceUniqueSpec)) reduceUniqueCard

/-- THE TIED CARD OF 'proofprogramslaw03.SubstLifts'. -/
def substLiftsCard : Claim7 := { stood := { row := substLiftsRow, standIns := [], harness := (true, "bfd6f31158545f6054bf02a6f91d4599df19ad0d88362e086ec085dbad8fd174"), looks := false }, kinds := [], alts := [], laidByText := true, laidKinds := [.data], laidTests := true, laidLooks := .later }
def SubstLiftsCardSaid : Prop := Claim7.holds Tryd.pinned (.plain (OpenSpec.ofChange substLiftsSpec)) substLiftsCard

/-- THE TIED CARD OF 'proofprogramslaw03.SubstSizes'. -/
def substSizesCard : Claim7 := { stood := { row := substSizesRow, standIns := [], harness := (true, "bfd6f31158545f6054bf02a6f91d4599df19ad0d88362e086ec085dbad8fd174"), looks := false }, kinds := [], alts := [], laidByText := true, laidKinds := [.data], laidTests := true, laidLooks := .later }
def SubstSizesCardSaid : Prop := Claim7.holds Tryd.pinned (.plain (OpenSpec.ofChange substSizesSpec)) substSizesCard

/-- THE TIED CARD OF 'proofprogramslaw05.ValueBack'. -/
def valueBackCard : Claim7 := { stood := { row := valueBackRow, standIns := [], harness := (true, "bfd6f31158545f6054bf02a6f91d4599df19ad0d88362e086ec085dbad8fd174"), looks := false }, kinds := [], alts := [], laidByText := true, laidKinds := [.data], laidTests := true, laidLooks := .later }
def ValueBackCardSaid : Prop := Claim7.holds Tryd.pinned (.plain (OpenSpec.ofChange valueBackSpec)) valueBackCard

/-- THE SECOND FORM's CARD OF 'proofprogramslaw04.ReduceMatches'. -/
def reduceMatchesUptoCard : Claim7 := { stood := { row := reduceMatchesUptoRow, standIns := [], harness := (true, "bfd6f31158545f6054bf02a6f91d4599df19ad0d88362e086ec085dbad8fd174"), looks := false }, kinds := [], alts := [], laidByText := true, laidKinds := [.data], laidTests := true, laidLooks := .later }
def ReduceMatchesUptoCardSaid : Prop := Claim7.holds Tryd.pinned (.plain (OpenSpec.upto reduceMatchesSpec)) reduceMatchesUptoCard

/-- THE SECOND FORM's CARD OF 'proofprogramslaw04.ReduceParts'. -/
def reducePartsUptoCard : Claim7 := { stood := { row := reducePartsUptoRow, standIns := [], harness := (true, "bfd6f31158545f6054bf02a6f91d4599df19ad0d88362e086ec085dbad8fd174"), looks := false }, kinds := [], alts := [], laidByText := true, laidKinds := [.data], laidTests := true, laidLooks := .later }
def ReducePartsUptoCardSaid : Prop := Claim7.holds Tryd.pinned (.plain (OpenSpec.upto reducePartsSpec)) reducePartsUptoCard

/-- THE SECOND FORM's CARD OF 'proofprogramslaw04.ReduceTypes'. -/
def reduceTypesUptoCard : Claim7 := { stood := { row := reduceTypesUptoRow, standIns := [], harness := (true, "bfd6f31158545f6054bf02a6f91d4599df19ad0d88362e086ec085dbad8fd174"), looks := false }, kinds := [], alts := [], laidByText := true, laidKinds := [.data], laidTests := true, laidLooks := .later }
def ReduceTypesUptoCardSaid : Prop := Claim7.holds Tryd.pinned (.plain (OpenSpec.upto reduceTypesSpec)) reduceTypesUptoCard

/-- THE SECOND FORM's CARD OF 'proofprogramslaw04.ReduceUnique'. -/
def reduceUniqueUptoCard : Claim7 := { stood := { row := reduceUniqueUptoRow, standIns := [], harness := (true, "bfd6f31158545f6054bf02a6f91d4599df19ad0d88362e086ec085dbad8fd174"), looks := false }, kinds := [], alts := [], laidByText := true, laidKinds := [.data], laidTests := true, laidLooks := .later }
def ReduceUniqueUptoCardSaid : Prop := Claim7.holds Tryd.pinned (.plain (OpenSpec.upto reduceUniqueSpec)) reduceUniqueUptoCard

/-- THE SECOND FORM's CARD OF 'proofprogramslaw03.SubstLifts'. -/
def substLiftsUptoCard : Claim7 := { stood := { row := substLiftsUptoRow, standIns := [], harness := (true, "bfd6f31158545f6054bf02a6f91d4599df19ad0d88362e086ec085dbad8fd174"), looks := false }, kinds := [], alts := [], laidByText := true, laidKinds := [.data], laidTests := true, laidLooks := .later }
def SubstLiftsUptoCardSaid : Prop := Claim7.holds Tryd.pinned (.plain (OpenSpec.upto substLiftsSpec)) substLiftsUptoCard

/-- THE SECOND FORM's CARD OF 'proofprogramslaw03.SubstSizes'. -/
def substSizesUptoCard : Claim7 := { stood := { row := substSizesUptoRow, standIns := [], harness := (true, "bfd6f31158545f6054bf02a6f91d4599df19ad0d88362e086ec085dbad8fd174"), looks := false }, kinds := [], alts := [], laidByText := true, laidKinds := [.data], laidTests := true, laidLooks := .later }
def SubstSizesUptoCardSaid : Prop := Claim7.holds Tryd.pinned (.plain (OpenSpec.upto substSizesSpec)) substSizesUptoCard

/-- THE SECOND FORM's CARD OF 'proofprogramslaw05.ValueBack'. -/
def valueBackUptoCard : Claim7 := { stood := { row := valueBackUptoRow, standIns := [], harness := (true, "bfd6f31158545f6054bf02a6f91d4599df19ad0d88362e086ec085dbad8fd174"), looks := false }, kinds := [], alts := [], laidByText := true, laidKinds := [.data], laidTests := true, laidLooks := .later }
def ValueBackUptoCardSaid : Prop := Claim7.holds Tryd.pinned (.plain (OpenSpec.upto valueBackSpec)) valueBackUptoCard
end Rows
end Go.Proofs.YtdhidofmojaheaaDoor
