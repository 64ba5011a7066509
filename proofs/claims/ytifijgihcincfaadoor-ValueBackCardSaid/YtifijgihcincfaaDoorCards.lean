/-
  DERIVED. GIVEN WITH THE SEED: THE CARDS: each row of YtifijgihcincfaaDoorRows.lean that lists a variable, with what it lists TIED to the program's text (the seventh form; the later family's looks); each row that meets fmt, with fmt's text TOLD by the authors' own Lean function (tested against real Go, not proved from fmt's source: count such statements apart). THE CARD IS WHAT COUNTS. Prove the row's statement (the work); the ties are given (YtifijgihcincfaaDoorTie.lean); close each card by the builder's one call (the guide's Derived/Test/ToyasCard.lean, 'card_holds'). Laid BY PROGRAM, IN A SANDBOX (cutbox-door.mjs). By AI agents, Wed Nov 11 2026. No macro, syntax, notation, axiom, sorry.
-/
import Derived.Test.YtifijgihcincfaaDoorRows
import GoSem.ClaimSeven
namespace Go.Proofs.YtifijgihcincfaaDoor
namespace Rows

/-- THE TIED CARD OF 'proofprogramslaw04.ReduceParts'. -/
def reducePartsCard : Claim7 := { stood := { row := reducePartsRow, standIns := [], harness := (true, "076ac87cfff3bd6aa716686823e8b839e4cde46063b44b43c9694a5e80368f32"), looks := false }, kinds := [], alts := [], laidByText := true, laidKinds := [.data], laidTests := true, laidLooks := .later }
def ReducePartsCardSaid : Prop := Claim7.holds Tryd.pinned (.plain (OpenSpec.ofChange reducePartsSpec)) reducePartsCard

/-- THE TIED CARD OF 'proofprogramslaw05.ValueBack'. -/
def valueBackCard : Claim7 := { stood := { row := valueBackRow, standIns := [], harness := (true, "076ac87cfff3bd6aa716686823e8b839e4cde46063b44b43c9694a5e80368f32"), looks := false }, kinds := [], alts := [], laidByText := true, laidKinds := [.data], laidTests := true, laidLooks := .later }
def ValueBackCardSaid : Prop := Claim7.holds Tryd.pinned (.plain (OpenSpec.ofChange valueBackSpec)) valueBackCard

/-- THE TIED CARD OF 'proofprogramslaw08.ClassContent'. -/
def classContentCard : Claim7 := { stood := { row := classContentRow, standIns := [], harness := (true, "076ac87cfff3bd6aa716686823e8b839e4cde46063b44b43c9694a5e80368f32"), looks := false }, kinds := [], alts := [], laidByText := true, laidKinds := [.data], laidTests := true, laidLooks := .later }
def ClassContentCardSaid : Prop := Claim7.holds Tryd.pinned (.plain (OpenSpec.ofChange classContentSpec)) classContentCard

/-- THE SECOND FORM's CARD OF 'proofprogramslaw04.ReduceParts'. -/
def reducePartsUptoCard : Claim7 := { stood := { row := reducePartsUptoRow, standIns := [], harness := (true, "076ac87cfff3bd6aa716686823e8b839e4cde46063b44b43c9694a5e80368f32"), looks := false }, kinds := [], alts := [], laidByText := true, laidKinds := [.data], laidTests := true, laidLooks := .later }
def ReducePartsUptoCardSaid : Prop := Claim7.holds Tryd.pinned (.plain (OpenSpec.upto reducePartsSpec)) reducePartsUptoCard

/-- THE SECOND FORM's CARD OF 'proofprogramslaw05.ValueBack'. -/
def valueBackUptoCard : Claim7 := { stood := { row := valueBackUptoRow, standIns := [], harness := (true, "076ac87cfff3bd6aa716686823e8b839e4cde46063b44b43c9694a5e80368f32"), looks := false }, kinds := [], alts := [], laidByText := true, laidKinds := [.data], laidTests := true, laidLooks := .later }
def ValueBackUptoCardSaid : Prop := Claim7.holds Tryd.pinned (.plain (OpenSpec.upto valueBackSpec)) valueBackUptoCard

/-- THE SECOND FORM's CARD OF 'proofprogramslaw08.ClassContent'. -/
def classContentUptoCard : Claim7 := { stood := { row := classContentUptoRow, standIns := [], harness := (true, "076ac87cfff3bd6aa716686823e8b839e4cde46063b44b43c9694a5e80368f32"), looks := false }, kinds := [], alts := [], laidByText := true, laidKinds := [.data], laidTests := true, laidLooks := .later }
def ClassContentUptoCardSaid : Prop := Claim7.holds Tryd.pinned (.plain (OpenSpec.upto classContentSpec)) classContentUptoCard
end Rows
end Go.Proofs.YtifijgihcincfaaDoor
