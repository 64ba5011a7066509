/-
  DERIVED. GIVEN WITH THE SEED: THE CARDS: each row of YtieafbmabnohhaaDoorRows.lean that lists a variable, with what it lists TIED to the program's text (the seventh form; the later family's looks); each row that meets fmt, with fmt's text TOLD by the authors' own Lean function (tested against real Go, not proved from fmt's source: count such statements apart). THE CARD IS WHAT COUNTS. Prove the row's statement (the work); the ties are given (YtieafbmabnohhaaDoorTie.lean); close each card by the builder's one call (the guide's Derived/Test/ToyasCard.lean, 'card_holds'). Laid BY PROGRAM, IN A SANDBOX (cutbox-door.mjs). By AI agents, Wed Nov 11 2026. No macro, syntax, notation, axiom, sorry.
-/
import Derived.Test.YtieafbmabnohhaaDoorRows
import GoSem.ClaimSeven
namespace Go.Proofs.YtieafbmabnohhaaDoor
namespace Rows

/-- THE TIED CARD OF 'proofprogramslaw02.TermsRefused'. -/
def termsRefusedCard : Claim7 := { stood := { row := termsRefusedRow, standIns := [], harness := (true, "830da47e31bf4c741dbdd31a8fd1d07d2a99626f3af4954c35b147d16bc409ff"), looks := false }, kinds := [], alts := [], laidByText := true, laidKinds := [.data], laidTests := true, laidLooks := .later }
def TermsRefusedCardSaid : Prop := Claim7.holds Tryd.pinned (.plain (OpenSpec.ofChange termsRefusedSpec)) termsRefusedCard

/-- THE TIED CARD OF 'proofprogramslaw03.SubstTypes'. -/
def substTypesCard : Claim7 := { stood := { row := substTypesRow, standIns := [], harness := (true, "830da47e31bf4c741dbdd31a8fd1d07d2a99626f3af4954c35b147d16bc409ff"), looks := false }, kinds := [], alts := [], laidByText := true, laidKinds := [.data], laidTests := true, laidLooks := .later }
def SubstTypesCardSaid : Prop := Claim7.holds Tryd.pinned (.plain (OpenSpec.ofChange substTypesSpec)) substTypesCard

/-- THE TIED CARD OF 'proofprogramslaw03.SubstSizes'. -/
def substSizesCard : Claim7 := { stood := { row := substSizesRow, standIns := [], harness := (true, "830da47e31bf4c741dbdd31a8fd1d07d2a99626f3af4954c35b147d16bc409ff"), looks := false }, kinds := [], alts := [], laidByText := true, laidKinds := [.data], laidTests := true, laidLooks := .later }
def SubstSizesCardSaid : Prop := Claim7.holds Tryd.pinned (.plain (OpenSpec.ofChange substSizesSpec)) substSizesCard

/-- THE TIED CARD OF 'proofprogramslaw03.SubstLifts'. -/
def substLiftsCard : Claim7 := { stood := { row := substLiftsRow, standIns := [], harness := (true, "830da47e31bf4c741dbdd31a8fd1d07d2a99626f3af4954c35b147d16bc409ff"), looks := false }, kinds := [], alts := [], laidByText := true, laidKinds := [.data], laidTests := true, laidLooks := .later }
def SubstLiftsCardSaid : Prop := Claim7.holds Tryd.pinned (.plain (OpenSpec.ofChange substLiftsSpec)) substLiftsCard

/-- THE TIED CARD OF 'proofprogramslaw04.ReduceTypes'. -/
def reduceTypesCard : Claim7 := { stood := { row := reduceTypesRow, standIns := [], harness := (true, "830da47e31bf4c741dbdd31a8fd1d07d2a99626f3af4954c35b147d16bc409ff"), looks := false }, kinds := [], alts := [], laidByText := true, laidKinds := [.data], laidTests := true, laidLooks := .later }
def ReduceTypesCardSaid : Prop := Claim7.holds Tryd.pinned (.plain (OpenSpec.ofChange reduceTypesSpec)) reduceTypesCard

/-- THE TIED CARD OF 'proofprogramslaw04.ReduceUnique'. -/
def reduceUniqueCard : Claim7 := { stood := { row := reduceUniqueRow, standIns := [], harness := (true, "830da47e31bf4c741dbdd31a8fd1d07d2a99626f3af4954c35b147d16bc409ff"), looks := false }, kinds := [], alts := [], laidByText := true, laidKinds := [.data], laidTests := true, laidLooks := .later }
def ReduceUniqueCardSaid : Prop := Claim7.holds Tryd.pinned (.plain (OpenSpec.ofChange reduceUniqueSpec)) reduceUniqueCard

/-- THE TIED CARD OF 'proofprogramslaw04.ReduceCloses'. -/
def reduceClosesCard : Claim7 := { stood := { row := reduceClosesRow, standIns := [], harness := (true, "830da47e31bf4c741dbdd31a8fd1d07d2a99626f3af4954c35b147d16bc409ff"), looks := false }, kinds := [], alts := [], laidByText := true, laidKinds := [.data], laidTests := true, laidLooks := .later }
def ReduceClosesCardSaid : Prop := Claim7.holds Tryd.pinned (.plain (OpenSpec.ofChange reduceClosesSpec)) reduceClosesCard

/-- THE TIED CARD OF 'proofprogramslaw04.ReduceAdds'. -/
def reduceAddsCard : Claim7 := { stood := { row := reduceAddsRow, standIns := [], harness := (true, "830da47e31bf4c741dbdd31a8fd1d07d2a99626f3af4954c35b147d16bc409ff"), looks := false }, kinds := [], alts := [], laidByText := true, laidKinds := [.data], laidTests := true, laidLooks := .later }
def ReduceAddsCardSaid : Prop := Claim7.holds Tryd.pinned (.plain (OpenSpec.ofChange reduceAddsSpec)) reduceAddsCard

/-- THE TIED CARD OF 'proofprogramslaw04.ReduceParts'. -/
def reducePartsCard : Claim7 := { stood := { row := reducePartsRow, standIns := [], harness := (true, "830da47e31bf4c741dbdd31a8fd1d07d2a99626f3af4954c35b147d16bc409ff"), looks := false }, kinds := [], alts := [], laidByText := true, laidKinds := [.data], laidTests := true, laidLooks := .later }
def ReducePartsCardSaid : Prop := Claim7.holds Tryd.pinned (.plain (OpenSpec.ofChange reducePartsSpec)) reducePartsCard

/-- THE TIED CARD OF 'proofprogramslaw04.ReduceMatches'. -/
def reduceMatchesCard : Claim7 := { stood := { row := reduceMatchesRow, standIns := [], harness := (true, "830da47e31bf4c741dbdd31a8fd1d07d2a99626f3af4954c35b147d16bc409ff"), looks := false }, kinds := [], alts := [], laidByText := true, laidKinds := [.data], laidTests := true, laidLooks := .later }
def ReduceMatchesCardSaid : Prop := Claim7.holds Tryd.pinned (.plain (OpenSpec.ofChange reduceMatchesSpec)) reduceMatchesCard

/-- THE TIED CARD OF 'proofprogramslaw05.ValueBack'. -/
def valueBackCard : Claim7 := { stood := { row := valueBackRow, standIns := [], harness := (true, "830da47e31bf4c741dbdd31a8fd1d07d2a99626f3af4954c35b147d16bc409ff"), looks := false }, kinds := [], alts := [], laidByText := true, laidKinds := [.data], laidTests := true, laidLooks := .later }
def ValueBackCardSaid : Prop := Claim7.holds Tryd.pinned (.plain (OpenSpec.ofChange valueBackSpec)) valueBackCard

/-- THE SECOND FORM's CARD OF 'proofprogramslaw02.TermsRefused'. -/
def termsRefusedUptoCard : Claim7 := { stood := { row := termsRefusedUptoRow, standIns := [], harness := (true, "830da47e31bf4c741dbdd31a8fd1d07d2a99626f3af4954c35b147d16bc409ff"), looks := false }, kinds := [], alts := [], laidByText := true, laidKinds := [.data], laidTests := true, laidLooks := .later }
def TermsRefusedUptoCardSaid : Prop := Claim7.holds Tryd.pinned (.plain (OpenSpec.upto termsRefusedSpec)) termsRefusedUptoCard

/-- THE SECOND FORM's CARD OF 'proofprogramslaw03.SubstTypes'. -/
def substTypesUptoCard : Claim7 := { stood := { row := substTypesUptoRow, standIns := [], harness := (true, "830da47e31bf4c741dbdd31a8fd1d07d2a99626f3af4954c35b147d16bc409ff"), looks := false }, kinds := [], alts := [], laidByText := true, laidKinds := [.data], laidTests := true, laidLooks := .later }
def SubstTypesUptoCardSaid : Prop := Claim7.holds Tryd.pinned (.plain (OpenSpec.upto substTypesSpec)) substTypesUptoCard

/-- THE SECOND FORM's CARD OF 'proofprogramslaw03.SubstSizes'. -/
def substSizesUptoCard : Claim7 := { stood := { row := substSizesUptoRow, standIns := [], harness := (true, "830da47e31bf4c741dbdd31a8fd1d07d2a99626f3af4954c35b147d16bc409ff"), looks := false }, kinds := [], alts := [], laidByText := true, laidKinds := [.data], laidTests := true, laidLooks := .later }
def SubstSizesUptoCardSaid : Prop := Claim7.holds Tryd.pinned (.plain (OpenSpec.upto substSizesSpec)) substSizesUptoCard

/-- THE SECOND FORM's CARD OF 'proofprogramslaw03.SubstLifts'. -/
def substLiftsUptoCard : Claim7 := { stood := { row := substLiftsUptoRow, standIns := [], harness := (true, "830da47e31bf4c741dbdd31a8fd1d07d2a99626f3af4954c35b147d16bc409ff"), looks := false }, kinds := [], alts := [], laidByText := true, laidKinds := [.data], laidTests := true, laidLooks := .later }
def SubstLiftsUptoCardSaid : Prop := Claim7.holds Tryd.pinned (.plain (OpenSpec.upto substLiftsSpec)) substLiftsUptoCard

/-- THE SECOND FORM's CARD OF 'proofprogramslaw04.ReduceTypes'. -/
def reduceTypesUptoCard : Claim7 := { stood := { row := reduceTypesUptoRow, standIns := [], harness := (true, "830da47e31bf4c741dbdd31a8fd1d07d2a99626f3af4954c35b147d16bc409ff"), looks := false }, kinds := [], alts := [], laidByText := true, laidKinds := [.data], laidTests := true, laidLooks := .later }
def ReduceTypesUptoCardSaid : Prop := Claim7.holds Tryd.pinned (.plain (OpenSpec.upto reduceTypesSpec)) reduceTypesUptoCard

/-- THE SECOND FORM's CARD OF 'proofprogramslaw04.ReduceUnique'. -/
def reduceUniqueUptoCard : Claim7 := { stood := { row := reduceUniqueUptoRow, standIns := [], harness := (true, "830da47e31bf4c741dbdd31a8fd1d07d2a99626f3af4954c35b147d16bc409ff"), looks := false }, kinds := [], alts := [], laidByText := true, laidKinds := [.data], laidTests := true, laidLooks := .later }
def ReduceUniqueUptoCardSaid : Prop := Claim7.holds Tryd.pinned (.plain (OpenSpec.upto reduceUniqueSpec)) reduceUniqueUptoCard

/-- THE SECOND FORM's CARD OF 'proofprogramslaw04.ReduceCloses'. -/
def reduceClosesUptoCard : Claim7 := { stood := { row := reduceClosesUptoRow, standIns := [], harness := (true, "830da47e31bf4c741dbdd31a8fd1d07d2a99626f3af4954c35b147d16bc409ff"), looks := false }, kinds := [], alts := [], laidByText := true, laidKinds := [.data], laidTests := true, laidLooks := .later }
def ReduceClosesUptoCardSaid : Prop := Claim7.holds Tryd.pinned (.plain (OpenSpec.upto reduceClosesSpec)) reduceClosesUptoCard

/-- THE SECOND FORM's CARD OF 'proofprogramslaw04.ReduceAdds'. -/
def reduceAddsUptoCard : Claim7 := { stood := { row := reduceAddsUptoRow, standIns := [], harness := (true, "830da47e31bf4c741dbdd31a8fd1d07d2a99626f3af4954c35b147d16bc409ff"), looks := false }, kinds := [], alts := [], laidByText := true, laidKinds := [.data], laidTests := true, laidLooks := .later }
def ReduceAddsUptoCardSaid : Prop := Claim7.holds Tryd.pinned (.plain (OpenSpec.upto reduceAddsSpec)) reduceAddsUptoCard

/-- THE SECOND FORM's CARD OF 'proofprogramslaw04.ReduceParts'. -/
def reducePartsUptoCard : Claim7 := { stood := { row := reducePartsUptoRow, standIns := [], harness := (true, "830da47e31bf4c741dbdd31a8fd1d07d2a99626f3af4954c35b147d16bc409ff"), looks := false }, kinds := [], alts := [], laidByText := true, laidKinds := [.data], laidTests := true, laidLooks := .later }
def ReducePartsUptoCardSaid : Prop := Claim7.holds Tryd.pinned (.plain (OpenSpec.upto reducePartsSpec)) reducePartsUptoCard

/-- THE SECOND FORM's CARD OF 'proofprogramslaw04.ReduceMatches'. -/
def reduceMatchesUptoCard : Claim7 := { stood := { row := reduceMatchesUptoRow, standIns := [], harness := (true, "830da47e31bf4c741dbdd31a8fd1d07d2a99626f3af4954c35b147d16bc409ff"), looks := false }, kinds := [], alts := [], laidByText := true, laidKinds := [.data], laidTests := true, laidLooks := .later }
def ReduceMatchesUptoCardSaid : Prop := Claim7.holds Tryd.pinned (.plain (OpenSpec.upto reduceMatchesSpec)) reduceMatchesUptoCard

/-- THE SECOND FORM's CARD OF 'proofprogramslaw05.ValueBack'. -/
def valueBackUptoCard : Claim7 := { stood := { row := valueBackUptoRow, standIns := [], harness := (true, "830da47e31bf4c741dbdd31a8fd1d07d2a99626f3af4954c35b147d16bc409ff"), looks := false }, kinds := [], alts := [], laidByText := true, laidKinds := [.data], laidTests := true, laidLooks := .later }
def ValueBackUptoCardSaid : Prop := Claim7.holds Tryd.pinned (.plain (OpenSpec.upto valueBackSpec)) valueBackUptoCard
end Rows
end Go.Proofs.YtieafbmabnohhaaDoor
