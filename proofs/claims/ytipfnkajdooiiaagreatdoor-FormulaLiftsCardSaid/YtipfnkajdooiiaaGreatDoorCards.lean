/-
  DERIVED. GIVEN WITH THE SEED: THE CARDS: each row of YtipfnkajdooiiaaGreatDoorRows.lean that lists a variable, with what it lists TIED to the program's text (the seventh form; the later family's looks); each row that meets fmt, with fmt's text TOLD by the authors' own Lean function (tested against real Go, not proved from fmt's source: count such statements apart). THE CARD IS WHAT COUNTS. Prove the row's statement (the work); the ties are given (YtipfnkajdooiiaaGreatDoorTie.lean); close each card by the builder's one call (the guide's Derived/Test/ToyasCard.lean, 'card_holds'). Laid BY PROGRAM, IN A SANDBOX (cutbox-door.mjs). By AI agents, Wed Nov 11 2026. No macro, syntax, notation, axiom, sorry.
-/
import Derived.Test.YtipfnkajdooiiaaGreatDoorRows
import GoSem.ClaimSeven
namespace Go.Proofs.YtipfnkajdooiiaaGreatDoor
namespace Rows

/-- THE TIED CARD OF 'proofprogramslaw07.FormulaLifts'. -/
def formulaLiftsCard : Claim7 := { stood := { row := formulaLiftsRow, standIns := [], harness := (true, "e201c2e4532791fdeefbcf29245d8ff8ace3628339d0dad20668b4ebe9945d18"), looks := false }, kinds := [], alts := [], laidByText := true, laidKinds := [.data], laidTests := true, laidLooks := .later }
def FormulaLiftsCardSaid : Prop := Claim7.holds Tryz.pinned (.plain (OpenSpec.ofChange formulaLiftsSpec)) formulaLiftsCard

/-- THE TIED CARD OF 'proofprogramslaw08.ClassBounds'. -/
def classBoundsCard : Claim7 := { stood := { row := classBoundsRow, standIns := [], harness := (true, "e201c2e4532791fdeefbcf29245d8ff8ace3628339d0dad20668b4ebe9945d18"), looks := false }, kinds := [], alts := [], laidByText := true, laidKinds := [.data], laidTests := true, laidLooks := .later }
def ClassBoundsCardSaid : Prop := Claim7.holds Tryz.pinned (.plain (OpenSpec.ofChange classBoundsSpec)) classBoundsCard

/-- THE TIED CARD OF 'proofprogramslaw08.ClassStays'. -/
def classStaysCard : Claim7 := { stood := { row := classStaysRow, standIns := [], harness := (true, "e201c2e4532791fdeefbcf29245d8ff8ace3628339d0dad20668b4ebe9945d18"), looks := false }, kinds := [], alts := [], laidByText := true, laidKinds := [.data], laidTests := true, laidLooks := .later }
def ClassStaysCardSaid : Prop := Claim7.holds Tryz.pinned (.plain (OpenSpec.ofChange classStaysSpec)) classStaysCard

/-- THE TIED CARD OF 'proofprogramslaw10.ProofLifts'. -/
def proofLiftsCard : Claim7 := { stood := { row := proofLiftsRow, standIns := [], harness := (true, "e201c2e4532791fdeefbcf29245d8ff8ace3628339d0dad20668b4ebe9945d18"), looks := false }, kinds := [], alts := [], laidByText := true, laidKinds := [.data, .data], laidTests := true, laidLooks := .later }
def ProofLiftsCardSaid : Prop := Claim7.holds Tryz.pinned (.plain (OpenSpec.ofChange proofLiftsSpec)) proofLiftsCard

/-- THE TIED CARD OF 'proofprogramslaw10.ProofKeeps'. -/
def proofKeepsCard : Claim7 := { stood := { row := proofKeepsRow, standIns := [], harness := (true, "e201c2e4532791fdeefbcf29245d8ff8ace3628339d0dad20668b4ebe9945d18"), looks := false }, kinds := [], alts := [], laidByText := true, laidKinds := [.data, .data], laidTests := true, laidLooks := .later }
def ProofKeepsCardSaid : Prop := Claim7.holds Tryz.pinned (.plain (OpenSpec.ofChange proofKeepsSpec)) proofKeepsCard

/-- THE SECOND FORM's CARD OF 'proofprogramslaw07.FormulaLifts'. -/
def formulaLiftsUptoCard : Claim7 := { stood := { row := formulaLiftsUptoRow, standIns := [], harness := (true, "e201c2e4532791fdeefbcf29245d8ff8ace3628339d0dad20668b4ebe9945d18"), looks := false }, kinds := [], alts := [], laidByText := true, laidKinds := [.data], laidTests := true, laidLooks := .later }
def FormulaLiftsUptoCardSaid : Prop := Claim7.holds Tryz.pinned (.plain (OpenSpec.upto formulaLiftsSpec)) formulaLiftsUptoCard

/-- THE SECOND FORM's CARD OF 'proofprogramslaw08.ClassBounds'. -/
def classBoundsUptoCard : Claim7 := { stood := { row := classBoundsUptoRow, standIns := [], harness := (true, "e201c2e4532791fdeefbcf29245d8ff8ace3628339d0dad20668b4ebe9945d18"), looks := false }, kinds := [], alts := [], laidByText := true, laidKinds := [.data], laidTests := true, laidLooks := .later }
def ClassBoundsUptoCardSaid : Prop := Claim7.holds Tryz.pinned (.plain (OpenSpec.upto classBoundsSpec)) classBoundsUptoCard

/-- THE SECOND FORM's CARD OF 'proofprogramslaw08.ClassStays'. -/
def classStaysUptoCard : Claim7 := { stood := { row := classStaysUptoRow, standIns := [], harness := (true, "e201c2e4532791fdeefbcf29245d8ff8ace3628339d0dad20668b4ebe9945d18"), looks := false }, kinds := [], alts := [], laidByText := true, laidKinds := [.data], laidTests := true, laidLooks := .later }
def ClassStaysUptoCardSaid : Prop := Claim7.holds Tryz.pinned (.plain (OpenSpec.upto classStaysSpec)) classStaysUptoCard

/-- THE SECOND FORM's CARD OF 'proofprogramslaw10.ProofLifts'. -/
def proofLiftsUptoCard : Claim7 := { stood := { row := proofLiftsUptoRow, standIns := [], harness := (true, "e201c2e4532791fdeefbcf29245d8ff8ace3628339d0dad20668b4ebe9945d18"), looks := false }, kinds := [], alts := [], laidByText := true, laidKinds := [.data, .data], laidTests := true, laidLooks := .later }
def ProofLiftsUptoCardSaid : Prop := Claim7.holds Tryz.pinned (.plain (OpenSpec.upto proofLiftsSpec)) proofLiftsUptoCard

/-- THE SECOND FORM's CARD OF 'proofprogramslaw10.ProofKeeps'. -/
def proofKeepsUptoCard : Claim7 := { stood := { row := proofKeepsUptoRow, standIns := [], harness := (true, "e201c2e4532791fdeefbcf29245d8ff8ace3628339d0dad20668b4ebe9945d18"), looks := false }, kinds := [], alts := [], laidByText := true, laidKinds := [.data, .data], laidTests := true, laidLooks := .later }
def ProofKeepsUptoCardSaid : Prop := Claim7.holds Tryz.pinned (.plain (OpenSpec.upto proofKeepsSpec)) proofKeepsUptoCard
end Rows
end Go.Proofs.YtipfnkajdooiiaaGreatDoor
