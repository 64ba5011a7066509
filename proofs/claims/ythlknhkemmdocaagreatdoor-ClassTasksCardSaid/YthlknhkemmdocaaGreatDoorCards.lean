/-
  DERIVED. GIVEN WITH THE SEED: THE CARDS: each row of YthlknhkemmdocaaGreatDoorRows.lean that lists a variable, with what it lists TIED to the program's text (the seventh form; the later family's looks); each row that meets fmt, with fmt's text TOLD by the authors' own Lean function (tested against real Go, not proved from fmt's source: count such statements apart). THE CARD IS WHAT COUNTS. Prove the row's statement (the work); the ties are given (YthlknhkemmdocaaGreatDoorTie.lean); close each card by the builder's one call (the guide's Derived/Test/ToyasCard.lean, 'card_holds'). Laid BY PROGRAM, IN A SANDBOX (cutbox-door.mjs). By AI agents, Wed Nov 11 2026. No macro, syntax, notation, axiom, sorry.
-/
import Derived.Test.YthlknhkemmdocaaGreatDoorRows
import GoSem.ClaimSeven
namespace Go.Proofs.YthlknhkemmdocaaGreatDoor
namespace Rows

/-- THE TIED CARD OF 'proofprogramslaw07.FormulaLifts'. -/
def formulaLiftsCard : Claim7 := { stood := { row := formulaLiftsRow, standIns := [], harness := (true, "52bdf08d583e53ee0533a7fc9de8c5eeeffa6ebea16915c24cbd7634e8d374eb"), looks := false }, kinds := [], alts := [], laidByText := true, laidKinds := [.data], laidTests := true, laidLooks := .later }
def FormulaLiftsCardSaid : Prop := Claim7.holds Tryz.pinned (.plain (OpenSpec.ofChange formulaLiftsSpec)) formulaLiftsCard

/-- THE TIED CARD OF 'proofprogramslaw08.ClassBounds'. -/
def classBoundsCard : Claim7 := { stood := { row := classBoundsRow, standIns := [], harness := (true, "52bdf08d583e53ee0533a7fc9de8c5eeeffa6ebea16915c24cbd7634e8d374eb"), looks := false }, kinds := [], alts := [], laidByText := true, laidKinds := [.data], laidTests := true, laidLooks := .later }
def ClassBoundsCardSaid : Prop := Claim7.holds Tryz.pinned (.plain (OpenSpec.ofChange classBoundsSpec)) classBoundsCard

/-- THE TIED CARD OF 'proofprogramslaw08.ClassStays'. -/
def classStaysCard : Claim7 := { stood := { row := classStaysRow, standIns := [], harness := (true, "52bdf08d583e53ee0533a7fc9de8c5eeeffa6ebea16915c24cbd7634e8d374eb"), looks := false }, kinds := [], alts := [], laidByText := true, laidKinds := [.data], laidTests := true, laidLooks := .later }
def ClassStaysCardSaid : Prop := Claim7.holds Tryz.pinned (.plain (OpenSpec.ofChange classStaysSpec)) classStaysCard

/-- THE TIED CARD OF 'proofprogramslaw08.ClassTasks'. -/
def classTasksCard : Claim7 := { stood := { row := classTasksRow, standIns := [], harness := (true, "52bdf08d583e53ee0533a7fc9de8c5eeeffa6ebea16915c24cbd7634e8d374eb"), looks := false }, kinds := [], alts := [], laidByText := true, laidKinds := [.data], laidTests := true, laidLooks := .later }
def ClassTasksCardSaid : Prop := Claim7.holds Tryz.pinned (.plain (OpenSpec.ofChange classTasksSpec)) classTasksCard

/-- THE SECOND FORM's CARD OF 'proofprogramslaw07.FormulaLifts'. -/
def formulaLiftsUptoCard : Claim7 := { stood := { row := formulaLiftsUptoRow, standIns := [], harness := (true, "52bdf08d583e53ee0533a7fc9de8c5eeeffa6ebea16915c24cbd7634e8d374eb"), looks := false }, kinds := [], alts := [], laidByText := true, laidKinds := [.data], laidTests := true, laidLooks := .later }
def FormulaLiftsUptoCardSaid : Prop := Claim7.holds Tryz.pinned (.plain (OpenSpec.upto formulaLiftsSpec)) formulaLiftsUptoCard

/-- THE SECOND FORM's CARD OF 'proofprogramslaw08.ClassBounds'. -/
def classBoundsUptoCard : Claim7 := { stood := { row := classBoundsUptoRow, standIns := [], harness := (true, "52bdf08d583e53ee0533a7fc9de8c5eeeffa6ebea16915c24cbd7634e8d374eb"), looks := false }, kinds := [], alts := [], laidByText := true, laidKinds := [.data], laidTests := true, laidLooks := .later }
def ClassBoundsUptoCardSaid : Prop := Claim7.holds Tryz.pinned (.plain (OpenSpec.upto classBoundsSpec)) classBoundsUptoCard

/-- THE SECOND FORM's CARD OF 'proofprogramslaw08.ClassStays'. -/
def classStaysUptoCard : Claim7 := { stood := { row := classStaysUptoRow, standIns := [], harness := (true, "52bdf08d583e53ee0533a7fc9de8c5eeeffa6ebea16915c24cbd7634e8d374eb"), looks := false }, kinds := [], alts := [], laidByText := true, laidKinds := [.data], laidTests := true, laidLooks := .later }
def ClassStaysUptoCardSaid : Prop := Claim7.holds Tryz.pinned (.plain (OpenSpec.upto classStaysSpec)) classStaysUptoCard

/-- THE SECOND FORM's CARD OF 'proofprogramslaw08.ClassTasks'. -/
def classTasksUptoCard : Claim7 := { stood := { row := classTasksUptoRow, standIns := [], harness := (true, "52bdf08d583e53ee0533a7fc9de8c5eeeffa6ebea16915c24cbd7634e8d374eb"), looks := false }, kinds := [], alts := [], laidByText := true, laidKinds := [.data], laidTests := true, laidLooks := .later }
def ClassTasksUptoCardSaid : Prop := Claim7.holds Tryz.pinned (.plain (OpenSpec.upto classTasksSpec)) classTasksUptoCard
end Rows
end Go.Proofs.YthlknhkemmdocaaGreatDoor
