/-
  NARROWER THAN 'FOR EVERY INPUT', by the rows' own cells (each row's printed sentence says how): FormulaLifts: laid · ClassBounds: laid · ClassStays: laid · ProofLifts: laid · ProofKeeps: laid.
  DERIVED. THE GIVEN ROWS OF THIS SEAT. 5 by the template 'for every input the law returns true; each argument reads behind the call as it read before'; 0 by the template 'total and deterministic' (their statements: YtipfnkajdooiiaaGreatDoorTotals.lean).
  GIVEN WITH THE SEED: the statements are not yours to turn. If you find one false, say at which input.
  Laid BY PROGRAM, IN A SANDBOX (cutbox-rows.mjs): the forced cells as the released guide's own fill.sh prints them over the translation 6ca93f627773bfef… (all of the seat's roots in one cut). By AI agents, Wed Nov 11 2026. No macro, syntax, notation, axiom, sorry.
-/
import Derived.Test.YtipfnkajdooiiaaGreatDoorChecked
import GoSem.Claim
import GoSem.ClaimJoined
import GoSem.ClaimMapViews
import Derived.JoinedTies
import Derived.KernelRfl
namespace Go.Proofs.YtipfnkajdooiiaaGreatDoor
/- THE CELL 'sum', in the pinned program and in every row, IS THE sha256 OF THE DUMP (.gsa) THAT YtipfnkajdooiiaaGreatDoorProg.lean LOADS. Nothing in Lean hashes anything: it is a label: what it is worth is what the hold of that sum in a sandbox is worth. -/
noncomputable def Tryz.pinned : Pinned := { name := "ytipfnkajdooiiaagreatdoor", sum := "6ca93f627773bfef8ba928470d3439bf4f4e18630d7b587ebe75f250b5a8dd81", checked := Tryz.checked }
namespace Rows
def none {H : Type} : Left H := { results := [], args := [] }

/- WHAT THE LISTED PACKAGE-LEVEL VARIABLES READ AS WHEN THE CALL BEGINS. Each datum BY PROGRAM (the guide's laid-datum.mjs) off the statement by which the dump's own 'gosem.cut.vars' lays the variable. In a bare row this is a premise. The card (YtipfnkajdooiiaaGreatDoorCards.lean) ties it to the program's text. -/
def laid_proofprograms_terms_arity {H : Type} : DataW H := .agg [.lit (.int .i64 0), .lit (.int .i64 0), .lit (.int .i64 1), .lit (.int .i64 2), .lit (.int .i64 0), .lit (.int .i64 1), .lit (.int .i64 3), .lit (.int .i64 0), .lit (.int .i64 2), .lit (.int .i64 3), .lit (.int .i64 2), .lit (.int .i64 1), .lit (.int .i64 1), .lit (.int .i64 0)]
def laid_proofprograms_proof_shapes {H : Type} : DataW H := .agg [.agg [.lit (.bool false), .lit (.bool false), .lit (.int .i64 0), .lit (.int .i64 0), .lit (.int .i64 0), .lit (.int .i64 0), .lit (.int .i64 0), .lit (.int .i64 0)], .agg [.lit (.bool true), .lit (.bool false), .lit (.int .i64 0), .lit (.int .i64 0), .lit (.int .i64 0), .lit (.int .i64 0), .lit (.int .i64 0), .lit (.int .i64 0)], .agg [.lit (.bool true), .lit (.bool false), .lit (.int .i64 0), .lit (.int .i64 0), .lit (.int .i64 0), .lit (.int .i64 0), .lit (.int .i64 0), .lit (.int .i64 0)], .agg [.lit (.bool false), .lit (.bool false), .lit (.int .i64 0), .lit (.int .i64 0), .lit (.int .i64 2), .lit (.int .i64 0), .lit (.int .i64 0), .lit (.int .i64 0)], .agg [.lit (.bool false), .lit (.bool false), .lit (.int .i64 0), .lit (.int .i64 0), .lit (.int .i64 1), .lit (.int .i64 0), .lit (.int .i64 0), .lit (.int .i64 0)], .agg [.lit (.bool false), .lit (.bool false), .lit (.int .i64 0), .lit (.int .i64 0), .lit (.int .i64 1), .lit (.int .i64 0), .lit (.int .i64 0), .lit (.int .i64 0)], .agg [.lit (.bool false), .lit (.bool false), .lit (.int .i64 0), .lit (.int .i64 1), .lit (.int .i64 1), .lit (.int .i64 0), .lit (.int .i64 0), .lit (.int .i64 1)], .agg [.lit (.bool false), .lit (.bool false), .lit (.int .i64 0), .lit (.int .i64 0), .lit (.int .i64 2), .lit (.int .i64 0), .lit (.int .i64 0), .lit (.int .i64 0)], .agg [.lit (.bool false), .lit (.bool true), .lit (.int .i64 0), .lit (.int .i64 0), .lit (.int .i64 1), .lit (.int .i64 0), .lit (.int .i64 1), .lit (.int .i64 0)], .agg [.lit (.bool false), .lit (.bool false), .lit (.int .i64 1), .lit (.int .i64 0), .lit (.int .i64 1), .lit (.int .i64 0), .lit (.int .i64 0), .lit (.int .i64 0)], .agg [.lit (.bool false), .lit (.bool false), .lit (.int .i64 1), .lit (.int .i64 1), .lit (.int .i64 1), .lit (.int .i64 0), .lit (.int .i64 0), .lit (.int .i64 0)], .agg [.lit (.bool false), .lit (.bool false), .lit (.int .i64 0), .lit (.int .i64 0), .lit (.int .i64 2), .lit (.int .i64 0), .lit (.int .i64 1), .lit (.int .i64 1)], .agg [.lit (.bool false), .lit (.bool true), .lit (.int .i64 0), .lit (.int .i64 0), .lit (.int .i64 1), .lit (.int .i64 0), .lit (.int .i64 1), .lit (.int .i64 0)], .agg [.lit (.bool false), .lit (.bool false), .lit (.int .i64 1), .lit (.int .i64 0), .lit (.int .i64 1), .lit (.int .i64 0), .lit (.int .i64 0), .lit (.int .i64 0)], .agg [.lit (.bool false), .lit (.bool false), .lit (.int .i64 1), .lit (.int .i64 1), .lit (.int .i64 1), .lit (.int .i64 0), .lit (.int .i64 0), .lit (.int .i64 0)], .agg [.lit (.bool false), .lit (.bool false), .lit (.int .i64 0), .lit (.int .i64 0), .lit (.int .i64 2), .lit (.int .i64 0), .lit (.int .i64 1), .lit (.int .i64 1)], .agg [.lit (.bool false), .lit (.bool false), .lit (.int .i64 1), .lit (.int .i64 1), .lit (.int .i64 2), .lit (.int .i64 1), .lit (.int .i64 1), .lit (.int .i64 1)], .agg [.lit (.bool false), .lit (.bool false), .lit (.int .i64 1), .lit (.int .i64 1), .lit (.int .i64 2), .lit (.int .i64 1), .lit (.int .i64 2), .lit (.int .i64 1)], .agg [.lit (.bool false), .lit (.bool false), .lit (.int .i64 1), .lit (.int .i64 0), .lit (.int .i64 0), .lit (.int .i64 0), .lit (.int .i64 0), .lit (.int .i64 0)], .agg [.lit (.bool false), .lit (.bool false), .lit (.int .i64 0), .lit (.int .i64 1), .lit (.int .i64 2), .lit (.int .i64 1), .lit (.int .i64 0), .lit (.int .i64 0)], .agg [.lit (.bool false), .lit (.bool false), .lit (.int .i64 0), .lit (.int .i64 0), .lit (.int .i64 1), .lit (.int .i64 0), .lit (.int .i64 0), .lit (.int .i64 0)]]

/-- 'proofprogramslaw07.FormulaLifts': WHATEVER THE INPUT: true; the input reads as it did. -/
def formulaLiftsSpec : ChangeSpec := { name := "formulaLifts", fn := fun _ => fun
  | [d] => { results := [.lit (.bool true)], args := [d] }
  | _ => none }
def formulaLiftsRow : OpenClaim := { program := "ytipfnkajdooiiaagreatdoor", sum := "6ca93f627773bfef8ba928470d3439bf4f4e18630d7b587ebe75f250b5a8dd81", func := "proofprograms/proofprogramslaw07.FormulaLifts", spec := "formulaLifts", unfollowed := true, recurses := true, named := ["proofprograms/terms.arity"], apart := false, laid := [("proofprograms/terms.arity", laid_proofprograms_terms_arity)] }
def FormulaLiftsSaid : Prop := formulaLiftsRow.holds Tryz.pinned (OpenSpec.ofChange formulaLiftsSpec)

/-- ITS FALSE NEIGHBOUR: 'it returns false'. Refute it at one input. -/
def formulaLiftsWrong : ChangeSpec := { name := "formulaLifts", fn := fun _ => fun
  | [d] => { results := [.lit (.bool false)], args := [d] }
  | _ => none }
def FormulaLiftsWrongFalsely : Prop := formulaLiftsRow.holds Tryz.pinned (OpenSpec.ofChange formulaLiftsWrong)

/-- 'proofprogramslaw08.ClassBounds': WHATEVER THE INPUT: true; the input reads as it did. -/
def classBoundsSpec : ChangeSpec := { name := "classBounds", fn := fun _ => fun
  | [d1, d2] => { results := [.lit (.bool true)], args := [d1, d2] }
  | _ => none }
def classBoundsRow : OpenClaim := { program := "ytipfnkajdooiiaagreatdoor", sum := "6ca93f627773bfef8ba928470d3439bf4f4e18630d7b587ebe75f250b5a8dd81", func := "proofprograms/proofprogramslaw08.ClassBounds", spec := "classBounds", unfollowed := true, recurses := true, named := ["proofprograms/terms.arity"], apart := false, laid := [("proofprograms/terms.arity", laid_proofprograms_terms_arity)] }
def ClassBoundsSaid : Prop := classBoundsRow.holds Tryz.pinned (OpenSpec.ofChange classBoundsSpec)

/-- ITS FALSE NEIGHBOUR: 'it returns false'. Refute it at one input. -/
def classBoundsWrong : ChangeSpec := { name := "classBounds", fn := fun _ => fun
  | [d1, d2] => { results := [.lit (.bool false)], args := [d1, d2] }
  | _ => none }
def ClassBoundsWrongFalsely : Prop := classBoundsRow.holds Tryz.pinned (OpenSpec.ofChange classBoundsWrong)

/-- 'proofprogramslaw08.ClassStays': WHATEVER THE INPUT: true; the input reads as it did. -/
def classStaysSpec : ChangeSpec := { name := "classStays", fn := fun _ => fun
  | [d] => { results := [.lit (.bool true)], args := [d] }
  | _ => none }
def classStaysRow : OpenClaim := { program := "ytipfnkajdooiiaagreatdoor", sum := "6ca93f627773bfef8ba928470d3439bf4f4e18630d7b587ebe75f250b5a8dd81", func := "proofprograms/proofprogramslaw08.ClassStays", spec := "classStays", unfollowed := true, recurses := true, named := ["proofprograms/terms.arity"], apart := false, laid := [("proofprograms/terms.arity", laid_proofprograms_terms_arity)] }
def ClassStaysSaid : Prop := classStaysRow.holds Tryz.pinned (OpenSpec.ofChange classStaysSpec)

/-- ITS FALSE NEIGHBOUR: 'it returns false'. Refute it at one input. -/
def classStaysWrong : ChangeSpec := { name := "classStays", fn := fun _ => fun
  | [d] => { results := [.lit (.bool false)], args := [d] }
  | _ => none }
def ClassStaysWrongFalsely : Prop := classStaysRow.holds Tryz.pinned (OpenSpec.ofChange classStaysWrong)

/-- 'proofprogramslaw10.ProofLifts': WHATEVER THE INPUT: true; the input reads as it did. -/
def proofLiftsSpec : ChangeSpec := { name := "proofLifts", fn := fun _ => fun
  | [d1, d2] => { results := [.lit (.bool true)], args := [d1, d2] }
  | _ => none }
def proofLiftsRow : OpenClaim := { program := "ytipfnkajdooiiaagreatdoor", sum := "6ca93f627773bfef8ba928470d3439bf4f4e18630d7b587ebe75f250b5a8dd81", func := "proofprograms/proofprogramslaw10.ProofLifts", spec := "proofLifts", unfollowed := true, recurses := true, named := ["proofprograms/proof.shapes", "proofprograms/terms.arity"], apart := false, laid := [("proofprograms/terms.arity", laid_proofprograms_terms_arity), ("proofprograms/proof.shapes", laid_proofprograms_proof_shapes)] }
def ProofLiftsSaid : Prop := proofLiftsRow.holds Tryz.pinned (OpenSpec.ofChange proofLiftsSpec)

/-- ITS FALSE NEIGHBOUR: 'it returns false'. Refute it at one input. -/
def proofLiftsWrong : ChangeSpec := { name := "proofLifts", fn := fun _ => fun
  | [d1, d2] => { results := [.lit (.bool false)], args := [d1, d2] }
  | _ => none }
def ProofLiftsWrongFalsely : Prop := proofLiftsRow.holds Tryz.pinned (OpenSpec.ofChange proofLiftsWrong)

/-- 'proofprogramslaw10.ProofKeeps': WHATEVER THE INPUT: true; the input reads as it did. -/
def proofKeepsSpec : ChangeSpec := { name := "proofKeeps", fn := fun _ => fun
  | [d1, d2] => { results := [.lit (.bool true)], args := [d1, d2] }
  | _ => none }
def proofKeepsRow : OpenClaim := { program := "ytipfnkajdooiiaagreatdoor", sum := "6ca93f627773bfef8ba928470d3439bf4f4e18630d7b587ebe75f250b5a8dd81", func := "proofprograms/proofprogramslaw10.ProofKeeps", spec := "proofKeeps", unfollowed := true, recurses := true, named := ["proofprograms/proof.shapes", "proofprograms/terms.arity"], apart := false, laid := [("proofprograms/terms.arity", laid_proofprograms_terms_arity), ("proofprograms/proof.shapes", laid_proofprograms_proof_shapes)] }
def ProofKeepsSaid : Prop := proofKeepsRow.holds Tryz.pinned (OpenSpec.ofChange proofKeepsSpec)

/-- ITS FALSE NEIGHBOUR: 'it returns false'. Refute it at one input. -/
def proofKeepsWrong : ChangeSpec := { name := "proofKeeps", fn := fun _ => fun
  | [d1, d2] => { results := [.lit (.bool false)], args := [d1, d2] }
  | _ => none }
def ProofKeepsWrongFalsely : Prop := proofKeepsRow.holds Tryz.pinned (OpenSpec.ofChange proofKeepsWrong)

/- THE SECOND FORM. 'bulk': how many values and letters a reading holds, each counted each time it is reached (what is shared counts as often as it is met; a slice's spare places count too). A statement '..UptoSaid' is the law's where the arguments, and the package variables that the reading takes, are together of bulk at most 1048576: NARROWER than '..Said'. Prove '..Said' where nothing that the law and all that it calls make is longer than what came in: it says more and counts as full. Else prove '..UptoSaid'. A law counts once. -/
mutual
def uptoBulk {H : Type} : DataW H → Nat
  | .lit (.string bytes) => bytes.length + 1
  | .lit _ => 1
  | .nil => 1
  | .ptr d => uptoBulk d + 1
  | .slice elems spare => uptoBulkAll elems + uptoBulkAll spare + 1
  | .agg parts => uptoBulkAll parts + 1
  | .iface _ d => uptoBulk d + 1
  | .map entries => uptoBulkEntries entries + 1
  | .held _ => 1
def uptoBulkAll {H : Type} : List (DataW H) → Nat
  | [] => 0
  | d :: r => uptoBulk d + uptoBulkAll r
def uptoBulkEntries {H : Type} : List (Lit × DataW H) → Nat
  | [] => 0
  | x :: r => uptoBulkEntry x + uptoBulkEntries r
def uptoBulkEntry {H : Type} : Lit × DataW H → Nat
  | (.string bytes, d) => bytes.length + uptoBulk d + 1
  | (_, d) => uptoBulk d + 1
 end
def uptoSmall : (H : Type) → List (DataW H) → Bool := fun _ ds => decide (uptoBulkAll ds ≤ 1048576)
def OpenSpec.upto (s : _root_.Go.ChangeSpec) : _root_.Go.OpenSpec := { _root_.Go.OpenSpec.ofChange s with cond := some uptoSmall }

/-- 'proofprogramslaw07.FormulaLifts', WHERE WHAT IT READS IS OF BULK AT MOST 1048576: true; the input reads as it did. -/
def formulaLiftsUptoRow : OpenClaim := { program := "ytipfnkajdooiiaagreatdoor", sum := "6ca93f627773bfef8ba928470d3439bf4f4e18630d7b587ebe75f250b5a8dd81", func := "proofprograms/proofprogramslaw07.FormulaLifts", spec := "formulaLifts", unfollowed := true, recurses := true, named := ["proofprograms/terms.arity"], apart := false, laid := [("proofprograms/terms.arity", laid_proofprograms_terms_arity)], narrowed := true }
def FormulaLiftsUptoSaid : Prop := formulaLiftsUptoRow.holds Tryz.pinned (OpenSpec.upto formulaLiftsSpec)

/-- 'proofprogramslaw08.ClassBounds', WHERE WHAT IT READS IS OF BULK AT MOST 1048576: true; the input reads as it did. -/
def classBoundsUptoRow : OpenClaim := { program := "ytipfnkajdooiiaagreatdoor", sum := "6ca93f627773bfef8ba928470d3439bf4f4e18630d7b587ebe75f250b5a8dd81", func := "proofprograms/proofprogramslaw08.ClassBounds", spec := "classBounds", unfollowed := true, recurses := true, named := ["proofprograms/terms.arity"], apart := false, laid := [("proofprograms/terms.arity", laid_proofprograms_terms_arity)], narrowed := true }
def ClassBoundsUptoSaid : Prop := classBoundsUptoRow.holds Tryz.pinned (OpenSpec.upto classBoundsSpec)

/-- 'proofprogramslaw08.ClassStays', WHERE WHAT IT READS IS OF BULK AT MOST 1048576: true; the input reads as it did. -/
def classStaysUptoRow : OpenClaim := { program := "ytipfnkajdooiiaagreatdoor", sum := "6ca93f627773bfef8ba928470d3439bf4f4e18630d7b587ebe75f250b5a8dd81", func := "proofprograms/proofprogramslaw08.ClassStays", spec := "classStays", unfollowed := true, recurses := true, named := ["proofprograms/terms.arity"], apart := false, laid := [("proofprograms/terms.arity", laid_proofprograms_terms_arity)], narrowed := true }
def ClassStaysUptoSaid : Prop := classStaysUptoRow.holds Tryz.pinned (OpenSpec.upto classStaysSpec)

/-- 'proofprogramslaw10.ProofLifts', WHERE WHAT IT READS IS OF BULK AT MOST 1048576: true; the input reads as it did. -/
def proofLiftsUptoRow : OpenClaim := { program := "ytipfnkajdooiiaagreatdoor", sum := "6ca93f627773bfef8ba928470d3439bf4f4e18630d7b587ebe75f250b5a8dd81", func := "proofprograms/proofprogramslaw10.ProofLifts", spec := "proofLifts", unfollowed := true, recurses := true, named := ["proofprograms/proof.shapes", "proofprograms/terms.arity"], apart := false, laid := [("proofprograms/terms.arity", laid_proofprograms_terms_arity), ("proofprograms/proof.shapes", laid_proofprograms_proof_shapes)], narrowed := true }
def ProofLiftsUptoSaid : Prop := proofLiftsUptoRow.holds Tryz.pinned (OpenSpec.upto proofLiftsSpec)

/-- 'proofprogramslaw10.ProofKeeps', WHERE WHAT IT READS IS OF BULK AT MOST 1048576: true; the input reads as it did. -/
def proofKeepsUptoRow : OpenClaim := { program := "ytipfnkajdooiiaagreatdoor", sum := "6ca93f627773bfef8ba928470d3439bf4f4e18630d7b587ebe75f250b5a8dd81", func := "proofprograms/proofprogramslaw10.ProofKeeps", spec := "proofKeeps", unfollowed := true, recurses := true, named := ["proofprograms/proof.shapes", "proofprograms/terms.arity"], apart := false, laid := [("proofprograms/terms.arity", laid_proofprograms_terms_arity), ("proofprograms/proof.shapes", laid_proofprograms_proof_shapes)], narrowed := true }
def ProofKeepsUptoSaid : Prop := proofKeepsUptoRow.holds Tryz.pinned (OpenSpec.upto proofKeepsSpec)

end Rows
end Go.Proofs.YtipfnkajdooiiaaGreatDoor
