/-
  NARROWER THAN 'FOR EVERY INPUT', by the rows' own cells (each row's printed sentence says how): ReduceParts: laid · ValueBack: laid · ClassContent: laid.
  DERIVED. THE GIVEN ROWS OF THIS SEAT. 3 by the template 'for every input the law returns true; each argument reads behind the call as it read before'; 0 by the template 'total and deterministic' (their statements: YtifijgihcincfaaDoorTotals.lean).
  GIVEN WITH THE SEED: the statements are not yours to turn. If you find one false, say at which input.
  Laid BY PROGRAM, IN A SANDBOX (cutbox-rows.mjs): the forced cells as the released guide's own fill.sh prints them over the translation c947018263650e03… (all of the seat's roots in one cut). By AI agents, Wed Nov 11 2026. No macro, syntax, notation, axiom, sorry.
-/
import Derived.Test.YtifijgihcincfaaDoorChecked
import GoSem.Claim
import GoSem.ClaimJoined
import GoSem.ClaimMapViews
import Derived.JoinedTies
import Derived.KernelRfl
namespace Go.Proofs.YtifijgihcincfaaDoor
/- THE CELL 'sum', in the pinned program and in every row, IS THE sha256 OF THE DUMP (.gsa) THAT YtifijgihcincfaaDoorProg.lean LOADS. Nothing in Lean hashes anything: it is a label: what it is worth is what the hold of that sum in a sandbox is worth. -/
noncomputable def Tryd.pinned : Pinned := { name := "ytifijgihcincfaadoor", sum := "c947018263650e03ce0270b78763a6b24c95460832544477b62165d8caa09276", checked := Tryd.checked }
namespace Rows
def none {H : Type} : Left H := { results := [], args := [] }

/- WHAT THE LISTED PACKAGE-LEVEL VARIABLES READ AS WHEN THE CALL BEGINS. Each datum BY PROGRAM (the guide's laid-datum.mjs) off the statement by which the dump's own 'gosem.cut.vars' lays the variable. In a bare row this is a premise. The card (YtifijgihcincfaaDoorCards.lean) ties it to the program's text. -/
def laid_proofprograms_terms_arity {H : Type} : DataW H := .agg [.lit (.int .i64 0), .lit (.int .i64 0), .lit (.int .i64 1), .lit (.int .i64 2), .lit (.int .i64 0), .lit (.int .i64 1), .lit (.int .i64 3), .lit (.int .i64 0), .lit (.int .i64 2), .lit (.int .i64 3), .lit (.int .i64 2), .lit (.int .i64 1), .lit (.int .i64 1), .lit (.int .i64 0)]

/-- 'proofprogramslaw04.ReduceParts': WHATEVER THE INPUT: true; the input reads as it did. -/
def reducePartsSpec : ChangeSpec := { name := "reduceParts", fn := fun _ => fun
  | [d] => { results := [.lit (.bool true)], args := [d] }
  | _ => none }
def reducePartsRow : OpenClaim := { program := "ytifijgihcincfaadoor", sum := "c947018263650e03ce0270b78763a6b24c95460832544477b62165d8caa09276", func := "proofprograms/proofprogramslaw04.ReduceParts", spec := "reduceParts", unfollowed := true, recurses := true, named := ["proofprograms/terms.arity"], apart := false, laid := [("proofprograms/terms.arity", laid_proofprograms_terms_arity)] }
def ReducePartsSaid : Prop := reducePartsRow.holds Tryd.pinned (OpenSpec.ofChange reducePartsSpec)

/-- ITS FALSE NEIGHBOUR: 'it returns false'. Refute it at one input. -/
def reducePartsWrong : ChangeSpec := { name := "reduceParts", fn := fun _ => fun
  | [d] => { results := [.lit (.bool false)], args := [d] }
  | _ => none }
def ReducePartsWrongFalsely : Prop := reducePartsRow.holds Tryd.pinned (OpenSpec.ofChange reducePartsWrong)

/-- 'proofprogramslaw05.ValueBack': WHATEVER THE INPUT: true; the input reads as it did. -/
def valueBackSpec : ChangeSpec := { name := "valueBack", fn := fun _ => fun
  | [d] => { results := [.lit (.bool true)], args := [d] }
  | _ => none }
def valueBackRow : OpenClaim := { program := "ytifijgihcincfaadoor", sum := "c947018263650e03ce0270b78763a6b24c95460832544477b62165d8caa09276", func := "proofprograms/proofprogramslaw05.ValueBack", spec := "valueBack", unfollowed := true, recurses := true, named := ["proofprograms/terms.arity"], apart := false, laid := [("proofprograms/terms.arity", laid_proofprograms_terms_arity)] }
def ValueBackSaid : Prop := valueBackRow.holds Tryd.pinned (OpenSpec.ofChange valueBackSpec)

/-- ITS FALSE NEIGHBOUR: 'it returns false'. Refute it at one input. -/
def valueBackWrong : ChangeSpec := { name := "valueBack", fn := fun _ => fun
  | [d] => { results := [.lit (.bool false)], args := [d] }
  | _ => none }
def ValueBackWrongFalsely : Prop := valueBackRow.holds Tryd.pinned (OpenSpec.ofChange valueBackWrong)

/-- 'proofprogramslaw08.ClassContent': WHATEVER THE INPUT: true; the input reads as it did. -/
def classContentSpec : ChangeSpec := { name := "classContent", fn := fun _ => fun
  | [d] => { results := [.lit (.bool true)], args := [d] }
  | _ => none }
def classContentRow : OpenClaim := { program := "ytifijgihcincfaadoor", sum := "c947018263650e03ce0270b78763a6b24c95460832544477b62165d8caa09276", func := "proofprograms/proofprogramslaw08.ClassContent", spec := "classContent", unfollowed := true, recurses := true, named := ["proofprograms/terms.arity"], apart := false, laid := [("proofprograms/terms.arity", laid_proofprograms_terms_arity)] }
def ClassContentSaid : Prop := classContentRow.holds Tryd.pinned (OpenSpec.ofChange classContentSpec)

/-- ITS FALSE NEIGHBOUR: 'it returns false'. Refute it at one input. -/
def classContentWrong : ChangeSpec := { name := "classContent", fn := fun _ => fun
  | [d] => { results := [.lit (.bool false)], args := [d] }
  | _ => none }
def ClassContentWrongFalsely : Prop := classContentRow.holds Tryd.pinned (OpenSpec.ofChange classContentWrong)

/- THE SECOND FORM. 'bulk': how many values and letters a reading holds, each counted each time it is reached (what is shared counts as often as it is met; a slice's spare places count too). A statement '..UptoSaid' is the law's where the arguments, and the package variables that the reading takes, are together of bulk at most 1048576: NARROWER than '..Said'. Prove '..Said' where nothing that the law and all that it calls make is longer than what came in: it says more and counts as full. Else prove '..UptoSaid'. A law counts once. -/
mutual
def uptoBulk {H : Type} : DataW H → Nat
  | .lit (.string bytes) => bytes.length + 1
  | .lit _ => 1
  | .nil => 1
  | .ptr d => uptoBulk d + 1
  | .slice elems spare => uptoBulkAll elems + uptoBulkAll spare + 1
  | .agg parts => uptoBulkAll parts + 1
  | .iface _ d => uptoBulk d + 1
  | .map entries => uptoBulkEntries entries + 1
  | .held _ => 1
def uptoBulkAll {H : Type} : List (DataW H) → Nat
  | [] => 0
  | d :: r => uptoBulk d + uptoBulkAll r
def uptoBulkEntries {H : Type} : List (Lit × DataW H) → Nat
  | [] => 0
  | x :: r => uptoBulkEntry x + uptoBulkEntries r
def uptoBulkEntry {H : Type} : Lit × DataW H → Nat
  | (.string bytes, d) => bytes.length + uptoBulk d + 1
  | (_, d) => uptoBulk d + 1
 end
def uptoSmall : (H : Type) → List (DataW H) → Bool := fun _ ds => decide (uptoBulkAll ds ≤ 1048576)
def OpenSpec.upto (s : _root_.Go.ChangeSpec) : _root_.Go.OpenSpec := { _root_.Go.OpenSpec.ofChange s with cond := some uptoSmall }

/-- 'proofprogramslaw04.ReduceParts', WHERE WHAT IT READS IS OF BULK AT MOST 1048576: true; the input reads as it did. -/
def reducePartsUptoRow : OpenClaim := { program := "ytifijgihcincfaadoor", sum := "c947018263650e03ce0270b78763a6b24c95460832544477b62165d8caa09276", func := "proofprograms/proofprogramslaw04.ReduceParts", spec := "reduceParts", unfollowed := true, recurses := true, named := ["proofprograms/terms.arity"], apart := false, laid := [("proofprograms/terms.arity", laid_proofprograms_terms_arity)], narrowed := true }
def ReducePartsUptoSaid : Prop := reducePartsUptoRow.holds Tryd.pinned (OpenSpec.upto reducePartsSpec)

/-- 'proofprogramslaw05.ValueBack', WHERE WHAT IT READS IS OF BULK AT MOST 1048576: true; the input reads as it did. -/
def valueBackUptoRow : OpenClaim := { program := "ytifijgihcincfaadoor", sum := "c947018263650e03ce0270b78763a6b24c95460832544477b62165d8caa09276", func := "proofprograms/proofprogramslaw05.ValueBack", spec := "valueBack", unfollowed := true, recurses := true, named := ["proofprograms/terms.arity"], apart := false, laid := [("proofprograms/terms.arity", laid_proofprograms_terms_arity)], narrowed := true }
def ValueBackUptoSaid : Prop := valueBackUptoRow.holds Tryd.pinned (OpenSpec.upto valueBackSpec)

/-- 'proofprogramslaw08.ClassContent', WHERE WHAT IT READS IS OF BULK AT MOST 1048576: true; the input reads as it did. -/
def classContentUptoRow : OpenClaim := { program := "ytifijgihcincfaadoor", sum := "c947018263650e03ce0270b78763a6b24c95460832544477b62165d8caa09276", func := "proofprograms/proofprogramslaw08.ClassContent", spec := "classContent", unfollowed := true, recurses := true, named := ["proofprograms/terms.arity"], apart := false, laid := [("proofprograms/terms.arity", laid_proofprograms_terms_arity)], narrowed := true }
def ClassContentUptoSaid : Prop := classContentUptoRow.holds Tryd.pinned (OpenSpec.upto classContentSpec)

end Rows
end Go.Proofs.YtifijgihcincfaaDoor
