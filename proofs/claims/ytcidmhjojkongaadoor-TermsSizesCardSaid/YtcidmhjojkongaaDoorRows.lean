/-
  NARROWER THAN 'FOR EVERY INPUT', by the rows' own cells (each row's printed sentence says how): TermsDoes: loops, laid · TermsTypes: laid · TermsRefused: laid · TermsSizes: laid · SubstLifts: laid · SubstTypes: laid · SubstSizes: laid.
  DERIVED. THE GIVEN ROWS OF THIS SEAT. 7 by the template 'for every input the law returns true; each argument reads behind the call as it read before'; 0 by the template 'total and deterministic' (their statements: YtcidmhjojkongaaDoorTotals.lean).
  GIVEN WITH THE SEED: the statements are not yours to turn. If you find one false, say at which input.
  Laid BY PROGRAM, IN A SANDBOX (cutbox-rows.mjs): the forced cells as the released guide's own fill.sh prints them over the translation c00fb5c48d0ea0fe… (all of the seat's roots in one cut). By AI agents, Wed Nov 11 2026. No macro, syntax, notation, axiom, sorry.
-/
import Derived.Test.YtcidmhjojkongaaDoorChecked
import GoSem.Claim
import GoSem.ClaimJoined
import GoSem.ClaimMapViews
import Derived.JoinedTies
import Derived.KernelRfl
namespace Go.Proofs.YtcidmhjojkongaaDoor
/- THE CELL 'sum', in the pinned program and in every row, IS THE sha256 OF THE DUMP (.gsa) THAT YtcidmhjojkongaaDoorProg.lean LOADS. Nothing in Lean hashes anything: it is a label: what it is worth is what the hold of that sum in a sandbox is worth. -/
noncomputable def Tryd.pinned : Pinned := { name := "ytcidmhjojkongaadoor", sum := "c00fb5c48d0ea0fe220414e5892bf8a02318d3bf9b2ce2ffe82ee314ebff2890", checked := Tryd.checked }
namespace Rows
def none {H : Type} : Left H := { results := [], args := [] }

/- WHAT THE LISTED PACKAGE-LEVEL VARIABLES READ AS WHEN THE CALL BEGINS. Each datum BY PROGRAM (the guide's laid-datum.mjs) off the statement by which the dump's own 'gosem.cut.vars' lays the variable. In a bare row this is a premise. The card (YtcidmhjojkongaaDoorCards.lean) ties it to the program's text. -/
def laid_proofprograms_terms_arity {H : Type} : DataW H := .agg [.lit (.int .i64 0), .lit (.int .i64 0), .lit (.int .i64 1), .lit (.int .i64 2), .lit (.int .i64 0), .lit (.int .i64 1), .lit (.int .i64 3), .lit (.int .i64 0), .lit (.int .i64 2), .lit (.int .i64 3), .lit (.int .i64 2), .lit (.int .i64 1), .lit (.int .i64 1), .lit (.int .i64 0)]

/-- 'proofprogramslaw02.TermsDoes': WHATEVER THE INPUT: true; the input reads as it did. -/
def termsDoesSpec : ChangeSpec := { name := "termsDoes", fn := fun _ => fun
  | [d1, d2, d3, d4, d5] => { results := [.lit (.bool true)], args := [d1, d2, d3, d4, d5] }
  | _ => none }
def termsDoesRow : OpenClaim := { program := "ytcidmhjojkongaadoor", sum := "c00fb5c48d0ea0fe220414e5892bf8a02318d3bf9b2ce2ffe82ee314ebff2890", func := "proofprograms/proofprogramslaw02.TermsDoes", spec := "termsDoes", unfollowed := true, recurses := true, named := ["proofprograms/terms.arity"], loops := true, apart := false, laid := [("proofprograms/terms.arity", laid_proofprograms_terms_arity)] }
def TermsDoesSaid : Prop := termsDoesRow.holds Tryd.pinned (OpenSpec.ofChange termsDoesSpec)

/-- ITS FALSE NEIGHBOUR: 'it returns false'. Refute it at one input. -/
def termsDoesWrong : ChangeSpec := { name := "termsDoes", fn := fun _ => fun
  | [d1, d2, d3, d4, d5] => { results := [.lit (.bool false)], args := [d1, d2, d3, d4, d5] }
  | _ => none }
def TermsDoesWrongFalsely : Prop := termsDoesRow.holds Tryd.pinned (OpenSpec.ofChange termsDoesWrong)

/-- 'proofprogramslaw02.TermsTypes': WHATEVER THE INPUT: true; the input reads as it did. -/
def termsTypesSpec : ChangeSpec := { name := "termsTypes", fn := fun _ => fun
  | [d] => { results := [.lit (.bool true)], args := [d] }
  | _ => none }
def termsTypesRow : OpenClaim := { program := "ytcidmhjojkongaadoor", sum := "c00fb5c48d0ea0fe220414e5892bf8a02318d3bf9b2ce2ffe82ee314ebff2890", func := "proofprograms/proofprogramslaw02.TermsTypes", spec := "termsTypes", unfollowed := true, recurses := true, named := ["proofprograms/terms.arity"], apart := false, laid := [("proofprograms/terms.arity", laid_proofprograms_terms_arity)] }
def TermsTypesSaid : Prop := termsTypesRow.holds Tryd.pinned (OpenSpec.ofChange termsTypesSpec)

/-- ITS FALSE NEIGHBOUR: 'it returns false'. Refute it at one input. -/
def termsTypesWrong : ChangeSpec := { name := "termsTypes", fn := fun _ => fun
  | [d] => { results := [.lit (.bool false)], args := [d] }
  | _ => none }
def TermsTypesWrongFalsely : Prop := termsTypesRow.holds Tryd.pinned (OpenSpec.ofChange termsTypesWrong)

/-- 'proofprogramslaw02.TermsRefused': WHATEVER THE INPUT: true; the input reads as it did. -/
def termsRefusedSpec : ChangeSpec := { name := "termsRefused", fn := fun _ => fun
  | [d1, d2] => { results := [.lit (.bool true)], args := [d1, d2] }
  | _ => none }
def termsRefusedRow : OpenClaim := { program := "ytcidmhjojkongaadoor", sum := "c00fb5c48d0ea0fe220414e5892bf8a02318d3bf9b2ce2ffe82ee314ebff2890", func := "proofprograms/proofprogramslaw02.TermsRefused", spec := "termsRefused", unfollowed := true, recurses := true, named := ["proofprograms/terms.arity"], apart := false, laid := [("proofprograms/terms.arity", laid_proofprograms_terms_arity)] }
def TermsRefusedSaid : Prop := termsRefusedRow.holds Tryd.pinned (OpenSpec.ofChange termsRefusedSpec)

/-- ITS FALSE NEIGHBOUR: 'it returns false'. Refute it at one input. -/
def termsRefusedWrong : ChangeSpec := { name := "termsRefused", fn := fun _ => fun
  | [d1, d2] => { results := [.lit (.bool false)], args := [d1, d2] }
  | _ => none }
def TermsRefusedWrongFalsely : Prop := termsRefusedRow.holds Tryd.pinned (OpenSpec.ofChange termsRefusedWrong)

/-- 'proofprogramslaw02.TermsSizes': WHATEVER THE INPUT: true; the input reads as it did. -/
def termsSizesSpec : ChangeSpec := { name := "termsSizes", fn := fun _ => fun
  | [d] => { results := [.lit (.bool true)], args := [d] }
  | _ => none }
def termsSizesRow : OpenClaim := { program := "ytcidmhjojkongaadoor", sum := "c00fb5c48d0ea0fe220414e5892bf8a02318d3bf9b2ce2ffe82ee314ebff2890", func := "proofprograms/proofprogramslaw02.TermsSizes", spec := "termsSizes", unfollowed := true, recurses := true, named := ["proofprograms/terms.arity"], apart := false, laid := [("proofprograms/terms.arity", laid_proofprograms_terms_arity)] }
def TermsSizesSaid : Prop := termsSizesRow.holds Tryd.pinned (OpenSpec.ofChange termsSizesSpec)

/-- ITS FALSE NEIGHBOUR: 'it returns false'. Refute it at one input. -/
def termsSizesWrong : ChangeSpec := { name := "termsSizes", fn := fun _ => fun
  | [d] => { results := [.lit (.bool false)], args := [d] }
  | _ => none }
def TermsSizesWrongFalsely : Prop := termsSizesRow.holds Tryd.pinned (OpenSpec.ofChange termsSizesWrong)

/-- 'proofprogramslaw03.SubstLifts': WHATEVER THE INPUT: true; the input reads as it did. -/
def substLiftsSpec : ChangeSpec := { name := "substLifts", fn := fun _ => fun
  | [d1, d2, d3, d4] => { results := [.lit (.bool true)], args := [d1, d2, d3, d4] }
  | _ => none }
def substLiftsRow : OpenClaim := { program := "ytcidmhjojkongaadoor", sum := "c00fb5c48d0ea0fe220414e5892bf8a02318d3bf9b2ce2ffe82ee314ebff2890", func := "proofprograms/proofprogramslaw03.SubstLifts", spec := "substLifts", unfollowed := true, recurses := true, named := ["proofprograms/terms.arity"], apart := false, laid := [("proofprograms/terms.arity", laid_proofprograms_terms_arity)] }
def SubstLiftsSaid : Prop := substLiftsRow.holds Tryd.pinned (OpenSpec.ofChange substLiftsSpec)

/-- ITS FALSE NEIGHBOUR: 'it returns false'. Refute it at one input. -/
def substLiftsWrong : ChangeSpec := { name := "substLifts", fn := fun _ => fun
  | [d1, d2, d3, d4] => { results := [.lit (.bool false)], args := [d1, d2, d3, d4] }
  | _ => none }
def SubstLiftsWrongFalsely : Prop := substLiftsRow.holds Tryd.pinned (OpenSpec.ofChange substLiftsWrong)

/-- 'proofprogramslaw03.SubstTypes': WHATEVER THE INPUT: true; the input reads as it did. -/
def substTypesSpec : ChangeSpec := { name := "substTypes", fn := fun _ => fun
  | [d] => { results := [.lit (.bool true)], args := [d] }
  | _ => none }
def substTypesRow : OpenClaim := { program := "ytcidmhjojkongaadoor", sum := "c00fb5c48d0ea0fe220414e5892bf8a02318d3bf9b2ce2ffe82ee314ebff2890", func := "proofprograms/proofprogramslaw03.SubstTypes", spec := "substTypes", unfollowed := true, recurses := true, named := ["proofprograms/terms.arity"], apart := false, laid := [("proofprograms/terms.arity", laid_proofprograms_terms_arity)] }
def SubstTypesSaid : Prop := substTypesRow.holds Tryd.pinned (OpenSpec.ofChange substTypesSpec)

/-- ITS FALSE NEIGHBOUR: 'it returns false'. Refute it at one input. -/
def substTypesWrong : ChangeSpec := { name := "substTypes", fn := fun _ => fun
  | [d] => { results := [.lit (.bool false)], args := [d] }
  | _ => none }
def SubstTypesWrongFalsely : Prop := substTypesRow.holds Tryd.pinned (OpenSpec.ofChange substTypesWrong)

/-- 'proofprogramslaw03.SubstSizes': WHATEVER THE INPUT: true; the input reads as it did. -/
def substSizesSpec : ChangeSpec := { name := "substSizes", fn := fun _ => fun
  | [d] => { results := [.lit (.bool true)], args := [d] }
  | _ => none }
def substSizesRow : OpenClaim := { program := "ytcidmhjojkongaadoor", sum := "c00fb5c48d0ea0fe220414e5892bf8a02318d3bf9b2ce2ffe82ee314ebff2890", func := "proofprograms/proofprogramslaw03.SubstSizes", spec := "substSizes", unfollowed := true, recurses := true, named := ["proofprograms/terms.arity"], apart := false, laid := [("proofprograms/terms.arity", laid_proofprograms_terms_arity)] }
def SubstSizesSaid : Prop := substSizesRow.holds Tryd.pinned (OpenSpec.ofChange substSizesSpec)

/-- ITS FALSE NEIGHBOUR: 'it returns false'. Refute it at one input. -/
def substSizesWrong : ChangeSpec := { name := "substSizes", fn := fun _ => fun
  | [d] => { results := [.lit (.bool false)], args := [d] }
  | _ => none }
def SubstSizesWrongFalsely : Prop := substSizesRow.holds Tryd.pinned (OpenSpec.ofChange substSizesWrong)

/- THE SECOND FORM. 'bulk': how many values and letters a reading holds, each counted each time it is reached (what is shared counts as often as it is met; a slice's spare places count too). A statement '..UptoSaid' is the law's where the arguments, and the package variables that the reading takes, are together of bulk at most 1048576: NARROWER than '..Said'. Prove '..Said' where nothing that the law and all that it calls make is longer than what came in: it says more and counts as full. Else prove '..UptoSaid'. A law counts once. -/
mutual
def uptoBulk {H : Type} : DataW H → Nat
  | .lit (.string bytes) => bytes.length + 1
  | .lit _ => 1
  | .nil => 1
  | .ptr d => uptoBulk d + 1
  | .slice elems spare => uptoBulkAll elems + uptoBulkAll spare + 1
  | .agg parts => uptoBulkAll parts + 1
  | .iface _ d => uptoBulk d + 1
  | .map entries => uptoBulkEntries entries + 1
  | .held _ => 1
def uptoBulkAll {H : Type} : List (DataW H) → Nat
  | [] => 0
  | d :: r => uptoBulk d + uptoBulkAll r
def uptoBulkEntries {H : Type} : List (Lit × DataW H) → Nat
  | [] => 0
  | x :: r => uptoBulkEntry x + uptoBulkEntries r
def uptoBulkEntry {H : Type} : Lit × DataW H → Nat
  | (.string bytes, d) => bytes.length + uptoBulk d + 1
  | (_, d) => uptoBulk d + 1
 end
def uptoSmall : (H : Type) → List (DataW H) → Bool := fun _ ds => decide (uptoBulkAll ds ≤ 1048576)
def OpenSpec.upto (s : _root_.Go.ChangeSpec) : _root_.Go.OpenSpec := { _root_.Go.OpenSpec.ofChange s with cond := some uptoSmall }

/-- 'proofprogramslaw02.TermsDoes', WHERE WHAT IT READS IS OF BULK AT MOST 1048576: true; the input reads as it did. -/
def termsDoesUptoRow : OpenClaim := { program := "ytcidmhjojkongaadoor", sum := "c00fb5c48d0ea0fe220414e5892bf8a02318d3bf9b2ce2ffe82ee314ebff2890", func := "proofprograms/proofprogramslaw02.TermsDoes", spec := "termsDoes", unfollowed := true, recurses := true, named := ["proofprograms/terms.arity"], loops := true, apart := false, laid := [("proofprograms/terms.arity", laid_proofprograms_terms_arity)], narrowed := true }
def TermsDoesUptoSaid : Prop := termsDoesUptoRow.holds Tryd.pinned (OpenSpec.upto termsDoesSpec)

/-- 'proofprogramslaw02.TermsTypes', WHERE WHAT IT READS IS OF BULK AT MOST 1048576: true; the input reads as it did. -/
def termsTypesUptoRow : OpenClaim := { program := "ytcidmhjojkongaadoor", sum := "c00fb5c48d0ea0fe220414e5892bf8a02318d3bf9b2ce2ffe82ee314ebff2890", func := "proofprograms/proofprogramslaw02.TermsTypes", spec := "termsTypes", unfollowed := true, recurses := true, named := ["proofprograms/terms.arity"], apart := false, laid := [("proofprograms/terms.arity", laid_proofprograms_terms_arity)], narrowed := true }
def TermsTypesUptoSaid : Prop := termsTypesUptoRow.holds Tryd.pinned (OpenSpec.upto termsTypesSpec)

/-- 'proofprogramslaw02.TermsRefused', WHERE WHAT IT READS IS OF BULK AT MOST 1048576: true; the input reads as it did. -/
def termsRefusedUptoRow : OpenClaim := { program := "ytcidmhjojkongaadoor", sum := "c00fb5c48d0ea0fe220414e5892bf8a02318d3bf9b2ce2ffe82ee314ebff2890", func := "proofprograms/proofprogramslaw02.TermsRefused", spec := "termsRefused", unfollowed := true, recurses := true, named := ["proofprograms/terms.arity"], apart := false, laid := [("proofprograms/terms.arity", laid_proofprograms_terms_arity)], narrowed := true }
def TermsRefusedUptoSaid : Prop := termsRefusedUptoRow.holds Tryd.pinned (OpenSpec.upto termsRefusedSpec)

/-- 'proofprogramslaw02.TermsSizes', WHERE WHAT IT READS IS OF BULK AT MOST 1048576: true; the input reads as it did. -/
def termsSizesUptoRow : OpenClaim := { program := "ytcidmhjojkongaadoor", sum := "c00fb5c48d0ea0fe220414e5892bf8a02318d3bf9b2ce2ffe82ee314ebff2890", func := "proofprograms/proofprogramslaw02.TermsSizes", spec := "termsSizes", unfollowed := true, recurses := true, named := ["proofprograms/terms.arity"], apart := false, laid := [("proofprograms/terms.arity", laid_proofprograms_terms_arity)], narrowed := true }
def TermsSizesUptoSaid : Prop := termsSizesUptoRow.holds Tryd.pinned (OpenSpec.upto termsSizesSpec)

/-- 'proofprogramslaw03.SubstLifts', WHERE WHAT IT READS IS OF BULK AT MOST 1048576: true; the input reads as it did. -/
def substLiftsUptoRow : OpenClaim := { program := "ytcidmhjojkongaadoor", sum := "c00fb5c48d0ea0fe220414e5892bf8a02318d3bf9b2ce2ffe82ee314ebff2890", func := "proofprograms/proofprogramslaw03.SubstLifts", spec := "substLifts", unfollowed := true, recurses := true, named := ["proofprograms/terms.arity"], apart := false, laid := [("proofprograms/terms.arity", laid_proofprograms_terms_arity)], narrowed := true }
def SubstLiftsUptoSaid : Prop := substLiftsUptoRow.holds Tryd.pinned (OpenSpec.upto substLiftsSpec)

/-- 'proofprogramslaw03.SubstTypes', WHERE WHAT IT READS IS OF BULK AT MOST 1048576: true; the input reads as it did. -/
def substTypesUptoRow : OpenClaim := { program := "ytcidmhjojkongaadoor", sum := "c00fb5c48d0ea0fe220414e5892bf8a02318d3bf9b2ce2ffe82ee314ebff2890", func := "proofprograms/proofprogramslaw03.SubstTypes", spec := "substTypes", unfollowed := true, recurses := true, named := ["proofprograms/terms.arity"], apart := false, laid := [("proofprograms/terms.arity", laid_proofprograms_terms_arity)], narrowed := true }
def SubstTypesUptoSaid : Prop := substTypesUptoRow.holds Tryd.pinned (OpenSpec.upto substTypesSpec)

/-- 'proofprogramslaw03.SubstSizes', WHERE WHAT IT READS IS OF BULK AT MOST 1048576: true; the input reads as it did. -/
def substSizesUptoRow : OpenClaim := { program := "ytcidmhjojkongaadoor", sum := "c00fb5c48d0ea0fe220414e5892bf8a02318d3bf9b2ce2ffe82ee314ebff2890", func := "proofprograms/proofprogramslaw03.SubstSizes", spec := "substSizes", unfollowed := true, recurses := true, named := ["proofprograms/terms.arity"], apart := false, laid := [("proofprograms/terms.arity", laid_proofprograms_terms_arity)], narrowed := true }
def SubstSizesUptoSaid : Prop := substSizesUptoRow.holds Tryd.pinned (OpenSpec.upto substSizesSpec)

end Rows
end Go.Proofs.YtcidmhjojkongaaDoor
