/- For every list of numbers the law on the sizes of values (the term of a number n has n + 1 nodes, that of a list one more than its elements' and their Cons, that of a pair those of both and one) returns true, and its argument reads as before. No condition beyond the row's own. -/
import Derived.Test.YtieafbmabnohhaaLawKit
import Derived.Test.YtieafbmabnohhaaValLaw
namespace Go.Proofs.Ytieafbmabnohhaa
open Go.ChangeShapes Go.WideShapes Go.ChangeAt Go.RowKit

set_option maxRecDepth 100000 in
theorem valSizes_lifted (os : Os) (started : os.Started) (H : Type) (enc : TypeId × Value → H) :
    ReturnsInHanded {} Try.checked os 3 .any (Rows.valueSizesSpec.pre6 enc Try.prog Try.f3 Rows.valueSizesRow.domain false)
      (Rows.valueSizesSpec.post enc Try.prog Try.f3 false true false false) := by
  refine returnsInHanded_of_change (C := Try.checked) own_knob started (by kernel_rfl) Try.func3
    (ChangeSpec.witness6 (enc := enc) (C := Try.checked) false ⟨#[], #[.slice none 0 0], []⟩ 8 (by kernel_rfl) (by kernel_rfl) (by kernel_rfl) (by kernel_rfl)) ?_
  intro W base args ds gs before hval0 hW hcnd _
  have hval : ∀ (j : Nat) t v, Try.f3.params[j]? = some t → args[j]? = some v → Value.okWide Try.prog W .any base t v := hval0
  have hW' := hW
  obtain ⟨p, q, hA0, hV, rfl, hfz, hnd⟩ := hW
  have hA : DataW.TrodAll enc Try.prog W 0 (fun _ => true) true Try.f3.params.toList args.toList ds p := hA0
  have hA1 := hA
  rw [Try.params3] at hA hval
  obtain ⟨v0, d0, rfl, rfl, h0⟩ := trodAll_one hA
  obtain ⟨rfl, rfl⟩ := trodVars_none hV
  obtain ⟨A, len, cap, rfl, hmax, hcells⟩ := ints_deck (hval 0 _ v0 rfl rfl) h0
  simp only [List.append_nil] at hW'
  have hr : ∀ t ∈ Try.f3.params.toList, Try.prog.readableRec t = true ∧ t < Try.prog.types.size := by
    rw [Try.params3]
    intro t ht
    simp at ht
    subst ht
    exact ⟨by kernel_rfl, of_decide_eq_true (by kernel_rfl)⟩
  by_cases hlen : len ≤ 500
  · refine (valSizesLaw_small A len cap W hlen hcells).mono fun e W' ⟨he, hb⟩ => ?_
    subst he
    exact ⟨_, rfl, law_post hW' rfl hA1 hr (by kernel_rfl) rfl rfl rfl hb⟩
  · refine (valSizesLaw_long A len cap W (by omega) hmax).mono fun e W' ⟨he, hb⟩ => ?_
    subst he
    exact ⟨_, rfl, law_post hW' rfl hA1 hr (by kernel_rfl) rfl rfl rfl hb⟩

theorem valSizes_holds : Rows.ValueSizesSaid :=
  OpenClaim.holds_of_wide 3 Try.f3 rfl rfl rfl rfl rfl rfl rfl ⟨rfl, rfl, rfl, rfl, rfl⟩ rfl rfl rfl rfl rfl (by kernel_rfl) Try.func3 (by kernel_rfl)
    (of_decide_eq_true (by kernel_rfl)) (by unfold Func.isWrapper; first | (rw [if_pos (by decide +kernel)]; kernel_rfl) | (rw [if_neg (by decide +kernel)]; exact ⟨rfl, rfl⟩))
    (fun os started H enc _ => valSizes_lifted os started H enc)

#print axioms valSizes_holds
end Go.Proofs.Ytieafbmabnohhaa
