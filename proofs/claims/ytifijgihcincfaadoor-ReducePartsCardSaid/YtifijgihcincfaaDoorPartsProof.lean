/- For every list of numbers the law on the normal forms of pairs and functions returns true, and its argument reads as before. The card: the table of the kinds stands as the program's text lays it. No condition beyond the card's own. -/
import Derived.Test.YtifijgihcincfaaDoorTabKit
import Derived.Test.YtifijgihcincfaaDoorPackParts
import Derived.Test.YtifijgihcincfaaDoorTie
import Derived.Test.YtifijgihcincfaaDoorCards
import Derived.SevenTiedAt
namespace Go.Proofs.YtifijgihcincfaaDoor
open Go.ChangeShapes Go.WideShapes Go.ChangeAt Go.WideMaps Go.WideElems Go.RowKit

theorem partsLaw_long (A : Option Addr) (len cap : Nat) (w : World) (htab : Tab w) (hlen : 500 < len) (hmax : len ≤ maxLen) :
    Calls Tryd.prog 3 #[.slice A len cap] w fun e w' => e = .returned (.bool true) ∧ Below w.heap.size w w' := by
  have e500 : decide ((len : Int) ≤ 500) = false := by simp; omega
  go_enter Tryd.func3, Tryd.ntmps3
  go_wp2_with fail
  refine (saneR_any w htab).mono ?_
  rintro e w1 ⟨rfl, hb1⟩
  go_wp2_with fail
  refine (few_any A len cap w1 hmax).mono ?_
  rintro e w1' ⟨rfl, rfl⟩
  rw [e500]
  go_wp2_with fail
  go_ret
  exact ⟨rfl, hb1⟩

set_option maxRecDepth 100000 in
theorem parts_lifted (os : Os) (started : os.Started) (H : Type) (enc : TypeId × Value → H) :
    ReturnsInHanded {} Tryd.checked os 3 .any
      (fun w args => (Rows.reducePartsSpec.pre enc Tryd.prog Tryd.f3 [] false w args ∧ laidMetH Tryd.prog laidTab w) ∧ sizedMet enc Tryd.prog Tryd.f3 (OpenSpec.ofChange Rows.reducePartsSpec) false w args)
      (Rows.reducePartsSpec.post enc Tryd.prog Tryd.f3 false true false false) := by
  refine returnsInHanded_of_change_and (C := Tryd.checked) (X := fun w _ => laidMetH Tryd.prog laidTab w) (fun _ _ _ hh h => h.of_heap hh) own_knob started (by kernel_rfl) Tryd.func3
    (ChangeSpec.witness_shaped (enc := enc) (C := Tryd.checked) (os := os) (X := fun w _ => laidMetH Tryd.prog laidTab w) false (World.doorLaid Tryd.prog 400 os) #[.slice none 0 0] 8 rfl (World.shaped_of_RefB (by kernel_rfl) (by kernel_rfl)) (by kernel_rfl) (by kernel_rfl) (by kernel_rfl) (door_met os _)) ?_
  intro W base args ds gs before hval0 hW _ _ hL _
  have hval : ∀ (j : Nat) t v, Tryd.f3.params[j]? = some t → args[j]? = some v → Value.okWide Tryd.prog W .any base t v := hval0
  have hW' := hW
  obtain ⟨p, q, hA0, hV, rfl, hfz, hnd⟩ := hW
  have hA : DataW.TrodAll enc Tryd.prog W 0 (fun _ => true) true Tryd.f3.params.toList args.toList ds p := hA0
  have hA1 := hA
  rw [Tryd.params3] at hA hval
  obtain ⟨v0, d0, rfl, rfl, h0⟩ := trodAll_one hA
  obtain ⟨rfl, rfl⟩ := trodVars_none hV
  have htab := tab_of_laid hL
  obtain ⟨A, len, cap, rfl, hmax, hcells⟩ := ints_deck (hval 0 _ v0 rfl rfl) h0
  simp only [List.append_nil] at hW'
  have hr : ∀ t ∈ Tryd.f3.params.toList, Tryd.prog.readableRec t = true ∧ t < Tryd.prog.types.size := by
    rw [Tryd.params3]
    intro t ht
    simp at ht
    subst ht
    exact ⟨by kernel_rfl, of_decide_eq_true (by kernel_rfl)⟩
  by_cases hlen : len ≤ 500
  · refine (partsLaw_small A len cap W htab hlen hcells).mono fun e W' ⟨he, hb⟩ => ?_
    subst he
    exact ⟨_, rfl, law_post hW' rfl hA1 hr (by kernel_rfl) rfl rfl rfl hb⟩
  · refine (partsLaw_long A len cap W htab (by omega) hmax).mono fun e W' ⟨he, hb⟩ => ?_
    subst he
    exact ⟨_, rfl, law_post hW' rfl hA1 hr (by kernel_rfl) rfl rfl rfl hb⟩

theorem parts_joined : joinedFacts Tryd.pinned.checked.prog 3 Tryd.f3 Rows.reducePartsSpec Rows.reducePartsRow = true := by
  unfold joinedFacts
  rw [prog_enter, prog_lifts, prog_make]
  kernel_rfl

theorem parts_row : Rows.ReducePartsSaid :=
  OpenClaim.holds_of_wide 3 Tryd.f3 rfl rfl rfl rfl rfl rfl rfl ⟨rfl, rfl, rfl, rfl, rfl⟩ rfl rfl rfl rfl rfl (by kernel_rfl) Tryd.func3 parts_joined
    (of_decide_eq_true (by kernel_rfl)) (by unfold Func.isWrapper; first | (rw [if_pos (by decide +kernel)]; kernel_rfl) | (rw [if_neg (by decide +kernel)]; exact ⟨rfl, rfl⟩))
    (fun os started H enc _ => parts_lifted os started H enc)

theorem parts_goes : false = Rows.reducePartsRow.goesBy Tryd.pinned.checked.prog := by kernel_rfl
theorem parts_looks : Rows.reducePartsCard.stood.looks = Tryd.pinned.checked.prog.looks [] := by kernel_rfl
theorem parts_main : Tryd.pinned.checked.prog.mainIs = some (Rows.reducePartsCard.stood.harness.1, Rows.reducePartsCard.stood.harness.2.toList) := by kernel_rfl
theorem parts_text : Rows.reducePartsRow.wfByText (OpenSpec.ofChange Rows.reducePartsSpec) = true := by kernel_rfl
theorem parts_named : Tryd.prog.funcNamed "proofprograms/proofprogramslaw04.ReduceParts" = some 3 := by kernel_rfl
theorem parts_stands : ([22].all fun u => !Tryd.prog.wantsStandIn u) = true := by kernel_rfl

theorem parts_holds : Rows.ReducePartsCardSaid :=
  Claim7.holds_tied_plain_at .later [] [.data] true (Rows.reducePartsCard.stood.harness) Rows.reducePartsCard.stood.looks
    parts_row (fun _ h => by cases h) parts_text (fun _ h => by cases h) reduceParts_row_tie rfl ⟨rfl, rfl⟩ parts_main rfl
    (fun f fn hf hfn => by
      obtain rfl : f = 3 := Option.some.inj (parts_named.symm.trans hf) |>.symm
      obtain rfl : fn = Tryd.f3 := (Option.some.inj (Tryd.func3.symm.trans hfn)).symm
      exact ⟨parts_looks, fun j t ht => by
        rw [Tryd.params3] at ht
        have hm : t ∈ [22] := by simpa using Array.mem_of_getElem? ht
        exact (show Tryd.prog.wantsStandIn t = false by simpa using List.all_eq_true.1 parts_stands t hm)⟩)
    parts_goes

#print axioms parts_holds
end Go.Proofs.YtifijgihcincfaaDoor
