/- For every list of numbers the law on values and back returns true: the term of a value is read as that value again, it has the value's type, and it is normal; and its argument reads as before. The card: the table of the kinds stands as the program's text lays it. No condition beyond the card's own. -/
import Derived.Test.YtifijgihcincfaaDoorPackRv
import Derived.Test.YtifijgihcincfaaDoorTabKit
import Derived.Test.YtifijgihcincfaaDoorLawKit
import Derived.Test.YtifijgihcincfaaDoorTie
import Derived.Test.YtifijgihcincfaaDoorCards
import Derived.SevenTiedAt
namespace Go.Proofs.YtifijgihcincfaaDoor
open Go.ChangeShapes Go.WideShapes Go.ChangeAt Go.WideMaps Go.WideElems Go.RowKit

theorem backLaw_long (A : Option Addr) (len cap : Nat) (w : World) (htab : Tab w) (hlen : 500 < len) (hmax : len ≤ maxLen) :
    Calls Tryd.prog 4 #[.slice A len cap] w fun e w' => e = .returned (.bool true) ∧ Below w.heap.size w w' := by
  have e500 : decide ((len : Int) ≤ 500) = false := by simp; omega
  go_enter Tryd.func4, Tryd.ntmps4
  go_wp2_with fail
  refine (saneV_tab w htab).mono ?_
  rintro e w1 ⟨rfl, hb1⟩
  go_wp2_with fail
  refine (few_any A len cap w1 hmax).mono ?_
  rintro e w1' ⟨rfl, rfl⟩
  rw [e500]
  go_wp2_with fail
  go_ret
  exact ⟨rfl, hb1⟩

set_option maxRecDepth 100000 in
theorem back_lifted (os : Os) (started : os.Started) (H : Type) (enc : TypeId × Value → H) :
    ReturnsInHanded {} Tryd.checked os 4 .any
      (fun w args => (Rows.valueBackSpec.pre enc Tryd.prog Tryd.f4 [] false w args ∧ laidMetH Tryd.prog laidTab w) ∧ sizedMet enc Tryd.prog Tryd.f4 (OpenSpec.ofChange Rows.valueBackSpec) false w args)
      (Rows.valueBackSpec.post enc Tryd.prog Tryd.f4 false true false false) := by
  refine returnsInHanded_of_change_and (C := Tryd.checked) (X := fun w _ => laidMetH Tryd.prog laidTab w) (fun _ _ _ hh h => h.of_heap hh) own_knob started (by kernel_rfl) Tryd.func4
    (ChangeSpec.witness_shaped (enc := enc) (C := Tryd.checked) (os := os) (X := fun w _ => laidMetH Tryd.prog laidTab w) false (World.doorLaid Tryd.prog 400 os) #[.slice none 0 0] 8 rfl (World.shaped_of_RefB (by kernel_rfl) (by kernel_rfl)) (by kernel_rfl) (by kernel_rfl) (by kernel_rfl) (door_met os _)) ?_
  intro W base args ds gs before hval0 hW _ _ hL _
  have hval : ∀ (j : Nat) t v, Tryd.f4.params[j]? = some t → args[j]? = some v → Value.okWide Tryd.prog W .any base t v := hval0
  have hW' := hW
  obtain ⟨p, q, hA0, hV, rfl, hfz, hnd⟩ := hW
  have hA : DataW.TrodAll enc Tryd.prog W 0 (fun _ => true) true Tryd.f4.params.toList args.toList ds p := hA0
  have hA1 := hA
  rw [Tryd.params4] at hA hval
  obtain ⟨v0, d0, rfl, rfl, h0⟩ := trodAll_one hA
  obtain ⟨rfl, rfl⟩ := trodVars_none hV
  have htab := tab_of_laid hL
  obtain ⟨A, len, cap, rfl, hmax, hcells⟩ := ints_deck (hval 0 _ v0 rfl rfl) h0
  simp only [List.append_nil] at hW'
  have hr : ∀ t ∈ Tryd.f4.params.toList, Tryd.prog.readableRec t = true ∧ t < Tryd.prog.types.size := by
    rw [Tryd.params4]
    intro t ht
    simp at ht
    subst ht
    exact ⟨by kernel_rfl, of_decide_eq_true (by kernel_rfl)⟩
  by_cases hlen : len ≤ 500
  · refine (backLaw_small A len cap W htab hlen hcells).mono fun e W' ⟨he, hb⟩ => ?_
    subst he
    exact ⟨_, rfl, law_post hW' rfl hA1 hr (by kernel_rfl) rfl rfl rfl hb⟩
  · refine (backLaw_long A len cap W htab (by omega) hmax).mono fun e W' ⟨he, hb⟩ => ?_
    subst he
    exact ⟨_, rfl, law_post hW' rfl hA1 hr (by kernel_rfl) rfl rfl rfl hb⟩

theorem back_joined : joinedFacts Tryd.pinned.checked.prog 4 Tryd.f4 Rows.valueBackSpec Rows.valueBackRow = true := by
  unfold joinedFacts
  rw [prog_enter, prog_lifts, prog_make]
  kernel_rfl

theorem back_row : Rows.ValueBackSaid :=
  OpenClaim.holds_of_wide 4 Tryd.f4 rfl rfl rfl rfl rfl rfl rfl ⟨rfl, rfl, rfl, rfl, rfl⟩ rfl rfl rfl rfl rfl (by kernel_rfl) Tryd.func4 back_joined
    (of_decide_eq_true (by kernel_rfl)) (by unfold Func.isWrapper; first | (rw [if_pos (by decide +kernel)]; kernel_rfl) | (rw [if_neg (by decide +kernel)]; exact ⟨rfl, rfl⟩))
    (fun os started H enc _ => back_lifted os started H enc)

theorem back_goes : false = Rows.valueBackRow.goesBy Tryd.pinned.checked.prog := by kernel_rfl
theorem back_looks : Rows.valueBackCard.stood.looks = Tryd.pinned.checked.prog.looks [] := by kernel_rfl
theorem back_main : Tryd.pinned.checked.prog.mainIs = some (Rows.valueBackCard.stood.harness.1, Rows.valueBackCard.stood.harness.2.toList) := by kernel_rfl
theorem back_text : Rows.valueBackRow.wfByText (OpenSpec.ofChange Rows.valueBackSpec) = true := by kernel_rfl
theorem back_named : Tryd.prog.funcNamed "proofprograms/proofprogramslaw05.ValueBack" = some 4 := by kernel_rfl
theorem back_stands : ([22].all fun u => !Tryd.prog.wantsStandIn u) = true := by kernel_rfl

theorem back_holds : Rows.ValueBackCardSaid :=
  Claim7.holds_tied_plain_at .later [] [.data] true (Rows.valueBackCard.stood.harness) Rows.valueBackCard.stood.looks
    back_row (fun _ h => by cases h) back_text (fun _ h => by cases h) valueBack_row_tie rfl ⟨rfl, rfl⟩ back_main rfl
    (fun f fn hf hfn => by
      obtain rfl : f = 4 := Option.some.inj (back_named.symm.trans hf) |>.symm
      obtain rfl : fn = Tryd.f4 := (Option.some.inj (Tryd.func4.symm.trans hfn)).symm
      exact ⟨back_looks, fun j t ht => by
        rw [Tryd.params4] at ht
        have hm : t ∈ [22] := by simpa using Array.mem_of_getElem? ht
        exact (show Tryd.prog.wantsStandIn t = false by simpa using List.all_eq_true.1 back_stands t hm)⟩)
    back_goes

#print axioms back_holds
end Go.Proofs.YtifijgihcincfaaDoor
