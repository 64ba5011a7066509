/- For every list of numbers and every small number of steps the law that matching goes both ways, and that a term matches itself and what it becomes by steps, returns true, and its arguments read as before. The card: the table of the kinds stands as the program's text lays it. No condition beyond the card's own. -/
import Derived.Test.YtdhidofmojaheaaDoorMatchesLaw
import Derived.Test.YtdhidofmojaheaaDoorPackFin
import Derived.Test.YtdhidofmojaheaaDoorTie
import Derived.Test.YtdhidofmojaheaaDoorCards
import Derived.SevenTiedAt
namespace Go.Proofs.YtdhidofmojaheaaDoor
open Go.ChangeShapes Go.WideShapes Go.ChangeAt Go.WideMaps Go.WideElems Go.RowKit

theorem matchesLaw_long (A : Option Addr) (len cap : Nat) (u : Int) (w : World) (htab : Tab w) (hlen : 500 < len) (hmax : len ≤ maxLen) :
    Calls Tryd.prog 3 #[.slice A len cap, .int .u8 u] w fun e w' => e = .returned (.bool true) ∧ Below w.heap.size w w' := by
  have e500 : decide ((len : Int) ≤ 500) = false := by simp; omega
  go_enter Tryd.func3, Tryd.ntmps3
  go_wp2_with fail
  refine (saneR_any w htab).mono ?_
  rintro e w1 ⟨rfl, hb1⟩
  go_wp2_with fail
  refine (few_any A len cap w1 hmax).mono ?_
  rintro e w1' ⟨rfl, rfl⟩
  rw [e500]
  go_wp2_with fail
  go_ret
  exact ⟨rfl, hb1⟩

set_option maxRecDepth 100000 in
theorem matches_lifted (os : Os) (started : os.Started) (H : Type) (enc : TypeId × Value → H) :
    ReturnsInHanded {} Tryd.checked os 3 .any
      (fun w args => (Rows.reduceMatchesSpec.pre enc Tryd.prog Tryd.f3 [] false w args ∧ laidMetH Tryd.prog laidTab w) ∧ sizedMet enc Tryd.prog Tryd.f3 (OpenSpec.ofChange Rows.reduceMatchesSpec) false w args)
      (Rows.reduceMatchesSpec.post enc Tryd.prog Tryd.f3 false true false false) := by
  refine returnsInHanded_of_change_and (C := Tryd.checked) (X := fun w _ => laidMetH Tryd.prog laidTab w) (fun _ _ _ hh h => h.of_heap hh) own_knob started (by kernel_rfl) Tryd.func3
    (ChangeSpec.witness_shaped (enc := enc) (C := Tryd.checked) (os := os) (X := fun w _ => laidMetH Tryd.prog laidTab w) false (World.doorLaid Tryd.prog 400 os) #[.slice none 0 0, .int .u8 0] 8 rfl (World.shaped_of_RefB (by kernel_rfl) (by kernel_rfl)) (by kernel_rfl) (by kernel_rfl) (by kernel_rfl) (door_met os _)) ?_
  intro W base args ds gs before hval0 hW _ _ hL _
  have hval : ∀ (j : Nat) t v, Tryd.f3.params[j]? = some t → args[j]? = some v → Value.okWide Tryd.prog W .any base t v := hval0
  have hW' := hW
  obtain ⟨p, q, hA0, hV, rfl, hfz, hnd⟩ := hW
  have hA : DataW.TrodAll enc Tryd.prog W 0 (fun _ => true) true Tryd.f3.params.toList args.toList ds p := hA0
  have hA1 := hA
  rw [Tryd.params3] at hA hval
  obtain ⟨v0, v1, d0, d1, p0, p1, rfl, rfl, rfl, h0, h1⟩ := trodAll_two hA
  obtain ⟨rfl, rfl⟩ := trodVars_none hV
  have htab := tab_of_laid hL
  obtain ⟨A, len, cap, rfl, hmax, hcells⟩ := ints_deck (hval 0 _ v0 rfl rfl) h0
  obtain ⟨u, rfl, rfl, rfl, hwf⟩ := open_int Tryd.underlying5 (hval 1 _ v1 rfl rfl) h1
  have hu : 0 ≤ u ∧ u < 256 := by
    have e1 : IntKind.u8.min = 0 := by decide
    have e2 : IntKind.u8.max = 255 := by decide
    simp only [Lit.wf, Bool.and_eq_true, decide_eq_true_eq] at hwf
    omega
  simp only [List.append_nil] at hW' hA1
  have hr : ∀ t ∈ Tryd.f3.params.toList, Tryd.prog.readableRec t = true ∧ t < Tryd.prog.types.size := by
    rw [Tryd.params3]
    intro t ht
    simp at ht
    rcases ht with rfl | rfl <;> exact ⟨by kernel_rfl, of_decide_eq_true (by kernel_rfl)⟩
  by_cases hlen : len ≤ 500
  · refine (matchesLaw_small A len cap u W htab hlen hu hcells).mono fun e W' ⟨he, hb⟩ => ?_
    subst he
    exact ⟨_, rfl, law_post hW' rfl hA1 hr (by kernel_rfl) rfl rfl rfl hb⟩
  · refine (matchesLaw_long A len cap u W htab (by omega) hmax).mono fun e W' ⟨he, hb⟩ => ?_
    subst he
    exact ⟨_, rfl, law_post hW' rfl hA1 hr (by kernel_rfl) rfl rfl rfl hb⟩

theorem matches_joined : joinedFacts Tryd.pinned.checked.prog 3 Tryd.f3 Rows.reduceMatchesSpec Rows.reduceMatchesRow = true := by
  unfold joinedFacts
  rw [prog_enter, prog_lifts, prog_make]
  kernel_rfl

theorem matches_row : Rows.ReduceMatchesSaid :=
  OpenClaim.holds_of_wide 3 Tryd.f3 rfl rfl rfl rfl rfl rfl rfl ⟨rfl, rfl, rfl, rfl, rfl⟩ rfl rfl rfl rfl rfl (by kernel_rfl) Tryd.func3 matches_joined
    (of_decide_eq_true (by kernel_rfl)) (by unfold Func.isWrapper; first | (rw [if_pos (by decide +kernel)]; kernel_rfl) | (rw [if_neg (by decide +kernel)]; exact ⟨rfl, rfl⟩))
    (fun os started H enc _ => matches_lifted os started H enc)

theorem matches_goes : false = Rows.reduceMatchesRow.goesBy Tryd.pinned.checked.prog := by kernel_rfl
theorem matches_looks : Rows.reduceMatchesCard.stood.looks = Tryd.pinned.checked.prog.looks [] := by kernel_rfl
theorem matches_main : Tryd.pinned.checked.prog.mainIs = some (Rows.reduceMatchesCard.stood.harness.1, Rows.reduceMatchesCard.stood.harness.2.toList) := by kernel_rfl
theorem matches_text : Rows.reduceMatchesRow.wfByText (OpenSpec.ofChange Rows.reduceMatchesSpec) = true := by kernel_rfl
theorem matches_named : Tryd.prog.funcNamed "proofprograms/proofprogramslaw04.ReduceMatches" = some 3 := by kernel_rfl
theorem matches_stands : ([22, 5].all fun u => !Tryd.prog.wantsStandIn u) = true := by kernel_rfl

theorem matches_holds : Rows.ReduceMatchesCardSaid :=
  Claim7.holds_tied_plain_at .later [] [.data] true (Rows.reduceMatchesCard.stood.harness) Rows.reduceMatchesCard.stood.looks
    matches_row (fun _ h => by cases h) matches_text (fun _ h => by cases h) reduceMatches_row_tie rfl ⟨rfl, rfl⟩ matches_main rfl
    (fun f fn hf hfn => by
      obtain rfl : f = 3 := Option.some.inj (matches_named.symm.trans hf) |>.symm
      obtain rfl : fn = Tryd.f3 := (Option.some.inj (Tryd.func3.symm.trans hfn)).symm
      exact ⟨matches_looks, fun j t ht => by
        rw [Tryd.params3] at ht
        have hm : t ∈ [22, 5] := by simpa using Array.mem_of_getElem? ht
        exact (show Tryd.prog.wantsStandIn t = false by simpa using List.all_eq_true.1 matches_stands t hm)⟩)
    matches_goes

#print axioms matches_holds
end Go.Proofs.YtdhidofmojaheaaDoor
