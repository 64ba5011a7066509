/- For every list of numbers and every number the law that the normal form is reached with any more steps, too, in as many, and that with fewer it is not, returns true, and its arguments read as before. The card: the table of the kinds stands as the program's text lays it. No condition beyond the card's own. -/
import Derived.Test.YtdbkphgamkeboaaDoorPackFin
import Derived.Test.YtdbkphgamkeboaaDoorAddsLaw
import Derived.Test.YtdbkphgamkeboaaDoorTie
import Derived.Test.YtdbkphgamkeboaaDoorCards
import Derived.SevenTiedAt
namespace Go.Proofs.YtdbkphgamkeboaaDoor
open Go.ChangeShapes Go.WideShapes Go.ChangeAt Go.WideMaps Go.WideElems Go.RowKit

theorem addsLaw_long (A : Option Addr) (len cap : Nat) (u : Int) (w : World) (htab : Tab w) (hlen : 500 < len) (hmax : len ≤ maxLen) :
    Calls Tryd.prog 8 #[.slice A len cap, .int .u8 u] w fun e w' => e = .returned (.bool true) ∧ Below w.heap.size w w' := by
  have e500 : decide ((len : Int) ≤ 500) = false := by simp; omega
  go_enter Tryd.func8, Tryd.ntmps8
  go_wp2_with fail
  refine (saneR_any w htab).mono ?_
  rintro e w1 ⟨rfl, hb1⟩
  go_wp2_with fail
  refine (few_any A len cap w1 hmax).mono ?_
  rintro e w1' ⟨rfl, rfl⟩
  rw [e500]
  go_wp2_with fail
  go_ret
  exact ⟨rfl, hb1⟩

set_option maxRecDepth 100000 in
theorem adds_lifted (os : Os) (started : os.Started) (H : Type) (enc : TypeId × Value → H) :
    ReturnsInHanded {} Tryd.checked os 8 .any
      (fun w args => (Rows.reduceAddsSpec.pre enc Tryd.prog Tryd.f8 [] false w args ∧ laidMetH Tryd.prog laidTab w) ∧ sizedMet enc Tryd.prog Tryd.f8 (OpenSpec.ofChange Rows.reduceAddsSpec) false w args)
      (Rows.reduceAddsSpec.post enc Tryd.prog Tryd.f8 false true false false) := by
  refine returnsInHanded_of_change_and (C := Tryd.checked) (X := fun w _ => laidMetH Tryd.prog laidTab w) (fun _ _ _ hh h => h.of_heap hh) own_knob started (by kernel_rfl) Tryd.func8
    (ChangeSpec.witness_shaped (enc := enc) (C := Tryd.checked) (os := os) (X := fun w _ => laidMetH Tryd.prog laidTab w) false (World.doorLaid Tryd.prog 400 os) #[.slice none 0 0, .int .u8 0] 8 rfl (World.shaped_of_RefB (by kernel_rfl) (by kernel_rfl)) (by kernel_rfl) (by kernel_rfl) (by kernel_rfl) (door_met os _)) ?_
  intro W base args ds gs before hval0 hW _ _ hL _
  have hval : ∀ (j : Nat) t v, Tryd.f8.params[j]? = some t → args[j]? = some v → Value.okWide Tryd.prog W .any base t v := hval0
  have hW' := hW
  obtain ⟨p, q, hA0, hV, rfl, hfz, hnd⟩ := hW
  have hA : DataW.TrodAll enc Tryd.prog W 0 (fun _ => true) true Tryd.f8.params.toList args.toList ds p := hA0
  have hA1 := hA
  rw [Tryd.params8] at hA hval
  obtain ⟨v0, v1, d0, d1, p0, p1, rfl, rfl, rfl, h0, h1⟩ := trodAll_two hA
  obtain ⟨rfl, rfl⟩ := trodVars_none hV
  have htab := tab_of_laid hL
  obtain ⟨A, len, cap, rfl, hmax, hcells⟩ := ints_deck (hval 0 _ v0 rfl rfl) h0
  obtain ⟨u, rfl, rfl, rfl, hwf⟩ := open_int Tryd.underlying5 (hval 1 _ v1 rfl rfl) h1
  have hu : 0 ≤ u ∧ u < 256 := by
    have e1 : IntKind.u8.min = 0 := by decide
    have e2 : IntKind.u8.max = 255 := by decide
    simp only [Lit.wf, Bool.and_eq_true, decide_eq_true_eq] at hwf
    omega
  simp only [List.append_nil] at hW' hA1
  have hr : ∀ t ∈ Tryd.f8.params.toList, Tryd.prog.readableRec t = true ∧ t < Tryd.prog.types.size := by
    rw [Tryd.params8]
    intro t ht
    simp at ht
    rcases ht with rfl | rfl <;> exact ⟨by kernel_rfl, of_decide_eq_true (by kernel_rfl)⟩
  by_cases hlen : len ≤ 500
  · refine (addsLaw_small A len cap u W htab hlen hu hcells).mono fun e W' ⟨he, hb⟩ => ?_
    subst he
    exact ⟨_, rfl, law_post hW' rfl hA1 hr (by kernel_rfl) rfl rfl rfl hb⟩
  · refine (addsLaw_long A len cap u W htab (by omega) hmax).mono fun e W' ⟨he, hb⟩ => ?_
    subst he
    exact ⟨_, rfl, law_post hW' rfl hA1 hr (by kernel_rfl) rfl rfl rfl hb⟩

theorem adds_joined : joinedFacts Tryd.pinned.checked.prog 8 Tryd.f8 Rows.reduceAddsSpec Rows.reduceAddsRow = true := by
  unfold joinedFacts
  rw [prog_enter, prog_lifts, prog_make]
  kernel_rfl

theorem adds_row : Rows.ReduceAddsSaid :=
  OpenClaim.holds_of_wide 8 Tryd.f8 rfl rfl rfl rfl rfl rfl rfl ⟨rfl, rfl, rfl, rfl, rfl⟩ rfl rfl rfl rfl rfl (by kernel_rfl) Tryd.func8 adds_joined
    (of_decide_eq_true (by kernel_rfl)) (by unfold Func.isWrapper; first | (rw [if_pos (by decide +kernel)]; kernel_rfl) | (rw [if_neg (by decide +kernel)]; exact ⟨rfl, rfl⟩))
    (fun os started H enc _ => adds_lifted os started H enc)

theorem adds_goes : false = Rows.reduceAddsRow.goesBy Tryd.pinned.checked.prog := by kernel_rfl
theorem adds_looks : Rows.reduceAddsCard.stood.looks = Tryd.pinned.checked.prog.looks [] := by kernel_rfl
theorem adds_main : Tryd.pinned.checked.prog.mainIs = some (Rows.reduceAddsCard.stood.harness.1, Rows.reduceAddsCard.stood.harness.2.toList) := by kernel_rfl
theorem adds_text : Rows.reduceAddsRow.wfByText (OpenSpec.ofChange Rows.reduceAddsSpec) = true := by kernel_rfl
theorem adds_named : Tryd.prog.funcNamed "proofprograms/proofprogramslaw04.ReduceAdds" = some 8 := by kernel_rfl
theorem adds_stands : ([22, 5].all fun u => !Tryd.prog.wantsStandIn u) = true := by kernel_rfl

theorem adds_holds : Rows.ReduceAddsCardSaid :=
  Claim7.holds_tied_plain_at .later [] [.data] true (Rows.reduceAddsCard.stood.harness) Rows.reduceAddsCard.stood.looks
    adds_row (fun _ h => by cases h) adds_text (fun _ h => by cases h) reduceAdds_row_tie rfl ⟨rfl, rfl⟩ adds_main rfl
    (fun f fn hf hfn => by
      obtain rfl : f = 8 := Option.some.inj (adds_named.symm.trans hf) |>.symm
      obtain rfl : fn = Tryd.f8 := (Option.some.inj (Tryd.func8.symm.trans hfn)).symm
      exact ⟨adds_looks, fun j t ht => by
        rw [Tryd.params8] at ht
        have hm : t ∈ [22, 5] := by simpa using Array.mem_of_getElem? ht
        exact (show Tryd.prog.wantsStandIn t = false by simpa using List.all_eq_true.1 adds_stands t hm)⟩)
    adds_goes

#print axioms adds_holds
end Go.Proofs.YtdbkphgamkeboaaDoor
