/- For every list of numbers and every three small numbers the law on lifting and lowering (lowering undoes lifting by one, lifting twice is lifting by the sum, and the free variables are lifted) returns true, and its arguments read as before. The card: the table of the kinds stands as the program's text lays it. No condition beyond the card's own. -/
import Derived.Test.YtdhidofmojaheaaDoorLiftsLaw
import Derived.Test.YtdhidofmojaheaaDoorPackEndL
import Derived.Test.YtdhidofmojaheaaDoorTie
import Derived.Test.YtdhidofmojaheaaDoorCards
import Derived.SevenTiedAt
namespace Go.Proofs.YtdhidofmojaheaaDoor
open Go.ChangeShapes Go.WideShapes Go.ChangeAt Go.WideMaps Go.WideElems Go.RowKit

theorem trodAll_four {P : Program} {H : Type} {enc : TypeId × Value → H} {w : World} {base : Nat} {spare : Nat → Bool} {held : Bool} {t t' t'' t3 : TypeId} {args : Array Value} {ds : List (DataW H)} {ps : List MemPlace} (h : DataW.TrodAll enc P w base spare held [t, t', t'', t3] args.toList ds ps) :
    ∃ v v' v'' v3 d d' d'' d3 p p' p'' p3, args = #[v, v', v'', v3] ∧ ds = [d, d', d'', d3] ∧ ps = p ++ (p' ++ (p'' ++ p3)) ∧ DataW.Trod enc P w base spare held t v d p ∧ DataW.Trod enc P w base spare held t' v' d' p' ∧ DataW.Trod enc P w base spare held t'' v'' d'' p'' ∧ DataW.Trod enc P w base spare held t3 v3 d3 p3 := by
  obtain ⟨v, vs, d, ds', p, q, hargs, rfl, rfl, hd, hrest⟩ := trodAll_cons h
  obtain ⟨v', vs', d', ds'', p', q', rfl, rfl, rfl, hd', hrest'⟩ := trodAll_cons hrest
  obtain ⟨v'', vs'', d'', ds3, p'', q'', rfl, rfl, rfl, hd'', hrest''⟩ := trodAll_cons hrest'
  obtain ⟨v3, vs3, d3, ds4, p3, q3, rfl, rfl, rfl, hd3, hrest3⟩ := trodAll_cons hrest''
  obtain ⟨rfl, rfl, rfl⟩ := trodAll_nil hrest3
  exact ⟨v, v', v'', v3, d, d', d'', d3, p, p', p'', p3, by cases args; simp_all, rfl, by simp, hd, hd', hd'', hd3⟩

theorem liftsLaw_long (A : Option Addr) (len cap : Nat) (u1 u2 u3 : Int) (w : World) (htab : Tab w) (hlen : 500 < len) (hmax : len ≤ maxLen) :
    Calls Tryd.prog 7 #[.slice A len cap, .int .u8 u1, .int .u8 u2, .int .u8 u3] w fun e w' => e = .returned (.bool true) ∧ Below w.heap.size w w' := by
  have e500 : decide ((len : Int) ≤ 500) = false := by simp; omega
  go_enter Tryd.func7, Tryd.ntmps7
  go_wp2_with fail
  refine (saneS_any w htab).mono ?_
  rintro e w1 ⟨rfl, hb1⟩
  go_wp2_with fail
  refine (few_any A len cap w1 hmax).mono ?_
  rintro e w1' ⟨rfl, rfl⟩
  rw [e500]
  go_wp2_with fail
  go_ret
  exact ⟨rfl, hb1⟩

set_option maxRecDepth 100000 in
theorem lifts_lifted (os : Os) (started : os.Started) (H : Type) (enc : TypeId × Value → H) :
    ReturnsInHanded {} Tryd.checked os 7 .any
      (fun w args => (Rows.substLiftsSpec.pre enc Tryd.prog Tryd.f7 [] false w args ∧ laidMetH Tryd.prog laidTab w) ∧ sizedMet enc Tryd.prog Tryd.f7 (OpenSpec.ofChange Rows.substLiftsSpec) false w args)
      (Rows.substLiftsSpec.post enc Tryd.prog Tryd.f7 false true false false) := by
  refine returnsInHanded_of_change_and (C := Tryd.checked) (X := fun w _ => laidMetH Tryd.prog laidTab w) (fun _ _ _ hh h => h.of_heap hh) own_knob started (by kernel_rfl) Tryd.func7
    (ChangeSpec.witness_shaped (enc := enc) (C := Tryd.checked) (os := os) (X := fun w _ => laidMetH Tryd.prog laidTab w) false (World.doorLaid Tryd.prog 400 os) #[.slice none 0 0, .int .u8 0, .int .u8 0, .int .u8 0] 8 rfl (World.shaped_of_RefB (by kernel_rfl) (by kernel_rfl)) (by kernel_rfl) (by kernel_rfl) (by kernel_rfl) (door_met os _)) ?_
  intro W base args ds gs before hval0 hW _ _ hL _
  have hval : ∀ (j : Nat) t v, Tryd.f7.params[j]? = some t → args[j]? = some v → Value.okWide Tryd.prog W .any base t v := hval0
  have hW' := hW
  obtain ⟨p, q, hA0, hV, rfl, hfz, hnd⟩ := hW
  have hA : DataW.TrodAll enc Tryd.prog W 0 (fun _ => true) true Tryd.f7.params.toList args.toList ds p := hA0
  have hA1 := hA
  rw [Tryd.params7] at hA hval
  obtain ⟨v0, v1, v2, v3, d0, d1, d2, d3, p0, p1, p2, p3, rfl, rfl, rfl, h0, h1, h2, h3⟩ := trodAll_four hA
  obtain ⟨rfl, rfl⟩ := trodVars_none hV
  have htab := tab_of_laid hL
  obtain ⟨A, len, cap, rfl, hmax, hcells⟩ := ints_deck (hval 0 _ v0 rfl rfl) h0
  obtain ⟨u1, rfl, rfl, rfl, hwf1⟩ := open_int Tryd.underlying5 (hval 1 _ v1 rfl rfl) h1
  obtain ⟨u2, rfl, rfl, rfl, hwf2⟩ := open_int Tryd.underlying5 (hval 2 _ v2 rfl rfl) h2
  obtain ⟨u3, rfl, rfl, rfl, hwf3⟩ := open_int Tryd.underlying5 (hval 3 _ v3 rfl rfl) h3
  have hb8 : ∀ u : Int, (Lit.int IntKind.u8 u).wf = true → 0 ≤ u ∧ u < 256 := by
    intro u hwf
    have e1 : IntKind.u8.min = 0 := by decide
    have e2 : IntKind.u8.max = 255 := by decide
    simp only [Lit.wf, Bool.and_eq_true, decide_eq_true_eq] at hwf
    omega
  have hu1 := hb8 u1 hwf1
  have hu2 := hb8 u2 hwf2
  have hu3 := hb8 u3 hwf3
  simp only [List.append_nil] at hW' hA1
  have hr : ∀ t ∈ Tryd.f7.params.toList, Tryd.prog.readableRec t = true ∧ t < Tryd.prog.types.size := by
    rw [Tryd.params7]
    intro t ht
    simp at ht
    rcases ht with rfl | rfl <;> exact ⟨by kernel_rfl, of_decide_eq_true (by kernel_rfl)⟩
  by_cases hlen : len ≤ 500
  · refine (liftsLaw_small A len cap u1 u2 u3 W htab hlen hu1 hu2 hu3 hcells).mono fun e W' ⟨he, hb⟩ => ?_
    subst he
    exact ⟨_, rfl, law_post hW' rfl hA1 hr (by kernel_rfl) rfl rfl rfl hb⟩
  · refine (liftsLaw_long A len cap u1 u2 u3 W htab (by omega) hmax).mono fun e W' ⟨he, hb⟩ => ?_
    subst he
    exact ⟨_, rfl, law_post hW' rfl hA1 hr (by kernel_rfl) rfl rfl rfl hb⟩

theorem lifts_joined : joinedFacts Tryd.pinned.checked.prog 7 Tryd.f7 Rows.substLiftsSpec Rows.substLiftsRow = true := by
  unfold joinedFacts
  rw [prog_enter, prog_lifts, prog_make]
  kernel_rfl

theorem lifts_row : Rows.SubstLiftsSaid :=
  OpenClaim.holds_of_wide 7 Tryd.f7 rfl rfl rfl rfl rfl rfl rfl ⟨rfl, rfl, rfl, rfl, rfl⟩ rfl rfl rfl rfl rfl (by kernel_rfl) Tryd.func7 lifts_joined
    (of_decide_eq_true (by kernel_rfl)) (by unfold Func.isWrapper; first | (rw [if_pos (by decide +kernel)]; kernel_rfl) | (rw [if_neg (by decide +kernel)]; exact ⟨rfl, rfl⟩))
    (fun os started H enc _ => lifts_lifted os started H enc)

theorem lifts_goes : false = Rows.substLiftsRow.goesBy Tryd.pinned.checked.prog := by kernel_rfl
theorem lifts_looks : Rows.substLiftsCard.stood.looks = Tryd.pinned.checked.prog.looks [] := by kernel_rfl
theorem lifts_main : Tryd.pinned.checked.prog.mainIs = some (Rows.substLiftsCard.stood.harness.1, Rows.substLiftsCard.stood.harness.2.toList) := by kernel_rfl
theorem lifts_text : Rows.substLiftsRow.wfByText (OpenSpec.ofChange Rows.substLiftsSpec) = true := by kernel_rfl
theorem lifts_named : Tryd.prog.funcNamed "proofprograms/proofprogramslaw03.SubstLifts" = some 7 := by kernel_rfl
theorem lifts_stands : ([22, 5, 5, 5].all fun u => !Tryd.prog.wantsStandIn u) = true := by kernel_rfl

theorem lifts_holds : Rows.SubstLiftsCardSaid :=
  Claim7.holds_tied_plain_at .later [] [.data] true (Rows.substLiftsCard.stood.harness) Rows.substLiftsCard.stood.looks
    lifts_row (fun _ h => by cases h) lifts_text (fun _ h => by cases h) substLifts_row_tie rfl ⟨rfl, rfl⟩ lifts_main rfl
    (fun f fn hf hfn => by
      obtain rfl : f = 7 := Option.some.inj (lifts_named.symm.trans hf) |>.symm
      obtain rfl : fn = Tryd.f7 := (Option.some.inj (Tryd.func7.symm.trans hfn)).symm
      exact ⟨lifts_looks, fun j t ht => by
        rw [Tryd.params7] at ht
        have hm : t ∈ [22, 5, 5, 5] := by simpa using Array.mem_of_getElem? ht
        exact (show Tryd.prog.wantsStandIn t = false by simpa using List.all_eq_true.1 lifts_stands t hm)⟩)
    lifts_goes

#print axioms lifts_holds
end Go.Proofs.YtdhidofmojaheaaDoor
