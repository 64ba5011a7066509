/- For every list of numbers the law on formulas that are lifted, lowered, filled in, negated and joined returns true, and its argument reads as before. The card: the table of the kinds stands as the program's text lays it. No condition beyond the card's own. -/
import Derived.Test.YtipfnkajdooiiaaGreatDoorQPackF9
import Derived.Test.YtipfnkajdooiiaaGreatDoorQTabKit
import Derived.Test.YtipfnkajdooiiaaGreatDoorTie
import Derived.Test.YtipfnkajdooiiaaGreatDoorCards
import Derived.SevenTiedAt
namespace Go.Proofs.YtipfnkajdooiiaaGreatDoor
open Go.ChangeShapes Go.WideShapes Go.ChangeAt Go.WideMaps Go.WideElems Go.RowKit

theorem fLiftsLaw_long (A:Option Addr) (len cap:Nat) (w:World) (htab:Tab w) (hlen:500<len) (hmax:len≤maxLen) :
   Calls Tryz.prog 3 #[.slice A len cap] w fun e w'=>e=.returned (.bool true)∧Below w.heap.size w w':=by
 have e500:decide ((len:Int)≤500)=false:=by simp; omega
 go_enter Tryz.func3,Tryz.ntmps3
 go_wp2_with fail
 refine (sane7_any w htab).mono ?_
 rintro e w1 ⟨rfl,hb1⟩
 go_wp2_with fail
 refine (few_any A len cap w1 hmax).mono ?_
 rintro e w1' ⟨rfl,rfl⟩
 rw [e500]
 go_wp2_with fail
 go_ret
 exact ⟨rfl,hb1⟩

set_option maxRecDepth 100000 in
theorem fLifts_lifted (os:Os) (started:os.Started) (H:Type) (enc:TypeId × Value→H) :
   ReturnsInHanded {} Tryz.checked os 3 .any
     (fun w args=>(Rows.formulaLiftsSpec.pre enc Tryz.prog Tryz.f3 [] false w args∧laidMetH Tryz.prog laidTab w)∧sizedMet enc Tryz.prog Tryz.f3 (OpenSpec.ofChange Rows.formulaLiftsSpec) false w args)
     (Rows.formulaLiftsSpec.post enc Tryz.prog Tryz.f3 false true false false):=by
 refine returnsInHanded_of_change_and (C:=Tryz.checked) (X:=fun w _=>laidMetH Tryz.prog laidTab w) (fun _ _ _ hh h=>h.of_heap hh) own_knob started (by kernel_rfl) Tryz.func3
   (ChangeSpec.witness_shaped (enc:=enc) (C:=Tryz.checked) (os:=os) (X:=fun w _=>laidMetH Tryz.prog laidTab w) false (World.doorLaid Tryz.prog 400 os) #[.slice none 0 0] 8 rfl (World.shaped_of_RefB (by kernel_rfl) (by kernel_rfl)) (by kernel_rfl) (by kernel_rfl) (by kernel_rfl) (door_met os _)) ?_
 intro W base args ds gs before hval0 hW _ _ hL _
 have hval:∀ (j:Nat) t v,Tryz.f3.params[j]? = some t→args[j]? = some v→Value.okWide Tryz.prog W .any base t v:=hval0
 have hW':=hW
 obtain ⟨p,q,hA0,hV,rfl,hfz,hnd⟩:=hW
 have hA:DataW.TrodAll enc Tryz.prog W 0 (fun _=>true) true Tryz.f3.params.toList args.toList ds p:=hA0
 have hA1:=hA
 rw [Tryz.params3] at hA hval
 obtain ⟨v0,d0,rfl,rfl,h0⟩:=trodAll_one hA
 obtain ⟨rfl,rfl⟩:=trodVars_none hV
 have htab:=tab_of_laid hL
 obtain ⟨A,len,cap,rfl,hmax,hcells⟩:=ints_deck (hval 0 _ v0 rfl rfl) h0
 simp only [List.append_nil] at hW'
 have hr:∀ t ∈ Tryz.f3.params.toList,Tryz.prog.readableRec t=true∧t < Tryz.prog.types.size:=by
   rw [Tryz.params3]
   intro t ht
   simp at ht
   subst ht
   exact ⟨by kernel_rfl,of_decide_eq_true (by kernel_rfl)⟩
 by_cases hlen:len≤500
 · refine (fLiftsLaw_small A len cap W htab hlen hcells).mono fun e W' ⟨he,hb⟩=>?_
   subst he
   exact ⟨_,rfl,law_post hW' rfl hA1 hr (by kernel_rfl) rfl rfl rfl hb⟩
 · refine (fLiftsLaw_long A len cap W htab (by omega) hmax).mono fun e W' ⟨he,hb⟩=>?_
   subst he
   exact ⟨_,rfl,law_post hW' rfl hA1 hr (by kernel_rfl) rfl rfl rfl hb⟩

theorem fLifts_joined:joinedFacts Tryz.pinned.checked.prog 3 Tryz.f3 Rows.formulaLiftsSpec Rows.formulaLiftsRow=true:=by
 unfold joinedFacts
 rw [prog_enter,prog_lifts,prog_make]
 kernel_rfl

theorem fLifts_row:Rows.FormulaLiftsSaid:=
 OpenClaim.holds_of_wide 3 Tryz.f3 rfl rfl rfl rfl rfl rfl rfl ⟨rfl,rfl,rfl,rfl,rfl⟩ rfl rfl rfl rfl rfl (by kernel_rfl) Tryz.func3 fLifts_joined
   (of_decide_eq_true (by kernel_rfl)) (by unfold Func.isWrapper; first | (rw [if_pos (by decide +kernel)]; kernel_rfl) | (rw [if_neg (by decide +kernel)]; exact ⟨rfl,rfl⟩))
   (fun os started H enc _=>fLifts_lifted os started H enc)

theorem fLifts_goes:false=Rows.formulaLiftsRow.goesBy Tryz.pinned.checked.prog:=by kernel_rfl
theorem fLifts_looks:Rows.formulaLiftsCard.stood.looks = Tryz.pinned.checked.prog.looks []:=by kernel_rfl
theorem fLifts_main:Tryz.pinned.checked.prog.mainIs=some (Rows.formulaLiftsCard.stood.harness.1,Rows.formulaLiftsCard.stood.harness.2.toList):=by kernel_rfl
theorem fLifts_text:Rows.formulaLiftsRow.wfByText (OpenSpec.ofChange Rows.formulaLiftsSpec)=true:=by kernel_rfl
theorem fLifts_named:Tryz.prog.funcNamed "proofprograms/proofprogramslaw07.FormulaLifts"=some 3:=by kernel_rfl
theorem fLifts_stands:([22].all fun u=>!Tryz.prog.wantsStandIn u)=true:=by kernel_rfl

theorem fLifts_holds:Rows.FormulaLiftsCardSaid:=
 Claim7.holds_tied_plain_at .later [] [.data] true (Rows.formulaLiftsCard.stood.harness) Rows.formulaLiftsCard.stood.looks
   fLifts_row (fun _ h=>by cases h) fLifts_text (fun _ h=>by cases h) formulaLifts_row_tie rfl ⟨rfl,rfl⟩ fLifts_main rfl
   (fun f fn hf hfn=>by
     obtain rfl:f=3:=Option.some.inj (fLifts_named.symm.trans hf) |>.symm
     obtain rfl:fn = Tryz.f3:=(Option.some.inj (Tryz.func3.symm.trans hfn)).symm
     exact ⟨fLifts_looks,fun j t ht=>by
       rw [Tryz.params3] at ht
       have hm:t ∈ [22]:=by simpa using Array.mem_of_getElem? ht
       exact (show Tryz.prog.wantsStandIn t=false by simpa using List.all_eq_true.1 fLifts_stands t hm)⟩)
   fLifts_goes

#print axioms fLifts_holds
end Go.Proofs.YtipfnkajdooiiaaGreatDoor
