/- For laws over the table of kinds: the table stands when the call begins. -/
import Derived.Test.YtipfnkajdooiiaaGreatDoorQLawKit
import Derived.Test.YtipfnkajdooiiaaGreatDoorQFormedT
import Derived.ProofKit
import Derived.LaidMore
import Derived.OpenShut
import Derived.Stop.Joined
namespace Go.Proofs.YtipfnkajdooiiaaGreatDoor
open Go.ChangeShapes Go.WideShapes Go.ChangeAt Go.WideMaps Go.WideElems Go.RowKit

def laidTab:List (String × DataW Unit):=[("proofprograms/terms.arity",Rows.laid_proofprograms_terms_arity)]
theorem gArity:Tryz.prog.globalNamed "proofprograms/terms.arity"=some 1:=by kernel_rfl
theorem tArity:(Tryz.prog.globals[1]?).map (·.type)=some 225:=by kernel_rfl

/-- The door's own heap meets the condition. -/
theorem door_met (os:Os) (args:Array Value):laidMetH Tryz.prog laidTab ((World.doorLaid Tryz.prog 400 os).forCall (fun _ _=>0) ⟨#[],args,[]⟩).memory:=
 laidMetH_of_parts3 (fuel:=8) (laidMet_of_run' 8 (by kernel_rfl) (by kernel_rfl)) (by kernel_rfl) (by kernel_rfl)

theorem tab_of_laid {W:World} (h:laidMetH Tryz.prog laidTab W):Tab W:=by
 rw [MakeChecks.laidMetH_plain _ _ _ (by kernel_rfl)] at h
 obtain ⟨ps,⟨g0,t0,cs0,f0,p0,q0,hg0,ht0,hv0,hd0,_,_⟩,_,_⟩:=h
 obtain rfl:=Option.some.inj (gArity.symm.trans hg0)
 obtain rfl:=Option.some.inj (tArity.symm.trans ht0)
 obtain ⟨xs,m1,rfl,hx1,hlen,hn3,hel⟩:=DataW.trod_array Tryz.underlying225 hd0
 have c3:Tryz.prog.cellsOf 3=1:=by kernel_rfl
 intro i u hu
 have hi:i<14:=by
   have:=(List.getElem?_eq_some_iff.1 hu).1
   exact this
 have h0:=hel i hi
 obtain ⟨x,hx⟩:∃ x,xs[i]? = some x:=⟨_,List.getElem?_eq_getElem (by omega)⟩
 rw [hx] at h0
 obtain ⟨k,e1,e2,_⟩:=DataW.trod_int Tryz.underlying3 h0
 subst e2
 rw [c3,Nat.mul_one] at e1
 have hc:cs0[i]? = some (.int .i64 k):=by
   have h1:(List.take 1 (List.drop i cs0.toList))[0]? = some (.int .i64 k):=by rw [e1]; rfl
   simpa [List.getElem?_take,List.getElem?_drop] using h1
 have hlaid:Rows.laid_proofprograms_terms_arity (H:=Unit)=.agg (arities.map fun (u:Nat)=>.lit (.int .i64 (u:Int))):=rfl
 rw [hlaid] at hx1
 simp only [Prod.mk.injEq,DataW.agg.injEq] at hx1
 have h2:(arities.map fun (u:Nat)=>(DataW.lit (.int .i64 (u:Int)):DataW Unit))[i]? = (xs.map (·.1))[i]?:=by rw [hx1.1]
 rw [List.getElem?_map,List.getElem?_map,hu,hx] at h2
 simp only [Option.map_some,Option.some.injEq,DataW.lit.injEq,Lit.int.injEq,true_and] at h2
 rw [World.var?_cell hg0 hv0 i,hc,← h2]

/-! What joinedFacts asks of the whole program, each alone: together they take more memory than a build may have. -/
theorem prog_enter:Tryz.pinned.checked.prog.mayEnter=true:=by kernel_rfl
theorem prog_lifts:Tryz.pinned.checked.prog.liftsFinal=false:=by kernel_rfl
theorem prog_make:Tryz.pinned.checked.prog.make=some .cut:=by kernel_rfl
end Go.Proofs.YtipfnkajdooiiaaGreatDoor
