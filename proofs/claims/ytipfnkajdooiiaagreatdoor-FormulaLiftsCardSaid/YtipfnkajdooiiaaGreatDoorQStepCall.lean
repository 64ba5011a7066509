/- A call of a Go function as one step of a region that draws its order: for go_region_law. -/
import Derived.Test.YtipfnkajdooiiaaGreatDoorQDeck
import Derived.Deep.AppendLies
import Derived.Deep.RegionLaw
import Derived.Shelf.Abstract
namespace Go.Proofs.YtipfnkajdooiiaaGreatDoor
open Go.RowKit Go.Shelf

theorem step_call {P:Program} {ops:Array Oper} {o:Oper} {a:Act} {w:World} {K:Act→World→Prop} {Q:Exit→Act→World→Prop} {E:Prop} (hgd:o.guard=none) (f:FuncId) (os:Array Operand) (ts:Array TypeId)
   (ho:o.op=Op.call { callee:=Callee.value (Operand.func f),args:=os,argTypes:=ts }) (vals:Array Value) (hv:os.map a.eval=vals) (hrun:∀ args w,(callFunc f args).run P w=.ok (.enter f args) w)
   {R:Ending→World→Prop} (hc:Calls P f vals w R) (h:∀ e w',R e w'→∃ v,e=.returned v∧K (a.put o.dst v) w') :
   if Region.wanted o (yielded ops a.tmps)=true then Oper.wp P o a w K Q else E:=by
 have hw:Region.wanted o (yielded ops a.tmps)=true:=by simp [Region.wanted,hgd]
 rw [if_pos hw]
 have hx:(execOp a.eval o).run P w=.ok (.enter f vals) w:=by
   have:=hrun vals w
   simp [execOp,ho,resolve,hv,Act.eval,invoke,Deferred.ofValue,this,go_sem]
 unfold Oper.wp
 rw [hx,Oper.upon_enter]
 refine hc.mono ?_
 intro e w' hr
 obtain ⟨v,rfl,hk⟩:=h e w' hr
 exact hk

end Go.Proofs.YtipfnkajdooiiaaGreatDoor
