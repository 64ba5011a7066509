/- Facts for regions: formulas. -/
import Derived.Test.YthlknhkemmdocaaGreatDoorQPackReg
import Derived.Test.YthlknhkemmdocaaGreatDoorQPackFml
import Derived.Test.YthlknhkemmdocaaGreatDoorQPackMk
import Derived.Laws.OwnMore
import Derived.Deep.AppendLies
import Derived.IntWalk
namespace Go.Proofs.YthlknhkemmdocaaGreatDoor
open Go.RowKit

def RFact.fm (T:Fm) (v:Value) (p:Prop):RFact:=.pub (fun S w=>IsFm S w T v∧p) fun hS hc h=>⟨IsFm.keep hS hc _ h.1,h.2⟩
theorem Pre.fm0 {γ:Type} {ops:Array Oper} {z:γ} {A:Nat→Nat→Bool} {cons:Nat→Option Nat} {F:Nat→(Nat→Value)→(Nat→γ)→RFact} {L0 W0:Nat→Prop} {B:World→Prop} {a0:Act} {w0:World}
    {i:Nat} {V:Nat→Value} {G:Nat→γ} {L:Nat→Prop} {a:Act} {w:World} (h:Pre ops z A cons F L0 W0 B a0 w0 i V G L a w) {T:Fm} {v:Value} (hT:IsFm (Good L0 w0) w0 T v):IsFm (Good L w) w T v:=IsFm.keep h.good h.cell _ hT
section
variable {ops : Array Oper} {o : Oper} {a : Act} {w : World}
theorem run_load5F {x:Operand} (ho:o.op=.load 34 x) {q:Nat} {t:TypeId} {x0 x1 x2 x3 x4:Value} (hx:a.eval x=.pointer (some ⟨q,0,none⟩)) (hk:Blk w q t #[x0,x1,x2,x3,x4]) :
    (execOp a.eval o).run Tryz.prog w=.ok (.value (.agg #[x0,x1,x2,x3,x4])) w:=by
  obtain ⟨c0,c1,c2,c3,c4,_,_,_,_,_⟩:=hk.facts5
  simp only [execOp,ho,hx]
  go_simp
theorem run_loadF {x:Operand} (ho:o.op=.load 34 x) {q:Addr} {x0 x1 x2 x3 x4:Value} (hx:a.eval x=.pointer (some q)) (c0:w.cell? q=some x0) (c1:w.cell? ⟨q.block,q.off+1,none⟩ = some x1) (c2:w.cell? ⟨q.block,q.off+2,none⟩ = some x2) (c3:w.cell? ⟨q.block,q.off+3,none⟩ = some x3) (c4:w.cell? ⟨q.block,q.off+4,none⟩ = some x4) :
    (execOp a.eval o).run Tryz.prog w=.ok (.value (.agg #[x0,x1,x2,x3,x4])) w:=by
  simp only [execOp,ho,hx]
  go_simp
theorem run_allocF (ho:o.op=.alloc 34) :
    (execOp a.eval o).run Tryz.prog w=.ok (.value (.pointer (some ⟨w.heap.size,0,none⟩))) (w.alloc (.cells #[.int .i64 0,.int .i64 0,.slice none 0 0,.slice none 0 0,.slice none 0 0] 34)):=by
  simp only [execOp,ho]
  go_simp
theorem run_storeF {x y:Operand} (ho:o.op=.store 34 x y) {q:Nat} {t:TypeId} {g0 g1 g2 g3 g4 x0 x1 x2 x3 x4:Value} (hx:a.eval x=.pointer (some ⟨q,0,none⟩)) (hy:a.eval y=.agg #[x0,x1,x2,x3,x4]) (h1:x0.oneCell' = true) (h2:x1.oneCell' = true) (h3:x2.oneCell' = true) (h4:x3.oneCell' = true) (h5:x4.oneCell' = true) (hk:Blk w q t #[g0,g1,g2,g3,g4]) :
    (execOp a.eval o).run Tryz.prog w=.ok .skip (((((w.setCell ⟨q,0,none⟩ x0).setCell ⟨q,1,none⟩ x1).setCell ⟨q,2,none⟩ x2).setCell ⟨q,3,none⟩ x3).setCell ⟨q,4,none⟩ x4):=by
  obtain ⟨c0,c1,c2,c3,c4,f0,f1,f2,f3,f4⟩:=hk.facts5
  have s0:=fun p m w=>run_store Tryz.prog w p x0 m h1
  have s1:=fun p m w=>run_store Tryz.prog w p x1 m h2
  have s2:=fun p m w=>run_store Tryz.prog w p x2 m h3
  have s3:=fun p m w=>run_store Tryz.prog w p x3 m h4
  have s4:=fun p m w=>run_store Tryz.prog w p x4 m h5
  simp only [execOp,ho,hx,hy]
  go_simp
theorem run_not {x:Operand} (ho:o.op=.unOp .not 4 x) {b:Bool} (hx:a.eval x=.bool b):(execOp a.eval o).run Tryz.prog w=.ok (.value (.bool (!b))) w:=by
  simp only [execOp,ho,hx]
  go_simp
theorem run_fieldF3 {x:Operand} (ho:o.op=.fieldAddr 34 x 3) {q:Nat} (hx:a.eval x=.pointer (some ⟨q,0,none⟩)):(execOp a.eval o).run Tryz.prog w=.ok (.value (.pointer (some ⟨q,4,none⟩))) w:=by
  simp only [execOp,ho,hx]
  go_simp
theorem run_loadFs {x:Operand} (ho:o.op=.load 32 x) {q:Addr} {v:Value} (hx:a.eval x=.pointer (some q)) (c0:w.cell? q=some v):(execOp a.eval o).run Tryz.prog w=.ok (.value v) w:=by
  simp only [execOp,ho,hx]
  go_simp
theorem run_indexF0 {x:Operand} (ho:o.op=.indexAddr 32 x (.const (.int .i64 0))) {q:Addr} {n c:Nat} (hn:0<n) (hx:a.eval x=.slice (some q) n c):(execOp a.eval o).run Tryz.prog w=.ok (.value (.pointer (some q))) w:=by
  have e0:a.eval (.const (.int .i64 0))=.int .i64 0:=rfl
  have h0:(0:Int)<(n:Int):=by omega
  simp only [execOp,ho,hx,e0]
  go_simp
theorem run_indexF1 {x:Operand} (ho:o.op=.indexAddr 32 x (.const (.int .i64 1))) {q:Addr} {n c:Nat} (hn:1<n) (hx:a.eval x=.slice (some q) n c):(execOp a.eval o).run Tryz.prog w=.ok (.value (.pointer (some ⟨q.block,q.off+5,none⟩))) w:=by
  have e0:a.eval (.const (.int .i64 1))=.int .i64 1:=rfl
  have h0:(1:Int)<(n:Int):=by omega
  simp only [execOp,ho,hx,e0]
  go_simp
end
end Go.Proofs.YthlknhkemmdocaaGreatDoor
namespace Go.Proofs.YthlknhkemmdocaaGreatDoor
open Go.RowKit

theorem Turn.far {X:Nat→Prop} {a b c:World} (h:Turn X a b) (k:Below a.heap.size b c):Turn X a c:=
  ⟨k.os.trans h.os,k.tape.trans h.tape,k.output.trans h.output,Nat.le_trans h.size k.size,fun i hi hx=>(k.block i hi).trans (h.block i hi hx)⟩
/-- What append is given: a list of types, in cells that lie apart from the slice's own. -/
def Src (S:Nat→Prop) (v:Value) (w:World) (m:List Ty) (u:Value):Prop:=
  (u=.slice none 0 0∧m=[])∨∃ ad c news,u=.slice (some ad) m.length c∧TyR.Ch (fun b=>S b∧b<w.heap.size∧v.ownBlock≠some b) w m news∧∀ j y,news[j]? = some y→w.cell? (ad.add j)=some y

theorem run_append_ty {w:World} {S:Nat→Prop} {base:Nat} {l m:List Ty} {v u:Value} (ty:TypeId) (hown:TyR.Own S base v l w) (hsrc:Src S v w m u) (hlen:l.length+m.length≤1000000) (hbase:base≤w.heap.size) :
    ∃ v' w',(Builtin.append_ #[27,27] ty #[v,u]).run Tryz.prog w=.ok v' w'∧TyR.Own S base v' (l ++ m) w'∧w.grownBy w' v.ownBlock∧(v'.ownBlock=v.ownBlock∨v'.ownBlock=some w.heap.size):=by
  obtain ⟨i0,hi,hz0,hz1,hz2⟩:=info_parts info_type
  obtain ⟨xs,hxo,hxc⟩:=hown
  rcases hsrc with ⟨rfl,rfl⟩ | ⟨ad,c,news,rfl,hnc,hnl⟩
  · refine ⟨v,w,run_append_owned_none (P:=Tryz.prog) (w:=w) base 27 ty 30 i0 2 Tryz.underlying27 hi v _ xs hxo,?_,⟨rfl,rfl,rfl,Nat.le_refl _,fun _ _ _=>rfl⟩,.inl rfl⟩
    rw [List.append_nil]
    exact ⟨xs,hxo,hxc⟩
  · obtain ⟨v',w',hr,h2,h3,_,h5⟩:=run_append_own_at (P:=Tryz.prog) w base 27 ty 30 i0 _ 2 32 Tryz.underlying27 hi hz0 hz1 hz2 rfl (by decide) v _ xs hxo ad m.length c news hnc.1 hnl hnc.oneCells (by simp only [maxLen]; omega) (by omega) hbase
    exact ⟨v',w',hr,Rep.Own.more (R:=TyR) hxo hxc hnc h2 h3 h5,h3,h5⟩

theorem step_append_ty {w:World} {ops:Array Oper} {o:Oper} {a:Act} {K:Act→World→Prop} {Q:Exit→Act→World→Prop} {E:Prop} (hgd:o.guard=none) (s x:Operand)
    (ho:o.op=.call { callee:=.builtin .append,args:=#[s,x],argTypes:=#[27,27] }) {S:Nat→Prop} {base:Nat} {l m:List Ty} {v u:Value} (hs:a.eval s=v) (hx:a.eval x=u)
    (hown:TyR.Own S base v l w) (hsrc:Src S v w m u) (hlen:l.length+m.length≤1000000) (hbase:base≤w.heap.size)
    (h:∀ v' w',TyR.Own S base v' (l ++ m) w'→w.grownBy w' v.ownBlock→(v'.ownBlock=v.ownBlock∨v'.ownBlock=some w.heap.size)→Below base w w'→K (a.put o.dst v') w') :
    if Region.wanted o (yielded ops a.tmps)=true then Oper.wp Tryz.prog o a w K Q else E:=by
  have hw:Region.wanted o (yielded ops a.tmps)=true:=by simp [Region.wanted,hgd]
  rw [if_pos hw]
  obtain ⟨v',w',hr,h1,h2,h3⟩:=run_append_ty (w:=w) o.type hown hsrc hlen hbase
  unfold Oper.wp execOp
  simp only [ho,resolve,invoke,builtin,Sem.run_bind,Sem.run_pure,Result.andThen_ok,List.map_toArray,List.map_cons,List.map_nil,hs,hx,hr]
  exact h v' w' h1 h2 h3 ⟨h2.os,h2.tape,h2.output,h2.size,fun i hi=>h2.block i (by omega) (fun e=>by have:=(hown.lt i e.symm).1; omega)⟩

end Go.Proofs.YthlknhkemmdocaaGreatDoor
namespace Go.Proofs.YthlknhkemmdocaaGreatDoor
open Go.RowKit

theorem built_pub {α:Type} {R:Rep α} {L L':Nat→Prop} {w:World} {l:List α} {xs:List Value} (h:R.Ch (Good L w) w l xs) (hg:∀ b,Good L w b→Good L' (w.alloc (.cells xs.toArray R.t)) b) (hn:∀ b,w.heap.size≤b→b<(w.alloc (.cells xs.toArray R.t)).heap.size→Good L' (w.alloc (.cells xs.toArray R.t)) b) :
    R.Sl (Good L' (w.alloc (.cells xs.toArray R.t))) (w.alloc (.cells xs.toArray R.t)) l (.slice (some ⟨w.heap.size,0,none⟩) l.length l.length):=
  Rep.Sl.built h (fun _ hb=>hb.2) _ hg (hn _ (Nat.le_refl _) (by simp))
theorem src_of {S:Nat→Prop} {w:World} {m:List Ty} {u v:Value} (hf:Formed u) (hs:TyR.Sl (fun b=>S b∧b<w.heap.size∧v.ownBlock≠some b) w m u):Src S v w m u:=by
  rcases hf with rfl | ⟨a,n,c,rfl,_⟩
  · exact .inl ⟨rfl,hs.none_nil⟩
  · right
    obtain ⟨A,c',e,hA⟩:=hs
    simp only [Value.slice.injEq] at e
    obtain ⟨rfl,rfl,rfl⟩:=e
    by_cases hG:m=[]
    · subst hG
      exact ⟨a,_,[],rfl,Rep.Ch.nil _ _,fun j y hy=>by simp at hy⟩
    · obtain ⟨a',ea,_,har⟩:=hA hG
      cases ea
      obtain ⟨news,h1,h2⟩:=har.cells
      exact ⟨a,_,news,rfl,h1,h2⟩
theorem Own.mono' {α:Type} {R:Rep α} {S S':Nat→Prop} {base:Nat} {v:Value} {l:List α} {w:World} (h:R.Own S base v l w) (hS:∀ b,S b→b<w.heap.size→v.ownBlock≠some b→S' b):R.Own S' base v l w:=by
  obtain ⟨xs,hown,hc⟩:=h
  exact ⟨xs,hown,hc.keep (fun b hb=>⟨hS b hb.1 hb.2.1 hb.2.2,hb.2.1,hb.2.2⟩) (fun _ _=>rfl)⟩
theorem Own.slw {α:Type} {R:Rep α} {S:Nat→Prop} {base:Nat} {v:Value} {l:List α} {w:World} (h:R.Own S base v l w):R.Sl (fun b=>(S b∨v.ownBlock=some b)∧b<w.heap.size) w l v:=by
  obtain ⟨xs,hown,hc⟩:=h
  rcases hown.2 with ⟨rfl,hn⟩ | ⟨g,cap,cur,rfl,hb,hg,_⟩
  · have:l=[]:=List.eq_nil_of_length_eq_zero hn
    subst this
    exact Rep.Sl.nil _ _
  · exact ⟨_,cap,rfl,fun _=>⟨_,rfl,⟨.inr rfl,(Array.getElem?_eq_some_iff.1 hg).1⟩,Rep.Arr.of_cells (hc.keep (fun b hb=>⟨.inl hb.1,hb.2.1⟩) (fun _ _=>rfl)) (fun j u hu=>hown.cells rfl j u hu)⟩⟩
/-- Nothing of the call's own yet. -/
theorem Own.nil' {α:Type} {R:Rep α} (S:Nat→Prop) (base:Nat) (w:World):R.Own S base (.slice none 0 0) [] w:=Rep.Own.nil S base w
/-! Operations behind a guard. -/
theorem Pre.wanted {γ:Type} {ops:Array Oper} {z:γ} {A:Nat→Nat→Bool} {cons:Nat→Option Nat} {F:Nat→(Nat→Value)→(Nat→γ)→RFact} {L0 W0:Nat→Prop} {B:World→Prop} {a0:Act} {w0:World}
    {i:Nat} {V:Nat→Value} {G:Nat→γ} {L:Nat→Prop} {a:Act} {w:World} (h:Pre ops z A cons F L0 W0 B a0 w0 i V G L a w) {o:Oper} {j d:Nat} {b:Bool} (hg:o.guard=some (j,b)) (hA:A i j=true) (hd:dstOf ops j=some d) (hs:Nat.blt d a0.tmps.size=true) (hv:V j=.bool b) :
    Region.wanted o (yielded ops a.tmps)=true:=by
  have h1:=h.dep j d hA hd (Nat.blt_eq.mp hs)
  have h2:(ops[j]?).bind (·.dst)=some d:=by
    unfold dstOf at hd
    cases ho:ops[j]? with
    | none=>rw [ho] at hd; cases hd
    | some o'=>rw [ho] at hd; exact hd
  unfold Region.wanted yielded
  rw [hg]
  simp only [h2,Option.bind_some,h1,hv,beq_self_eq_true]
section
variable {P : Program} {ops : Array Oper} {o : Oper} {a : Act} {w : World} {K : Act → World → Prop} {Q : Exit → Act → World → Prop} {E : Prop}
theorem step_runW (hw:Region.wanted o (yielded ops a.tmps)=true) {v:Value} {w':World} (h:(execOp a.eval o).run P w=.ok (.value v) w') (hK:K (a.put o.dst v) w'):if Region.wanted o (yielded ops a.tmps)=true then Oper.wp P o a w K Q else E:=by
  rw [if_pos hw]
  unfold Oper.wp
  rw [h]
  exact hK
theorem step_callW (hw:Region.wanted o (yielded ops a.tmps)=true) (f:FuncId) (os:Array Operand) (ts:Array TypeId) (ho:o.op=Op.call { callee:=Callee.value (Operand.func f),args:=os,argTypes:=ts }) (vals:Array Value) (hv:os.map a.eval=vals) (hrun:∀ args w,(callFunc f args).run P w=.ok (.enter f args) w)
    {R:Ending→World→Prop} (hc:Calls P f vals w R) (h:∀ e w',R e w'→∃ v,e=.returned v∧K (a.put o.dst v) w'):if Region.wanted o (yielded ops a.tmps)=true then Oper.wp P o a w K Q else E:=by
  rw [if_pos hw]
  have hx:(execOp a.eval o).run P w=.ok (.enter f vals) w:=by
    have:=hrun vals w
    simp [execOp,ho,resolve,hv,Act.eval,invoke,Deferred.ofValue,this,go_sem]
  unfold Oper.wp
  rw [hx,Oper.upon_enter]
  refine hc.mono ?_
  intro e w' hr
  obtain ⟨v,rfl,hk⟩:=h e w' hr
  exact hk
end
section
variable {ops : Array Oper} {o : Oper} {a : Act} {w : World}
theorem run_eqInt {x y:Operand} {t:TypeId} (ho:o.op=.binOp .eql 3 x y t) {m n:Int} (hx:a.eval x=.int .i64 m) (hy:a.eval y=.int .i64 n):(execOp a.eval o).run Tryz.prog w=.ok (.value (.bool (m == n))) w:=by
  simp only [execOp,ho,hx,hy]
  go_simp
theorem run_pick {c x y:Operand} (ho:o.op=.pick c x y) {b:Bool} {v:Value} (hc:a.eval c=.bool b) (hv:(if b then a.eval x else a.eval y)=v):(execOp a.eval o).run Tryz.prog w=.ok (.value v) w:=by
  simp only [execOp,ho,hc]
  rw [← hv]
  cases b <;> go_simp
end
end Go.Proofs.YthlknhkemmdocaaGreatDoor
