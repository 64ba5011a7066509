/- A region whose last operation waits for all others: it is met alone, with all that is known by then. -/
import Derived.Test.YtipfnkajdooiiaaGreatDoorQPackReg
import Derived.Orders
import Derived.Test.YtipfnkajdooiiaaGreatDoorQPackFml
import Derived.Test.YtipfnkajdooiiaaGreatDoorQPackMk
import Derived.Laws.OwnMore
import Derived.Deep.AppendLies
import Derived.IntWalk
namespace Go.Proofs.YtipfnkajdooiiaaGreatDoor
section
variable {P : Program} {ops : Array Oper} {Q : Exit → Act → World → Prop}

theorem FrameOf.eq {a0 a b:Act} {l l':Nat→Bool} {V:Nat→Value} (h:FrameOf ops a0 l V a) (h2:FrameOf ops a0 l' V b) (hl:∀ i,i<ops.size→l i=l' i):a=b:=by
 have e:a.tmps=b.tmps:=by
   apply Array.ext_getElem?
   intro d
   by_cases hd:∃ i,dstOf ops i=some d∧l i=true
   · obtain ⟨i,hi,hli⟩:=hd
     have hlt:i<ops.size:=dstOf_lt hi
     by_cases hd2:d<a0.tmps.size
     · rw [h.of i d hi hli hd2,h2.of i d hi (by rw [← hl i hlt]; exact hli) hd2]
     · rw [Array.getElem?_eq_none (by rw [h.size]; omega),Array.getElem?_eq_none (by rw [h2.size]; omega)]
   · have hno:∀ i,dstOf ops i=some d→l i=false:=fun i hi=>by
       cases hli:l i with
       | false=>rfl
       | true=>exact (hd ⟨i,hi,hli⟩).elim
     rw [h.old d hno,h2.old d (fun i hi=>by rw [← hl i (dstOf_lt hi)]; exact hno i hi)]
 have e2:a.defers=b.defers:=by rw [h.defers,h2.defers]
 cases a
 cases b
 simp at e e2
 rw [e,e2]

end
end Go.Proofs.YtipfnkajdooiiaaGreatDoor
namespace Go.Proofs.YtipfnkajdooiiaaGreatDoor
/-- Ancestors lie before. -/
theorem okA_lt {ops:Array Oper} (hb:backs ops=true) {A:Nat→Nat→Bool} (hA:okA ops A=true):∀ i j,i<ops.size→j<ops.size→A i j=true→j<i:=by
 intro i
 induction i using Nat.strongRecOn with
 | _ i ih=>
   intro j hi hj hij
   have h1:=List.all_eq_true.1 (List.all_eq_true.1 hA i (List.mem_range.2 hi)) j (List.mem_range.2 hj)
   rw [hij,Array.getElem?_eq_getElem hi] at h1
   simp only [Bool.not_true,Bool.false_or] at h1
   obtain ⟨e,he,hb'⟩:=Array.any_eq_true'.1 h1
   simp only [Bool.and_eq_true,Bool.or_eq_true,beq_iff_eq] at hb'
   have h5:=List.all_eq_true.1 hb i (List.mem_range.2 hi)
   simp only [Array.getElem?_eq_getElem hi] at h5
   have h6:=Array.all_eq_true_iff_forall_mem.1 h5 e he
   simp only [hb'.1,Bool.not_true,Bool.false_or,decide_eq_true_eq] at h6
   rcases hb'.2 with h7 | h7
   · omega
   · have:=ih e.on h6 j (by omega) hj h7; omega
section
variable {P : Program} {ops : Array Oper} {Q : Exit → Act → World → Prop}

/-- Operations one after the other, at the end of a region. -/
def tailWp (P:Program) (ops:Array Oper) (Q:Exit→Act→World→Prop):List Oper→Act→World→Prop
 | [],a,w=>Q .normal a w
 | o :: rest,a,w=>if Region.wanted o (yielded ops a.tmps)=true then Oper.wp P o a w (tailWp P ops Q rest) Q else tailWp P ops Q rest (a.put o.dst undef) w

theorem wpAny_tail (hb:backs ops=true) (ha:dstsApart ops=true) {γ:Type} (z:γ) (A:Nat→Nat→Bool) (hA:okA ops A=true) (cons:Nat→Option Nat) (F:Nat→(Nat→Value)→(Nat→γ)→RFact)
   (r:Nat) (hr:r<ops.size) (hAr:(List.range ops.size).all (fun i=>decide (i<r) || (List.range i).all (A i))=true)
   (L0 W0:Nat→Prop) (B:World→Prop) (a0:Act) (w0:World) (hL0:∀ b,L0 b→b<w0.heap.size) (hW0:∀ b,W0 b→L0 b) (hB0:B w0)
   (step:StepAll (fun i o=>∀ (V:Nat→Value) (G:Nat→γ) (L:Nat→Prop) (a:Act) (w:World),Pre ops z A cons F L0 W0 B a0 w0 i V G L a w→∀ K:Act→World→Prop,
     (∀ v g w',Post z A cons F ops.size L0 W0 B i V G L w v g w'→K (a.put o.dst v) w')→if Region.wanted o (yielded ops a.tmps)=true then Oper.wp P o a w K Q else K (a.put o.dst undef) w) 0 (ops.toList.take r))
   (fin:∀ (V:Nat→Value) (G:Nat→γ) (L:Nat→Prop) (a:Act) (w:World),Pre ops z A cons F L0 W0 B a0 w0 r V G L a w→a=putFrom ops V r a0→tailWp P ops Q (ops.toList.drop r) a w) :
   wpAny P .any ops Q ops.size (Array.replicate ops.size false) a0 w0:=by
 have hAr':∀ i j,r≤i→i<ops.size→j<i→A i j=true:=fun i j h1 h2 h3=>by
   have h4:=List.all_eq_true.1 hAr i (List.mem_range.2 h2)
   rw [Bool.or_eq_true,decide_eq_true_eq] at h4
   exact List.all_eq_true.1 (h4.resolve_left (by omega)) j (List.mem_range.2 h3)
 refine wpAny_inv hb (fun listed a w=>(listed.getD r false=false→∃ (V:Nat→Value) (G:Nat→γ),FrameOf ops a0 (fun i=>listed.getD i false) V a∧Turn W0 w0 w∧B w ∧
   (∀ i j,i<ops.size→j<ops.size→listed.getD i false=true→A i j=true→listed.getD j false=true) ∧
   (∀ i,Live cons ops.size (fun i=>listed.getD i false) i→(Fx z A F i V G).holds (Priv z A cons F ops.size L0 (fun i=>listed.getD i false) V G) w∧∀ b,(Fx z A F i V G).blk=some b→w0.heap.size≤b∧b<w.heap.size) ∧
   (∀ i j b,Live cons ops.size (fun i=>listed.getD i false) i→Live cons ops.size (fun i=>listed.getD i false) j→(Fx z A F i V G).blk=some b→(Fx z A F j V G).blk=some b→i=j)) ∧
   (listed.getD r false=true→∃ k,r<k∧k≤ops.size∧(∀ i,i<k→listed.getD i false=true)∧(∀ i,k≤i→i<ops.size→listed.getD i false=false)∧tailWp P ops Q (ops.toList.drop k) a w)) ?_ ?_ _ _ _ _ (by simp) ?_ ?_
 · intro listed a w i o hs ho hl hall ⟨h1,h2⟩ K hK
   cases hlr:listed.getD r false with
   | true=>
     obtain ⟨k,hk1,hk2,hk3,hk4,hk5⟩:=h2 hlr
     have hi:i<ops.size:=(Array.getElem?_eq_some_iff.1 ho).1
     have hki:k≤i:=by
       rcases Nat.lt_or_ge i k with h | h
       · rw [hk3 i h] at hl; cases hl
       · exact h
     have hik:i=k:=by
       rcases Nat.lt_or_ge k i with h | h
       · exfalso
         have h3:=List.all_eq_true.1 (List.all_eq_true.1 hA i (List.mem_range.2 hi)) k (List.mem_range.2 (by omega))
         rw [hAr' i k (by omega) hi h,ho] at h3
         simp only [Bool.not_true,Bool.false_or] at h3
         have key:∀ n i' o',i'≤n→ops[i']? = some o'→(∀ e ∈ o'.after,Region.binds .any e=true→listed.getD e.on false=true)→A i' k=true→listed.getD k false=true:=by
           intro n
           induction n with
           | zero=>
             intro i' o' hi' ho' hall' hA'
             have h3:=List.all_eq_true.1 (List.all_eq_true.1 hA i' (List.mem_range.2 (Array.getElem?_eq_some_iff.1 ho').1)) k (List.mem_range.2 (by omega))
             rw [hA',ho'] at h3
             simp only [Bool.not_true,Bool.false_or] at h3
             obtain ⟨e,he,hb'⟩:=Array.any_eq_true'.1 h3
             simp only [Bool.and_eq_true,Bool.or_eq_true,beq_iff_eq] at hb'
             have h4:=hall' e he hb'.1
             have h5:=List.all_eq_true.1 hb i' (List.mem_range.2 (Array.getElem?_eq_some_iff.1 ho').1)
             simp only [ho'] at h5
             have h6:=Array.all_eq_true_iff_forall_mem.1 h5 e he
             simp only [hb'.1,Bool.not_true,Bool.false_or,decide_eq_true_eq] at h6
             omega
           | succ n ih=>
             intro i' o' hi' ho' hall' hA'
             have h3:=List.all_eq_true.1 (List.all_eq_true.1 hA i' (List.mem_range.2 (Array.getElem?_eq_some_iff.1 ho').1)) k (List.mem_range.2 (by omega))
             rw [hA',ho'] at h3
             simp only [Bool.not_true,Bool.false_or] at h3
             obtain ⟨e,he,hb'⟩:=Array.any_eq_true'.1 h3
             simp only [Bool.and_eq_true,Bool.or_eq_true,beq_iff_eq] at hb'
             have h4:=hall' e he hb'.1
             rcases hb'.2 with h7 | h7
             · rw [← h7]; exact h4
             · have hek:e.on<k:=by
                 rcases Nat.lt_or_ge e.on k with h | h
                 · exact h
                 · have h5:=List.all_eq_true.1 hb i' (List.mem_range.2 (Array.getElem?_eq_some_iff.1 ho').1)
                   simp only [ho'] at h5
                   have h6:=Array.all_eq_true_iff_forall_mem.1 h5 e he
                   simp only [hb'.1,Bool.not_true,Bool.false_or,decide_eq_true_eq] at h6
                   rw [hk4 e.on h (by have:=(Array.getElem?_eq_some_iff.1 ho').1; omega)] at h4
                   cases h4
               exfalso
               have h8:=hk3 e.on hek
               have h9:A e.on k=true:=h7
               have:=okA_lt hb hA e.on k (by omega) (by omega) h9
               omega
         have h5:=key i i o (Nat.le_refl _) ho hall (hAr' i k (by omega) hi h)
         rw [hk4 k (Nat.le_refl _) (by omega)] at h5
         cases h5
       · omega
     subst hik
     have hd:ops.toList.drop i=o :: ops.toList.drop (i+1):=by
       have h3:i<ops.toList.length:=by simpa using hi
       rw [List.drop_eq_getElem_cons h3]
       have h4:ops.toList[i]=o:=by
         have:=Array.getElem?_eq_some_iff.1 ho
         simpa using this.2
       rw [h4]
     rw [hd] at hk5
     have hnew:∀ a' w',tailWp P ops Q (ops.toList.drop (i+1)) a' w'→K a' w':=fun a' w' ht=>hK a' w' ⟨fun h=>?_,fun _=>⟨i+1,by omega,by omega,fun j hj=>?_,fun j h3 h4=>?_,ht⟩⟩
     · unfold tailWp at hk5
       split at hk5
       · rename_i hw; rw [if_pos hw]; exact Oper.wp_mono hnew hk5
       · rename_i hw; rw [if_neg hw]; exact hnew _ _ hk5
     · rw [getD_set_ne false (by omega),hlr] at h; cases h
     · by_cases hji:i=j
       · subst hji
         have hlt:i<listed.size:=by omega
         simp [hlt]
       · rw [getD_set_ne false hji]; exact hk3 j (by omega)
     · rw [getD_set_ne false (by omega)]; exact hk4 j (by omega) h4
   | false=>
   obtain ⟨V,G,hf,hg,hBw,hcl,hfacts,hdist⟩:=h1 hlr
   clear h1 h2
   have hi:i<ops.size:=(Array.getElem?_eq_some_iff.1 ho).1
   have hin:∀ j,listed.getD j false=true→j<ops.size:=fun j hj=>by
     rcases Nat.lt_or_ge j listed.size with h | h
     · omega
     · simp [Array.getElem?_eq_none h] at hj
   have hAi:∀ j,j<ops.size→A i j=true→listed.getD j false=true:=fun j hj hij=>by
     have h1:=List.all_eq_true.1 (List.all_eq_true.1 hA i (List.mem_range.2 hi)) j (List.mem_range.2 hj)
     rw [hij,ho] at h1
     simp only [Bool.not_true,Bool.false_or] at h1
     obtain ⟨e,he,hb⟩:=Array.any_eq_true'.1 h1
     simp only [Bool.and_eq_true,Bool.or_eq_true,beq_iff_eq] at hb
     have h2:=hall e he hb.1
     rcases hb.2 with h3 | h3
     · rw [← h3]; exact h2
     · exact hcl _ _ (hin _ h2) hj h2 h3
   have hnot:∀ i',listed.getD i' false=true→A i' i=false:=fun i' hi'=>by
     cases h:A i' i with
     | false=>rfl
     | true=>have:=hcl i' i (hin _ hi') hi hi' h; rw [hl] at this; cases this
   have hlive:∀ j,avail A cons ops.size i j=true→Live cons ops.size (fun i=>listed.getD i false) j:=fun j hj=>by
     simp only [avail,Bool.and_eq_true,decide_eq_true_eq] at hj
     obtain ⟨⟨h1,h2⟩,h3⟩:=hj
     refine ⟨h2,hAi j h2 h1,fun c hc=>?_⟩
     rw [hc] at h3
     simp only [Bool.or_eq_true,beq_iff_eq] at h3
     show listed.getD c false=false
     rcases h3 with h3 | h3
     · rw [h3]; exact hl
     · cases h:listed.getD c false with
       | false=>rfl
       | true=>have:=hcl c i (hin _ h) hi h h3; rw [hl] at this; cases this
   generalize hL:Priv z A cons F ops.size L0 (fun i=>listed.getD i false) V G=L at hfacts
   have hLb:∀ b,L b↔L0 b∨∃ i,Live cons ops.size (fun i=>listed.getD i false) i∧(Fx z A F i V G).blk=some b:=fun b=>by rw [← hL]; exact Iff.rfl
   have hpre:Pre ops z A cons F L0 W0 B a0 w0 i V G L a w:=by
     refine ⟨fun j d hj hd hlt=>hf.of j d hd (hAi j (dstOf_lt hd) hj) hlt,fun d hd=>hf.old d fun j hj=>(hd j hj).elim,fun j hj=>(hfacts j (hlive j hj)).1,hBw,hg,?_,fun b hb=>(hLb b).2 (.inl hb),hW0,?_,fun j b hj hb=>⟨(hLb b).2 (.inr ⟨j,hlive j hj,hb⟩),((hfacts j (hlive j hj)).2 b hb).1⟩⟩
     · intro b hb
       rcases (hLb b).1 hb with h | ⟨j,hj,hb⟩
       · exact Nat.lt_of_lt_of_le (hL0 b h) hg.size
       · exact ((hfacts j hj).2 b hb).2
     · intro b hb
       rcases (hLb b).1 hb with h | ⟨j,hj,hb⟩
       · exact .inl h
       · exact .inr ((hfacts j hj).2 b hb).1
   by_cases hir:r≤i
   · have hall2:∀ j,j<i→listed.getD j false=true:=fun j hj=>hAi j (by omega) (hAr' i j hir hi hj)
     have hir2:i=r:=by
       rcases Nat.lt_or_ge r i with h | h
       · rw [hall2 r h] at hlr; cases hlr
       · omega
     subst hir2
     have hlater:∀ j,i<j→j<ops.size→listed.getD j false=false:=fun j h1 h2=>by
       cases h:listed.getD j false with
       | false=>rfl
       | true=>have:=hcl j i h2 hi h (hAr' j i (by omega) h2 h1); rw [hl] at this; cases this
     have hae:a=putFrom ops V i a0:=hf.eq (putFrom_frame ha a0 V i (by omega)) fun j hj=>by
       rcases Nat.lt_trichotomy j i with h | h | h
       · rw [hall2 j h]; simp; omega
       · subst h; rw [hl]; simp
       · rw [hlater j h hj]; simp; omega
     have hk5:=fin V G L a w hpre hae
     have hd:ops.toList.drop i=o :: ops.toList.drop (i+1):=by
       have h3:i<ops.toList.length:=by simpa using hi
       rw [List.drop_eq_getElem_cons h3]
       have h4:ops.toList[i]=o:=by
         have:=Array.getElem?_eq_some_iff.1 ho
         simpa using this.2
       rw [h4]
     rw [hd] at hk5
     have hnew:∀ a' w',tailWp P ops Q (ops.toList.drop (i+1)) a' w'→K a' w':=fun a' w' ht=>hK a' w' ⟨fun h=>?_,fun _=>⟨i+1,by omega,by omega,fun j hj=>?_,fun j h3 h4=>?_,ht⟩⟩
     · unfold tailWp at hk5
       split at hk5
       · rename_i hw; rw [if_pos hw]; exact Oper.wp_mono hnew hk5
       · rename_i hw; rw [if_neg hw]; exact hnew _ _ hk5
     · have hlt:i<listed.size:=by omega
       simp [hlt] at h
     · by_cases hji:i=j
       · subst hji
         have hlt:i<listed.size:=by omega
         simp [hlt]
       · rw [getD_set_ne false hji]; exact hall2 j (by omega)
     · rw [getD_set_ne false (by omega)]; exact hlater j (by omega) h4
   have hir':i<r:=by omega
   have hst:=step.get i o (by rw [List.getElem?_take,if_pos hir',Array.getElem?_toList]; exact ho)
   rw [Nat.zero_add] at hst
   refine hst V G L a w hpre K fun v g w' post=>hK _ _ ⟨fun _=>⟨upd V i v,upd G i g,?_⟩,fun h=>by rw [getD_set_ne false (by omega),hlr] at h; cases h⟩
   have hl':∀ j,(listed.setIfInBounds i true).getD j false=(listed.getD j false || j == i):=fun j=>by
     by_cases hji:i=j
     · subst hji
       have:i<listed.size:=by omega
       simp [this]
     · have:(j == i)=false:=by simp; exact fun e=>hji e.symm
       rw [this,Bool.or_false,getD_set_ne false hji]
   have hsame:∀ i',i'≠i→listed.getD i' false=true→Fx z A F i' (upd V i v) (upd G i g)=Fx z A F i' V G:=fun i' hne hli=>by
     unfold Fx
     rw [mask_upd hne (hnot i' hli),mask_upd hne (hnot i' hli)]
   have hdown:∀ i',i'≠i→Live cons ops.size (fun j=>(listed.setIfInBounds i true).getD j false) i'→Live cons ops.size (fun i=>listed.getD i false) i'∧cons i'≠some i:=fun i' hne h=>by
     have h2:(listed.setIfInBounds i true).getD i' false=true:=h.2.1
     rw [hl'] at h2
     have:(i' == i)=false:=by simp [hne]
     rw [this,Bool.or_false] at h2
     refine ⟨⟨h.1,h2,fun c hc=>?_⟩,fun hc=>?_⟩
     · have h3:(listed.setIfInBounds i true).getD c false=false:=h.2.2 c hc
       rw [hl'] at h3
       simp only [Bool.or_eq_false_iff] at h3
       exact h3.1
     · have h3:(listed.setIfInBounds i true).getD i false=false:=h.2.2 i hc
       rw [hl'] at h3
       simp at h3
   have hpriv:∀ b,Priv z A cons F ops.size L0 (fun j=>(listed.setIfInBounds i true).getD j false) (upd V i v) (upd G i g) b →
       (L b∧∀ j,avail A cons ops.size i j=true→cons j=some i→(Fx z A F j V G).blk≠some b)∨(Fx z A F i (upd V i v) (upd G i g)).blk=some b:=fun b hb=>by
     rcases hb with h | ⟨i',hlv,hb⟩
     · refine .inl ⟨(hLb b).2 (.inl h),fun j hj hc he=>?_⟩
       have:=((hfacts j (hlive j hj)).2 b he).1
       have:=hL0 b h
       omega
     · by_cases hii:i' = i
       · subst hii; exact .inr hb
       · obtain ⟨h1,h2⟩:=hdown i' hii hlv
         rw [hsame i' hii h1.2.1] at hb
         refine .inl ⟨(hLb b).2 (.inr ⟨i',h1,hb⟩),fun j hj hc he=>?_⟩
         have:=hdist i' j b h1 (hlive j hj) hb he
         subst this
         exact h2 hc
   have hown:∀ b,(Fx z A F i (upd V i v) (upd G i g)).blk=some b→w0.heap.size≤b∧b<w'.heap.size∧(L b∨w.heap.size≤b):=fun b hb=>by
     have h1:=hg.size
     have h2:=post.grown.size
     rcases post.own b hb with h | ⟨j,hj,_,hb⟩
     · exact ⟨by omega,h.2,.inr h.1⟩
     · have h3:=(hfacts j (hlive j hj)).2 b hb
       exact ⟨h3.1,by omega,.inl ((hLb b).2 (.inr ⟨j,hlive j hj,hb⟩))⟩
   refine ⟨hf.put ha ho hl' v,?_,post.base,?_,?_,?_⟩
   · have k:=post.grown
     refine ⟨k.os.trans hg.os,k.tape.trans hg.tape,k.output.trans hg.output,Nat.le_trans hg.size k.size,fun b hb hn=>(k.block b (Nat.lt_of_lt_of_le hb hg.size) ?_).trans (hg.block b hb hn)⟩
     rintro (h | ⟨j,hj,_,he⟩)
     · exact hn h
     · have:=((hfacts j (hlive j hj)).2 b he).1
       omega
   · intro i' j hi' hj hli hij
     rw [hl'] at hli ⊢
     by_cases hii:i' = i
     · subst hii; rw [hAi j hj hij]; rfl
     · have:(i' == i)=false:=by simp [hii]
       rw [this,Bool.or_false] at hli
       rw [hcl i' j hi' hj hli hij]; rfl
   · intro i' hlv
     by_cases hii:i' = i
     · subst hii
       exact ⟨post.fact _ hpriv (fun b hb=>.inl hb),fun b hb=>⟨(hown b hb).1,(hown b hb).2.1⟩⟩
     · obtain ⟨h1,h2⟩:=hdown i' hii hlv
       rw [hsame i' hii h1.2.1]
       obtain ⟨h3,h4⟩:=hfacts i' h1
       refine ⟨(Fx z A F i' V G).keep post.grown ?_ ?_ ?_ h3,fun b hb=>⟨(h4 b hb).1,Nat.lt_of_lt_of_le (h4 b hb).2 post.grown.size⟩⟩
       · rintro b (h | ⟨j,hj,_,he⟩)
         · exact (hLb b).2 (.inl (hW0 b h))
         · exact (hLb b).2 (.inr ⟨j,hlive j hj,he⟩)
       · rintro b hb (h | ⟨j,hj,hc,he⟩)
         · have:=(h4 b hb).1; have:=hL0 b (hW0 b h); omega
         · have:=hdist i' j b h1 (hlive j hj) hb he
           subst this
           exact h2 hc
       · intro b hb
         rcases hpriv b hb with h | h
         · exact .inl h.1
         · exact (hown b h).2.2
   · have key:∀ j b,j≠i→Live cons ops.size (fun j=>(listed.setIfInBounds i true).getD j false) j→(Fx z A F i (upd V i v) (upd G i g)).blk=some b→(Fx z A F j (upd V i v) (upd G i g)).blk=some b→False:=fun j b hne hlv hb he=>by
       obtain ⟨h1,h2⟩:=hdown j hne hlv
       rw [hsame j hne h1.2.1] at he
       rcases post.own b hb with h | ⟨j',hj',hc,he'⟩
       · have:=((hfacts j h1).2 b he).2; omega
       · have:=hdist j j' b h1 (hlive j' hj') he he'
         subst this
         exact h2 hc
     intro i1 i2 b hv1 hv2 h1 h2
     by_cases e1:i1=i
     · by_cases e2:i2=i
       · rw [e1,e2]
       · subst e1; exact (key i2 b e2 hv2 h1 h2).elim
     · by_cases e2:i2=i
       · subst e2; exact (key i1 b e1 hv1 h2 h1).elim
       · obtain ⟨l1,_⟩:=hdown i1 e1 hv1
         obtain ⟨l2,_⟩:=hdown i2 e2 hv2
         rw [hsame i1 e1 l1.2.1] at h1
         rw [hsame i2 e2 l2.2.1] at h2
         exact hdist i1 i2 b l1 l2 h1 h2
 · intro listed a w hall ⟨_,h2⟩
   obtain ⟨k,hk1,hk2,_,hk4,hk5⟩:=h2 (hall r hr)
   have:k=ops.size:=by
     rcases Nat.lt_or_ge k ops.size with h | h
     · have h1:=hk4 k (Nat.le_refl _) h; rw [hall k h] at h1; cases h1
     · omega
   subst this
   rw [List.drop_of_length_le (by simp)] at hk5
   exact hk5
 · simp [leftOf,List.countP_replicate]
 · have h0:∀ i,(Array.replicate ops.size false).getD i false=false:=fun i=>by
     simp only [Array.getD_eq_getD_getElem?,Array.getElem?_replicate]
     split <;> rfl
   refine ⟨fun _=>⟨fun _=>undef,fun _=>z,?_,Turn.refl _ _,hB0,fun i j _ _ h=>(by rw [h0] at h; cases h),fun i h=>(by have:=h.2.1; simp only [h0] at this; cases this),fun i j b h=>(by have:=h.2.1; simp only [h0] at this; cases this)⟩,fun h=>by rw [h0] at h; cases h⟩
   have:=FrameOf.refl (ops:=ops) a0 (fun _=>undef)
   simp only [h0]
   exact this
theorem tail_run {o:Oper} {rest:List Oper} {a:Act} {w w':World} {v:Value} (hg:o.guard=none) (h:(execOp a.eval o).run P w=.ok (.value v) w') (hK:tailWp P ops Q rest (a.put o.dst v) w'):tailWp P ops Q (o :: rest) a w:=by
 unfold tailWp; exact step_run hg h hK
theorem tail_skip {o:Oper} {rest:List Oper} {a:Act} {w w':World} (hg:o.guard=none) (h:(execOp a.eval o).run P w=.ok .skip w') (hK:tailWp P ops Q rest (a.put o.dst undef) w'):tailWp P ops Q (o :: rest) a w:=by
 unfold tailWp; exact step_skip' hg h hK
theorem tail_end {a:Act} {w:World} (h:Q .normal a w):tailWp P ops Q [] a w:=h
end
end Go.Proofs.YtipfnkajdooiiaaGreatDoor
namespace Go.Proofs.YtipfnkajdooiiaaGreatDoor
open Go.RowKit

def RFact.fm (T:Fm) (v:Value) (p:Prop):RFact:=.pub (fun S w=>IsFm S w T v∧p) fun hS hc h=>⟨IsFm.keep hS hc _ h.1,h.2⟩
section
variable {ops : Array Oper} {o : Oper} {a : Act} {w : World}
theorem run_load5F {x:Operand} (ho:o.op=.load 34 x) {q:Nat} {t:TypeId} {x0 x1 x2 x3 x4:Value} (hx:a.eval x=.pointer (some ⟨q,0,none⟩)) (hk:Blk w q t #[x0,x1,x2,x3,x4]) :
   (execOp a.eval o).run Tryz.prog w=.ok (.value (.agg #[x0,x1,x2,x3,x4])) w:=by
 obtain ⟨c0,c1,c2,c3,c4,_,_,_,_,_⟩:=hk.facts5
 simp only [execOp,ho,hx]
 go_simp
theorem run_allocF (ho:o.op=.alloc 34) :
   (execOp a.eval o).run Tryz.prog w=.ok (.value (.pointer (some ⟨w.heap.size,0,none⟩))) (w.alloc (.cells #[.int .i64 0,.int .i64 0,.slice none 0 0,.slice none 0 0,.slice none 0 0] 34)):=by
 simp only [execOp,ho]
 go_simp
theorem run_storeF {x y:Operand} (ho:o.op=.store 34 x y) {q:Nat} {t:TypeId} {g0 g1 g2 g3 g4 x0 x1 x2 x3 x4:Value} (hx:a.eval x=.pointer (some ⟨q,0,none⟩)) (hy:a.eval y=.agg #[x0,x1,x2,x3,x4]) (h1:x0.oneCell' = true) (h2:x1.oneCell' = true) (h3:x2.oneCell' = true) (h4:x3.oneCell' = true) (h5:x4.oneCell' = true) (hk:Blk w q t #[g0,g1,g2,g3,g4]) :
   (execOp a.eval o).run Tryz.prog w=.ok .skip (((((w.setCell ⟨q,0,none⟩ x0).setCell ⟨q,1,none⟩ x1).setCell ⟨q,2,none⟩ x2).setCell ⟨q,3,none⟩ x3).setCell ⟨q,4,none⟩ x4):=by
 obtain ⟨c0,c1,c2,c3,c4,f0,f1,f2,f3,f4⟩:=hk.facts5
 have s0:=fun p m w=>run_store Tryz.prog w p x0 m h1
 have s1:=fun p m w=>run_store Tryz.prog w p x1 m h2
 have s2:=fun p m w=>run_store Tryz.prog w p x2 m h3
 have s3:=fun p m w=>run_store Tryz.prog w p x3 m h4
 have s4:=fun p m w=>run_store Tryz.prog w p x4 m h5
 simp only [execOp,ho,hx,hy]
 go_simp
theorem run_fieldF3 {x:Operand} (ho:o.op=.fieldAddr 34 x 3) {q:Nat} (hx:a.eval x=.pointer (some ⟨q,0,none⟩)):(execOp a.eval o).run Tryz.prog w=.ok (.value (.pointer (some ⟨q,4,none⟩))) w:=by
 simp only [execOp,ho,hx]
 go_simp
theorem run_loadFs {x:Operand} (ho:o.op=.load 32 x) {q:Addr} {v:Value} (hx:a.eval x=.pointer (some q)) (c0:w.cell? q=some v):(execOp a.eval o).run Tryz.prog w=.ok (.value v) w:=by
 simp only [execOp,ho,hx]
 go_simp
end
end Go.Proofs.YtipfnkajdooiiaaGreatDoor
namespace Go.Proofs.YtipfnkajdooiiaaGreatDoor
open Go.RowKit

theorem Turn.far {X:Nat→Prop} {a b c:World} (h:Turn X a b) (k:Below a.heap.size b c):Turn X a c:=
 ⟨k.os.trans h.os,k.tape.trans h.tape,k.output.trans h.output,Nat.le_trans h.size k.size,fun i hi hx=>(k.block i hi).trans (h.block i hi hx)⟩
end Go.Proofs.YtipfnkajdooiiaaGreatDoor
namespace Go.Proofs.YtipfnkajdooiiaaGreatDoor
open Go.RowKit

theorem built_pub {α:Type} {R:Rep α} {L L':Nat→Prop} {w:World} {l:List α} {xs:List Value} (h:R.Ch (Good L w) w l xs) (hg:∀ b,Good L w b→Good L' (w.alloc (.cells xs.toArray R.t)) b) (hn:∀ b,w.heap.size≤b→b<(w.alloc (.cells xs.toArray R.t)).heap.size→Good L' (w.alloc (.cells xs.toArray R.t)) b) :
   R.Sl (Good L' (w.alloc (.cells xs.toArray R.t))) (w.alloc (.cells xs.toArray R.t)) l (.slice (some ⟨w.heap.size,0,none⟩) l.length l.length):=
 Rep.Sl.built h (fun _ hb=>hb.2) _ hg (hn _ (Nat.le_refl _) (by simp))
theorem Own.slw {α:Type} {R:Rep α} {S:Nat→Prop} {base:Nat} {v:Value} {l:List α} {w:World} (h:R.Own S base v l w):R.Sl (fun b=>(S b∨v.ownBlock=some b)∧b<w.heap.size) w l v:=by
 obtain ⟨xs,hown,hc⟩:=h
 rcases hown.2 with ⟨rfl,hn⟩ | ⟨g,cap,cur,rfl,hb,hg,_⟩
 · have:l=[]:=List.eq_nil_of_length_eq_zero hn
   subst this
   exact Rep.Sl.nil _ _
 · exact ⟨_,cap,rfl,fun _=>⟨_,rfl,⟨.inr rfl,(Array.getElem?_eq_some_iff.1 hg).1⟩,Rep.Arr.of_cells (hc.keep (fun b hb=>⟨.inl hb.1,hb.2.1⟩) (fun _ _=>rfl)) (fun j u hu=>hown.cells rfl j u hu)⟩⟩
/-! Operations behind a guard. -/
theorem Pre.wanted {γ:Type} {ops:Array Oper} {z:γ} {A:Nat→Nat→Bool} {cons:Nat→Option Nat} {F:Nat→(Nat→Value)→(Nat→γ)→RFact} {L0 W0:Nat→Prop} {B:World→Prop} {a0:Act} {w0:World}
   {i:Nat} {V:Nat→Value} {G:Nat→γ} {L:Nat→Prop} {a:Act} {w:World} (h:Pre ops z A cons F L0 W0 B a0 w0 i V G L a w) {o:Oper} {j d:Nat} {b:Bool} (hg:o.guard=some (j,b)) (hA:A i j=true) (hd:dstOf ops j=some d) (hs:Nat.blt d a0.tmps.size=true) (hv:V j=.bool b) :
   Region.wanted o (yielded ops a.tmps)=true:=by
 have h1:=h.dep j d hA hd (Nat.blt_eq.mp hs)
 have h2:(ops[j]?).bind (·.dst)=some d:=by
   unfold dstOf at hd
   cases ho:ops[j]? with
   | none=>rw [ho] at hd; cases hd
   | some o'=>rw [ho] at hd; exact hd
 unfold Region.wanted yielded
 rw [hg]
 simp only [h2,Option.bind_some,h1,hv,beq_self_eq_true]
section
variable {P : Program} {ops : Array Oper} {o : Oper} {a : Act} {w : World} {K : Act → World → Prop} {Q : Exit → Act → World → Prop} {E : Prop}
end
section
variable {ops : Array Oper} {o : Oper} {a : Act} {w : World}
end
end Go.Proofs.YtipfnkajdooiiaaGreatDoor
namespace Go.Proofs.YtipfnkajdooiiaaGreatDoor
open Go.RowKit

def RFact.tmN (base:Nat) (T:Tm) (v:Value) (p:Prop):RFact:=.pub (fun S w=>IsTm (fun b=>S b∧base≤b) w T v∧p) fun hS hc h=>⟨IsTm.keep (fun b hb=>⟨hS b hb.1,hb.2⟩) (fun q hq=>hc q hq.1) _ h.1,h.2⟩
def RFact.tyN (base:Nat) (T:Ty) (v:Value) (p:Prop):RFact:=.pub (fun S w=>IsTy (fun b=>S b∧base≤b) w T v∧p) fun hS hc h=>⟨IsTy.keep (fun b hb=>⟨hS b hb.1,hb.2⟩) (fun q hq=>hc q hq.1) _ h.1,h.2⟩
section
variable {γ : Type} {ops : Array Oper} {z : γ} {A : Nat → Nat → Bool} {cons : Nat → Option Nat} {F : Nat → (Nat → Value) → (Nat → γ) → RFact} {L0 W0 : Nat → Prop} {B : World → Prop} {a0 : Act} {w0 : World}
   {i n base:Nat} {V:Nat→Value} {G:Nat→γ} {L:Nat→Prop} {a:Act} {w:World}
theorem Pre.base_le (h:Pre ops z A cons F L0 W0 B a0 w0 i V G L a w) (hb:base≤w0.heap.size):base≤w.heap.size:=Nat.le_trans hb h.grown.size
/-- A slice of one or two terms that is built. -/
theorem Post.built {α:Type} {R:Rep α} {l:List α} {xs:List Value} {p:Prop} {v:Value} {g:γ} (hv:v=.slice (some ⟨w.heap.size,0,none⟩) l.length l.length) (hF:Fx z A F i (upd V i v) (upd G i g)=.sl R l v p)
   (hc:R.Ch (Good L w) w l xs) (hp:p) (hB:B (w.alloc (.cells xs.toArray R.t))) (hlt:∀ b,L b→b<w.heap.size):Post z A cons F n L0 W0 B i V G L w v g (w.alloc (.cells xs.toArray R.t)):=by
 subst hv
 exact Post.of (by rw [hF]; rfl) (Turn.alloc _ _) hB hlt fun L' hg hn=>by rw [hF]; exact ⟨built_pub hc (fun b h=>⟨(hg b h).1,by have:=h.2; simp; omega⟩) hn,hp⟩
end
theorem tm_ch1 {S:Nat→Prop} {w:World} {t:Tm} {x0 x1 x2 x3 x4:Value} (h:IsTm S w t (.agg #[x0,x1,x2,x3,x4])):TmR.Ch S w [t] [x0,x1,x2,x3,x4]:=Rep.Ch.one (R:=TmR) (vs:=[x0,x1,x2,x3,x4]) h
theorem tm_ch2 {S:Nat→Prop} {w:World} {t u:Tm} {x0 x1 x2 x3 x4 y0 y1 y2 y3 y4:Value} (h:IsTm S w t (.agg #[x0,x1,x2,x3,x4])) (h2:IsTm S w u (.agg #[y0,y1,y2,y3,y4])):TmR.Ch S w [t,u] [x0,x1,x2,x3,x4,y0,y1,y2,y3,y4]:=
 Rep.Ch.append (R:=TmR) (l:=[t]) (m:=[u]) (tm_ch1 h) (tm_ch1 h2)
end Go.Proofs.YtipfnkajdooiiaaGreatDoor
