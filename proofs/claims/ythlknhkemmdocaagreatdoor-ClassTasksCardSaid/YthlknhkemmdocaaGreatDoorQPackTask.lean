/- A region whose last operation waits for all others: it is met alone, with all that is known by then. -/
import Derived.Test.YthlknhkemmdocaaGreatDoorQPackReg
import Derived.Test.YthlknhkemmdocaaGreatDoorQPackReg2
import Derived.Test.YthlknhkemmdocaaGreatDoorQPackFml
import Derived.Test.YthlknhkemmdocaaGreatDoorQPackCl
import Derived.Test.YthlknhkemmdocaaGreatDoorQPackSubst
import Derived.Test.YthlknhkemmdocaaGreatDoorQMade
import Derived.Test.YthlknhkemmdocaaGreatDoorQPackCl2
import Derived.Test.YthlknhkemmdocaaGreatDoorQPackRef
import Derived.Test.YthlknhkemmdocaaGreatDoorQPackRefF
import Derived.Test.YthlknhkemmdocaaGreatDoorQPackK
namespace Go.Proofs.YthlknhkemmdocaaGreatDoor
section
variable {P : Program} {ops : Array Oper} {Q : Exit → Act → World → Prop}

theorem FrameOf.eq {a0 a b:Act} {l l':Nat→Bool} {V:Nat→Value} (h:FrameOf ops a0 l V a) (h2:FrameOf ops a0 l' V b) (hl:∀ i,i<ops.size→l i=l' i):a=b:=by
  have e:a.tmps=b.tmps:=by
    apply Array.ext_getElem?
    intro d
    by_cases hd:∃ i,dstOf ops i=some d∧l i=true
    · obtain ⟨i,hi,hli⟩:=hd
      have hlt:i<ops.size:=dstOf_lt hi
      by_cases hd2:d<a0.tmps.size
      · rw [h.of i d hi hli hd2,h2.of i d hi (by rw [← hl i hlt]; exact hli) hd2]
      · rw [Array.getElem?_eq_none (by rw [h.size]; omega),Array.getElem?_eq_none (by rw [h2.size]; omega)]
    · have hno:∀ i,dstOf ops i=some d→l i=false:=fun i hi=>by
        cases hli:l i with
        | false=>rfl
        | true=>exact (hd ⟨i,hi,hli⟩).elim
      rw [h.old d hno,h2.old d (fun i hi=>by rw [← hl i (dstOf_lt hi)]; exact hno i hi)]
  have e2:a.defers=b.defers:=by rw [h.defers,h2.defers]
  cases a
  cases b
  simp at e e2
  rw [e,e2]

theorem wpAny_last (hb:backs ops=true) (ha:dstsApart ops=true) {γ:Type} (z:γ) (A:Nat→Nat→Bool) (hA:okA ops A=true) (cons:Nat→Option Nat) (F:Nat→(Nat→Value)→(Nat→γ)→RFact)
    (r:Nat) (hr:ops.size=r+1) (hAr:(List.range r).all (A r)=true) (or:Oper) (hor:ops[r]? = some or)
    (L0 W0:Nat→Prop) (B:World→Prop) (a0:Act) (w0:World) (hL0:∀ b,L0 b→b<w0.heap.size) (hW0:∀ b,W0 b→L0 b) (hB0:B w0)
    (step:StepAll (fun i o=>∀ (V:Nat→Value) (G:Nat→γ) (L:Nat→Prop) (a:Act) (w:World),Pre ops z A cons F L0 W0 B a0 w0 i V G L a w→∀ K:Act→World→Prop,
      (∀ v g w',Post z A cons F ops.size L0 W0 B i V G L w v g w'→K (a.put o.dst v) w')→if Region.wanted o (yielded ops a.tmps)=true then Oper.wp P o a w K Q else K (a.put o.dst undef) w) 0 ops.toList.dropLast)
    (fin:∀ (V:Nat→Value) (G:Nat→γ) (L:Nat→Prop) (a:Act) (w:World),Pre ops z A cons F L0 W0 B a0 w0 r V G L a w→a=putFrom ops V r a0→∀ K:Act→World→Prop,(∀ a' w',Q .normal a' w'→K a' w') →
      if Region.wanted or (yielded ops a.tmps)=true then Oper.wp P or a w K Q else K (a.put or.dst undef) w) :
    wpAny P .any ops Q ops.size (Array.replicate ops.size false) a0 w0:=by
  refine wpAny_inv hb (fun listed a w=>(listed.getD r false=false→∃ (V:Nat→Value) (G:Nat→γ),FrameOf ops a0 (fun i=>listed.getD i false) V a∧Turn W0 w0 w∧B w ∧
    (∀ i j,i<ops.size→j<ops.size→listed.getD i false=true→A i j=true→listed.getD j false=true) ∧
    (∀ i,Live cons ops.size (fun i=>listed.getD i false) i→(Fx z A F i V G).holds (Priv z A cons F ops.size L0 (fun i=>listed.getD i false) V G) w∧∀ b,(Fx z A F i V G).blk=some b→w0.heap.size≤b∧b<w.heap.size) ∧
    (∀ i j b,Live cons ops.size (fun i=>listed.getD i false) i→Live cons ops.size (fun i=>listed.getD i false) j→(Fx z A F i V G).blk=some b→(Fx z A F j V G).blk=some b→i=j)) ∧
    (listed.getD r false=true→(∀ i,i<ops.size→listed.getD i false=true)∧Q .normal a w)) ?_ ?_ _ _ _ _ (by simp) ?_ ?_
  · intro listed a w i o hs ho hl hall ⟨h1,h2⟩ K hK
    have hlr:listed.getD r false=false:=by
      cases h:listed.getD r false with
      | false=>rfl
      | true=>have:=(h2 h).1 i (Array.getElem?_eq_some_iff.1 ho).1; rw [hl] at this; cases this
    obtain ⟨V,G,hf,hg,hBw,hcl,hfacts,hdist⟩:=h1 hlr
    clear h1 h2
    have hi:i<ops.size:=(Array.getElem?_eq_some_iff.1 ho).1
    have hin:∀ j,listed.getD j false=true→j<ops.size:=fun j hj=>by
      rcases Nat.lt_or_ge j listed.size with h | h
      · omega
      · simp [Array.getElem?_eq_none h] at hj
    have hAi:∀ j,j<ops.size→A i j=true→listed.getD j false=true:=fun j hj hij=>by
      have h1:=List.all_eq_true.1 (List.all_eq_true.1 hA i (List.mem_range.2 hi)) j (List.mem_range.2 hj)
      rw [hij,ho] at h1
      simp only [Bool.not_true,Bool.false_or] at h1
      obtain ⟨e,he,hb⟩:=Array.any_eq_true'.1 h1
      simp only [Bool.and_eq_true,Bool.or_eq_true,beq_iff_eq] at hb
      have h2:=hall e he hb.1
      rcases hb.2 with h3 | h3
      · rw [← h3]; exact h2
      · exact hcl _ _ (hin _ h2) hj h2 h3
    have hnot:∀ i',listed.getD i' false=true→A i' i=false:=fun i' hi'=>by
      cases h:A i' i with
      | false=>rfl
      | true=>have:=hcl i' i (hin _ hi') hi hi' h; rw [hl] at this; cases this
    have hlive:∀ j,avail A cons ops.size i j=true→Live cons ops.size (fun i=>listed.getD i false) j:=fun j hj=>by
      simp only [avail,Bool.and_eq_true,decide_eq_true_eq] at hj
      obtain ⟨⟨h1,h2⟩,h3⟩:=hj
      refine ⟨h2,hAi j h2 h1,fun c hc=>?_⟩
      rw [hc] at h3
      simp only [Bool.or_eq_true,beq_iff_eq] at h3
      show listed.getD c false=false
      rcases h3 with h3 | h3
      · rw [h3]; exact hl
      · cases h:listed.getD c false with
        | false=>rfl
        | true=>have:=hcl c i (hin _ h) hi h h3; rw [hl] at this; cases this
    generalize hL:Priv z A cons F ops.size L0 (fun i=>listed.getD i false) V G=L at hfacts
    have hLb:∀ b,L b↔L0 b∨∃ i,Live cons ops.size (fun i=>listed.getD i false) i∧(Fx z A F i V G).blk=some b:=fun b=>by rw [← hL]; exact Iff.rfl
    have hpre:Pre ops z A cons F L0 W0 B a0 w0 i V G L a w:=by
      refine ⟨fun j d hj hd hlt=>hf.of j d hd (hAi j (dstOf_lt hd) hj) hlt,fun d hd=>hf.old d fun j hj=>(hd j hj).elim,fun j hj=>(hfacts j (hlive j hj)).1,hBw,hg,?_,fun b hb=>(hLb b).2 (.inl hb),hW0,?_,fun j b hj hb=>⟨(hLb b).2 (.inr ⟨j,hlive j hj,hb⟩),((hfacts j (hlive j hj)).2 b hb).1⟩⟩
      · intro b hb
        rcases (hLb b).1 hb with h | ⟨j,hj,hb⟩
        · exact Nat.lt_of_lt_of_le (hL0 b h) hg.size
        · exact ((hfacts j hj).2 b hb).2
      · intro b hb
        rcases (hLb b).1 hb with h | ⟨j,hj,hb⟩
        · exact .inl h
        · exact .inr ((hfacts j hj).2 b hb).1
    by_cases hir:i=r
    · subst hir
      have hoo:o=or:=by rw [ho] at hor; exact Option.some.inj hor
      subst hoo
      have hall2:∀ j,j<i→listed.getD j false=true:=fun j hj=>hAi j (by omega) (List.all_eq_true.1 hAr j (List.mem_range.2 hj))
      have hae:a=putFrom ops V i a0:=hf.eq (putFrom_frame ha a0 V i (by omega)) fun j hj=>by
        by_cases hji:j=i
        · subst hji; rw [hl]; simp
        · rw [hall2 j (by omega)]; simp; omega
      refine fin V G L a w hpre hae K fun a' w' hq=>hK a' w' ⟨fun h=>?_,fun _=>⟨fun j hj=>?_,hq⟩⟩
      · have hlt:i<listed.size:=by omega
        simp [hlt] at h
      · by_cases hji:i=j
        · subst hji
          have hlt:i<listed.size:=by omega
          simp [hlt]
        · rw [getD_set_ne false hji]; exact hall2 j (by omega)
    have hir':i<r:=by omega
    have hst:=step.get i o (by rw [List.getElem?_dropLast,if_pos (by simp; omega),Array.getElem?_toList]; exact ho)
    rw [Nat.zero_add] at hst
    refine hst V G L a w hpre K fun v g w' post=>hK _ _ ⟨fun _=>⟨upd V i v,upd G i g,?_⟩,fun h=>by rw [getD_set_ne false hir,hlr] at h; cases h⟩
    have hl':∀ j,(listed.setIfInBounds i true).getD j false=(listed.getD j false || j == i):=fun j=>by
      by_cases hji:i=j
      · subst hji
        have:i<listed.size:=by omega
        simp [this]
      · have:(j == i)=false:=by simp; exact fun e=>hji e.symm
        rw [this,Bool.or_false,getD_set_ne false hji]
    have hsame:∀ i',i'≠i→listed.getD i' false=true→Fx z A F i' (upd V i v) (upd G i g)=Fx z A F i' V G:=fun i' hne hli=>by
      unfold Fx
      rw [mask_upd hne (hnot i' hli),mask_upd hne (hnot i' hli)]
    have hdown:∀ i',i'≠i→Live cons ops.size (fun j=>(listed.setIfInBounds i true).getD j false) i'→Live cons ops.size (fun i=>listed.getD i false) i'∧cons i'≠some i:=fun i' hne h=>by
      have h2:(listed.setIfInBounds i true).getD i' false=true:=h.2.1
      rw [hl'] at h2
      have:(i' == i)=false:=by simp [hne]
      rw [this,Bool.or_false] at h2
      refine ⟨⟨h.1,h2,fun c hc=>?_⟩,fun hc=>?_⟩
      · have h3:(listed.setIfInBounds i true).getD c false=false:=h.2.2 c hc
        rw [hl'] at h3
        simp only [Bool.or_eq_false_iff] at h3
        exact h3.1
      · have h3:(listed.setIfInBounds i true).getD i false=false:=h.2.2 i hc
        rw [hl'] at h3
        simp at h3
    have hpriv:∀ b,Priv z A cons F ops.size L0 (fun j=>(listed.setIfInBounds i true).getD j false) (upd V i v) (upd G i g) b →
        (L b∧∀ j,avail A cons ops.size i j=true→cons j=some i→(Fx z A F j V G).blk≠some b)∨(Fx z A F i (upd V i v) (upd G i g)).blk=some b:=fun b hb=>by
      rcases hb with h | ⟨i',hlv,hb⟩
      · refine .inl ⟨(hLb b).2 (.inl h),fun j hj hc he=>?_⟩
        have:=((hfacts j (hlive j hj)).2 b he).1
        have:=hL0 b h
        omega
      · by_cases hii:i' = i
        · subst hii; exact .inr hb
        · obtain ⟨h1,h2⟩:=hdown i' hii hlv
          rw [hsame i' hii h1.2.1] at hb
          refine .inl ⟨(hLb b).2 (.inr ⟨i',h1,hb⟩),fun j hj hc he=>?_⟩
          have:=hdist i' j b h1 (hlive j hj) hb he
          subst this
          exact h2 hc
    have hown:∀ b,(Fx z A F i (upd V i v) (upd G i g)).blk=some b→w0.heap.size≤b∧b<w'.heap.size∧(L b∨w.heap.size≤b):=fun b hb=>by
      have h1:=hg.size
      have h2:=post.grown.size
      rcases post.own b hb with h | ⟨j,hj,_,hb⟩
      · exact ⟨by omega,h.2,.inr h.1⟩
      · have h3:=(hfacts j (hlive j hj)).2 b hb
        exact ⟨h3.1,by omega,.inl ((hLb b).2 (.inr ⟨j,hlive j hj,hb⟩))⟩
    refine ⟨hf.put ha ho hl' v,?_,post.base,?_,?_,?_⟩
    · have k:=post.grown
      refine ⟨k.os.trans hg.os,k.tape.trans hg.tape,k.output.trans hg.output,Nat.le_trans hg.size k.size,fun b hb hn=>(k.block b (Nat.lt_of_lt_of_le hb hg.size) ?_).trans (hg.block b hb hn)⟩
      rintro (h | ⟨j,hj,_,he⟩)
      · exact hn h
      · have:=((hfacts j (hlive j hj)).2 b he).1
        omega
    · intro i' j hi' hj hli hij
      rw [hl'] at hli ⊢
      by_cases hii:i' = i
      · subst hii; rw [hAi j hj hij]; rfl
      · have:(i' == i)=false:=by simp [hii]
        rw [this,Bool.or_false] at hli
        rw [hcl i' j hi' hj hli hij]; rfl
    · intro i' hlv
      by_cases hii:i' = i
      · subst hii
        exact ⟨post.fact _ hpriv (fun b hb=>.inl hb),fun b hb=>⟨(hown b hb).1,(hown b hb).2.1⟩⟩
      · obtain ⟨h1,h2⟩:=hdown i' hii hlv
        rw [hsame i' hii h1.2.1]
        obtain ⟨h3,h4⟩:=hfacts i' h1
        refine ⟨(Fx z A F i' V G).keep post.grown ?_ ?_ ?_ h3,fun b hb=>⟨(h4 b hb).1,Nat.lt_of_lt_of_le (h4 b hb).2 post.grown.size⟩⟩
        · rintro b (h | ⟨j,hj,_,he⟩)
          · exact (hLb b).2 (.inl (hW0 b h))
          · exact (hLb b).2 (.inr ⟨j,hlive j hj,he⟩)
        · rintro b hb (h | ⟨j,hj,hc,he⟩)
          · have:=(h4 b hb).1; have:=hL0 b (hW0 b h); omega
          · have:=hdist i' j b h1 (hlive j hj) hb he
            subst this
            exact h2 hc
        · intro b hb
          rcases hpriv b hb with h | h
          · exact .inl h.1
          · exact (hown b h).2.2
    · have key:∀ j b,j≠i→Live cons ops.size (fun j=>(listed.setIfInBounds i true).getD j false) j→(Fx z A F i (upd V i v) (upd G i g)).blk=some b→(Fx z A F j (upd V i v) (upd G i g)).blk=some b→False:=fun j b hne hlv hb he=>by
        obtain ⟨h1,h2⟩:=hdown j hne hlv
        rw [hsame j hne h1.2.1] at he
        rcases post.own b hb with h | ⟨j',hj',hc,he'⟩
        · have:=((hfacts j h1).2 b he).2; omega
        · have:=hdist j j' b h1 (hlive j' hj') he he'
          subst this
          exact h2 hc
      intro i1 i2 b hv1 hv2 h1 h2
      by_cases e1:i1=i
      · by_cases e2:i2=i
        · rw [e1,e2]
        · subst e1; exact (key i2 b e2 hv2 h1 h2).elim
      · by_cases e2:i2=i
        · subst e2; exact (key i1 b e1 hv1 h2 h1).elim
        · obtain ⟨l1,_⟩:=hdown i1 e1 hv1
          obtain ⟨l2,_⟩:=hdown i2 e2 hv2
          rw [hsame i1 e1 l1.2.1] at h1
          rw [hsame i2 e2 l2.2.1] at h2
          exact hdist i1 i2 b l1 l2 h1 h2
  · intro listed a w hall ⟨_,h2⟩
    exact (h2 (hall r (by omega))).2
  · simp [leftOf,List.countP_replicate]
  · have h0:∀ i,(Array.replicate ops.size false).getD i false=false:=fun i=>by
      simp only [Array.getD_eq_getD_getElem?,Array.getElem?_replicate]
      split <;> rfl
    refine ⟨fun _=>⟨fun _=>undef,fun _=>z,?_,Turn.refl _ _,hB0,fun i j _ _ h=>(by rw [h0] at h; cases h),fun i h=>(by have:=h.2.1; simp only [h0] at this; cases this),fun i j b h=>(by have:=h.2.1; simp only [h0] at this; cases this)⟩,fun h=>by rw [h0] at h; cases h⟩
    have:=FrameOf.refl (ops:=ops) a0 (fun _=>undef)
    simp only [h0]
    exact this
end
end Go.Proofs.YthlknhkemmdocaaGreatDoor
namespace Go.Proofs.YthlknhkemmdocaaGreatDoor
open Go.RowKit

def RFact.tmN (base:Nat) (T:Tm) (v:Value) (p:Prop):RFact:=.pub (fun S w=>IsTm (fun b=>S b∧base≤b) w T v∧p) fun hS hc h=>⟨IsTm.keep (fun b hb=>⟨hS b hb.1,hb.2⟩) (fun q hq=>hc q hq.1) _ h.1,h.2⟩
def RFact.fmN (base:Nat) (T:Fm) (v:Value) (p:Prop):RFact:=.pub (fun S w=>IsFm (fun b=>S b∧base≤b) w T v∧p) fun hS hc h=>⟨IsFm.keep (fun b hb=>⟨hS b hb.1,hb.2⟩) (fun q hq=>hc q hq.1) _ h.1,h.2⟩
section
variable {γ : Type} {ops : Array Oper} {z : γ} {A : Nat → Nat → Bool} {cons : Nat → Option Nat} {F : Nat → (Nat → Value) → (Nat → γ) → RFact} {L0 W0 : Nat → Prop} {B : World → Prop} {a0 : Act} {w0 : World}
    {i n base:Nat} {V:Nat→Value} {G:Nat→γ} {L:Nat→Prop} {a:Act} {w:World}
theorem Pre.base_le (h:Pre ops z A cons F L0 W0 B a0 w0 i V G L a w) (hb:base≤w0.heap.size):base≤w.heap.size:=Nat.le_trans hb h.grown.size
theorem Post.freshT {v:Value} {g:γ} {w':World} {T:Tm} {p:Prop} (hF:Fx z A F i (upd V i v) (upd G i g)=.tmN base T v p) (hbs:base≤w.heap.size) (ht:IsTm (fun b=>w.heap.size≤b∧b<w'.heap.size) w' T v) (hb:Below w.heap.size w w') (hp:p) (hB:B w') (hlt:∀ b,L b→b<w.heap.size):Post z A cons F n L0 W0 B i V G L w v g w':=
  Post.of (by rw [hF]; rfl) (Turn.call hb) hB hlt fun L' _ hn=>by rw [hF]; exact ⟨IsTm.keep (fun b h=>⟨hn b h.1 h.2,Nat.le_trans hbs h.1⟩) (fun _ _=>rfl) _ ht,hp⟩
theorem Post.freshF {v:Value} {g:γ} {w':World} {T:Fm} {p:Prop} (hF:Fx z A F i (upd V i v) (upd G i g)=.fmN base T v p) (hbs:base≤w.heap.size) (ht:IsFm (fun b=>w.heap.size≤b∧b<w'.heap.size) w' T v) (hb:Below w.heap.size w w') (hp:p) (hB:B w') (hlt:∀ b,L b→b<w.heap.size):Post z A cons F n L0 W0 B i V G L w v g w':=
  Post.of (by rw [hF]; rfl) (Turn.call hb) hB hlt fun L' _ hn=>by rw [hF]; exact ⟨IsFm.keep (fun b h=>⟨hn b h.1 h.2,Nat.le_trans hbs h.1⟩) (fun _ _=>rfl) _ ht,hp⟩
/-- A slice of one or two terms that is built. -/
theorem Post.built {α:Type} {R:Rep α} {l:List α} {xs:List Value} {p:Prop} {v:Value} {g:γ} (hv:v=.slice (some ⟨w.heap.size,0,none⟩) l.length l.length) (hF:Fx z A F i (upd V i v) (upd G i g)=.sl R l v p)
    (hc:R.Ch (Good L w) w l xs) (hp:p) (hB:B (w.alloc (.cells xs.toArray R.t))) (hlt:∀ b,L b→b<w.heap.size):Post z A cons F n L0 W0 B i V G L w v g (w.alloc (.cells xs.toArray R.t)):=by
  subst hv
  exact Post.of (by rw [hF]; rfl) (Turn.alloc _ _) hB hlt fun L' hg hn=>by rw [hF]; exact ⟨built_pub hc (fun b h=>⟨(hg b h).1,by have:=h.2; simp; omega⟩) hn,hp⟩
end
theorem tm_ch1 {S:Nat→Prop} {w:World} {t:Tm} {x0 x1 x2 x3 x4:Value} (h:IsTm S w t (.agg #[x0,x1,x2,x3,x4])):TmR.Ch S w [t] [x0,x1,x2,x3,x4]:=Rep.Ch.one (R:=TmR) (vs:=[x0,x1,x2,x3,x4]) h
theorem tm_ch2 {S:Nat→Prop} {w:World} {t u:Tm} {x0 x1 x2 x3 x4 y0 y1 y2 y3 y4:Value} (h:IsTm S w t (.agg #[x0,x1,x2,x3,x4])) (h2:IsTm S w u (.agg #[y0,y1,y2,y3,y4])):TmR.Ch S w [t,u] [x0,x1,x2,x3,x4,y0,y1,y2,y3,y4]:=
  Rep.Ch.append (R:=TmR) (l:=[t]) (m:=[u]) (tm_ch1 h) (tm_ch1 h2)
end Go.Proofs.YthlknhkemmdocaaGreatDoor
namespace Go.Proofs.YthlknhkemmdocaaGreatDoor
open Go.RowKit

def l5A (i j:Nat):Bool:=([0,0,2,7,15,31,0,127,255,511,1023,2047].getD i 0).testBit j
def l5F (base:Nat) (s t:Tm) (SV TV:Value) (i:Nat) (V:Nat→Value) (_:Nat→Unit):RFact:=
  match i with
  | 0=>.tmN base subTm (V 0) True
  | 1=>.pure (V 1=SV)
  | 2=>.sl TmR [s] (V 2) True
  | 3=>.tmN base (.mk 5 0 .zero [s]) (V 3) True
  | 4=>.sl TmR [subTm,(.mk 5 0 .zero [s])] (V 4) True
  | 5=>.tmN base (.mk 3 0 .zero [subTm,(.mk 5 0 .zero [s])]) (V 5) True
  | 6=>.pure (V 6=TV)
  | 7=>.sl TmR [(.mk 3 0 .zero [subTm,(.mk 5 0 .zero [s])]),t] (V 7) True
  | 8=>.tmN base (.mk 3 0 .zero [(.mk 3 0 .zero [subTm,(.mk 5 0 .zero [s])]),t]) (V 8) True
  | 9=>.tmN base (.mk 4 0 .zero []) (V 9) True
  | 10=>.fmN base (lessFm s t) (V 10) True
  | _=>.pure True
set_option maxRecDepth 100000 in
set_option maxHeartbeats 8000000 in
theorem less5_any (s t:Tm) (u v:Value) (w:World) (hs:s.bulk≤190000) (ht:t.bulk≤190000) (hu:IsTm (· < w.heap.size) w s u) (hv:IsTm (· < w.heap.size) w t v) :
    Calls Tryz.prog 138 #[u,v] w (FreshF w (lessFm s t)):=by
  obtain ⟨B0,d0,A0,c0,rfl,_⟩:=IsTm.form hu
  obtain ⟨B1,d1,A1,c1,rfl,_⟩:=IsTm.form hv
  obtain ⟨W,hW,hbW,hzz,k0,k1,k2⟩:=three_blks w #[.int .i64 s.kind,.int .i64 s.index,.int .i64 s.type.kind,.slice B0 s.type.args.length d0,.slice A0 s.args.length c0] #[.int .i64 t.kind,.int .i64 t.index,.int .i64 t.type.kind,.slice B1 t.type.args.length d1,.slice A1 t.args.length c1] #[.int .i64 0,.int .i64 0,.slice none 0 0,.slice none 0 0,.slice none 0 0] 42 42 34
  have hsub:subTm.bulk≤100:=by decide
  have HB:=Lib.hid (show bulkAll [s]≤400000∧bulkAll [subTm,(.mk 5 0 .zero [s])]≤400000∧bulkAll [(.mk 3 0 .zero [subTm,(.mk 5 0 .zero [s])]),t]≤400000∧(Tm.mk 3 0 .zero [(.mk 3 0 .zero [subTm,(.mk 5 0 .zero [s])]),t]).bulk≤400000 by
    have e0:Ty.zero.nodes=1:=rfl
    simp only [bulkAll,Tm.bulk,e0]
    omega)
  have HS:=Lib.hid (show IsTm (· < W.heap.size) W s _ from hu.boxed hbW)
  have HT:=Lib.hid (show IsTm (· < W.heap.size) W t _ from hv.boxed hbW)
  have K0:=Lib.hid k0
  have K1:=Lib.hid k1
  have K2:=Lib.hid k2
  have HW:=Lib.hid (And.intro hbW hzz)
  clear k0 k1 k2 hu hv hs ht hsub hbW hzz
  go_enter Tryz.func138,Tryz.ntmps138
  go_upto_region 1 with fail
  rw [← hW]
  clear hW
  refine wp_region_any (by kernel_rfl) ?_
  change wpAny _ _ _ _ _ _ _ (World.drew _)
  have TS:=Lib.hid (show IsTm (Good (fun _=>False) W.drew) W.drew s _ from IsTm.keep (w:=W) (w':=W.drew) (fun b h=>⟨id,h⟩) (fun _ _=>rfl) _ HS.out)
  have TT:=Lib.hid (show IsTm (Good (fun _=>False) W.drew) W.drew t _ from IsTm.keep (w:=W) (w':=W.drew) (fun b h=>⟨id,h⟩) (fun _ _=>rfl) _ HT.out)
  refine wpAny_last (by kernel_rfl) (by kernel_rfl) () l5A (by kernel_rfl) (fun _=>none) (l5F W.heap.size s t (.agg #[.int .i64 s.kind,.int .i64 s.index,.int .i64 s.type.kind,.slice B0 s.type.args.length d0,.slice A0 s.args.length c0]) (.agg #[.int .i64 t.kind,.int .i64 t.index,.int .i64 t.type.kind,.slice B1 t.type.args.length d1,.slice A1 t.args.length c1])) 11 rfl (by kernel_rfl) _ rfl (fun _=>False) (fun _=>False) (fun _=>True) _ _ (fun _ h=>h.elim) (fun _ h=>h) trivial ⟨?_,?_,?_,?_,?_,?_,?_,?_,?_,?_,?_,trivial⟩ ?_
  · intro V G L a w1 hp K hK
    refine step_call rfl _ _ _ rfl #[] (by simp) (enters_of Tryz.func60 (by kernel_rfl) rfl) (sub_any w1) ?_
    rintro e w' ⟨v,rfl,ht,hb⟩
    exact ⟨_,rfl,hK _ () _ (Post.freshT rfl (hp.base_le (Nat.le_refl _)) ht hb trivial trivial hp.lt)⟩
  · intro V G L a w1 hp K hK
    exact step_run rfl (run_load5 rfl (hp.slot0 2 _ rfl rfl) (hp.blk0 K0.out.drew id)) (hK _ () _ (Post.still rfl trivial hp.lt fun L' _=>rfl))
  · intro V G L a w1 hp K hK
    have f1:V 1=_:=hp.fact 1 rfl
    have e1:=hp.slot 1 6 rfl rfl rfl
    rw [f1] at e1
    exact step_run rfl (run_build1 rfl e1) (hK _ () _ (Post.built (R:=TmR) (l:=[s]) (xs:=[_,_,_,_,_]) rfl rfl (tm_ch1 (hp.tm0 TS.out)) trivial trivial hp.lt))
  · intro V G L a w1 hp K hK
    have f2:TmR.Sl (Good L w1) w1 [s] (V 2)∧True:=hp.fact 2 rfl
    have e2:=hp.slot 2 7 rfl rfl rfl
    have ek0:a.eval (.const (.int .i64 5))=.int .i64 5:=rfl
    refine step_call rfl _ _ _ rfl _ (by simp only [List.map_toArray,List.map_cons,List.map_nil,ek0,e2]) (enters_of Tryz.func54 (by kernel_rfl) rfl) (n_any 5 [s] _ w1 HB.out.1 (f2.1.keep (fun b h=>h.2) (fun _ _=>rfl))) ?_
    rintro e w' ⟨v,rfl,ht,hb⟩
    exact ⟨_,rfl,hK _ () _ (Post.freshT rfl (hp.base_le (Nat.le_refl _)) ht hb trivial trivial hp.lt)⟩
  · intro V G L a w1 hp K hK
    have f0:IsTm (fun b=>Good L w1 b∧W.heap.size≤b) w1 subTm (V 0)∧True:=hp.fact 0 rfl
    have e0:=hp.slot 0 5 rfl rfl rfl
    have f3:IsTm (fun b=>Good L w1 b∧W.heap.size≤b) w1 (.mk 5 0 .zero [s]) (V 3)∧True:=hp.fact 3 rfl
    have e3:=hp.slot 3 8 rfl rfl rfl
    obtain ⟨B0,d0,A0,c0,h0,_⟩:=f0.1.form
    rw [h0] at e0 f0
    obtain ⟨B3,d3,A3,c3,h3,_⟩:=f3.1.form
    rw [h3] at e3 f3
    exact step_run rfl (run_build2 rfl e0 e3) (hK _ () _ (Post.built (R:=TmR) (l:=[subTm,(.mk 5 0 .zero [s])]) (xs:=[_,_,_,_,_,_,_,_,_,_]) rfl rfl (tm_ch2 (IsTm.keep (fun _ h=>h.1) (fun _ _=>rfl) _ f0.1) (IsTm.keep (fun _ h=>h.1) (fun _ _=>rfl) _ f3.1)) trivial trivial hp.lt))
  · intro V G L a w1 hp K hK
    have f4:TmR.Sl (Good L w1) w1 [subTm,(.mk 5 0 .zero [s])] (V 4)∧True:=hp.fact 4 rfl
    have e4:=hp.slot 4 9 rfl rfl rfl
    have ek0:a.eval (.const (.int .i64 3))=.int .i64 3:=rfl
    refine step_call rfl _ _ _ rfl _ (by simp only [List.map_toArray,List.map_cons,List.map_nil,ek0,e4]) (enters_of Tryz.func54 (by kernel_rfl) rfl) (n_any 3 [subTm,(.mk 5 0 .zero [s])] _ w1 HB.out.2.1 (f4.1.keep (fun b h=>h.2) (fun _ _=>rfl))) ?_
    rintro e w' ⟨v,rfl,ht,hb⟩
    exact ⟨_,rfl,hK _ () _ (Post.freshT rfl (hp.base_le (Nat.le_refl _)) ht hb trivial trivial hp.lt)⟩
  · intro V G L a w1 hp K hK
    exact step_run rfl (run_load5 rfl (hp.slot0 3 _ rfl rfl) (hp.blk0 K1.out.drew id)) (hK _ () _ (Post.still rfl trivial hp.lt fun L' _=>rfl))
  · intro V G L a w1 hp K hK
    have f5:IsTm (fun b=>Good L w1 b∧W.heap.size≤b) w1 (.mk 3 0 .zero [subTm,(.mk 5 0 .zero [s])]) (V 5)∧True:=hp.fact 5 rfl
    have e5:=hp.slot 5 10 rfl rfl rfl
    have f6:V 6=_:=hp.fact 6 rfl
    have e6:=hp.slot 6 11 rfl rfl rfl
    rw [f6] at e6
    obtain ⟨B5,d5,A5,c5,h5,_⟩:=f5.1.form
    rw [h5] at e5 f5
    exact step_run rfl (run_build2 rfl e5 e6) (hK _ () _ (Post.built (R:=TmR) (l:=[(.mk 3 0 .zero [subTm,(.mk 5 0 .zero [s])]),t]) (xs:=[_,_,_,_,_,_,_,_,_,_]) rfl rfl (tm_ch2 (IsTm.keep (fun _ h=>h.1) (fun _ _=>rfl) _ f5.1) (hp.tm0 TT.out)) trivial trivial hp.lt))
  · intro V G L a w1 hp K hK
    have f7:TmR.Sl (Good L w1) w1 [(.mk 3 0 .zero [subTm,(.mk 5 0 .zero [s])]),t] (V 7)∧True:=hp.fact 7 rfl
    have e7:=hp.slot 7 12 rfl rfl rfl
    have ek0:a.eval (.const (.int .i64 3))=.int .i64 3:=rfl
    refine step_call rfl _ _ _ rfl _ (by simp only [List.map_toArray,List.map_cons,List.map_nil,ek0,e7]) (enters_of Tryz.func54 (by kernel_rfl) rfl) (n_any 3 [(.mk 3 0 .zero [subTm,(.mk 5 0 .zero [s])]),t] _ w1 HB.out.2.2.1 (f7.1.keep (fun b h=>h.2) (fun _ _=>rfl))) ?_
    rintro e w' ⟨v,rfl,ht,hb⟩
    exact ⟨_,rfl,hK _ () _ (Post.freshT rfl (hp.base_le (Nat.le_refl _)) ht hb trivial trivial hp.lt)⟩
  · intro V G L a w1 hp K hK
    have ek0:a.eval (.const (.int .i64 4))=.int .i64 4:=rfl
    have ek1:a.eval (.const (.slice none 0 0))=.slice none 0 0:=rfl
    refine step_call rfl _ _ _ rfl _ (by simp only [List.map_toArray,List.map_cons,List.map_nil,ek0,ek1]) (enters_of Tryz.func54 (by kernel_rfl) rfl) (n_any 4 [] (.slice none 0 0) w1 (by decide) (Rep.Sl.nil _ _)) ?_
    rintro e w' ⟨v,rfl,ht,hb⟩
    exact ⟨_,rfl,hK _ () _ (Post.freshT rfl (hp.base_le (Nat.le_refl _)) ht hb trivial trivial hp.lt)⟩
  · intro V G L a w1 hp K hK
    have f8:IsTm (fun b=>Good L w1 b∧W.heap.size≤b) w1 (.mk 3 0 .zero [(.mk 3 0 .zero [subTm,(.mk 5 0 .zero [s])]),t]) (V 8)∧True:=hp.fact 8 rfl
    have e8:=hp.slot 8 13 rfl rfl rfl
    have f9:IsTm (fun b=>Good L w1 b∧W.heap.size≤b) w1 (.mk 4 0 .zero []) (V 9)∧True:=hp.fact 9 rfl
    have e9:=hp.slot 9 14 rfl rfl rfl
    refine step_call rfl _ _ _ rfl _ (by simp only [List.map_toArray,List.map_cons,List.map_nil,e8,e9]) (enters_of Tryz.func45 (by kernel_rfl) rfl) (eqF_any (.mk 3 0 .zero [(.mk 3 0 .zero [subTm,(.mk 5 0 .zero [s])]),t]) (.mk 4 0 .zero []) _ _ w1 HB.out.2.2.2 (by decide) (IsTm.keep (fun _ h=>h.1.2) (fun _ _=>rfl) _ f8.1) (IsTm.keep (fun _ h=>h.1.2) (fun _ _=>rfl) _ f9.1)) ?_
    rintro e w' ⟨v,rfl,ht,hb⟩
    exact ⟨_,rfl,hK _ () _ (Post.freshF rfl (hp.base_le (Nat.le_refl _)) ht hb trivial trivial hp.lt)⟩
  · intro V G L a w1 hp ha K hK
    have f10:IsFm (fun b=>Good L w1 b∧W.heap.size≤b) w1 (lessFm s t) (V 10)∧True:=hp.fact 10 rfl
    obtain ⟨f,hf⟩:∃ f,f=lessFm s t:=⟨_,rfl⟩
    rw [← hf] at f10
    have HF:=Lib.hid hf
    clear hf
    have e10:=hp.slot 10 15 rfl rfl rfl
    have e4:=hp.slot0 4 (.pointer (some ⟨w.heap.size+1+1,0,none⟩)) rfl rfl
    have hk:=hp.blk0 K2.out.drew id
    have hg:=hp.grown
    obtain ⟨B9,d9,C9,e9,A9,c9,h9,_⟩:=f10.1.form
    rw [h9] at e10 f10
    refine step_skip' rfl (run_storeF rfl e4 e10 rfl rfl rfl rfl rfl hk) (hK _ _ ?_)
    have F10:=Lib.hid f10.1
    have BW:=Lib.hid (show Below w.heap.size w w1 from HW.out.1.trans (Below.mono (show Below W.heap.size W w1 from ⟨hg.os,hg.tape,hg.output,hg.size,fun k hk=>hg.block k hk id⟩) HW.out.1.size))
    have HK:=Lib.hid hk
    have HZ:=Lib.hid (show W.heap.size≤w1.heap.size from hg.size)
    rw [ha]
    simp only [putFrom,dstOf,Act.put,List.getElem?_toArray,List.getElem?_cons_zero,List.getElem?_cons_succ,List.setIfInBounds_toArray,List.set_cons_zero,List.set_cons_succ,h9]
    clear hp hk hg f10 e10 e4 h9 ha
    go_wp2_with fail
    obtain ⟨z0,z1,z2,z3,z4⟩:=(HK.out.set5 (.int .i64 f.kind) (.int .i64 f.type.kind) (.slice B9 f.type.args.length d9) (.slice C9 f.terms.length e9) (.slice A9 f.args.length c9)).cells5
    refine bodyPost_ret (v:=.agg #[.int .i64 f.kind,.int .i64 f.type.kind,.slice B9 f.type.args.length d9,.slice C9 f.terms.length e9,.slice A9 f.args.length c9]) (by simp [results,Tryz.results138,go_sem,z0,z1,z2,z3,z4]) rfl ?_
    rw [← HF.out]
    exact set5_end BW.out (by omega) (by have:=HW.out.2; omega) (IsFm.keep (fun b h=>⟨h.2,h.1.2⟩) (fun _ _=>rfl) _ F10.out)
end Go.Proofs.YthlknhkemmdocaaGreatDoor
namespace Go.Proofs.YthlknhkemmdocaaGreatDoor
open Go.RowKit

theorem made_low6 {G:List Ty} {t:Ty} {a p:Nat} {T:Tm} (h:Made G t a p T) (hG:G.length≤1000) (ha:a≤4096):T.low 1000000=true:=
  low_mono (by have:=h.size; omega) T (typ_low T G h.ok h.typ)
theorem made_err6 {G:List Ty} {t:Ty} {a p:Nat} {T:Tm} (h:Made G t a p T) (ha:a≤4096):T.err=0:=errT_zero.2 ⟨h.ok,by have:=h.size; omega⟩
end Go.Proofs.YthlknhkemmdocaaGreatDoor
namespace Go.Proofs.YthlknhkemmdocaaGreatDoor
open Go.RowKit

/-! Lifting and putting in, one after the other. -/
theorem lift_mk (k i:Int) (T:Ty) (l:List Tm) (m n:Nat):(Tm.mk k i T l).lift m n=.mk k (if k=1∧(m:Int)≤i then i+n else i) T (liftAll l (if k=2 then m+1 else m) n):=by rw [Tm.lift]
theorem lift_var (i:Int) (T:Ty) (m n:Nat):(Tm.mk 1 i T []).lift m n=.mk 1 (if (m:Int)≤i then i+n else i) T []:=by
  rw [lift_mk]; simp [liftAll]
theorem lift_node {k i:Int} {T:Ty} {l:List Tm} {m n:Nat} (hk:k≠1):(Tm.mk k i T l).lift m n=.mk k i T (liftAll l (if k=2 then m+1 else m) n):=by
  rw [lift_mk,if_neg (fun e=>hk e.1)]
theorem var_nil {i:Int} {T:Ty} {l:List Tm} (h:(Tm.mk 1 i T l).ok=true):l=[]:=by
  rw [Tm.ok,Bool.and_eq_true] at h
  exact List.eq_nil_of_length_eq_zero (formed_kind h.1).2.2.1
theorem ok_parts {k i:Int} {T:Ty} {l:List Tm} (h:(Tm.mk k i T l).ok=true):okAllT l=true:=by
  rw [Tm.ok,Bool.and_eq_true] at h; exact h.2
theorem lift_var_ge {i:Int} {T:Ty} {m n:Nat} (h:(m:Int)≤i):(Tm.mk 1 i T []).lift m n=.mk 1 (i+n) T []:=by rw [lift_var,if_pos h]
theorem lift_var_lt {i:Int} {T:Ty} {m n:Nat} (h:i<(m:Int)):(Tm.mk 1 i T []).lift m n=.mk 1 i T []:=by rw [lift_var,if_neg (by omega)]


mutual
/-- A variable that was lifted away does not stand anywhere. -/
theorem lift_occ:∀ (t:Tm) (q a p:Nat),t.ok=true→p≤a→(t.lift q (a+1)).occ (q+p)=0
  | .mk k i T l,q,a,p,ho,h=>by
    by_cases hk:k=1
    · subst hk
      obtain rfl:=var_nil ho
      by_cases hi:(q:Int)≤i
      · rw [lift_var_ge hi,Tm.occ,if_pos rfl,if_neg (by omega)]
      · rw [lift_var_lt (by omega),Tm.occ,if_pos rfl,if_neg (by omega)]
    · rw [lift_node hk,Tm.occ,if_neg hk,show (if k=2 then q+p+1 else q+p)=(if k=2 then q+1 else q)+p from by split <;> omega]
      exact liftAll_occ l _ a p (ok_parts ho) h
theorem liftAll_occ:∀ (l:List Tm) (q a p:Nat),okAllT l=true→p≤a→occAll (liftAll l q (a+1)) (q+p)=0
  | [],_,_,_,_,_=>by simp [liftAll,occAll]
  | t :: r,q,a,p,ho,h=>by
    simp only [okAllT,Bool.and_eq_true] at ho
    simp only [liftAll,occAll,lift_occ t q a p ho.1 h,liftAll_occ r q a p ho.2 h]
end
end Go.Proofs.YthlknhkemmdocaaGreatDoor
namespace Go.Proofs.YthlknhkemmdocaaGreatDoor
open Go.RowKit

/-- A bounded quantifier over what is below x. -/
def boundFm (all:Bool) (x:Tm) (f:Fm):Fm:=.mk (if all then 4 else 5) tyNat [] [.mk (if all then 3 else 2) .zero [] [lessFm v0Tm (x.lift 0 1),f]]
/-- A formula that mk.Decidable makes. -/
inductive MadeD:Nat→List Ty→Fm→Prop
  | eq (d:Nat) (G:List Ty) (s t:Tm) (hs:Made G tyNat 24 3 s) (ht:Made G tyNat 24 3 t):MadeD d G (.mk 1 .zero [s,t] [])
  | two (d:Nat) (G:List Ty) (k:Int) (a b:Fm) (hk:k=2∨k=3) (ha:MadeD d G a) (hb:MadeD d G b):MadeD (d+1) G (.mk k .zero [] [a,b])
  | bnd (d:Nat) (G:List Ty) (all:Bool) (x:Tm) (f:Fm) (hx:Made G tyNat 24 3 x) (hf:MadeD d (G ++ [tyNat]) f):MadeD (d+1) G (boundFm all x f)
theorem subTm_size:subTm.size=16:=by decide
theorem subTm_bulk:subTm.bulk=32:=by decide
mutual
theorem lift_lowN {n:Int}:∀ (t:Tm) (m b:Nat),t.low n=true→(t.lift m b).low (n+b)=true
  | .mk k i T l,m,b,h=>by
    simp only [Tm.low,Bool.and_eq_true,decide_eq_true_eq] at h
    rw [lift_mk]
    simp only [Tm.low,Bool.and_eq_true,decide_eq_true_eq]
    exact ⟨by split <;> omega,liftAll_lowN l _ b h.2⟩
theorem liftAll_lowN {n:Int}:∀ (l:List Tm) (m b:Nat),lowAll l n=true→lowAll (liftAll l m b) (n+b)=true
  | [],_,_,_=>by simp [liftAll,lowAll]
  | t :: r,m,b,h=>by
    simp only [lowAll,Bool.and_eq_true] at h
    simp only [liftAll,lowAll,Bool.and_eq_true]
    exact ⟨lift_lowN t m b h.1,liftAll_lowN r m b h.2⟩
end
/-- What is said of the left side of a limit. -/
theorem less_fine {x:Tm} (hok:x.ok=true) (hsz:x.size≤4000) (hlow:x.low 2000000=true):FineF (lessFm v0Tm x):=by
  have h2:(Tm.mk 3 0 .zero [subTm,.mk 5 0 .zero [v0Tm]]).ok=true:=by decide
  have h4:(Tm.mk 3 0 .zero [subTm,.mk 5 0 .zero [v0Tm]]).size=19:=by decide
  have h6:(Tm.mk 3 0 .zero [subTm,.mk 5 0 .zero [v0Tm]]).low 536870912=true:=by decide
  have h7:=low_mono (show (2000000:Int)≤536870912 by omega) x hlow
  unfold lessFm
  generalize Tm.mk 3 0 .zero [subTm,.mk 5 0 .zero [v0Tm]]=P at h2 h4 h6
  have h1:(Tm.mk 3 0 .zero [P,x]).ok=true:=by
    rw [okT_eq]
    simp [okAllT,hok,h2,Tm.args,Tm.formed,Tm.kind,Tm.index,Tm.type,arities,Ty.zero,Ty.kind,Ty.args]
  have h3:(Tm.mk 3 0 .zero [P,x]).size≤4096:=by
    simp only [Tm.size,sizeAllT]
    omega
  have h5:(Tm.mk 3 0 .zero [P,x]).low 536870912=true:=by
    rw [Tm.low]
    simp only [lowAll,h6,h7,Bool.and_true,decide_eq_true_eq]
    omega
  exact .eq _ _ ⟨errT_zero.2 ⟨h1,h3⟩,h5⟩ ⟨by decide,by decide⟩
theorem made_lift_fine {G:List Ty} {x:Tm} (hx:Made G tyNat 24 3 x) (hG:G.length≤900):FineF (lessFm v0Tm (x.lift 0 1)):=
  less_fine (lift_ok _ _ _ hx.ok) (by rw [lift_size]; have:=hx.size; omega) (low_mono (by omega) _ (lift_lowN x 0 1 (made_low6 hx (by omega) (by omega))))
theorem tyNat_err:tyNat.err=0:=by decide
theorem MadeD.fine {d:Nat} {G:List Ty} {f:Fm} (h:MadeD d G f) (hG:G.length+d≤900):FineF f:=by
  induction h with
  | eq d G s t hs ht=>exact .eq s t ⟨made_err6 hs (by omega),low_mono (by omega) s (made_low6 hs (by omega) (by omega))⟩ ⟨made_err6 ht (by omega),low_mono (by omega) t (made_low6 ht (by omega) (by omega))⟩
  | two d G k a b hk _ _ iha ihb=>exact .two k a b hk (iha (by omega)) (ihb (by omega))
  | bnd d G all x f hx hf ih=>
    have h1:=ih (by simp only [List.length_append,List.length_cons,List.length_nil]; omega)
    cases all
    · exact .quant 5 tyNat _ (by decide) tyNat_err (.two 2 _ _ (by decide) (made_lift_fine hx (by omega)) h1)
    · exact .quant 4 tyNat _ (by decide) tyNat_err (.two 3 _ _ (by decide) (made_lift_fine hx (by omega)) h1)
theorem less_size (x:Tm):(lessFm v0Tm x).size=x.size+22:=by
  have h:=subTm_size
  simp only [lessFm,v0Tm,Fm.size,sizeAllT,sizeAllF,Tm.size]
  omega
theorem less_bulk (x:Tm):(lessFm v0Tm x).bulk=x.bulk+44:=by
  have h:=subTm_bulk
  simp only [lessFm,v0Tm,Fm.bulk,bulkAll,bulkAllF,Tm.bulk,Ty.zero,Ty.nodes,nodesAll]
  omega
theorem MadeD.size_le {d:Nat} {G:List Ty} {f:Fm} (h:MadeD d G f):f.size+50≤100 * 2 ^ d:=by
  induction h with
  | eq d G s t hs ht=>
    have h1:=hs.size; have h3:=ht.size
    have h5:1≤2 ^ d:=Nat.one_le_two_pow
    simp only [Fm.size,sizeAllT,sizeAllF]
    omega
  | two d G k a b hk ha hb iha ihb=>
    simp only [Fm.size,sizeAllT,sizeAllF,Nat.pow_succ]
    omega
  | bnd d G all x f hx hf ih=>
    have h1:=hx.size
    have h5:1≤2 ^ d:=Nat.one_le_two_pow
    have h6:=less_size (x.lift 0 1)
    rw [lift_size] at h6
    simp only [boundFm,Fm.size,sizeAllT,sizeAllF,h6,Nat.pow_succ]
    omega
theorem MadeD.bulk_two {d:Nat} {G:List Ty} {f:Fm} (h:MadeD d G f):f.bulk+2≤400 * 2 ^ d:=by
  induction h with
  | eq d G s t hs ht=>
    have h1:=hs.size; have h2:=hs.thin; have h3:=ht.size; have h4:=ht.thin
    have h5:1≤2 ^ d:=Nat.one_le_two_pow
    simp only [Fm.bulk,bulkAll,bulkAllF,Ty.zero,Ty.nodes,nodesAll]
    omega
  | two d G k a b hk ha hb iha ihb=>
    simp only [Fm.bulk,bulkAll,bulkAllF,Ty.zero,Ty.nodes,nodesAll,Nat.pow_succ]
    omega
  | bnd d G all x f hx hf ih=>
    have h1:=hx.size; have h2:=hx.thin
    have h5:1≤2 ^ d:=Nat.one_le_two_pow
    have h6:=less_bulk (x.lift 0 1)
    rw [lift_bulk] at h6
    simp only [boundFm,Fm.bulk,bulkAll,bulkAllF,h6,Ty.zero,tyNat,Ty.nodes,nodesAll,Nat.pow_succ]
    omega
theorem MadeD.bulk_le {d:Nat} {G:List Ty} {f:Fm} (h:MadeD d G f) (hd:d≤6):f.bulk≤26000:=by
  have h1:=h.bulk_two
  have h2:2 ^ d≤2 ^ 6:=Nat.pow_le_pow_right (by omega) hd
  omega
theorem MadeD.size_in {d:Nat} {G:List Ty} {f:Fm} (h:MadeD d G f) (hd:d≤5):f.size≤3200:=by
  have h1:=h.size_le
  have h2:2 ^ d≤2 ^ 5:=Nat.pow_le_pow_right (by omega) hd
  omega
theorem limit_less (x:Tm):limitF (lessFm v0Tm x)=some x:=by
  rw [limitF_is (f:=lessFm v0Tm x) (a:=.mk 3 0 .zero [.mk 3 0 .zero [subTm,.mk 5 0 .zero [v0Tm]],x]) rfl rfl rfl rfl,if_pos (sameF_iff.2 rfl)]
theorem parts_bound (all:Bool) {x:Tm} (hx:x.ok=true) (f:Fm):partsF (boundFm all x f)=some ((x.lift 0 1).put 0 noTm,f):=by
  rw [partsF_is (f:=boundFm all x f) (g:=.mk (if all then 3 else 2) .zero [] [lessFm v0Tm (x.lift 0 1),f]) rfl rfl (by cases all; exact (by decide:belowOf 5≠0); exact (by decide:belowOf 4≠0)) rfl (by cases all <;> rfl),limit_less]
  have h:=lift_occ x 0 0 0 hx (Nat.le_refl _)
  simp only [Nat.zero_add] at h
  simp only [h,if_true]
theorem q_d2:∀ a:Nat,a<8→∀ b:Nat,b<8→a &&& 4≠0→b &&& 4≠0→(((a ||| b) &&& 1) ||| (a &&& b &&& 6)) &&& 4≠0:=by decide
theorem q_d3:∀ a:Nat,a<8→∀ b:Nat,b<8→a &&& 4≠0→b &&& 4≠0→((b &&& 1) ||| (a &&& b &&& 6)) &&& 4≠0:=by decide
theorem q_dq:∀ a:Nat,a<8→a &&& 4≠0→∀ c:Nat,c<2→((a &&& 5) ||| c) &&& 4≠0:=by decide
theorem bits_and4 {a b:Fm} (k:Int) (ha:FineF a) (hb:FineF b) (h1:a.bits &&& 4≠0) (h2:b.bits &&& 4≠0):(Fm.mk k .zero [] [a,b]).bits &&& 4≠0:=by
  rw [bits_two]
  split
  · exact q_d2 _ ha.bits_lt _ hb.bits_lt h1 h2
  · exact q_d3 _ ha.bits_lt _ hb.bits_lt h1 h2
theorem MadeD.bits {d:Nat} {G:List Ty} {f:Fm} (h:MadeD d G f) (hG:G.length+d≤900):f.bits &&& 4≠0:=by
  induction h with
  | eq d G s t hs ht=>rw [bits_eq]; decide
  | two d G k a b hk ha hb iha ihb=>exact bits_and4 k (ha.fine (by omega)) (hb.fine (by omega)) (iha (by omega)) (ihb (by omega))
  | bnd d G all x f hx hf ih=>
    have hl:(G ++ [tyNat]).length+d≤900:=by simp only [List.length_append,List.length_cons,List.length_nil]; omega
    have h1:(lessFm v0Tm (x.lift 0 1)).bits &&& 4≠0:=by rw [lessFm,bits_eq]; decide
    have h2:=bits_and4 (if all then 3 else 2) (made_lift_fine hx (by omega)) (hf.fine hl) h1 (ih hl)
    have h3:FineF (.mk (if all then 3 else 2) .zero [] [lessFm v0Tm (x.lift 0 1),f]):=.two _ _ _ (by cases all <;> decide) (made_lift_fine hx (by omega)) (hf.fine hl)
    have h4:=parts_bound all hx.ok f
    unfold boundFm at h4 ⊢
    rw [bits_one,h4,Option.isSome_some,if_pos rfl]
    refine q_dq _ h3.bits_lt h2 _ (by cases all <;> decide)
end Go.Proofs.YthlknhkemmdocaaGreatDoor
namespace Go.Proofs.YthlknhkemmdocaaGreatDoor
open Go.RowKit

theorem less_form (s t:Tm):∃ a z,(lessFm s t).terms=[a,z]∧a.size=s.size+t.size+19∧a.bulk=s.bulk+t.bulk+38:=by
  have h:=subTm_size
  have h2:=subTm_bulk
  refine ⟨.mk 3 0 .zero [.mk 3 0 .zero [subTm,.mk 5 0 .zero [s]],t],.mk 4 0 .zero [],rfl,?_,?_⟩
  · simp only [sizeAllT,Tm.size]
    omega
  · simp only [bulkAll,Tm.bulk,Ty.zero,Ty.nodes,nodesAll]
    omega
theorem less_sizes (s t:Tm):(lessFm s t).size=s.size+t.size+21∧(lessFm s t).bulk=s.bulk+t.bulk+42:=by
  have h:=subTm_size
  have h2:=subTm_bulk
  constructor
  · simp only [lessFm,Fm.size,sizeAllT,sizeAllF,Tm.size]
    omega
  · simp only [lessFm,Fm.bulk,bulkAll,bulkAllF,Tm.bulk,Ty.zero,Ty.nodes,nodesAll]
    omega
set_option maxRecDepth 100000 in
set_option maxHeartbeats 4000000 in
theorem lessTop5_any (s t:Tm) (u v:Value) (w:World) (hs:s.ok=true∧s.size≤1000∧s.bulk≤100000) (ht:t.ok=true∧t.size≤1000∧t.bulk≤100000) (hu:IsTm (· < w.heap.size) w s u) (hv:IsTm (· < w.heap.size) w t v) :
    Calls Tryz.prog 113 #[u,v] w fun e w'=>∃ x,e=.returned (.tuple #[x,.int .i64 0])∧IsFm (fun b=>w.heap.size≤b∧b<w'.heap.size) w' (lessFm s t) x∧Below w.heap.size w w':=by
  obtain ⟨B0,d0,A0,c0,rfl,_⟩:=IsTm.form hu
  obtain ⟨B1,d1,A1,c1,rfl,_⟩:=IsTm.form hv
  obtain ⟨W,hW,hbW,hzz,k0,k1,k2⟩:=three_blks w #[.int .i64 s.kind,.int .i64 s.index,.int .i64 s.type.kind,.slice B0 s.type.args.length d0,.slice A0 s.args.length c0] #[.int .i64 t.kind,.int .i64 t.index,.int .i64 t.type.kind,.slice B1 t.type.args.length d1,.slice A1 t.args.length c1] #[.int .i64 0,.int .i64 0,.slice none 0 0,.slice none 0 0,.slice none 0 0] 42 42 34
  have HX:=Lib.hid fun (w':World) (h:Below W.heap.size W w')=>And.intro (k0.below h k0.lt).facts5 (And.intro (k1.below h k1.lt).facts5 (And.intro (show IsTm (· < w'.heap.size) w' s _ from (hu.boxed hbW).boxed h) (show IsTm (· < w'.heap.size) w' t _ from (hv.boxed hbW).boxed h)))
  have HB:=Lib.hid (And.intro hbW (And.intro hzz k2))
  have HO:=Lib.hid (And.intro hs ht)
  obtain ⟨r0,r1,r2,r3,r4,_⟩:=(HX.out W (Below.refl _ _)).1
  clear k0 k1 k2 hu hv hs ht hbW hzz
  go_enter Tryz.func113,Tryz.ntmps113
  go_upto_region 1 with fail
  rw [← hW]
  clear hW
  go_wp2_with fail
  refine (refCheckT_any s _ W HO.out.1.1 (by have:=HO.out.1.2.2; omega) (by have:=HO.out.1.2.1; omega) (HX.out W (Below.refl _ _)).2.2.1).mono ?_
  rintro e w1 ⟨rfl,hb1⟩
  obtain ⟨_,⟨s0,s1,s2,s3,s4,_⟩,_⟩:=HX.out w1 hb1
  have H1:=Lib.hid hb1
  clear hb1 r0 r1 r2 r3 r4
  go_wp2_with fail
  refine (refCheckT_any t _ w1 HO.out.2.1 (by have:=HO.out.2.2.2; omega) (by have:=HO.out.2.2.1; omega) (HX.out w1 H1.out).2.2.2).mono ?_
  rintro e w2 ⟨rfl,hb2⟩
  have H2:=Lib.hid (H1.out.trans (hb2.mono H1.out.size))
  clear hb2 s0 s1 s2 s3 s4
  obtain ⟨⟨r0,r1,r2,r3,r4,_⟩,⟨s0,s1,s2,s3,s4,_⟩,_⟩:=HX.out w2 H2.out
  go_wp2_with fail
  refine (less5_any s t _ _ w2 (by have:=HO.out.1.2.2; omega) (by have:=HO.out.2.2.2; omega) (HX.out w2 H2.out).2.2.1 (HX.out w2 H2.out).2.2.2).mono ?_
  rintro e w3 ⟨v3,rfl,h3,hb3⟩
  obtain ⟨U,hU⟩:∃ U,U=lessFm s t:=⟨_,rfl⟩
  obtain ⟨a,z,haz,has,hab⟩:=less_form s t
  have hsz:=less_sizes s t
  rw [← hU] at h3 haz hsz
  obtain ⟨B3,d3,C3,e3,A3,c3,rfl,_,hm,_⟩:=h3.parts
  obtain ⟨X,hX,bX,zX,kX⟩:∃ X,X=w3.alloc (.cells #[.int .i64 U.kind,.int .i64 U.type.kind,.slice B3 U.type.args.length d3,.slice C3 U.terms.length e3,.slice A3 U.args.length c3] 34)∧Below w3.heap.size w3 X∧X.heap.size=w3.heap.size+1∧Blk X w3.heap.size 34 #[.int .i64 U.kind,.int .i64 U.type.kind,.slice B3 U.type.args.length d3,.slice C3 U.terms.length e3,.slice A3 U.args.length c3]:=⟨_,rfl,(Below.refl _ _).alloc (Nat.le_refl _) _,by simp,Blk.new _ _ _⟩
  have HU:=Lib.hid (And.intro hU haz)
  have HEL:=Lib.hid (show U.terms.length=2 by rw [haz]; rfl)
  have H3:=Lib.hid (And.intro (show IsFm (fun b=>w2.heap.size≤b∧b<w3.heap.size) X U _ from IsFm.keep (fun _ h=>h) (fun p hp=>bX.cell hp.2) _ h3) ((H2.out.trans (hb3.mono H2.out.size)).trans (bX.mono (Nat.le_trans H2.out.size hb3.size))))
  have HM:=Lib.hid (show TmR.Sl (fun b=>w2.heap.size≤b∧b<w3.heap.size) X [a,z] (.slice C3 U.terms.length e3) from by rw [haz] at hm ⊢; exact Rep.Sl.keep (fun _ h=>h) (fun q hq=>bX.cell hq.2) hm)
  have hd1:decide ((4096:Int)<(a.size:Int))=false:=by have:=HO.out.1.2.1; have:=HO.out.2.2.1; simp; omega
  have hd2:decide ((4096:Int)<(U.size:Int))=false:=by have:=HO.out.1.2.1; have:=HO.out.2.2.1; simp; omega
  have HS:=Lib.hid (And.intro (show a.bulk≤300000 by have:=HO.out.1.2.2; have:=HO.out.2.2.2; omega) (show U.bulk≤300000 by have:=HO.out.1.2.2; have:=HO.out.2.2.2; omega))
  have HK:=Lib.hid (And.intro kX zX)
  have HXX:=Lib.hid hX
  have HZ:=Lib.hid (And.intro H2.out.size hb3.size)
  clear hU haz has hab hsz h3 hb3 hm hX bX zX kX r0 r1 r2 r3 r4 s0 s1 s2 s3 s4
  go_upto_region 8 with fail
  rw [← HXX.out]
  have el:=HEL.out
  obtain ⟨aq,B4,d4,A4,c4,eaq,_,q0,q1,q2,q3,q4,hx⟩:=child_t HM.out 0 (by simp)
  subst eaq
  simp only [Nat.zero_mul,add_zero',List.getElem_cons_zero] at q0 q1 q2 q3 q4 hx
  have HA:=Lib.hid hx
  clear hx
  obtain ⟨p0,p1,p2,p3,p4,_⟩:=HK.out.1.facts5
  rw [el] at p3 ⊢
  go_wp2_with fail
  refine (countT_any 400000 a _ X (by have:=HS.out.1; omega) (Nat.le_refl _) (HA.out.keep (fun b h=>by have:=HK.out.2; have:=h.2; omega) (fun _ _=>rfl))).mono ?_
  rintro e w5 ⟨rfl,hb5⟩
  have HK5:=Lib.hid (HK.out.1.below hb5 HK.out.1.lt)
  have H5:=Lib.hid hb5
  clear q0 q1 q2 q3 q4 p0 p1 p2 p3 p4 hb5
  obtain ⟨p0,p1,p2,p3,p4,_⟩:=HK5.out.facts5
  rw [el] at p3
  go_wp2_with fail
  refine (countF_any 400000 U _ w5 (by have:=HS.out.2; omega) (Nat.le_refl _) (by rw [← el]; exact H3.out.1.keep (fun b h=>by have:=HK.out.2; have:=H5.out.size; have:=h.2; omega) (fun p hp=>H5.out.cell (by have:=HK.out.2; have:=hp.2; omega)))).mono ?_
  rintro e w6 ⟨rfl,hb6⟩
  have B6:=Lib.hid (H5.out.trans (hb6.mono H5.out.size))
  have HK6:=Lib.hid (HK5.out.below hb6 HK5.out.lt)
  have K2:=Lib.hid (HB.out.2.2.below (H3.out.2.trans (B6.out.mono H3.out.2.size)) HB.out.2.2.lt)
  clear p0 p1 p2 p3 p4 hb6
  obtain ⟨p0,p1,p2,p3,p4,_⟩:=HK6.out.facts5
  rw [el] at p3
  obtain ⟨_,_,_,_,_,f0,f1,f2,f3,f4⟩:=K2.out.facts5
  have hne:w3.heap.size≠w.heap.size+1+1:=by have h1:=HZ.out.1; have h2:=HZ.out.2; have h3:=HB.out.2.1; omega
  go_wp2_with fail
  obtain ⟨z0,z1,z2,z3,z4⟩:=(K2.out.set5 (.int .i64 U.kind) (.int .i64 U.type.kind) (.slice B3 U.type.args.length d3) (.slice (some aq) 2 e3) (.slice A3 U.args.length c3)).cells5
  refine bodyPost_ret (v:=.tuple #[.agg #[.int .i64 U.kind,.int .i64 U.type.kind,.slice B3 U.type.args.length d3,.slice (some aq) 2 e3,.slice A3 U.args.length c3],.int .i64 0]) (by simp [results,Tryz.results113,go_sem,z0,z1,z2,z3,z4]) rfl ?_
  have hg:=only_set5 w6 (w.heap.size+1+1) (.int .i64 U.kind) (.int .i64 U.type.kind) (.slice B3 U.type.args.length d3) (.slice (some aq) 2 e3) (.slice A3 U.args.length c3)
  have h1:=HZ.out.1
  have h2:=HZ.out.2
  have h3:=HB.out.2.1
  have h4:=HK.out.2
  have h5:=B6.out.size
  have hF:=H3.out.1
  rw [el] at hF
  rw [← HU.out.1]
  have hall:Below w.heap.size w w6:=HB.out.1.trans ((H3.out.2.trans (B6.out.mono H3.out.2.size)).mono HB.out.1.size)
  exact ⟨_,rfl,IsFm.keep (fun b h=>⟨by omega,Nat.lt_of_lt_of_le (by omega:b<w6.heap.size) hg.size⟩) (fun p hp=>(World.cell?_of_block (hg.block p.block (by have:=hp.2; omega) (by have:=hp.1; simp; omega))).trans (B6.out.cell (by have:=hp.2; omega))) _ hF,hall.grown hg hall.size (fun g e=>by cases e; omega)⟩
end Go.Proofs.YthlknhkemmdocaaGreatDoor
namespace Go.Proofs.YthlknhkemmdocaaGreatDoor
open Go.RowKit

def b7A (i j:Nat):Bool:=([0,0,3,7,15,15,0,95,255].getD i 0).testBit j
def b7C (i:Nat):Option Nat:=if i=6 then some 7 else none
def b7F (base:Nat) (N:Fm) (UV:Value) (i:Nat) (V:Nat→Value) (G:Nat→Value):RFact:=
  match i with
  | 0=>.pure (V 0=(.agg #[.int .i64 1,.int .i64 0,.int .i64 0,.slice none 0 0,.slice none 0 0]))
  | 1=>.pure (V 1=UV)
  | 2=>.fmN base N (G 2) (V 2=.tuple #[G 2,.int .i64 0])
  | 3=>.pure (V 3=.tuple #[G 2,.int .i64 0])
  | 4=>.fmN base N (V 4) True
  | 5=>.pure (V 5=.int .i64 0)
  | 6=>.box 34 #[.int .i64 0,.int .i64 0,.slice none 0 0,.slice none 0 0,.slice none 0 0] (V 6)
  | 7=>.boxv 34 (V 4) (V 6)
  | _=>.pure (V 8=.int .i64 0)
def b10A (i j:Nat):Bool:=([0,0,0,7,15,0,63].getD i 0).testBit j
def b12A (i j:Nat):Bool:=([0,0,0,7,15,31].getD i 0).testBit j
def b10C (i:Nat):Option Nat:=if i=5 then some 6 else none
def b10F (base:Nat) (k2 kq:Int) (N f:Fm) (NV FV:Value) (i:Nat) (V:Nat→Value) (_:Nat→Unit):RFact:=
  match i with
  | 0=>.pure (V 0=(.agg #[.int .i64 1,.slice none 0 0]))
  | 1=>.pure (V 1=NV)
  | 2=>.pure (V 2=FV)
  | 3=>.fmN base (.mk k2 .zero [] [N,f]) (V 3) True
  | 4=>.fmN base (.mk kq tyNat [] [.mk k2 .zero [] [N,f]]) (V 4) True
  | 5=>.box 34 #[.int .i64 0,.int .i64 0,.slice none 0 0,.slice none 0 0,.slice none 0 0] (V 5)
  | _=>.boxv 34 (V 4) (V 5)
set_option maxRecDepth 100000 in
set_option maxHeartbeats 8000000 in
theorem bounded5_any (all:Bool) (x:Tm) (f:Fm) (u v:Value) (w:World) (hx:x.ok=true∧x.size≤900∧x.bulk≤90000∧x.low 536870912=true) (hf:GoodF f∧f.size≤2000∧f.bulk≤90000) (hu:IsTm (· < w.heap.size) w x u) (hv:IsFm (· < w.heap.size) w f v) :
    Calls Tryz.prog 73 #[.bool all,u,v] w fun e w'=>∃ y,e=.returned (.tuple #[y,.int .i64 0])∧IsFm (fun b=>w.heap.size≤b∧b<w'.heap.size) w' (boundFm all x f) y∧Below w.heap.size w w':=by
  obtain ⟨B0,d0,A0,c0,rfl,_⟩:=IsTm.form hu
  obtain ⟨B1,d1,C1,e1,A1,c1,rfl,_⟩:=IsFm.form hv
  obtain ⟨W,hW,hbW,hzz,k0,k1,k2⟩:=three_blks w #[.int .i64 x.kind,.int .i64 x.index,.int .i64 x.type.kind,.slice B0 x.type.args.length d0,.slice A0 x.args.length c0] #[.int .i64 f.kind,.int .i64 f.type.kind,.slice B1 f.type.args.length d1,.slice C1 f.terms.length e1,.slice A1 f.args.length c1] #[.int .i64 0,.int .i64 0,.slice none 0 0,.slice none 0 0,.slice none 0 0] 42 34 34
  have HX:=Lib.hid fun (w':World) (h:Below W.heap.size W w')=>And.intro (k0.below h k0.lt).facts5 (And.intro (k1.below h k1.lt) (And.intro (show IsTm (· < w'.heap.size) w' x _ from (hu.boxed hbW).boxed h) (And.intro (show IsFm (· < w'.heap.size) w' f _ from (hv.boxed hbW).boxed h) (k2.below h k2.lt))))
  have HB:=Lib.hid (And.intro hbW hzz)
  have HO:=Lib.hid (And.intro hx hf)
  obtain ⟨r0,r1,r2,r3,r4,_⟩:=(HX.out W (Below.refl _ _)).1
  clear k0 k1 k2 hu hv hx hf hbW hzz
  go_enter Tryz.func73,Tryz.ntmps73
  go_upto_region 1 with fail
  rw [← hW]
  clear hW
  go_wp2_with fail
  refine (Calls.mono (show Calls _ _ #[_,.int .i64 0,.int .i64 1] _ _ from refLift_any x _ 0 1 W (by have:=HO.out.1.2.2.1; omega) HO.out.1.1 (by have:=HO.out.1.2.1; omega) HO.out.1.2.2.2 (by omega) (by omega) (HX.out W (Below.refl _ _)).2.2.1)) ?_
  rintro e w1 ⟨v1,rfl,h1,hb1⟩
  obtain ⟨U,hU⟩:∃ U,U=x.lift 0 1:=⟨_,rfl⟩
  obtain ⟨N,hN⟩:∃ N,N=lessFm v0Tm U:=⟨_,rfl⟩
  rw [← hU] at h1
  obtain ⟨B2,d2,A2,c2,rfl,_⟩:=h1.form
  obtain ⟨X,hX,bX,zX,kX⟩:∃ X,X=w1.alloc (.cells #[.int .i64 U.kind,.int .i64 U.index,.int .i64 U.type.kind,.slice B2 U.type.args.length d2,.slice A2 U.args.length c2] 42)∧Below w1.heap.size w1 X∧X.heap.size=w1.heap.size+1∧Blk X w1.heap.size 42 #[.int .i64 U.kind,.int .i64 U.index,.int .i64 U.type.kind,.slice B2 U.type.args.length d2,.slice A2 U.args.length c2]:=⟨_,rfl,(Below.refl _ _).alloc (Nat.le_refl _) _,by simp,Blk.new _ _ _⟩
  have HUx:=Lib.hid hU
  have HN:=Lib.hid hN
  have hUs:U.ok=true∧U.size≤1000∧U.bulk≤100000:=⟨by rw [hU]; exact lift_ok _ _ _ HO.out.1.1,by rw [hU,lift_size]; have:=HO.out.1.2.1; omega,by rw [hU,lift_bulk]; have:=HO.out.1.2.2.1; omega⟩
  have hNs:N.size≤1000∧N.bulk≤100000:=by
    have h1:=less_sizes v0Tm U
    have h2:=HO.out.1.2.1
    have h3:=HO.out.1.2.2.1
    have h4:U.size=x.size:=by rw [hU,lift_size]
    have h5:U.bulk=x.bulk:=by rw [hU,lift_bulk]
    have h6:v0Tm.size=1:=rfl
    have h7:v0Tm.bulk=2:=rfl
    rw [hN]
    omega
  have HU:=Lib.hid (And.intro hUs hNs)
  clear hUs hNs
  have TU1:=Lib.hid (show IsTm (· < X.heap.size) X U _ from IsTm.keep (fun b h=>Nat.lt_of_lt_of_le h.2 bX.size) (fun p hp=>bX.cell hp.2) _ h1)
  have B1x:=Lib.hid (hb1.trans (bX.mono hb1.size))
  have KX:=Lib.hid (And.intro kX zX)
  have HXX:=Lib.hid hX
  clear h1 hb1 hX bX zX kX hU hN r0 r1 r2 r3 r4
  go_upto_region 2 with fail
  rw [← HXX.out]
  obtain ⟨r0,r1,r2,r3,r4,_⟩:=(HX.out X B1x.out).2.1.facts5
  go_wp2_with fail
  refine (checkFr_ok HO.out.2.1 _ X (by have:=HO.out.2.2.2; omega) (by have:=HO.out.2.2.1; omega) (HX.out X B1x.out).2.2.2.1).mono ?_
  rintro e w2 ⟨rfl,hb2⟩
  have B2x:=Lib.hid (B1x.out.trans (hb2.mono B1x.out.size))
  have KU:=Lib.hid (KX.out.1.below hb2 KX.out.1.lt)
  have TU2:=Lib.hid (show IsTm (· < w2.heap.size) w2 U _ from TU1.out.boxed hb2)
  clear hb2 r0 r1 r2 r3 r4
  go_upto_region 7 with fail
  obtain ⟨base,hbase⟩:∃ n,n=w2.heap.size:=⟨_,rfl⟩
  have HBS:=Lib.hid hbase
  clear hbase
  have TU:=Lib.hid (show IsTm (Good (fun _=>False) w2.drew) w2.drew U _ from IsTm.keep (w:=w2) (w':=w2.drew) (fun b h=>⟨id,h⟩) (fun _ _=>rfl) _ TU2.out)
  refine wp_region_any (by kernel_rfl) ?_
  change wpAny _ _ _ _ _ _ _ (World.drew _)
  refine wpAny_facts (by kernel_rfl) (by kernel_rfl) undef b7A (by kernel_rfl) b7C (by kernel_rfl) (b7F base N (.agg #[.int .i64 U.kind,.int .i64 U.index,.int .i64 U.type.kind,.slice B2 U.type.args.length d2,.slice A2 U.args.length c2])) (fun _=>False) (fun _=>False) (fun _=>True) _ _ (fun _ h=>h.elim) (fun _ h=>h) trivial ⟨?_,?_,?_,?_,?_,?_,?_,?_,?_,trivial⟩ ?_
  · intro V G L a w1 hp K hK
    have ek0:a.eval (.const (.int .i64 0))=.int .i64 0:=rfl
    refine step_call rfl _ _ _ rfl _ (by simp only [List.map_toArray,List.map_cons,List.map_nil,ek0]) (enters_of Tryz.func40 (by kernel_rfl) rfl) (var_any 0 w1) ?_
    rintro e w' ⟨rfl,hb⟩
    exact ⟨_,rfl,hK _ undef _ (Post.of rfl (Turn.call hb) trivial hp.lt fun L' _ _=>rfl)⟩
  · intro V G L a w1 hp K hK
    exact step_run rfl (run_load5 rfl (hp.slot0 8 _ rfl rfl) (hp.blk0 KU.out.drew id)) (hK _ undef _ (Post.still rfl trivial hp.lt fun L' _=>rfl))
  · intro V G L a w1 hp K hK
    have f0:V 0=_:=hp.fact 0 rfl
    have e0:=hp.slot 0 29 rfl rfl rfl
    rw [f0] at e0
    have f1:V 1=_:=hp.fact 1 rfl
    have e1:=hp.slot 1 30 rfl rfl rfl
    rw [f1] at e1
    refine step_call rfl _ _ _ rfl _ (by simp only [List.map_toArray,List.map_cons,List.map_nil,e0,e1]) (enters_of Tryz.func113 (by kernel_rfl) rfl) (lessTop5_any v0Tm U _ _ w1 ⟨by decide,by decide,by decide⟩ HU.out.1 (var_is _ _ 0) (IsTm.keep (fun b h=>h.2) (fun _ _=>rfl) _ (hp.tm0 TU.out))) ?_
    rintro e w' ⟨y,rfl,hy,hb⟩
    rw [← HN.out] at hy
    exact ⟨_,rfl,hK _ y _ (Post.of rfl (Turn.call hb) trivial hp.lt fun L' _ hn=>⟨IsFm.keep (fun b h=>⟨hn b h.1 h.2,Nat.le_trans (hp.base_le (Nat.le_of_eq HBS.out)) h.1⟩) (fun _ _=>rfl) _ hy,rfl⟩)⟩
  · intro V G L a w1 hp K hK
    have f2:IsFm (fun b=>Good L w1 b∧base≤b) w1 N (G 2)∧V 2=.tuple #[G 2,.int .i64 0]:=hp.fact 2 rfl
    have e2:=hp.slot 2 31 rfl rfl rfl
    rw [f2.2] at e2
    exact step_run rfl (run_move rfl e2) (hK _ undef _ (Post.still rfl trivial hp.lt fun L' _=>rfl))
  · intro V G L a w1 hp K hK
    have f2:IsFm (fun b=>Good L w1 b∧base≤b) w1 N (G 2)∧V 2=.tuple #[G 2,.int .i64 0]:=hp.fact 2 rfl
    have f3:V 3=.tuple #[G 2,.int .i64 0]:=hp.fact 3 rfl
    have e3:=hp.slot 3 28 rfl rfl rfl
    rw [f3] at e3
    exact step_run rfl (run_extract rfl e3 rfl) (hK _ undef _ (Post.still rfl trivial hp.lt fun L' hg=>⟨IsFm.keep (fun b h=>⟨hg b h.1,h.2⟩) (fun _ _=>rfl) _ f2.1,trivial⟩))
  · intro V G L a w1 hp K hK
    have f3:V 3=.tuple #[G 2,.int .i64 0]:=hp.fact 3 rfl
    have e3:=hp.slot 3 28 rfl rfl rfl
    rw [f3] at e3
    exact step_run rfl (run_extract rfl e3 rfl) (hK _ undef _ (Post.still rfl trivial hp.lt fun L' hg=>rfl))
  · intro V G L a w1 hp K hK
    exact step_run rfl (run_allocF rfl) (hK _ undef _ (Post.made rfl trivial))
  · intro V G L a w1 hp K hK
    have f4:IsFm (fun b=>Good L w1 b∧base≤b) w1 N (V 4)∧True:=hp.fact 4 rfl
    obtain ⟨b,hv,hk⟩:∃ b,V 6=.pointer (some ⟨b,0,none⟩)∧Blk w1 b _ _:=hp.fact 6 rfl
    have e0:=hp.slot 6 11 rfl rfl rfl
    have e1:=hp.slot 4 32 rfl rfl rfl
    obtain ⟨B9,d9,C9,e9,A9,c9,h9,_⟩:=f4.1.form
    rw [hv] at e0
    rw [h9] at e1
    refine step_skip' rfl (run_storeF rfl e0 e1 rfl rfl rfl rfl rfl hk) (hK _ undef _ (Post.filled (j:=6) rfl rfl (by show ptrBlk (V 6)=_; rw [hv]; rfl) ?_ hk trivial))
    show RFact.boxv _ (V 4) (V 6)=_
    rw [hv,h9]
  · intro V G L a w1 hp K hK
    have f5:V 5=.int .i64 0:=hp.fact 5 rfl
    have e5:=hp.slot 5 33 rfl rfl rfl
    rw [f5] at e5
    exact step_run rfl (run_assign rfl e5) (hK _ undef _ (Post.still rfl trivial hp.lt fun L' hg=>rfl))
  · intro V G w3 L hg _ hf hL hd
    obtain ⟨f4,_⟩:IsFm (fun b=>Good L w3 b∧base≤b) w3 N (V 4)∧True:=(hf 4 (by decide) rfl).1
    obtain ⟨D,c,hc,hv,hk⟩:∃ b c,V 4=.agg c∧V 6=.pointer (some ⟨b,0,none⟩)∧Blk w3 b _ c:=(hf 7 (by decide) rfl).1
    have f8:V 8=.int .i64 0:=(hf 8 (by decide) rfl).1
    obtain ⟨B3,d3,C3,e3,A3,c3,h3,_⟩:=f4.form
    rw [h3] at hc f4
    cases hc
    have TN1:=Lib.hid (show IsFm (fun b=>b<w3.heap.size) w3 N _ from IsFm.keep (fun b h=>h.1.2) (fun _ _=>rfl) _ f4)
    have hWw:Below w2.heap.size w2 w3:=⟨hg.os,hg.tape,hg.output,hg.size,fun k hk=>hg.block k hk id⟩
    have B3x:=Lib.hid (B2x.out.trans (hWw.mono B2x.out.size))
    have KN:=Lib.hid hk
    have KF:=Lib.hid (HX.out w3 B3x.out).2.1
    have TN:=Lib.hid (show IsFm (Good (fun _=>False) w3.drew) w3.drew N _ from IsFm.keep (w:=w3) (w':=w3.drew) (fun b h=>⟨id,h⟩) (fun _ _=>rfl) _ TN1.out)
    have TF:=Lib.hid (show IsFm (Good (fun _=>False) w3.drew) w3.drew f _ from IsFm.keep (w:=w3) (w':=w3.drew) (fun b h=>⟨id,h⟩) (fun _ _=>rfl) _ (HX.out w3 B3x.out).2.2.2.1)
    have HNF:=Lib.hid (And.intro (show N.bulk≤400000 by have:=HU.out.2.2; omega) (And.intro (show f.bulk≤400000 by have:=HO.out.2.2.2; omega) (fun (k:Int)=>show (Fm.mk k .zero [] [N,f]).bulk≤400000 by have h1:=HU.out.2.2; have h2:=HO.out.2.2.2; simp only [Fm.bulk,bulkAll,bulkAllF,Ty.zero,Ty.nodes,nodesAll]; omega)))
    simp only [putFrom,dstOf,Act.put,List.size_toArray,List.length_cons,List.length_nil,Nat.zero_add,Nat.reduceAdd,List.getElem?_toArray,List.getElem?_cons_zero,List.getElem?_cons_succ,List.setIfInBounds_toArray,List.set_cons_zero,List.set_cons_succ,hv,f8]
    clear hg hf hL hd f4 hv hk f8 h3 hWw
    generalize V 0=v0
    generalize V 1=v1
    generalize V 2=v2
    generalize V 3=v3
    generalize V 4=v4
    generalize V 5=v5
    go_upto_region 10 with fail
    clear HBS
    obtain ⟨base,hbase⟩:∃ n,n=w3.heap.size:=⟨_,rfl⟩
    have HBS2:=Lib.hid hbase
    clear hbase
    refine wp_region_any (by kernel_rfl) ?_
    change wpAny _ _ _ _ _ _ _ (World.drew _)
    refine wpAny_facts (by kernel_rfl) (by kernel_rfl) () b10A (by kernel_rfl) b10C (by kernel_rfl) (b10F base 2 5 N f (.agg #[.int .i64 N.kind,.int .i64 N.type.kind,.slice B3 N.type.args.length d3,.slice C3 N.terms.length e3,.slice A3 N.args.length c3]) (.agg #[.int .i64 f.kind,.int .i64 f.type.kind,.slice B1 f.type.args.length d1,.slice C1 f.terms.length e1,.slice A1 f.args.length c1])) (fun _=>False) (fun _=>False) (fun _=>True) _ _ (fun _ h=>h.elim) (fun _ h=>h) trivial ⟨?_,?_,?_,?_,?_,?_,?_,trivial⟩ ?_
    · intro V G L a w1 hp K hK
      refine step_call rfl _ _ _ rfl #[] (by simp) (enters_of Tryz.func22 (by kernel_rfl) rfl) (nat_any w1) ?_
      rintro e w' ⟨rfl,hb⟩
      exact ⟨_,rfl,hK _ () _ (Post.of rfl (Turn.call hb) trivial hp.lt fun L' _ _=>rfl)⟩
    · intro V G L a w1 hp K hK
      exact step_run rfl (run_load5F rfl (hp.slot0 11 _ rfl rfl) (hp.blk0 KN.out.drew id)) (hK _ () _ (Post.still rfl trivial hp.lt fun L' _=>rfl))
    · intro V G L a w1 hp K hK
      exact step_run rfl (run_load5F rfl (hp.slot0 5 _ rfl rfl) (hp.blk0 KF.out.drew id)) (hK _ () _ (Post.still rfl trivial hp.lt fun L' _=>rfl))
    · intro V G L a w1 hp K hK
      have f1:V 1=_:=hp.fact 1 rfl
      have e1:=hp.slot 1 39 rfl rfl rfl
      rw [f1] at e1
      have f2:V 2=_:=hp.fact 2 rfl
      have e2:=hp.slot 2 40 rfl rfl rfl
      rw [f2] at e2
      have ek0:a.eval (.const (.int .i64 2))=.int .i64 2:=rfl
      refine step_call rfl _ _ _ rfl _ (by simp only [List.map_toArray,List.map_cons,List.map_nil,ek0,e1,e2]) (enters_of Tryz.func39 (by kernel_rfl) rfl) (twoF_any 2 N f _ _ w1 HNF.out.1 HNF.out.2.1 (IsFm.keep (fun b h=>h.2) (fun _ _=>rfl) _ (hp.fm0 TN.out)) (IsFm.keep (fun b h=>h.2) (fun _ _=>rfl) _ (hp.fm0 TF.out))) ?_
      rintro e w' ⟨v,rfl,ht,hb⟩
      exact ⟨_,rfl,hK _ () _ (Post.freshF rfl (hp.base_le (Nat.le_of_eq HBS2.out)) ht hb trivial trivial hp.lt)⟩
    · intro V G L a w1 hp K hK
      have f0:V 0=(.agg #[.int .i64 1,.slice none 0 0]):=hp.fact 0 rfl
      have e0:=hp.slot 0 38 rfl rfl rfl
      rw [f0] at e0
      have f3:IsFm (fun b=>Good L w1 b∧base≤b) w1 (.mk 2 .zero [] [N,f]) (V 3)∧True:=hp.fact 3 rfl
      have e3:=hp.slot 3 41 rfl rfl rfl
      have ek0:a.eval (.const (.int .i64 5))=.int .i64 5:=rfl
      refine step_call rfl _ _ _ rfl _ (by simp only [List.map_toArray,List.map_cons,List.map_nil,ek0,e0,e3]) (enters_of Tryz.func34 (by kernel_rfl) rfl) (qF_any 5 tyNat (.mk 2 .zero [] [N,f]) _ _ w1 (by decide) (HNF.out.2.2 2) (IsTy.leaf _ _ _) (IsFm.keep (fun b h=>h.1.2) (fun _ _=>rfl) _ f3.1)) ?_
      rintro e w' ⟨v,rfl,ht,hb⟩
      exact ⟨_,rfl,hK _ () _ (Post.freshF rfl (hp.base_le (Nat.le_of_eq HBS2.out)) ht hb trivial trivial hp.lt)⟩
    · intro V G L a w1 hp K hK
      exact step_run rfl (run_allocF rfl) (hK _ () _ (Post.made rfl trivial))
    · intro V G L a w1 hp K hK
      have f4:IsFm (fun b=>Good L w1 b∧base≤b) w1 (.mk 5 tyNat [] [.mk 2 .zero [] [N,f]]) (V 4)∧True:=hp.fact 4 rfl
      obtain ⟨b,hv,hk⟩:∃ b,V 5=.pointer (some ⟨b,0,none⟩)∧Blk w1 b _ _:=hp.fact 5 rfl
      have e0:=hp.slot 5 12 rfl rfl rfl
      have e1:=hp.slot 4 42 rfl rfl rfl
      obtain ⟨B9,d9,C9,e9,A9,c9,h9,_⟩:=f4.1.form
      rw [hv] at e0
      rw [h9] at e1
      refine step_skip' rfl (run_storeF rfl e0 e1 rfl rfl rfl rfl rfl hk) (hK _ () _ (Post.filled (j:=5) rfl rfl (by show ptrBlk (V 5)=_; rw [hv]; rfl) ?_ hk trivial))
      show RFact.boxv _ (V 4) (V 5)=_
      rw [hv,h9]
    · intro V G w4 L hg _ hf hL hd
      obtain ⟨Y,hY⟩:∃ Y:Fm,Y=.mk 5 tyNat [] [.mk 2 .zero [] [N,f]]:=⟨_,rfl⟩
      have f4:IsFm (fun b=>Good L w4 b∧base≤b) w4 (.mk 5 tyNat [] [.mk 2 .zero [] [N,f]]) (V 4)∧True:=(hf 4 (by decide) rfl).1
      rw [← hY] at f4
      obtain ⟨D2,c,hc,hv,hk⟩:∃ b c,V 4=.agg c∧V 5=.pointer (some ⟨b,0,none⟩)∧Blk w4 b _ c:=(hf 6 (by decide) rfl).1
      obtain ⟨B4,d4,C4,e4,A4,c4,h4,_⟩:=f4.1.form
      rw [h4] at hc f4
      cases hc
      have hWw:Below w3.heap.size w3 w4:=⟨hg.os,hg.tape,hg.output,hg.size,fun k hk=>hg.block k hk id⟩
      have TY4:=Lib.hid (show IsFm (fun b=>base≤b∧b<w4.heap.size) w4 Y _ from IsFm.keep (fun b h=>⟨h.2,h.1.2⟩) (fun _ _=>rfl) _ f4.1)
      have B4x:=Lib.hid (B3x.out.trans (hWw.mono B3x.out.size))
      have KY:=Lib.hid hk
      have KD2:=Lib.hid (show w.heap.size+1+1<D2 by have h1:=(hf 6 (by decide) rfl).2 D2 (by show ptrBlk (V 5)=_; rw [hv]; rfl); have h2:=HB.out.2; have h3:=B3x.out.size; have h4:w3.heap.size≤D2:=h1.1; omega)
      have KN2:=Lib.hid (KN.out.below hWw KN.out.lt)
      have KF2:=Lib.hid (HX.out w4 B4x.out).2.1
      have TN2:=Lib.hid (show IsFm (Good (fun _=>False) w4.drew) w4.drew N _ from IsFm.keep (w:=w4) (w':=w4.drew) (fun b h=>⟨id,h⟩) (fun _ _=>rfl) _ (TN1.out.boxed hWw))
      have TF2:=Lib.hid (show IsFm (Good (fun _=>False) w4.drew) w4.drew f _ from IsFm.keep (w:=w4) (w':=w4.drew) (fun b h=>⟨id,h⟩) (fun _ _=>rfl) _ (HX.out w4 B4x.out).2.2.2.1)
      have KR4:=Lib.hid (HX.out w4 B4x.out).2.2.2.2
      have BW4:=Lib.hid (HB.out.1.trans (B4x.out.mono HB.out.1.size))
      have HZ:=Lib.hid (show w.heap.size+1+1<base by have h1:=HBS2.out; have h2:=B3x.out.size; have h3:=HB.out.2; omega)
      have HY:=Lib.hid hY
      simp only [putFrom,dstOf,Act.put,List.size_toArray,List.length_cons,List.length_nil,Nat.zero_add,Nat.reduceAdd,List.getElem?_toArray,List.getElem?_cons_zero,List.getElem?_cons_succ,List.setIfInBounds_toArray,List.set_cons_zero,List.set_cons_succ,hv]
      clear hg hf hL hd f4 hv hk h4 hWw hY
      generalize V 0=q0
      generalize V 1=q1
      generalize V 2=q2
      generalize V 3=q3
      generalize V 4=q4
      have sz:∀ k kq:Int,(Fm.mk kq tyNat [] [.mk k .zero [] [N,f]]).size≤4096∧(Fm.mk kq tyNat [] [.mk k .zero [] [N,f]]).bulk≤300000:=fun k kq=>by
        have h1:=HU.out.2; have h2:=HO.out.2.2
        simp only [Fm.size,Fm.bulk,sizeAllT,sizeAllF,bulkAll,bulkAllF,tyNat,Ty.zero,Ty.nodes,nodesAll]; omega
      have SZ:=Lib.hid sz
      clear sz
      cases all with
      | false=>
        have HY4:=Lib.hid (show boundFm false x f=Y by rw [HY.out,HN.out,HUx.out]; rfl)
        obtain ⟨p0,p1,p2,p3,p4,_⟩:=KY.out.facts5
        have hcs:=(show Y.size≤4096∧Y.bulk≤300000 by rw [HY.out]; exact SZ.out 2 5)
        have hd1:decide ((4096:Int)<(Y.size:Int))=false:=by have:=hcs.1; simp; omega
        go_wp2_with fail
        refine (countF_any 400000 Y _ w4 (by have:=hcs.2; omega) (Nat.le_refl _) (IsFm.keep (fun b h=>h.2) (fun _ _=>rfl) _ TY4.out)).mono ?_
        rintro e w9 ⟨rfl,hb9⟩
        have K9:=Lib.hid (KY.out.below hb9 KY.out.lt)
        have R9:=Lib.hid (KR4.out.below hb9 KR4.out.lt)
        have B9:=Lib.hid (BW4.out.trans (hb9.mono BW4.out.size))
        have T9:=Lib.hid (show IsFm (fun b=>base≤b∧b<w4.heap.size) w9 Y _ from IsFm.keep (fun _ h=>h) (fun q hq=>hb9.cell hq.2) _ TY4.out)
        have hz9:=hb9.size
        clear hb9 p0 p1 p2 p3 p4 hcs
        obtain ⟨p0,p1,p2,p3,p4,_⟩:=K9.out.facts5
        obtain ⟨_,_,_,_,_,f0,f1,f2,f3,f4⟩:=R9.out.facts5
        go_wp2_with fail
        obtain ⟨z0,z1,z2,z3,z4⟩:=(R9.out.set5 (.int .i64 Y.kind) (.int .i64 Y.type.kind) (.slice B4 Y.type.args.length d4) (.slice C4 Y.terms.length e4) (.slice A4 Y.args.length c4)).cells5
        refine bodyPost_ret (v:=.tuple #[.agg #[.int .i64 Y.kind,.int .i64 Y.type.kind,.slice B4 Y.type.args.length d4,.slice C4 Y.terms.length e4,.slice A4 Y.args.length c4],.int .i64 0]) (by simp [results,Tryz.results73,go_sem,z0,z1,z2,z3,z4]) rfl ?_
        have hg:=only_set5 w9 (w.heap.size+1+1) (.int .i64 Y.kind) (.int .i64 Y.type.kind) (.slice B4 Y.type.args.length d4) (.slice C4 Y.terms.length e4) (.slice A4 Y.args.length c4)
        have hz:=HZ.out
        rw [HY4.out]
        exact ⟨_,rfl,IsFm.keep (fun b h=>⟨by omega,Nat.lt_of_lt_of_le (by omega:b<w9.heap.size) hg.size⟩) (fun p hp=>World.cell?_of_block (hg.block p.block (by have:=hp.2; omega) (by have:=hp.1; simp; omega))) _ T9.out,B9.out.grown hg B9.out.size (fun g e=>by cases e; omega)⟩
      | true=>
        have HY5:=Lib.hid (show boundFm true x f=.mk 4 tyNat [] [.mk 3 .zero [] [N,f]] by rw [HN.out,HUx.out]; rfl)
        go_upto_region 12 with fail
        clear TY4 HBS2
        obtain ⟨base2,hbase⟩:∃ n,n=w4.heap.size:=⟨_,rfl⟩
        have HZ2:=Lib.hid (show w.heap.size+1+1<base2 by have h1:=BW4.out.size; have h2:=KR4.out.lt; omega)
        clear HZ
        have HZ:=HZ2
        have HBS3:=Lib.hid hbase
        clear hbase HZ2
        refine wp_region_any (by kernel_rfl) ?_
        change wpAny _ _ _ _ _ _ _ (World.drew _)
        refine wpAny_last (by kernel_rfl) (by kernel_rfl) () b12A (by kernel_rfl) (fun _=>none) (b10F base2 3 4 N f (.agg #[.int .i64 N.kind,.int .i64 N.type.kind,.slice B3 N.type.args.length d3,.slice C3 N.terms.length e3,.slice A3 N.args.length c3]) (.agg #[.int .i64 f.kind,.int .i64 f.type.kind,.slice B1 f.type.args.length d1,.slice C1 f.terms.length e1,.slice A1 f.args.length c1])) 5 rfl (by kernel_rfl) _ rfl (fun _=>False) (fun _=>False) (fun _=>True) _ _ (fun _ h=>h.elim) (fun _ h=>h) trivial ⟨?_,?_,?_,?_,?_,trivial⟩ ?_
        · intro V G L a w1 hp K hK
          refine step_call rfl _ _ _ rfl #[] (by simp) (enters_of Tryz.func22 (by kernel_rfl) rfl) (nat_any w1) ?_
          rintro e w' ⟨rfl,hb⟩
          exact ⟨_,rfl,hK _ () _ (Post.of rfl (Turn.call hb) trivial hp.lt fun L' _ _=>rfl)⟩
        · intro V G L a w1 hp K hK
          exact step_run rfl (run_load5F rfl (hp.slot0 11 _ rfl rfl) (hp.blk0 KN2.out.drew id)) (hK _ () _ (Post.still rfl trivial hp.lt fun L' _=>rfl))
        · intro V G L a w1 hp K hK
          exact step_run rfl (run_load5F rfl (hp.slot0 5 _ rfl rfl) (hp.blk0 KF2.out.drew id)) (hK _ () _ (Post.still rfl trivial hp.lt fun L' _=>rfl))
        · intro V G L a w1 hp K hK
          have f1:V 1=_:=hp.fact 1 rfl
          have e1:=hp.slot 1 45 rfl rfl rfl
          rw [f1] at e1
          have f2:V 2=_:=hp.fact 2 rfl
          have e2:=hp.slot 2 46 rfl rfl rfl
          rw [f2] at e2
          have ek0:a.eval (.const (.int .i64 3))=.int .i64 3:=rfl
          refine step_call rfl _ _ _ rfl _ (by simp only [List.map_toArray,List.map_cons,List.map_nil,ek0,e1,e2]) (enters_of Tryz.func39 (by kernel_rfl) rfl) (twoF_any 3 N f _ _ w1 HNF.out.1 HNF.out.2.1 (IsFm.keep (fun b h=>h.2) (fun _ _=>rfl) _ (hp.fm0 TN2.out)) (IsFm.keep (fun b h=>h.2) (fun _ _=>rfl) _ (hp.fm0 TF2.out))) ?_
          rintro e w' ⟨v,rfl,ht,hb⟩
          exact ⟨_,rfl,hK _ () _ (Post.freshF rfl (hp.base_le (Nat.le_of_eq HBS3.out)) ht hb trivial trivial hp.lt)⟩
        · intro V G L a w1 hp K hK
          have f0:V 0=(.agg #[.int .i64 1,.slice none 0 0]):=hp.fact 0 rfl
          have e0:=hp.slot 0 44 rfl rfl rfl
          rw [f0] at e0
          have f3:IsFm (fun b=>Good L w1 b∧base2≤b) w1 (.mk 3 .zero [] [N,f]) (V 3)∧True:=hp.fact 3 rfl
          have e3:=hp.slot 3 47 rfl rfl rfl
          have ek0:a.eval (.const (.int .i64 4))=.int .i64 4:=rfl
          refine step_call rfl _ _ _ rfl _ (by simp only [List.map_toArray,List.map_cons,List.map_nil,ek0,e0,e3]) (enters_of Tryz.func34 (by kernel_rfl) rfl) (qF_any 4 tyNat (.mk 3 .zero [] [N,f]) _ _ w1 (by decide) (HNF.out.2.2 3) (IsTy.leaf _ _ _) (IsFm.keep (fun b h=>h.1.2) (fun _ _=>rfl) _ f3.1)) ?_
          rintro e w' ⟨v,rfl,ht,hb⟩
          exact ⟨_,rfl,hK _ () _ (Post.freshF rfl (hp.base_le (Nat.le_of_eq HBS3.out)) ht hb trivial trivial hp.lt)⟩
        · intro V G L a w5 hp ha K hK
          obtain ⟨Z,hZ⟩:∃ Z:Fm,Z=.mk 4 tyNat [] [.mk 3 .zero [] [N,f]]:=⟨_,rfl⟩
          have f4:IsFm (fun b=>Good L w5 b∧base2≤b) w5 (.mk 4 tyNat [] [.mk 3 .zero [] [N,f]]) (V 4)∧True:=hp.fact 4 rfl
          rw [← hZ] at f4
          have e4:=hp.slot 4 48 rfl rfl rfl
          have e12:=hp.slot0 12 (.pointer (some ⟨D2,0,none⟩)) rfl rfl
          have hk:=hp.blk0 KY.out.drew id
          have hr:=hp.blk0 KR4.out.drew id
          have hg:=hp.grown
          obtain ⟨B5,d5,C5,e5,A5,c5,h5,_⟩:=f4.1.form
          rw [h5] at e4 f4
          refine step_skip' rfl (run_storeF rfl e12 e4 rfl rfl rfl rfl rfl hk) (hK _ _ ?_)
          rw [ha]
          simp only [putFrom,dstOf,Act.put,List.getElem?_toArray,List.getElem?_cons_zero,List.getElem?_cons_succ,List.setIfInBounds_toArray,List.set_cons_zero,List.set_cons_succ,h5]
          have hne:D2≠w.heap.size+1+1:=fun e=>by
            have h1:=KD2.out
            omega
          have hwx:=only_set5 w5 D2 (.int .i64 Z.kind) (.int .i64 Z.type.kind) (.slice B5 Z.type.args.length d5) (.slice C5 Z.terms.length e5) (.slice A5 Z.args.length c5)
          obtain ⟨w6,hw6⟩:∃ w6,w6=(((((w5.setCell ⟨D2,0,none⟩ (.int .i64 Z.kind)).setCell ⟨D2,1,none⟩ (.int .i64 Z.type.kind)).setCell ⟨D2,2,none⟩ (.slice B5 Z.type.args.length d5)).setCell ⟨D2,3,none⟩ (.slice C5 Z.terms.length e5)).setCell ⟨D2,4,none⟩ (.slice A5 Z.args.length c5)):=⟨_,rfl⟩
          have KZ:=Lib.hid (show Blk w6 D2 _ _ from by rw [hw6]; exact hk.set5 _ _ _ _ _)
          rw [← hw6] at hwx ⊢
          have hsz:=hwx.size
          have KR6:=Lib.hid (hr.grown hwx (by simp; omega))
          have BW6:=Lib.hid (show Below w.heap.size w w6 from (BW4.out.trans (Below.mono (show Below w4.heap.size w4 w5 from ⟨hg.os,hg.tape,hg.output,hg.size,fun k hk=>hg.block k hk id⟩) BW4.out.size)).grown hwx (Nat.le_trans BW4.out.size hg.size) (fun g e=>by cases e; have:=KD2.out; omega))
          have TZ6:=Lib.hid (show IsFm (fun b=>base2≤b∧b<w6.heap.size) w6 Z _ from IsFm.keep (fun b h=>⟨h.2,Nat.lt_of_lt_of_le h.1.2 hsz⟩) (fun p hq=>World.cell?_of_block (hwx.block p.block hq.1.2 (by have h1:=hq.2; have h2:=KY.out.lt; have h3:=HBS3.out; simp; omega))) _ f4.1)
          have HYZ:=Lib.hid hZ
          clear hp ha hK f4 e4 e12 hk hr hg h5 hZ hwx hw6 hsz
          have HY5:=Lib.hid (show boundFm true x f=Z by rw [HYZ.out]; exact HY5.out)
          generalize V 0=t0
          generalize V 1=t1
          generalize V 2=t2
          generalize V 3=t3
          obtain ⟨p0,p1,p2,p3,p4,_⟩:=KZ.out.facts5
          have hcs:=(show Z.size≤4096∧Z.bulk≤300000 by rw [HYZ.out]; exact SZ.out 3 4)
          have hd1:decide ((4096:Int)<(Z.size:Int))=false:=by have:=hcs.1; simp; omega
          go_wp2_with fail
          refine (countF_any 400000 Z _ w6 (by have:=hcs.2; omega) (Nat.le_refl _) (IsFm.keep (fun b h=>h.2) (fun _ _=>rfl) _ TZ6.out)).mono ?_
          rintro e w9 ⟨rfl,hb9⟩
          have K9:=Lib.hid (KZ.out.below hb9 KZ.out.lt)
          have R9:=Lib.hid (KR6.out.below hb9 KR6.out.lt)
          have B9:=Lib.hid (BW6.out.trans (hb9.mono BW6.out.size))
          have T9:=Lib.hid (show IsFm (fun b=>base2≤b∧b<w6.heap.size) w9 Z _ from IsFm.keep (fun _ h=>h) (fun q hq=>hb9.cell hq.2) _ TZ6.out)
          have hz9:=hb9.size
          clear hb9 p0 p1 p2 p3 p4 hcs
          obtain ⟨p0,p1,p2,p3,p4,_⟩:=K9.out.facts5
          obtain ⟨_,_,_,_,_,f0,f1,f2,f3,f4⟩:=R9.out.facts5
          go_wp2_with fail
          obtain ⟨z0,z1,z2,z3,z4⟩:=(R9.out.set5 (.int .i64 Z.kind) (.int .i64 Z.type.kind) (.slice B5 Z.type.args.length d5) (.slice C5 Z.terms.length e5) (.slice A5 Z.args.length c5)).cells5
          refine bodyPost_ret (v:=.tuple #[.agg #[.int .i64 Z.kind,.int .i64 Z.type.kind,.slice B5 Z.type.args.length d5,.slice C5 Z.terms.length e5,.slice A5 Z.args.length c5],.int .i64 0]) (by simp [results,Tryz.results73,go_sem,z0,z1,z2,z3,z4]) rfl ?_
          have hg:=only_set5 w9 (w.heap.size+1+1) (.int .i64 Z.kind) (.int .i64 Z.type.kind) (.slice B5 Z.type.args.length d5) (.slice C5 Z.terms.length e5) (.slice A5 Z.args.length c5)
          have hz:=HZ.out
          rw [HY5.out]
          exact ⟨_,rfl,IsFm.keep (fun b h=>⟨by omega,Nat.lt_of_lt_of_le (by omega:b<w9.heap.size) hg.size⟩) (fun p hp=>World.cell?_of_block (hg.block p.block (by have:=hp.2; omega) (by have:=hp.1; simp; omega))) _ T9.out,B9.out.grown hg B9.out.size (fun g e=>by cases e; omega)⟩
end Go.Proofs.YthlknhkemmdocaaGreatDoor
namespace Go.Proofs.YthlknhkemmdocaaGreatDoor
open Go.RowKit

/-- A formula that mk.Formula makes: at most so deep, typed in a context, of small terms. -/
inductive MadeF:Nat→List Ty→Fm→Prop
  | eq (d:Nat) (G:List Ty) (s t:Tm) (hs:Made G tyNat 24 3 s) (ht:Made G tyNat 24 3 t):MadeF d G (.mk 1 .zero [s,t] [])
  | two (d:Nat) (G:List Ty) (k:Int) (a b:Fm) (hk:k=2∨k=3) (ha:MadeF d G a) (hb:MadeF d G b):MadeF (d+1) G (.mk k .zero [] [a,b])
  | quant (d:Nat) (G:List Ty) (k:Int) (T:Ty) (b:Fm) (hk:k=4∨k=5∨k=6∨k=7) (hT:T.ok=true) (hn:T.nodes≤3) (hb:MadeF d (G ++ [T]) b):MadeF (d+1) G (.mk k T [] [b])
theorem MadeF.bulk_two {d:Nat} {G:List Ty} {f:Fm} (h:MadeF d G f):f.bulk+2≤400 * 2 ^ d:=by
  induction h with
  | eq d G s t hs ht=>
    have h1:=hs.size; have h2:=hs.thin; have h3:=ht.size; have h4:=ht.thin
    have h5:1≤2 ^ d:=Nat.one_le_two_pow
    simp only [Fm.bulk,bulkAll,bulkAllF,Ty.zero,Ty.nodes,nodesAll]
    omega
  | two d G k a b hk ha hb iha ihb=>
    simp only [Fm.bulk,bulkAll,bulkAllF,Ty.zero,Ty.nodes,nodesAll,Nat.pow_succ]
    omega
  | quant d G k T b hk hT hn hb ih=>
    simp only [Fm.bulk,bulkAll,bulkAllF,Nat.pow_succ]
    have h5:1≤2 ^ d:=Nat.one_le_two_pow
    omega
theorem MadeF.bulk_le {d:Nat} {G:List Ty} {f:Fm} (h:MadeF d G f) (hd:d≤6):f.bulk≤26000:=by
  have h1:=h.bulk_two
  have h2:2 ^ d≤2 ^ 6:=Nat.pow_le_pow_right (by omega) hd
  omega

theorem twoF_call (k:Int) {a b:Fm} {u v:Value} {w:World} (hs:a.bulk≤400000) (ht:b.bulk≤400000) (hS:IsFm (· < w.heap.size) w a u) (hT:IsFm (· < w.heap.size) w b v) :
    Calls Tryz.prog 39 #[.int .i64 k,u,v] w fun e w'=>∃ f v,f=Fm.mk k .zero [] [a,b]∧e=.returned v∧IsFm (fun b=>w.heap.size≤b∧b<w'.heap.size) w' f v∧Below w.heap.size w w':=
  (twoF_any k a b u v w hs ht hS hT).mono fun _ _ ⟨v,h⟩=>⟨_,v,rfl,h⟩
theorem qF_call (k:Int) {T:Ty} {b:Fm} {u v:Value} {w:World} (hs:T.nodes≤400000) (ht:b.bulk≤400000) (hS:IsTy (· < w.heap.size) w T u) (hT:IsFm (· < w.heap.size) w b v) :
    Calls Tryz.prog 34 #[.int .i64 k,u,v] w fun e w'=>∃ f v,f=Fm.mk k T [] [b]∧e=.returned v∧IsFm (fun b=>w.heap.size≤b∧b<w'.heap.size) w' f v∧Below w.heap.size w w':=
  (qF_any k T b u v w hs ht hS hT).mono fun _ _ ⟨v,h⟩=>⟨_,v,rfl,h⟩
end Go.Proofs.YthlknhkemmdocaaGreatDoor
namespace Go.Proofs.YthlknhkemmdocaaGreatDoor
open Go.RowKit

section
variable {ops : Array Oper} {o : Oper} {a : Act} {w : World}
theorem run_subInt {x y:Operand} {t:TypeId} (ho:o.op=.binOp .sub 3 x y t) {m n:Int} (hx:a.eval x=.int .i64 m) (hy:a.eval y=.int .i64 n) {k:Int} (hk:m - n=k) (h1:-9223372036854775808≤k) (h2:k<9223372036854775808):(execOp a.eval o).run Tryz.prog w=.ok (.value (.int .i64 k)) w:=by
  subst hk
  have hw:IntKind.i64.wrap (m - n)=m - n:=IntWalk.i64_in _ ⟨h1,by omega⟩
  simp only [execOp,ho,hx,hy]
  go_simp
end
/-- What mk.Decidable answers. -/
def DecR (g:Nat) (G:List Ty) (d:Nat) (w:World) (e:Ending) (w':World):Prop:=
  ∃ f v,e=.returned v∧MadeD d G f∧IsFm (fun b=>w.heap.size≤b∧b<w'.heap.size) w' f v∧Deck w' g∧Turn (· = g) w w'
theorem dec_end {g d lo p:Nat} {G:List Ty} {f:Fm} {w W w9:World} {x0 x1 x2 x3 x4:Value} (hp:p=w.heap.size) (hg:g<w.heap.size) (hW:Below w.heap.size w W) (hz:W.heap.size=w.heap.size+1) (ht:Turn (· = g) W w9) (hd:Deck w9 g) (hm:MadeD d G f) (hlo:p<lo)
    (hf:IsFm (fun b=>lo≤b∧b<w9.heap.size) w9 f (.agg #[x0,x1,x2,x3,x4])) :
    DecR g G d w (.returned (.agg #[x0,x1,x2,x3,x4])) (((((w9.setCell ⟨p,0,none⟩ x0).setCell ⟨p,1,none⟩ x1).setCell ⟨p,2,none⟩ x2).setCell ⟨p,3,none⟩ x3).setCell ⟨p,4,none⟩ x4):=by
  have hs:=only_set5 w9 p x0 x1 x2 x3 x4
  have h1:=(Turn.call hW).trans ht
  have h2:=ht.size
  refine ⟨f,_,rfl,hm,IsFm.keep (fun b h=>⟨by omega,Nat.lt_of_lt_of_le h.2 hs.size⟩) (fun q hq=>World.cell?_of_block (hs.block q.block hq.2 (by simp; omega))) _ hf,hd.grown hs (fun k e=>by cases e; omega),?_⟩
  exact ⟨hs.os.trans h1.os,hs.tape.trans h1.tape,hs.output.trans h1.output,Nat.le_trans h1.size hs.size,fun k hk hx=>(hs.block k (Nat.lt_of_lt_of_le hk h1.size) (by simp; omega)).trans (h1.block k hk hx)⟩
/-- What is said of smaller calls. -/
def IHD (g d:Nat):Prop:=∀ (G:List Ty) (s:Value) (w:World),G.length+d≤20→Ctx g w G s→Deck w g →
  Calls Tryz.prog 24 #[.pointer (some ⟨g,0,none⟩),s,.int .i64 d] w (DecR g G d w)
abbrev GD:=Tm × Fm × Value
def gd0:GD:=(noneTm,noneFm,undef)
def d10A (i j:Nat):Bool:=([0,1,3,0,0,0,59,0,0,0,512,1915,0,4096,16379,32767,65535,131071,131071,0,786431,2097151].getD i 0).testBit j
def d10C (i:Nat):Option Nat:=if i=19 then some 20 else none
def d10F (g base:Nat) (G:List Ty) (SV:Value) (d':Nat) (i:Nat) (V:Nat→Value) (H:Nat→GD):RFact:=
  match i with
  | 0=>.pure (V 0=.pointer (some ⟨g,0,none⟩))
  | 1=>.pure (∃ r:Int,V 1=.int .i64 r)
  | 2=>.pure (∃ b:Bool,V 2=.bool b)
  | 3=>.pure (V 3=.pointer (some ⟨g,0,none⟩))
  | 4=>.pure (V 4=SV)
  | 5=>.pure (V 5=(.agg #[.int .i64 1,.slice none 0 0]))
  | 6=>.tmN base (H 6).1 (V 6) (Made G tyNat 24 3 (H 6).1)
  | 7=>.pure (V 7=.pointer (some ⟨g,0,none⟩))
  | 8=>.pure (V 8=SV)
  | 9=>.pure (V 9=(.agg #[.int .i64 1,.slice none 0 0]))
  | 10=>.sl TyR [tyNat] (V 10) True
  | 11=>.sl TyR (G ++ [tyNat]) (V 11) (Formed (V 11))
  | 12=>.pure (V 12=.int .i64 ((d' + 1:Nat):Int))
  | 13=>.pure (V 13=.int .i64 (d':Int))
  | 14=>.fmN base (H 14).2.1 (V 14) (MadeD d' (G ++ [tyNat]) (H 14).2.1)
  | 15=>.fmN base (H 15).2.1 (H 15).2.2 (V 15=.tuple #[(H 15).2.2,.int .i64 0]∧MadeD (d' + 1) G (H 15).2.1)
  | 16=>.pure (V 16=.tuple #[(H 15).2.2,.int .i64 0])
  | 17=>.fmN base (H 15).2.1 (V 17) True
  | 18=>.pure (V 18=.int .i64 0)
  | 19=>.box 34 #[.int .i64 0,.int .i64 0,.slice none 0 0,.slice none 0 0,.slice none 0 0] (V 19)
  | 20=>.boxv 34 (V 17) (V 19)
  | _=>.pure (V 21=.int .i64 0)
def d13A (i j:Nat):Bool:=([0,0,0,7,0,0,0,127,255,511].getD i 0).testBit j
def d13F (g base:Nat) (G:List Ty) (SV:Value) (i:Nat) (V:Nat→Value) (H:Nat→GD):RFact:=
  match i with
  | 0=>.pure (V 0=.pointer (some ⟨g,0,none⟩))
  | 1=>.pure (V 1=SV)
  | 2=>.pure (V 2=(.agg #[.int .i64 1,.slice none 0 0]))
  | 3=>.tmN base (H 3).1 (V 3) (Made G tyNat 24 3 (H 3).1)
  | 4=>.pure (V 4=.pointer (some ⟨g,0,none⟩))
  | 5=>.pure (V 5=SV)
  | 6=>.pure (V 6=(.agg #[.int .i64 1,.slice none 0 0]))
  | 7=>.tmN base (H 7).1 (V 7) (Made G tyNat 24 3 (H 7).1)
  | 8=>.fmN base (.mk 1 .zero [(H 3).1,(H 7).1] []) (V 8) (Made G tyNat 24 3 (H 3).1∧Made G tyNat 24 3 (H 7).1)
  | _=>.pure True
set_option maxRecDepth 1000000 in
set_option maxHeartbeats 8000000 in
theorem dec_step (g d:Nat) (hd3:d≤5) (ih:∀ d',d' + 1=d→IHD g d'):IHD g d:=by
  intro G SV w hG hc hd
  obtain ⟨bW,zW,kW⟩:=new_blk (Below.refl w.heap.size w) (Nat.le_refl _) #[.int .i64 0,.int .i64 0,.slice none 0 0,.slice none 0 0,.slice none 0 0] 34
  have hgw:=hd.lt
  have HC0:=Lib.hid (hc.turn (Turn.call bW))
  have HD0:=Lib.hid (hd.call bW)
  have IH0:=Lib.hid ih
  have HG:=Lib.hid hG
  clear hc hd ih hG
  go_enter Tryz.func24,Tryz.ntmps24
  go_upto_region 1 with fail
  generalize w.alloc (Obj.cells #[.int .i64 0,.int .i64 0,.slice none 0 0,.slice none 0 0,.slice none 0 0] 34)=W at bW zW kW HC0 HD0 ⊢
  have HK0:=Lib.hid kW
  have HW:=Lib.hid (And.intro bW zW)
  clear bW zW kW
  go_wp2_with fail
  refine (nat_any W).mono ?_
  rintro e wa ⟨rfl,ba⟩
  obtain ⟨bX,zX,kX⟩:=new_blk (Below.refl wa.heap.size wa) (Nat.le_refl _) #[.int .i64 1,.slice none 0 0] 30
  obtain ⟨wb,hwb⟩:∃ wb,wb=wa.alloc (Obj.cells #[.int .i64 1,.slice none 0 0] 30):=⟨_,rfl⟩
  rw [← hwb] at bX zX kX
  obtain ⟨tq,htq⟩:∃ n,n=wa.heap.size:=⟨_,rfl⟩
  have hza:=ba.size
  have H0:=Lib.hid (And.intro (show Deck wb g from (HD0.out.call ba).call bX) (show Turn (· = g) W wb from (tCa g ba).trans (tCa g bX)))
  have HC:=Lib.hid (Ctx.turn HC0.out H0.out.2)
  have KTX:=Lib.hid kX
  have KRX:=Lib.hid (H0.out.2.blk HK0.out (fun e=>by have e':w.heap.size=g:=e; omega))
  have HNX:=Lib.hid (show ¬ wa.heap.size=g from fun e=>by have:=HW.out.2; omega)
  have HWB:=Lib.hid hwb
  rw [← htq] at KTX HNX
  clear ba bX zX kX hwb hza
  go_upto_if 12 with fail
  rw [← HWB.out,← htq]
  have hrz:w.heap.size<wb.heap.size:=KRX.out.lt
  clear htq
  go_cut [] (fun wx=>Deck wx g∧Turn (· = g) wb wx)
  case first=>
    by_cases hd0:d=0
    · subst hd0
      go_wp2_with fail
      go_meet
      exact ⟨H0.out.1,Turn.refl _ _⟩
    · obtain ⟨d',rfl⟩:∃ d',d=d' + 1:=⟨d - 1,by omega⟩
      have IH:=Lib.hid (IH0.out d' rfl)
      have e1:decide (((d' + 1:Nat):Int) > 0)=true:=decide_eq_true (by omega)
      have e2:IntKind.i64.wrap (((d' + 1:Nat):Int) - 1)=(d':Int):=by rw [IntWalk.i64_in _ (by omega)]; omega
      have e3:IntKind.i64.wrap (d':Int)=(d':Int):=IntWalk.i64_in _ (by omega)
      clear IH0
      go_wp2_with fail
      refine (next_any g 6 wb (by omega) (by omega) H0.out.1).mono ?_
      rintro e w1 ⟨r,rfl,hr0,hr9,hd1,hg1⟩
      have H1:=Lib.hid (And.intro hd1 (turn_of hg1))
      have hz1:=hg1.size
      have hr:r=0∨r=1∨(r=2∨r=3)∨(r=4∨r=5):=by omega
      clear hd1 hg1
      rcases hr with rfl | rfl | hr | hr
      · go_wp2_with fail
        refine (IH.out G _ w1 (by have:=HG.out; omega) (Ctx.turn HC.out H1.out.2) H1.out.1).mono ?_
        rintro e w2 ⟨f2,v2,rfl,m2,t2,d2,u2⟩
        obtain ⟨Ba2,da2,Ca2,ea2,Aa2,ca2,rfl,_⟩:=IsFm.form t2
        have H2:=Lib.hid (And.intro d2 (And.intro (H1.out.2.trans u2) (And.intro m2 t2)))
        have hz2:=u2.size
        clear m2 t2 d2 u2
        go_wp2_with fail
        refine (IH.out G _ w2 (by have:=HG.out; omega) (Ctx.turn HC.out H2.out.2.1) H2.out.1).mono ?_
        rintro e w3 ⟨f3,v3,rfl,m3,t3,d3,u3⟩
        obtain ⟨Ba3,da3,Ca3,ea3,Aa3,ca3,rfl,_⟩:=IsFm.form t3
        have H3:=Lib.hid (And.intro d3 (And.intro (H2.out.2.1.trans u3) (And.intro m3 (And.intro t3 u3))))
        have hz3:=u3.size
        have hb2:=H2.out.2.2.1.bulk_le (by omega)
        have hb3:=m3.bulk_le (by omega)
        clear m3 t3 d3 u3
        go_wp2_with fail
        refine (twoF_call 2 (a:=f2) (b:=f3) (by omega) (by omega) (IsFm.keep (S':=(· < w3.heap.size)) (w':=w3) (fun b h=>by have:=h.2; omega) (fun q hq=>World.cell?_of_block (H3.out.2.2.2.2.block q.block hq.2 (by have:=hq.1; omega))) _ H2.out.2.2.2) (IsFm.keep (S':=(· < w3.heap.size)) (fun b h=>h.2) (fun _ _=>rfl) _ H3.out.2.2.2.1)).mono ?_
        rintro e w4 ⟨f4,v4,h4,rfl,t4,b4⟩
        obtain ⟨Ba4,da4,Ca4,ea4,Aa4,ca4,rfl,_⟩:=IsFm.form t4
        have E4:=Lib.hid h4
        have T4:=Lib.hid t4
        have U4:=Lib.hid (H3.out.2.1.trans (tCa g b4))
        have D4:=Lib.hid (Deck.call H3.out.1 b4)
        have k4:=U4.out.blk KRX.out (by omega)
        obtain ⟨_,_,_,_,_,x0,x1,x2,x3,x4⟩:=k4.facts5
        have K4:=Lib.hid k4
        clear h4 t4 b4 k4
        go_wp2_with fail
        obtain ⟨z0,z1,z2,z3,z4⟩:=(K4.out.set5 (.int .i64 f4.kind) (.int .i64 f4.type.kind) (.slice Ba4 f4.type.args.length da4) (.slice Ca4 f4.terms.length ea4) (.slice Aa4 f4.args.length ca4)).cells5
        refine bodyPost_ret (v:=.agg #[.int .i64 f4.kind,.int .i64 f4.type.kind,.slice Ba4 f4.type.args.length da4,.slice Ca4 f4.terms.length ea4,.slice Aa4 f4.args.length ca4]) (by simp [results,Tryz.results24,go_sem,z0,z1,z2,z3,z4]) rfl ?_
        exact dec_end (lo:=w3.heap.size) rfl hgw HW.out.1 HW.out.2 (H0.out.2.trans U4.out) D4.out (by rw [E4.out]; exact .two d' G 2 f2 f3 (.inl rfl) H2.out.2.2.1 H3.out.2.2.1) (by have h1:=H0.out.2.size; have h2:=H1.out.2.size; omega) T4.out
      · go_wp2_with fail
        refine (IH.out G _ w1 (by have:=HG.out; omega) (Ctx.turn HC.out H1.out.2) H1.out.1).mono ?_
        rintro e w2 ⟨f2,v2,rfl,m2,t2,d2,u2⟩
        obtain ⟨Ba2,da2,Ca2,ea2,Aa2,ca2,rfl,_⟩:=IsFm.form t2
        have H2:=Lib.hid (And.intro d2 (And.intro (H1.out.2.trans u2) (And.intro m2 t2)))
        have hz2:=u2.size
        clear m2 t2 d2 u2
        go_wp2_with fail
        refine (IH.out G _ w2 (by have:=HG.out; omega) (Ctx.turn HC.out H2.out.2.1) H2.out.1).mono ?_
        rintro e w3 ⟨f3,v3,rfl,m3,t3,d3,u3⟩
        obtain ⟨Ba3,da3,Ca3,ea3,Aa3,ca3,rfl,_⟩:=IsFm.form t3
        have H3:=Lib.hid (And.intro d3 (And.intro (H2.out.2.1.trans u3) (And.intro m3 (And.intro t3 u3))))
        have hz3:=u3.size
        have hb2:=H2.out.2.2.1.bulk_le (by omega)
        have hb3:=m3.bulk_le (by omega)
        clear m3 t3 d3 u3
        go_wp2_with fail
        refine (twoF_call 3 (a:=f2) (b:=f3) (by omega) (by omega) (IsFm.keep (S':=(· < w3.heap.size)) (w':=w3) (fun b h=>by have:=h.2; omega) (fun q hq=>World.cell?_of_block (H3.out.2.2.2.2.block q.block hq.2 (by have:=hq.1; omega))) _ H2.out.2.2.2) (IsFm.keep (S':=(· < w3.heap.size)) (fun b h=>h.2) (fun _ _=>rfl) _ H3.out.2.2.2.1)).mono ?_
        rintro e w4 ⟨f4,v4,h4,rfl,t4,b4⟩
        obtain ⟨Ba4,da4,Ca4,ea4,Aa4,ca4,rfl,_⟩:=IsFm.form t4
        have E4:=Lib.hid h4
        have T4:=Lib.hid t4
        have U4:=Lib.hid (H3.out.2.1.trans (tCa g b4))
        have D4:=Lib.hid (Deck.call H3.out.1 b4)
        have k4:=U4.out.blk KRX.out (by omega)
        obtain ⟨_,_,_,_,_,x0,x1,x2,x3,x4⟩:=k4.facts5
        have K4:=Lib.hid k4
        clear h4 t4 b4 k4
        go_wp2_with fail
        obtain ⟨z0,z1,z2,z3,z4⟩:=(K4.out.set5 (.int .i64 f4.kind) (.int .i64 f4.type.kind) (.slice Ba4 f4.type.args.length da4) (.slice Ca4 f4.terms.length ea4) (.slice Aa4 f4.args.length ca4)).cells5
        refine bodyPost_ret (v:=.agg #[.int .i64 f4.kind,.int .i64 f4.type.kind,.slice Ba4 f4.type.args.length da4,.slice Ca4 f4.terms.length ea4,.slice Aa4 f4.args.length ca4]) (by simp [results,Tryz.results24,go_sem,z0,z1,z2,z3,z4]) rfl ?_
        exact dec_end (lo:=w3.heap.size) rfl hgw HW.out.1 HW.out.2 (H0.out.2.trans U4.out) D4.out (by rw [E4.out]; exact .two d' G 3 f2 f3 (.inr rfl) H2.out.2.2.1 H3.out.2.2.1) (by have h1:=H0.out.2.size; have h2:=H1.out.2.size; omega) T4.out
      · rcases hr with rfl | rfl
        all_goals
          go_upto_region 10 with fail
          obtain ⟨wx,hwx⟩:∃ wx,wx=w1:=⟨_,rfl⟩
          rw [← hwx]
          have HWX:=Lib.hid hwx
          obtain ⟨base,hbase⟩:∃ n,n=wx.heap.size:=⟨_,rfl⟩
          have HBS:=Lib.hid hbase
          have KT:=Lib.hid (show Blk wx _ 30 #[.int .i64 1,.slice none 0 0] from by rw [hwx]; exact H1.out.2.blk KTX.out (fun e=>HNX.out e))
          have KR:=Lib.hid (show Blk wx w.heap.size 34 #[.int .i64 0,.int .i64 0,.slice none 0 0,.slice none 0 0,.slice none 0 0] from by rw [hwx]; exact H1.out.2.blk KRX.out (fun e=>by have e':w.heap.size=g:=e; omega))
          have HNE:=HNX
          have HCX:=Lib.hid (show Ctx g wx.drew G SV from by rw [hwx]; exact (Ctx.turn HC.out H1.out.2).turn (tDr g w1))
          have HDX:=Lib.hid (show Deck wx.drew g from by rw [hwx]; exact H1.out.1.drewd)
          have HGZ:=Lib.hid (show g<wx.drew.heap.size from HDX.out.lt)
          have HTX:=Lib.hid (show Turn (· = g) W wx from by rw [hwx]; exact H0.out.2.trans H1.out.2)
          clear hwx hbase
          refine wp_region_any (by kernel_rfl) ?_
          change wpAny _ _ _ _ _ _ _ (World.drew _)
          refine wpAny_facts (by kernel_rfl) (by kernel_rfl) gd0 d10A (by kernel_rfl) d10C (by kernel_rfl) (d10F g base G SV d') (· = g) (· = g) (fun w=>Deck w g) _ _ (fun b h=>by have h':b=g:=h; rw [h']; exact HGZ.out) (fun _ h=>h) HDX.out ⟨?_,?_,?_,?_,?_,?_,?_,?_,?_,?_,?_,?_,?_,?_,?_,?_,?_,?_,?_,?_,?_,?_,trivial⟩ ?_
          · intro V H L a w1 hp K hK
            exact step_run rfl (run_move rfl (hp.slot0 0 _ rfl rfl)) (hK _ gd0 _ (Post.still rfl hp.base hp.lt fun L' _=>rfl))
          · intro V H L a w1 hp K hK
            have f0:V 0=.pointer (some ⟨g,0,none⟩):=hp.fact 0 rfl
            have e0:=hp.slot 0 45 rfl rfl rfl
            rw [f0] at e0
            have ek0:a.eval (.const (.int .i64 2))=.int .i64 2:=rfl
            refine step_call rfl _ _ _ rfl _ (by simp only [List.map_toArray,List.map_cons,List.map_nil,ek0,e0]) (enters_of Tryz.func23 (by kernel_rfl) rfl) (next_any g 2 w1 (by omega) (by omega) hp.base) ?_
            rintro e w' ⟨r,rfl,hr0,hr9,hd,hg⟩
            exact ⟨_,rfl,hK _ gd0 _ (Post.of rfl (turn_of hg) hd hp.lt fun L' _ _=>⟨r,rfl⟩)⟩
          · intro V H L a w1 hp K hK
            obtain ⟨r,f1⟩:∃ r:Int,V 1=.int .i64 r:=hp.fact 1 rfl
            have e1:=hp.slot 1 46 rfl rfl rfl
            rw [f1] at e1
            exact step_run rfl (run_eqInt rfl e1 rfl) (hK _ gd0 _ (Post.still rfl hp.base hp.lt fun L' _=>⟨_,rfl⟩))
          · intro V H L a w1 hp K hK
            exact step_run rfl (run_move rfl (hp.slot0 0 _ rfl rfl)) (hK _ gd0 _ (Post.still rfl hp.base hp.lt fun L' _=>rfl))
          · intro V H L a w1 hp K hK
            exact step_run rfl (run_move rfl (hp.slot0 1 _ rfl rfl)) (hK _ gd0 _ (Post.still rfl hp.base hp.lt fun L' _=>rfl))
          · intro V H L a w1 hp K hK
            exact step_run rfl (run_load2 rfl (hp.slot0 7 _ rfl rfl) (hp.blk0 KT.out.drew HNE.out)) (hK _ gd0 _ (Post.still rfl hp.base hp.lt fun L' _=>rfl))
          · intro V H L a w1 hp K hK
            have f3:V 3=.pointer (some ⟨g,0,none⟩):=hp.fact 3 rfl
            have e3:=hp.slot 3 48 rfl rfl rfl
            rw [f3] at e3
            have f4:V 4=SV:=hp.fact 4 rfl
            have e4:=hp.slot 4 49 rfl rfl rfl
            rw [f4] at e4
            have f5:V 5=(.agg #[.int .i64 1,.slice none 0 0]):=hp.fact 5 rfl
            have e5:=hp.slot 5 50 rfl rfl rfl
            rw [f5] at e5
            have hc:=Ctx.turn HCX.out hp.grown
            have h2:(1:Int).toNat=1:=rfl
            have hn:tyNat.nodes=1:=rfl
            have ek0:a.eval (.const (.int .i64 1))=.int .i64 1:=rfl
            refine step_call rfl _ _ _ rfl _ (by simp only [List.map_toArray,List.map_cons,List.map_nil,ek0,e3,e4,e5]) (enters_of Tryz.func15 (by kernel_rfl) rfl) (term_any g 100 G tyNat 1 _ _ w1 (by omega) (by omega) (by omega) (by have:=HG.out; omega) (by decide) (by decide) hc (Typ.leaf g w1 1) hp.base) ?_
            rintro e w' ⟨X,v,rfl,mX,tX,hd,ht⟩
            exact ⟨_,rfl,hK _ (X,noneFm,undef) _ (Post.of rfl ht hd hp.lt fun L' _ hn=>⟨IsTm.keep (fun b h=>⟨hn b h.1 h.2,Nat.le_trans (hp.base_le (Nat.le_of_eq HBS.out)) h.1⟩) (fun _ _=>rfl) _ tX,mX⟩)⟩
          · intro V H L a w1 hp K hK
            exact step_run rfl (run_move rfl (hp.slot0 0 _ rfl rfl)) (hK _ gd0 _ (Post.still rfl hp.base hp.lt fun L' _=>rfl))
          · intro V H L a w1 hp K hK
            exact step_run rfl (run_move rfl (hp.slot0 1 _ rfl rfl)) (hK _ gd0 _ (Post.still rfl hp.base hp.lt fun L' _=>rfl))
          · intro V H L a w1 hp K hK
            exact step_run rfl (run_load2 rfl (hp.slot0 7 _ rfl rfl) (hp.blk0 KT.out.drew HNE.out)) (hK _ gd0 _ (Post.still rfl hp.base hp.lt fun L' _=>rfl))
          · intro V H L a w1 hp K hK
            have f9:V 9=(.agg #[.int .i64 1,.slice none 0 0]):=hp.fact 9 rfl
            have e9:=hp.slot 9 54 rfl rfl rfl
            rw [f9] at e9
            exact step_run rfl (run_buildTy rfl e9) (hK _ gd0 _ (Post.built (R:=TyR) (l:=[tyNat]) (xs:=[_,_]) rfl rfl (Rep.Ch.one (R:=TyR) (vs:=[_,_]) (IsTy.leaf _ _ _)) trivial (hp.base.box _) hp.lt))
          · intro V H L a w1 hp K hK
            have f8:V 8=SV:=hp.fact 8 rfl
            have e8:=hp.slot 8 53 rfl rfl rfl
            rw [f8] at e8
            have f10:TyR.Sl (Good L w1) w1 [tyNat] (V 10)∧True:=hp.fact 10 rfl
            have e10:=hp.slot 10 55 rfl rfl rfl
            refine step_call rfl _ _ _ rfl _ (by simp only [List.map_toArray,List.map_cons,List.map_nil,e8,e10]) (enters_of Tryz.func44 (by kernel_rfl) rfl) (longer_any (Good L w1) G [tyNat] _ _ w1 (fun b h=>h.2) (by have:=HG.out; omega) (by decide) (hp.sl0 HCX.out.sl) f10.1 HCX.out.formed (by simp)) ?_
            rintro e w' ⟨v,rfl,hv,hf,hb⟩
            exact ⟨_,rfl,hK _ gd0 _ (Post.of rfl (Turn.call hb) (hp.base.call hb) hp.lt fun L' hg hn=>⟨hv.keep (fun b h=>h.1.elim (hg b) (fun h'=>hn b h' h.2)) (fun _ _=>rfl),hf⟩)⟩
          · intro V H L a w1 hp K hK
            exact step_run rfl (run_move rfl (hp.slot0 2 _ rfl rfl)) (hK _ gd0 _ (Post.still rfl hp.base hp.lt fun L' _=>rfl))
          · intro V H L a w1 hp K hK
            have f12:V 12=.int .i64 ((d' + 1:Nat):Int):=hp.fact 12 rfl
            have e12:=hp.slot 12 57 rfl rfl rfl
            rw [f12] at e12
            exact step_run rfl (run_subInt rfl e12 (show a.eval (.const (.int .i64 1))=.int .i64 1 from rfl) (k:=(d':Int)) (by omega) (by omega) (by omega)) (hK _ gd0 _ (Post.still rfl hp.base hp.lt fun L' _=>rfl))
          · intro V H L a w1 hp K hK
            have f7:V 7=.pointer (some ⟨g,0,none⟩):=hp.fact 7 rfl
            have e7:=hp.slot 7 52 rfl rfl rfl
            rw [f7] at e7
            have f11:TyR.Sl (Good L w1) w1 (G ++ [tyNat]) (V 11)∧Formed (V 11):=hp.fact 11 rfl
            have e11:=hp.slot 11 56 rfl rfl rfl
            have f13:V 13=.int .i64 (d':Int):=hp.fact 13 rfl
            have e13:=hp.slot 13 58 rfl rfl rfl
            rw [f13] at e13
            have hgd:∀ b,Good L w1 b→Good (· = g) w1 b:=fun b h=>⟨fun e=>h.1 (hp.mem b e),h.2⟩
            have hc:Ctx g w1 (G ++ [tyNat]) (V 11):=⟨f11.1.keep hgd (fun _ _=>rfl),f11.2,fun U hU=>(List.mem_append.1 hU).elim (HCX.out.ok U) (fun h=>by rw [List.mem_singleton.1 h]; exact ⟨by decide,by decide⟩)⟩
            refine step_call rfl _ _ _ rfl _ (by simp only [List.map_toArray,List.map_cons,List.map_nil,e7,e11,e13]) (enters_of Tryz.func24 (by kernel_rfl) rfl) (IH.out (G ++ [tyNat]) _ w1 (by have:=HG.out; simp only [List.length_append,List.length_cons,List.length_nil]; omega) hc hp.base) ?_
            rintro e w' ⟨f,v,rfl,mf,tf,hd,ht⟩
            exact ⟨_,rfl,hK _ (noneTm,f,undef) _ (Post.of rfl ht hd hp.lt fun L' _ hn=>⟨IsFm.keep (fun b h=>⟨hn b h.1 h.2,Nat.le_trans (hp.base_le (Nat.le_of_eq HBS.out)) h.1⟩) (fun _ _=>rfl) _ tf,mf⟩)⟩
          · intro V H L a w1 hp K hK
            obtain ⟨all,f2⟩:∃ b:Bool,V 2=.bool b:=hp.fact 2 rfl
            have e2:=hp.slot 2 47 rfl rfl rfl
            rw [f2] at e2
            have f6:IsTm (fun b=>Good L w1 b∧base≤b) w1 (H 6).1 (V 6)∧Made G tyNat 24 3 (H 6).1:=hp.fact 6 rfl
            have e6:=hp.slot 6 51 rfl rfl rfl
            have f14:IsFm (fun b=>Good L w1 b∧base≤b) w1 (H 14).2.1 (V 14)∧MadeD d' (G ++ [tyNat]) (H 14).2.1:=hp.fact 14 rfl
            have e14:=hp.slot 14 59 rfl rfl rfl
            have hl:(G ++ [tyNat]).length+d'≤900:=by have:=HG.out; simp only [List.length_append,List.length_cons,List.length_nil]; omega
            have hlow:=low_mono (show (1000000:Int)≤536870912 by omega) _ (made_low6 f6.2 (by have:=HG.out; omega) (by omega))
            have hsz:=f6.2.size
            have hbk:=f6.2.thin
            have hs2:=f14.2.size_in (by omega)
            have hb2:=f14.2.bulk_le (by omega)
            refine step_call rfl _ _ _ rfl _ (by simp only [List.map_toArray,List.map_cons,List.map_nil,e2,e6,e14]) (enters_of Tryz.func73 (by kernel_rfl) rfl) (bounded5_any all (H 6).1 (H 14).2.1 _ _ w1 ⟨f6.2.ok,by omega,by omega,hlow⟩ ⟨(f14.2.fine hl).good,by have:=f14.2.size_le; have h5:2 ^ d'≤2 ^ 4:=Nat.pow_le_pow_right (by omega) (by omega); omega,by omega⟩ (IsTm.keep (fun b h=>h.1.2) (fun _ _=>rfl) _ f6.1) (IsFm.keep (fun b h=>h.1.2) (fun _ _=>rfl) _ f14.1)) ?_
            rintro e w' ⟨y,rfl,hy,hb⟩
            exact ⟨_,rfl,hK _ (noneTm,boundFm all (H 6).1 (H 14).2.1,y) _ (Post.of rfl (Turn.call hb) (hp.base.call hb) hp.lt fun L' _ hn=>⟨IsFm.keep (fun b h=>⟨hn b h.1 h.2,Nat.le_trans (hp.base_le (Nat.le_of_eq HBS.out)) h.1⟩) (fun _ _=>rfl) _ hy,rfl,.bnd d' G all _ _ f6.2 f14.2⟩)⟩
          · intro V H L a w1 hp K hK
            have f15:IsFm (fun b=>Good L w1 b∧base≤b) w1 (H 15).2.1 (H 15).2.2∧V 15=.tuple #[(H 15).2.2,.int .i64 0]∧MadeD (d' + 1) G (H 15).2.1:=hp.fact 15 rfl
            have e15:=hp.slot 15 60 rfl rfl rfl
            rw [f15.2.1] at e15
            exact step_run rfl (run_move rfl e15) (hK _ gd0 _ (Post.still rfl hp.base hp.lt fun L' _=>rfl))
          · intro V H L a w1 hp K hK
            have f15:IsFm (fun b=>Good L w1 b∧base≤b) w1 (H 15).2.1 (H 15).2.2∧V 15=.tuple #[(H 15).2.2,.int .i64 0]∧MadeD (d' + 1) G (H 15).2.1:=hp.fact 15 rfl
            have f16:V 16=.tuple #[(H 15).2.2,.int .i64 0]:=hp.fact 16 rfl
            have e16:=hp.slot 16 44 rfl rfl rfl
            rw [f16] at e16
            exact step_run rfl (run_extract rfl e16 rfl) (hK _ gd0 _ (Post.still rfl hp.base hp.lt fun L' hg=>⟨IsFm.keep (fun b h=>⟨hg b h.1,h.2⟩) (fun _ _=>rfl) _ f15.1,trivial⟩))
          · intro V H L a w1 hp K hK
            have f16:V 16=.tuple #[(H 15).2.2,.int .i64 0]:=hp.fact 16 rfl
            have e16:=hp.slot 16 44 rfl rfl rfl
            rw [f16] at e16
            exact step_run rfl (run_extract rfl e16 rfl) (hK _ gd0 _ (Post.still rfl hp.base hp.lt fun L' hg=>rfl))
          · intro V H L a w1 hp K hK
            exact step_run rfl (run_allocF rfl) (hK _ gd0 _ (Post.made rfl (hp.base.box _)))
          · intro V H L a w1 hp K hK
            have f17:IsFm (fun b=>Good L w1 b∧base≤b) w1 (H 15).2.1 (V 17)∧True:=hp.fact 17 rfl
            obtain ⟨b,hv,hk⟩:∃ b,V 19=.pointer (some ⟨b,0,none⟩)∧Blk w1 b _ _:=hp.fact 19 rfl
            have e0:=hp.slot 19 8 rfl rfl rfl
            have e1:=hp.slot 17 61 rfl rfl rfl
            have hbg:=(hp.own 19 b rfl (by show ptrBlk (V 19)=_; rw [hv]; rfl)).2
            obtain ⟨B9,d9,C9,e9,A9,c9,h9,_⟩:=f17.1.form
            rw [hv] at e0
            rw [h9] at e1
            refine step_skip' rfl (run_storeF rfl e0 e1 rfl rfl rfl rfl rfl hk) (hK _ gd0 _ (Post.filled (j:=19) rfl rfl (by show ptrBlk (V 19)=_; rw [hv]; rfl) ?_ hk (hp.base.grown (only_set5 w1 b _ _ _ _ _) (fun k e=>by cases e; have:=HGZ.out; have h8:g<wx.drew.heap.size:=HGZ.out; omega))))
            show RFact.boxv _ (V 17) (V 19)=_
            rw [hv,h9]
          · intro V H L a w1 hp K hK
            have f18:V 18=.int .i64 0:=hp.fact 18 rfl
            have e18:=hp.slot 18 62 rfl rfl rfl
            rw [f18] at e18
            exact step_run rfl (run_assign rfl e18) (hK _ gd0 _ (Post.still rfl hp.base hp.lt fun L' hg=>rfl))
          · intro V H w8 L hg hD hf hL hd
            obtain ⟨f17,_⟩:IsFm (fun b=>Good L w8 b∧base≤b) w8 (H 15).2.1 (V 17)∧True:=(hf 17 (by decide) rfl).1
            obtain ⟨_,_,m15⟩:IsFm (fun b=>Good L w8 b∧base≤b) w8 (H 15).2.1 (H 15).2.2∧V 15=.tuple #[(H 15).2.2,.int .i64 0]∧MadeD (d' + 1) G (H 15).2.1:=(hf 15 (by decide) rfl).1
            obtain ⟨D,c,hc,hv,hk⟩:∃ b c,V 17=.agg c∧V 19=.pointer (some ⟨b,0,none⟩)∧Blk w8 b _ c:=(hf 20 (by decide) rfl).1
            have f21:V 21=.int .i64 0:=(hf 21 (by decide) rfl).1
            obtain ⟨F,hF⟩:∃ F,F=(H 15).2.1:=⟨_,rfl⟩
            rw [← hF] at f17 m15
            obtain ⟨B4,d4,C4,e4,A4,c4,h4,_⟩:=f17.form
            rw [h4] at hc f17
            cases hc
            have TF:=Lib.hid (show IsFm (fun b=>base≤b∧b<w8.heap.size) w8 F _ from IsFm.keep (fun b h=>⟨h.2,h.1.2⟩) (fun _ _=>rfl) _ f17)
            have MF:=Lib.hid m15
            have KD:=Lib.hid hk
            have DD:=Lib.hid hD
            have TT:=Lib.hid (show Turn (· = g) W w8 from HTX.out.trans ((tDr g wx).trans hg))
            have KR8:=Lib.hid (hg.blk KR.out.drew (fun e=>by have e':w.heap.size=g:=e; omega))
            simp only [putFrom,dstOf,Act.put,List.size_toArray,List.length_cons,List.length_nil,Nat.zero_add,Nat.reduceAdd,List.getElem?_toArray,List.getElem?_cons_zero,List.getElem?_cons_succ,List.setIfInBounds_toArray,List.set_cons_zero,List.set_cons_succ,hv,f21]
            clear hg hD hf hL hd f17 m15 hk hF h4 hv f21
            generalize V 0=v0
            generalize V 1=v1
            generalize V 2=v2
            generalize V 3=v3
            generalize V 4=v4
            generalize V 5=v5
            generalize V 6=v6
            generalize V 7=v7
            generalize V 8=v8
            generalize V 9=v9
            generalize V 10=v10
            generalize V 11=v11
            generalize V 12=v12
            generalize V 13=v13
            generalize V 14=v14
            generalize V 15=v15
            generalize V 16=v16
            generalize V 18=v18
            obtain ⟨p0,p1,p2,p3,p4,_⟩:=KD.out.facts5
            obtain ⟨_,_,_,_,_,x0,x1,x2,x3,x4⟩:=KR8.out.facts5
            go_wp2_with fail
            obtain ⟨z0,z1,z2,z3,z4⟩:=(KR8.out.set5 (.int .i64 F.kind) (.int .i64 F.type.kind) (.slice B4 F.type.args.length d4) (.slice C4 F.terms.length e4) (.slice A4 F.args.length c4)).cells5
            refine bodyPost_ret (v:=.agg #[.int .i64 F.kind,.int .i64 F.type.kind,.slice B4 F.type.args.length d4,.slice C4 F.terms.length e4,.slice A4 F.args.length c4]) (by simp [results,Tryz.results24,go_sem,z0,z1,z2,z3,z4]) rfl ?_
            exact dec_end (lo:=base) rfl hgw HW.out.1 HW.out.2 TT.out DD.out MF.out (by have h1:=HBS.out; have h2:=HTX.out.size; have h3:=HW.out.2; omega) TF.out
      · rcases hr with rfl | rfl
        all_goals
          go_wp2_with fail
          go_meet
          exact ⟨H1.out.1,H1.out.2⟩
  case rest=>
    obtain ⟨hd4,ht4⟩:=hcut
    rename World=>wx
    obtain ⟨base,hbase⟩:∃ n,n=wx.heap.size:=⟨_,rfl⟩
    have HBS:=Lib.hid hbase
    have KT:=Lib.hid (show Blk wx _ 30 #[.int .i64 1,.slice none 0 0] from ht4.blk KTX.out (fun e=>HNX.out e))
    have KR:=Lib.hid (show Blk wx w.heap.size 34 #[.int .i64 0,.int .i64 0,.slice none 0 0,.slice none 0 0,.slice none 0 0] from ht4.blk KRX.out (fun e=>by have e':w.heap.size=g:=e; omega))
    have HNE:=HNX
    have HCX:=Lib.hid (show Ctx g wx.drew G SV from (Ctx.turn HC.out ht4).turn (tDr g wx))
    have HDX:=Lib.hid (show Deck wx.drew g from hd4.drewd)
    have HGZ:=Lib.hid (show g<wx.drew.heap.size from HDX.out.lt)
    have HTX:=Lib.hid (show Turn (· = g) W wx from H0.out.2.trans ht4)
    clear hd4 ht4 hbase
    go_upto_region 13 with fail
    refine wp_region_any (by kernel_rfl) ?_
    change wpAny _ _ _ _ _ _ _ (World.drew _)
    refine wpAny_last (by kernel_rfl) (by kernel_rfl) gd0 d13A (by kernel_rfl) (fun _=>none) (d13F g base G SV) 9 rfl (by kernel_rfl) _ rfl (· = g) (· = g) (fun w=>Deck w g) _ _ (fun b h=>by have h':b=g:=h; rw [h']; exact HGZ.out) (fun _ h=>h) HDX.out ⟨?_,?_,?_,?_,?_,?_,?_,?_,?_,trivial⟩ ?_
    · intro V H L a w1 hp K hK
      exact step_run rfl (run_move rfl (hp.slot0 0 _ rfl rfl)) (hK _ gd0 _ (Post.still rfl hp.base hp.lt fun L' _=>rfl))
    · intro V H L a w1 hp K hK
      exact step_run rfl (run_move rfl (hp.slot0 1 _ rfl rfl)) (hK _ gd0 _ (Post.still rfl hp.base hp.lt fun L' _=>rfl))
    · intro V H L a w1 hp K hK
      exact step_run rfl (run_load2 rfl (hp.slot0 7 _ rfl rfl) (hp.blk0 KT.out.drew HNE.out)) (hK _ gd0 _ (Post.still rfl hp.base hp.lt fun L' _=>rfl))
    · intro V H L a w1 hp K hK
      have f0:V 0=.pointer (some ⟨g,0,none⟩):=hp.fact 0 rfl
      have e0:=hp.slot 0 66 rfl rfl rfl
      rw [f0] at e0
      have f1:V 1=SV:=hp.fact 1 rfl
      have e1:=hp.slot 1 67 rfl rfl rfl
      rw [f1] at e1
      have f2:V 2=(.agg #[.int .i64 1,.slice none 0 0]):=hp.fact 2 rfl
      have e2:=hp.slot 2 68 rfl rfl rfl
      rw [f2] at e2
      have hc:=Ctx.turn HCX.out hp.grown
      have h2:(1:Int).toNat=1:=rfl
      have hn:tyNat.nodes=1:=rfl
      have ek0:a.eval (.const (.int .i64 1))=.int .i64 1:=rfl
      refine step_call rfl _ _ _ rfl _ (by simp only [List.map_toArray,List.map_cons,List.map_nil,ek0,e0,e1,e2]) (enters_of Tryz.func15 (by kernel_rfl) rfl) (term_any g 100 G tyNat 1 _ _ w1 (by omega) (by omega) (by omega) (by have:=HG.out; omega) (by decide) (by decide) hc (Typ.leaf g w1 1) hp.base) ?_
      rintro e w' ⟨X,v,rfl,mX,tX,hd,ht⟩
      exact ⟨_,rfl,hK _ (X,noneFm,undef) _ (Post.of rfl ht hd hp.lt fun L' _ hn=>⟨IsTm.keep (fun b h=>⟨hn b h.1 h.2,Nat.le_trans (hp.base_le (Nat.le_of_eq HBS.out)) h.1⟩) (fun _ _=>rfl) _ tX,mX⟩)⟩
    · intro V H L a w1 hp K hK
      exact step_run rfl (run_move rfl (hp.slot0 0 _ rfl rfl)) (hK _ gd0 _ (Post.still rfl hp.base hp.lt fun L' _=>rfl))
    · intro V H L a w1 hp K hK
      exact step_run rfl (run_move rfl (hp.slot0 1 _ rfl rfl)) (hK _ gd0 _ (Post.still rfl hp.base hp.lt fun L' _=>rfl))
    · intro V H L a w1 hp K hK
      exact step_run rfl (run_load2 rfl (hp.slot0 7 _ rfl rfl) (hp.blk0 KT.out.drew HNE.out)) (hK _ gd0 _ (Post.still rfl hp.base hp.lt fun L' _=>rfl))
    · intro V H L a w1 hp K hK
      have f4:V 4=.pointer (some ⟨g,0,none⟩):=hp.fact 4 rfl
      have e4:=hp.slot 4 70 rfl rfl rfl
      rw [f4] at e4
      have f5:V 5=SV:=hp.fact 5 rfl
      have e5:=hp.slot 5 71 rfl rfl rfl
      rw [f5] at e5
      have f6:V 6=(.agg #[.int .i64 1,.slice none 0 0]):=hp.fact 6 rfl
      have e6:=hp.slot 6 72 rfl rfl rfl
      rw [f6] at e6
      have hc:=Ctx.turn HCX.out hp.grown
      have h2:(1:Int).toNat=1:=rfl
      have hn:tyNat.nodes=1:=rfl
      have ek0:a.eval (.const (.int .i64 1))=.int .i64 1:=rfl
      refine step_call rfl _ _ _ rfl _ (by simp only [List.map_toArray,List.map_cons,List.map_nil,ek0,e4,e5,e6]) (enters_of Tryz.func15 (by kernel_rfl) rfl) (term_any g 100 G tyNat 1 _ _ w1 (by omega) (by omega) (by omega) (by have:=HG.out; omega) (by decide) (by decide) hc (Typ.leaf g w1 1) hp.base) ?_
      rintro e w' ⟨X,v,rfl,mX,tX,hd,ht⟩
      exact ⟨_,rfl,hK _ (X,noneFm,undef) _ (Post.of rfl ht hd hp.lt fun L' _ hn=>⟨IsTm.keep (fun b h=>⟨hn b h.1 h.2,Nat.le_trans (hp.base_le (Nat.le_of_eq HBS.out)) h.1⟩) (fun _ _=>rfl) _ tX,mX⟩)⟩
    · intro V H L a w1 hp K hK
      have f3:IsTm (fun b=>Good L w1 b∧base≤b) w1 (H 3).1 (V 3)∧Made G tyNat 24 3 (H 3).1:=hp.fact 3 rfl
      have f7:IsTm (fun b=>Good L w1 b∧base≤b) w1 (H 7).1 (V 7)∧Made G tyNat 24 3 (H 7).1:=hp.fact 7 rfl
      have e3:=hp.slot 3 69 rfl rfl rfl
      have e7:=hp.slot 7 73 rfl rfl rfl
      have h3:=f3.2.bulk_le (by omega)
      have h7:=f7.2.bulk_le (by omega)
      refine step_call rfl _ _ _ rfl _ (by simp only [List.map_toArray,List.map_cons,List.map_nil,e3,e7]) (enters_of Tryz.func45 (by kernel_rfl) rfl) (eqF_any (H 3).1 (H 7).1 _ _ w1 (by omega) (by omega) (IsTm.keep (fun _ h=>h.1.2) (fun _ _=>rfl) _ f3.1) (IsTm.keep (fun _ h=>h.1.2) (fun _ _=>rfl) _ f7.1)) ?_
      rintro e w' ⟨v,rfl,hy,hb⟩
      exact ⟨_,rfl,hK _ gd0 _ (Post.of rfl (Turn.call hb) (hp.base.call hb) hp.lt fun L' _ hn=>⟨IsFm.keep (fun b h=>⟨hn b h.1 h.2,Nat.le_trans (hp.base_le (Nat.le_of_eq HBS.out)) h.1⟩) (fun _ _=>rfl) _ hy,f3.2,f7.2⟩)⟩
    · intro V H L a w8 hp ha K hK
      obtain ⟨f8,m3,m7⟩:IsFm (fun b=>Good L w8 b∧base≤b) w8 (.mk 1 .zero [(H 3).1,(H 7).1] []) (V 8)∧Made G tyNat 24 3 (H 3).1∧Made G tyNat 24 3 (H 7).1:=hp.fact 8 rfl
      have mF:MadeD d G (.mk 1 .zero [(H 3).1,(H 7).1] []):=.eq d G _ _ m3 m7
      obtain ⟨F,hF⟩:∃ F:Fm,F=.mk 1 .zero [(H 3).1,(H 7).1] []:=⟨_,rfl⟩
      rw [← hF] at f8 mF
      have e8:=hp.slot 8 74 rfl rfl rfl
      have e6:=hp.slot0 6 (.pointer (some ⟨w.heap.size,0,none⟩)) rfl rfl
      have hk:=hp.blk0 KR.out.drew (fun e=>by have e':w.heap.size=g:=e; omega)
      have hg:=hp.grown
      have hD:=hp.base
      obtain ⟨B4,d4,C4,e4,A4,c4,h4,_⟩:=f8.form
      rw [h4] at e8 f8
      refine step_skip' rfl (run_storeF rfl e6 e8 rfl rfl rfl rfl rfl hk) (hK _ _ ?_)
      rw [ha]
      simp only [putFrom,dstOf,Act.put,List.getElem?_toArray,List.getElem?_cons_zero,List.getElem?_cons_succ,List.setIfInBounds_toArray,List.set_cons_zero,List.set_cons_succ,h4]
      have TF:=Lib.hid (show IsFm (fun b=>base≤b∧b<w8.heap.size) w8 F _ from IsFm.keep (fun b h=>⟨h.2,h.1.2⟩) (fun _ _=>rfl) _ f8)
      have MF:=Lib.hid mF
      have DD:=Lib.hid hD
      have TT:=Lib.hid (show Turn (· = g) W w8 from HTX.out.trans ((tDr g wx).trans hg))
      have KR8:=Lib.hid hk
      clear hp ha hK f8 m3 m7 mF hF e8 e6 hk hg hD h4
      generalize V 0=v0
      generalize V 1=v1
      generalize V 2=v2
      generalize V 3=v3
      generalize V 4=v4
      generalize V 5=v5
      generalize V 6=v6
      generalize V 7=v7
      go_wp2_with fail
      obtain ⟨z0,z1,z2,z3,z4⟩:=(KR8.out.set5 (.int .i64 F.kind) (.int .i64 F.type.kind) (.slice B4 F.type.args.length d4) (.slice C4 F.terms.length e4) (.slice A4 F.args.length c4)).cells5
      refine bodyPost_ret (v:=.agg #[.int .i64 F.kind,.int .i64 F.type.kind,.slice B4 F.type.args.length d4,.slice C4 F.terms.length e4,.slice A4 F.args.length c4]) (by simp [results,Tryz.results24,go_sem,z0,z1,z2,z3,z4]) rfl ?_
      exact dec_end (lo:=base) rfl hgw HW.out.1 HW.out.2 TT.out DD.out MF.out (by have h1:=HBS.out; have h2:=HTX.out.size; have h3:=HW.out.2; omega) TF.out
theorem decidable_any (g:Nat):∀ d:Nat,d≤5→IHD g d:=by
  intro d
  induction d with
  | zero=>exact fun h=>dec_step g 0 h (fun d' h=>by omega)
  | succ d ih=>
    intro h
    refine dec_step g (d+1) h fun d' h'=>?_
    obtain rfl:d' = d:=by omega
    exact ih (by omega)
end Go.Proofs.YthlknhkemmdocaaGreatDoor
namespace Go.Proofs.YthlknhkemmdocaaGreatDoor
open Go.RowKit

def allsF:List Ty→Fm→Fm
  | [],f=>f
  | T :: r,f=>.mk 4 T [] [allsF r f]
theorem univ_alls {f:Fm} (hf:f.kind≠4):∀ (G:List Ty) {L:List Ty} {g:Fm},Univ (allsF G f) L g→L=G∧g=f
  | [],L,g,h=>by
    cases h with
    | done g h=>exact ⟨rfl,rfl⟩
    | all T ts b L g h=>exact absurd rfl hf
  | T :: r,L,g,h=>by
    unfold allsF at h
    cases h with
    | done g h=>exact absurd rfl h
    | all T ts b L g h=>
      obtain ⟨h1,h2⟩:=univ_alls hf r h
      exact ⟨by rw [h1],h2⟩
theorem univ_none {f g:Fm} {L:List Ty} (hf:f.kind≠4) (h:Univ f L g):L=[]∧g=f:=univ_alls hf [] h
theorem alls_fine {f:Fm} (hf:FineF f):∀ G:List Ty,(∀ U ∈ G,U.ok=true∧U.nodes≤3)→FineF (allsF G f)
  | [],_=>hf
  | T :: r,h=>.quant 4 T _ (.inl rfl) (err_zero.2 ⟨(h T (by simp)).1,by have:=(h T (by simp)).2; omega⟩) (alls_fine hf r fun U hU=>h U (by simp [hU]))
theorem alls_bulk {f:Fm}:∀ G:List Ty,(∀ U ∈ G,U.ok=true∧U.nodes≤3)→(allsF G f).bulk≤f.bulk+4 * G.length
  | [],_=>by simp [allsF]
  | T :: r,h=>by
    have h1:=alls_bulk (f:=f) r fun U hU=>h U (by simp [hU])
    have h2:=(h T (by simp)).2
    simp only [allsF,Fm.bulk,bulkAll,bulkAllF,List.length_cons]
    omega
theorem alls_step (G:List Ty) (f:Fm) (j:Nat) (h:j<G.length):Fm.mk 4 G[j] [] [allsF (G.drop (j+1)) f]=allsF (G.drop j) f:=by
  rw [List.drop_eq_getElem_cons h]; rfl
section
variable {ops : Array Oper} {o : Oper} {a : Act} {w : World}
theorem run_indexTy {x y:Operand} (ho:o.op=.indexAddr 27 x y) {q:Addr} {n c k:Nat} (hx:a.eval x=.slice (some q) n c) (hy:a.eval y=.int .i64 (k:Int)) (hk:k<n):(execOp a.eval o).run Tryz.prog w=.ok (.value (.pointer (some (q.add (k * 2))))) w:=by
  have h0:(k:Int)<(n:Int):=by omega
  simp only [execOp,ho,hx,hy]
  go_simp
theorem run_loadTyAt {x:Operand} (ho:o.op=.load 30 x) {q:Addr} {x0 x1:Value} (hx:a.eval x=.pointer (some q)) (c0:w.cell? q=some x0) (c1:w.cell? ⟨q.block,q.off+1,none⟩ = some x1):(execOp a.eval o).run Tryz.prog w=.ok (.value (.agg #[x0,x1])) w:=by
  simp only [execOp,ho,hx]
  go_simp
end
end Go.Proofs.YthlknhkemmdocaaGreatDoor
