/- A region that draws its order, walked by an invariant: one goal for each operation, none for an order. -/
import Derived.Test.YtipfnkajdooiiaaGreatDoorQSeq
import Derived.RegionTactic
import Derived.Test.YtipfnkajdooiiaaGreatDoorQTerm
import Derived.Test.YtipfnkajdooiiaaGreatDoorQStepCall
import Derived.Test.YtipfnkajdooiiaaGreatDoorQCopyT
namespace Go.Proofs.YtipfnkajdooiiaaGreatDoor
section
variable {P : Program} {ops : Array Oper} {Q : Exit → Act → World → Prop}

/-- The edges of a region lead back. -/
def backs (ops:Array Oper):Bool:=(List.range ops.size).all fun i=>match ops[i]? with | some o=>o.after.all (fun e=>!Region.binds .any e || decide (e.on<i)) | none=>true
/-- How many have not come up. -/
def leftOf (listed:Array Bool):Nat:=listed.toList.countP (fun b=>!b)

theorem getD_listed {listed:Array Bool} {i:Nat} (h:i<listed.size) (d:Bool):listed.getD i d=listed[i]:=by simp [Array.getD,h]
theorem leftOf_set {listed:Array Bool} {i:Nat} (hi:i<listed.size) (h:listed.getD i false=false):leftOf (listed.setIfInBounds i true)+1=leftOf listed:=by
 rw [getD_listed hi] at h
 unfold leftOf
 rw [Array.toList_setIfInBounds,List.countP_set (by simpa using hi)]
 have h1:0<listed.toList.countP (fun b=>!b):=List.countP_pos_iff.2 ⟨false,by rw [← h]; simp,rfl⟩
 simp only [Array.getElem_toList,h,Bool.not_false,if_true,Bool.not_true,Bool.false_eq_true,if_false,Nat.add_zero]
 omega
theorem leftOf_zero {listed:Array Bool} (h:leftOf listed=0) (i:Nat) (hi:i<listed.size):listed.getD i false=true:=by
 rw [getD_listed hi]
 unfold leftOf at h
 rw [List.countP_eq_zero] at h
 have:=h listed[i] (by simp)
 simpa using this

theorem ready_nil {listed:Array Bool} (hb:backs ops=true) (hs:listed.size=ops.size) (h:Region.ready .any ops listed=[]):∀ i,i<ops.size→listed.getD i false=true:=by
 intro i
 induction i using Nat.strongRecOn with
 | _ i ih=>
   intro hi
   have hi':i<listed.size:=by omega
   cases hl:listed.getD i false with
   | true=>rfl
   | false=>
     exfalso
     have hr:i ∈ Region.ready .any ops listed:=by
       rw [mem_ready]
       refine ⟨?_,ops[i],by simp [hi],fun e he hbi=>?_⟩
       · rw [getD_listed hi'] at hl ⊢; exact hl
       · have h1:=List.all_eq_true.1 hb i (List.mem_range.2 hi)
         simp only [Array.getElem?_eq_getElem hi] at h1
         have h2:=Array.all_eq_true_iff_forall_mem.1 h1 e he
         simp only [hbi,Bool.not_true,Bool.false_or,decide_eq_true_eq] at h2
         exact ih e.on h2 (by omega)
     rw [h] at hr
     cases hr

/-- THE RULE: what holds at the beginning and is kept by each operation whenever it may come up, holds behind the region. -/
theorem wpAny_inv (hb:backs ops=true) (I:Array Bool→Act→World→Prop)
   (step:∀ (listed:Array Bool) (a:Act) (w:World) (i:Nat) (o:Oper),listed.size=ops.size→ops[i]? = some o→listed.getD i false=false →
     (∀ e ∈ o.after,Region.binds .any e=true→listed.getD e.on false=true)→I listed a w →
     ∀ K:Act→World→Prop,(∀ a' w',I (listed.setIfInBounds i true) a' w'→K a' w')→if Region.wanted o (yielded ops a.tmps)=true then Oper.wp P o a w K Q else K (a.put o.dst undef) w)
   (fin:∀ listed a w,(∀ i,i<ops.size→listed.getD i false=true)→I listed a w→Q .normal a w) :
   ∀ (fuel:Nat) (listed:Array Bool) (a:Act) (w:World),listed.size=ops.size→leftOf listed≤fuel→I listed a w→wpAny P .any ops Q fuel listed a w:=by
 intro fuel
 induction fuel with
 | zero=>
   intro listed a w hs hl hI
   have hall:=leftOf_zero (Nat.le_zero.1 hl)
   refine ⟨?_,fin _ _ _ (fun i hi=>hall i (by omega)) hI⟩
   cases hr:Region.ready .any ops listed with
   | nil=>rfl
   | cons j r=>
     exfalso
     have hj:j ∈ Region.ready .any ops listed:=by rw [hr]; simp
     obtain ⟨h0,o,ho,_⟩:=mem_ready.1 hj
     have hj2:j<ops.size:=(Array.getElem?_eq_some_iff.1 ho).1
     have:=hall j (by omega)
     rw [getD_listed (by omega)] at this h0
     rw [this] at h0
     cases h0
 | succ fuel ih=>
   intro listed a w hs hl hI
   refine ⟨fun h=>fin _ _ _ (ready_nil hb hs h) hI,fun i hi=>?_⟩
   obtain ⟨h0,o,ho,hall⟩:=mem_ready.1 hi
   have hi2:i<ops.size:=(Array.getElem?_eq_some_iff.1 ho).1
   have h0':listed.getD i false=false:=by rw [getD_listed (by omega)] at h0 ⊢; exact h0
   have:=leftOf_set (by omega) h0'
   exact wpOp_step ho fun K' hK=>step listed a w i o hs ho h0' hall hI K' fun a' w' hI'=>hK _ _ (ih _ _ _ (by simpa using hs) (by omega) hI')

/-! ### The frame -/
def upd {α:Type} (V:Nat→α) (i:Nat) (v:α):Nat→α:=fun j=>if j=i then v else V j

def dstOf (ops:Array Oper) (i:Nat):Option Tmp:=match ops[i]? with | some o=>o.dst | none=>none
theorem dstOf_some {i:Nat} {o:Oper} (h:ops[i]? = some o):dstOf ops i=o.dst:=by unfold dstOf; rw [h]
theorem dstOf_lt {k d:Nat} (hk:dstOf ops k=some d):k<ops.size:=by
 unfold dstOf at hk
 cases h0:ops[k]? with
 | none=>rw [h0] at hk; cases hk
 | some o=>exact (Array.getElem?_eq_some_iff.1 h0).1
/-- No two operations write one temporary. -/
def dstsApart (ops:Array Oper):Bool:=(List.range ops.size).all fun i=>(List.range i).all fun j=>match dstOf ops i,dstOf ops j with | some d,some e=>d != e | _,_=>true

structure FrameOf (ops:Array Oper) (a0:Act) (listed:Nat→Bool) (V:Nat→Value) (a:Act):Prop where
 defers:a.defers=a0.defers
 size:a.tmps.size=a0.tmps.size
 of:∀ i d,dstOf ops i=some d→listed i=true→d<a0.tmps.size→a.tmps[d]? = some (V i)
 old:∀ d,(∀ i,dstOf ops i=some d→listed i=false)→a.tmps[d]? = a0.tmps[d]?

theorem dsts_ne (h:dstsApart ops=true) {i j d:Nat} (hi:dstOf ops i=some d) (hj:dstOf ops j=some d):i=j:=by
 have key:∀ i j,dstOf ops i=some d→dstOf ops j=some d→j<i→False:=fun i j hi hj hlt'=>by
   have h1:=List.all_eq_true.1 (List.all_eq_true.1 h i (List.mem_range.2 (dstOf_lt hi))) j (List.mem_range.2 hlt')
   rw [hi,hj] at h1
   simp at h1
 rcases Nat.lt_trichotomy i j with h1 | h1 | h1
 · exact (key j i hj hi h1).elim
 · exact h1
 · exact (key i j hi hj h1).elim

theorem FrameOf.refl (a0:Act) (V:Nat→Value):FrameOf ops a0 (fun _=>false) V a0:=⟨rfl,rfl,fun _ _ _ h=>(by cases h),fun _ _=>rfl⟩

theorem FrameOf.put (ha:dstsApart ops=true) {a0 a:Act} {listed listed':Nat→Bool} {V:Nat→Value} (h:FrameOf ops a0 listed V a) {i:Nat} {o:Oper} (ho:ops[i]? = some o) (hl:∀ j,listed' j=(listed j || j == i)) (v:Value) :
   FrameOf ops a0 listed' (upd V i v) (a.put o.dst v):=by
 cases hd:o.dst with
 | none=>
   have e:a.put none v=a:=rfl
   rw [e]
   refine ⟨h.defers,h.size,fun j d hj hlj hdj=>?_,fun d hn=>h.old d fun j hj=>?_⟩
   · have hji:j≠i:=fun e=>by subst e; rw [dstOf_some ho,hd] at hj; cases hj
     have:listed j=true:=by have:=hl j; simp [hlj,hji] at this; exact this
     simp only [upd,if_neg hji]
     exact h.of j d hj this hdj
   · have:=hn j hj; have h2:=hl j; rw [this] at h2; simp at h2; exact h2.1
 | some d0=>
   have hi:dstOf ops i=some d0:=by rw [dstOf_some ho]; exact hd
   refine ⟨h.defers,by simpa [Act.put] using h.size,fun j d hj hlj hdj=>?_,fun d hn=>?_⟩
   · by_cases hji:j=i
     · subst hji
       rw [hi] at hj
       cases hj
       simp [Act.put,upd,h.size,hdj]
     · have hne:d0≠d:=fun e=>hji (dsts_ne ha hj (e ▸ hi))
       have:listed j=true:=by have:=hl j; simp [hlj,hji] at this; exact this
       simp only [upd,if_neg hji,Act.put]
       rw [Array.getElem?_setIfInBounds_ne hne]
       exact h.of j d hj this hdj
   · have hne:d0≠d:=fun e=>by subst e; have:=hn i hi; rw [hl] at this; simp at this
     simp only [Act.put]
     rw [Array.getElem?_setIfInBounds_ne hne]
     exact h.old d fun j hj=>by have:=hn j hj; have h2:=hl j; rw [this] at h2; simp at h2; exact h2.1

/-- All are put, in the order of the text. -/
def putFrom (ops:Array Oper) (V:Nat→Value):Nat→Act→Act
 | 0,a=>a
 | n+1,a=>(putFrom ops V n a).put (dstOf ops n) (V n)

theorem upd_self {α:Type} (V:Nat→α) (i:Nat):upd V i (V i)=V:=by
 funext j; unfold upd; split
 · rename_i e; rw [e]
 · rfl
theorem putFrom_frame (ha:dstsApart ops=true) (a0:Act) (V:Nat→Value):∀ n,n≤ops.size→FrameOf ops a0 (fun j=>decide (j<n)) V (putFrom ops V n a0)
 | 0,_=>by simpa [putFrom] using FrameOf.refl a0 V
 | n+1,hn=>by
   have ih:=putFrom_frame ha a0 V n (by omega)
   have hlt:n<ops.size:=by omega
   have h1:=ih.put ha (i:=n) (o:=ops[n]) (by simp [hlt]) (listed':=fun j=>decide (j<n+1)) (fun j=>by
     by_cases h1:j<n
     · have:j<n+1:=by omega
       simp [h1,this]
     · by_cases h2:j=n
       · simp [h2]
       · have:¬ j<n+1:=by omega
         simp [h1,h2,this]) (V n)
   rw [upd_self] at h1
   have e:putFrom ops V (n+1) a0=(putFrom ops V n a0).put ops[n].dst (V n):=by
     rw [putFrom,dstOf_some (Array.getElem?_eq_getElem hlt)]
   rw [e]
   exact h1

theorem FrameOf.all (ha:dstsApart ops=true) {a0 a:Act} {listed:Nat→Bool} {V:Nat→Value} (h:FrameOf ops a0 listed V a) (hl:∀ i,i<ops.size→listed i=true):a=putFrom ops V ops.size a0:=by
 have h2:=putFrom_frame ha a0 V ops.size (Nat.le_refl _)
 have e:a.tmps=(putFrom ops V ops.size a0).tmps:=by
   apply Array.ext_getElem?
   intro d
   by_cases hd:∃ i,dstOf ops i=some d
   · obtain ⟨i,hi⟩:=hd
     have hlt:i<ops.size:=dstOf_lt hi
     by_cases hd2:d<a0.tmps.size
     · rw [h.of i d hi (hl i hlt) hd2,h2.of i d hi (by simpa using hlt) hd2]
     · rw [Array.getElem?_eq_none (by rw [h.size]; omega),Array.getElem?_eq_none (by rw [h2.size]; omega)]
   · have hno:∀ i,dstOf ops i=some d→False:=fun i hi=>hd ⟨i,hi⟩
     rw [h.old d (fun i hi=>(hno i hi).elim),h2.old d (fun i hi=>(hno i hi).elim)]
 have e2:a.defers=(putFrom ops V ops.size a0).defers:=by rw [h.defers,h2.defers]
 cases a
 generalize putFrom ops V ops.size a0=b at e e2
 cases b
 simp at e e2
 rw [e,e2]

/-! ### Facts that go on to hold -/
/-- A fact on a world with private blocks L, about public blocks and, where 'blk' names one, one private block. -/
structure RFact where
 holds:(Nat→Prop)→World→Prop
 blk:Option Nat
 keep:∀ {L L' Wr:Nat→Prop} {w w':World},Turn Wr w w'→(∀ b,Wr b→L b)→(∀ b,blk=some b→¬ Wr b)→(∀ b,L' b→L b∨w.heap.size≤b)→holds L w→holds L' w'

def mask {α:Type} (z:α) (A:Nat→Nat→Bool) (i:Nat) (V:Nat→α):Nat→α:=fun j=>bif (j == i || A i j) then V j else z
theorem mask_upd {α:Type} {z:α} {A:Nat→Nat→Bool} {i j:Nat} {V:Nat→α} {v:α} (h:i≠j) (hA:A i j=false):mask z A i (upd V j v)=mask z A i V:=by
 funext k
 unfold mask upd
 by_cases hk:k=j
 · subst hk
   have:(k == i)=false:=by simp; exact fun e=>h e.symm
   simp [this,hA]
 · simp [hk]

/-- The table of ancestors is made of edges. -/
def okA (ops:Array Oper) (A:Nat→Nat→Bool):Bool:=(List.range ops.size).all fun i=>(List.range ops.size).all fun j=>!A i j || match ops[i]? with | some o=>o.after.any (fun e=>Region.binds .any e && (e.on == j || A e.on j)) | none=>false

section
variable {γ : Type} (z : γ) (A : Nat → Nat → Bool) (cons : Nat → Option Nat) (F : Nat → (Nat → Value) → (Nat → γ) → RFact) (n : Nat) (L0 : Nat → Prop)
def Fx (i:Nat) (V:Nat→Value) (G:Nat→γ):RFact:=F i (mask undef A i V) (mask z A i G)
def Live (lf:Nat→Bool) (i:Nat):Prop:=i<n∧lf i=true∧∀ c,cons i=some c→lf c=false
def Priv (lf:Nat→Bool) (V:Nat→Value) (G:Nat→γ) (b:Nat):Prop:=L0 b∨∃ i,Live cons n lf i∧(Fx z A F i V G).blk=some b
def avail (i j:Nat):Bool:=A i j && decide (j<n) && match cons j with | none=>true | some c=>c == i || A c i
end

/-- What is known where operation i comes up. -/
structure Pre {γ:Type} (ops:Array Oper) (z:γ) (A:Nat→Nat→Bool) (cons:Nat→Option Nat) (F:Nat→(Nat→Value)→(Nat→γ)→RFact) (L0 W0:Nat→Prop) (B:World→Prop) (a0:Act) (w0:World)
   (i:Nat) (V:Nat→Value) (G:Nat→γ) (L:Nat→Prop) (a:Act) (w:World):Prop where
 dep:∀ j d,A i j=true→dstOf ops j=some d→d<a0.tmps.size→a.tmps[d]? = some (V j)
 old:∀ d,(∀ j,dstOf ops j≠some d)→a.tmps[d]? = a0.tmps[d]?
 fact:∀ j,avail A cons ops.size i j=true→(Fx z A F j V G).holds L w
 base:B w
 grown:Turn W0 w0 w
 lt:∀ b,L b→b<w.heap.size
 mem:∀ b,L0 b→L b
 wr:∀ b,W0 b→L0 b
 new:∀ b,L b→L0 b∨w0.heap.size≤b
 own:∀ j b,avail A cons ops.size i j=true→(Fx z A F j V G).blk=some b→L b∧w0.heap.size≤b

/-- What operation i owes, of the value v that it yields. -/
structure Post {γ:Type} (z:γ) (A:Nat→Nat→Bool) (cons:Nat→Option Nat) (F:Nat→(Nat→Value)→(Nat→γ)→RFact) (n:Nat) (L0 W0:Nat→Prop) (B:World→Prop)
   (i:Nat) (V:Nat→Value) (G:Nat→γ) (L:Nat→Prop) (w:World) (v:Value) (g:γ) (w':World):Prop where
 grown:Turn (fun b=>W0 b∨∃ j,avail A cons n i j=true∧cons j=some i∧(Fx z A F j V G).blk=some b) w w'
 base:B w'
 fact:∀ L':Nat→Prop,(∀ b,L' b→(L b∧∀ j,avail A cons n i j=true→cons j=some i→(Fx z A F j V G).blk≠some b)∨(Fx z A F i (upd V i v) (upd G i g)).blk=some b)→(∀ b,L0 b→L' b)→(Fx z A F i (upd V i v) (upd G i g)).holds L' w'
 own:∀ b,(Fx z A F i (upd V i v) (upd G i g)).blk=some b→(w.heap.size≤b∧b<w'.heap.size)∨∃ j,avail A cons n i j=true∧cons j=some i∧(Fx z A F j V G).blk=some b

def StepAll (C:Nat→Oper→Prop):Nat→List Oper→Prop
 | _,[]=>True
 | i,o :: r=>C i o∧StepAll C (i+1) r
theorem StepAll.get {C:Nat→Oper→Prop}:∀ {l:List Oper} {k:Nat},StepAll C k l→∀ i o,l[i]? = some o→C (k+i) o
 | [],_,_,i,o,hi=>by simp at hi
 | x :: r,k,h,0,o,hi=>by simp at hi; subst hi; exact h.1
 | x :: r,k,h,i+1,o,hi=>by
   have:=h.2.get i o (by simpa using hi)
   rw [show k+(i+1)=k+1+i from by omega]
   exact this

def consOk (n:Nat) (A:Nat→Nat→Bool) (cons:Nat→Option Nat):Bool:=(List.range n).all fun j=>match cons j with | some c=>A c j && decide (c<n) | none=>true

theorem wpAny_facts (hb:backs ops=true) (ha:dstsApart ops=true) {γ:Type} (z:γ) (A:Nat→Nat→Bool) (hA:okA ops A=true) (cons:Nat→Option Nat) (hcons:consOk ops.size A cons=true) (F:Nat→(Nat→Value)→(Nat→γ)→RFact)
   (L0 W0:Nat→Prop) (B:World→Prop) (a0:Act) (w0:World) (hL0:∀ b,L0 b→b<w0.heap.size) (hW0:∀ b,W0 b→L0 b) (hB0:B w0)
   (step:StepAll (fun i o=>∀ (V:Nat→Value) (G:Nat→γ) (L:Nat→Prop) (a:Act) (w:World),Pre ops z A cons F L0 W0 B a0 w0 i V G L a w→∀ K:Act→World→Prop,
     (∀ v g w',Post z A cons F ops.size L0 W0 B i V G L w v g w'→K (a.put o.dst v) w')→if Region.wanted o (yielded ops a.tmps)=true then Oper.wp P o a w K Q else K (a.put o.dst undef) w) 0 ops.toList)
   (fin:∀ (V:Nat→Value) (G:Nat→γ) (w:World) (L:Nat→Prop),Turn W0 w0 w→B w→(∀ i,i<ops.size→cons i=none→(Fx z A F i V G).holds L w∧∀ b,(Fx z A F i V G).blk=some b→w0.heap.size≤b∧b<w.heap.size) →
     (∀ b,L b↔L0 b∨∃ i,i<ops.size∧cons i=none∧(Fx z A F i V G).blk=some b) →
     (∀ i j b,i<ops.size→j<ops.size→cons i=none→cons j=none→(Fx z A F i V G).blk=some b→(Fx z A F j V G).blk=some b→i=j)→Q .normal (putFrom ops V ops.size a0) w) :
   wpAny P .any ops Q ops.size (Array.replicate ops.size false) a0 w0:=by
 refine wpAny_inv hb (fun listed a w=>∃ (V:Nat→Value) (G:Nat→γ),FrameOf ops a0 (fun i=>listed.getD i false) V a∧Turn W0 w0 w∧B w ∧
   (∀ i j,i<ops.size→j<ops.size→listed.getD i false=true→A i j=true→listed.getD j false=true) ∧
   (∀ i,Live cons ops.size (fun i=>listed.getD i false) i→(Fx z A F i V G).holds (Priv z A cons F ops.size L0 (fun i=>listed.getD i false) V G) w∧∀ b,(Fx z A F i V G).blk=some b→w0.heap.size≤b∧b<w.heap.size) ∧
   (∀ i j b,Live cons ops.size (fun i=>listed.getD i false) i→Live cons ops.size (fun i=>listed.getD i false) j→(Fx z A F i V G).blk=some b→(Fx z A F j V G).blk=some b→i=j)) ?_ ?_ _ _ _ _ (by simp) ?_ ?_
 · intro listed a w i o hs ho hl hall ⟨V,G,hf,hg,hBw,hcl,hfacts,hdist⟩ K hK
   have hi:i<ops.size:=(Array.getElem?_eq_some_iff.1 ho).1
   have hin:∀ j,listed.getD j false=true→j<ops.size:=fun j hj=>by
     rcases Nat.lt_or_ge j listed.size with h | h
     · omega
     · simp [Array.getElem?_eq_none h] at hj
   have hAi:∀ j,j<ops.size→A i j=true→listed.getD j false=true:=fun j hj hij=>by
     have h1:=List.all_eq_true.1 (List.all_eq_true.1 hA i (List.mem_range.2 hi)) j (List.mem_range.2 hj)
     rw [hij,ho] at h1
     simp only [Bool.not_true,Bool.false_or] at h1
     obtain ⟨e,he,hb⟩:=Array.any_eq_true'.1 h1
     simp only [Bool.and_eq_true,Bool.or_eq_true,beq_iff_eq] at hb
     have h2:=hall e he hb.1
     rcases hb.2 with h3 | h3
     · rw [← h3]; exact h2
     · exact hcl _ _ (hin _ h2) hj h2 h3
   have hnot:∀ i',listed.getD i' false=true→A i' i=false:=fun i' hi'=>by
     cases h:A i' i with
     | false=>rfl
     | true=>have:=hcl i' i (hin _ hi') hi hi' h; rw [hl] at this; cases this
   have hlive:∀ j,avail A cons ops.size i j=true→Live cons ops.size (fun i=>listed.getD i false) j:=fun j hj=>by
     simp only [avail,Bool.and_eq_true,decide_eq_true_eq] at hj
     obtain ⟨⟨h1,h2⟩,h3⟩:=hj
     refine ⟨h2,hAi j h2 h1,fun c hc=>?_⟩
     rw [hc] at h3
     simp only [Bool.or_eq_true,beq_iff_eq] at h3
     show listed.getD c false=false
     rcases h3 with h3 | h3
     · rw [h3]; exact hl
     · cases h:listed.getD c false with
       | false=>rfl
       | true=>have:=hcl c i (hin _ h) hi h h3; rw [hl] at this; cases this
   generalize hL:Priv z A cons F ops.size L0 (fun i=>listed.getD i false) V G=L at hfacts
   have hLb:∀ b,L b↔L0 b∨∃ i,Live cons ops.size (fun i=>listed.getD i false) i∧(Fx z A F i V G).blk=some b:=fun b=>by rw [← hL]; exact Iff.rfl
   have hpre:Pre ops z A cons F L0 W0 B a0 w0 i V G L a w:=by
     refine ⟨fun j d hj hd hlt=>hf.of j d hd (hAi j (dstOf_lt hd) hj) hlt,fun d hd=>hf.old d fun j hj=>(hd j hj).elim,fun j hj=>(hfacts j (hlive j hj)).1,hBw,hg,?_,fun b hb=>(hLb b).2 (.inl hb),hW0,?_,fun j b hj hb=>⟨(hLb b).2 (.inr ⟨j,hlive j hj,hb⟩),((hfacts j (hlive j hj)).2 b hb).1⟩⟩
     · intro b hb
       rcases (hLb b).1 hb with h | ⟨j,hj,hb⟩
       · exact Nat.lt_of_lt_of_le (hL0 b h) hg.size
       · exact ((hfacts j hj).2 b hb).2
     · intro b hb
       rcases (hLb b).1 hb with h | ⟨j,hj,hb⟩
       · exact .inl h
       · exact .inr ((hfacts j hj).2 b hb).1
   have hst:=step.get i o (by rw [Array.getElem?_toList]; exact ho)
   rw [Nat.zero_add] at hst
   refine hst V G L a w hpre K fun v g w' post=>hK _ _ ⟨upd V i v,upd G i g,?_⟩
   have hl':∀ j,(listed.setIfInBounds i true).getD j false=(listed.getD j false || j == i):=fun j=>by
     by_cases hji:i=j
     · subst hji
       have:i<listed.size:=by omega
       simp [this]
     · have:(j == i)=false:=by simp; exact fun e=>hji e.symm
       rw [this,Bool.or_false,getD_set_ne false hji]
   have hsame:∀ i',i'≠i→listed.getD i' false=true→Fx z A F i' (upd V i v) (upd G i g)=Fx z A F i' V G:=fun i' hne hli=>by
     unfold Fx
     rw [mask_upd hne (hnot i' hli),mask_upd hne (hnot i' hli)]
   have hdown:∀ i',i'≠i→Live cons ops.size (fun j=>(listed.setIfInBounds i true).getD j false) i'→Live cons ops.size (fun i=>listed.getD i false) i'∧cons i'≠some i:=fun i' hne h=>by
     have h2:(listed.setIfInBounds i true).getD i' false=true:=h.2.1
     rw [hl'] at h2
     have:(i' == i)=false:=by simp [hne]
     rw [this,Bool.or_false] at h2
     refine ⟨⟨h.1,h2,fun c hc=>?_⟩,fun hc=>?_⟩
     · have h3:(listed.setIfInBounds i true).getD c false=false:=h.2.2 c hc
       rw [hl'] at h3
       simp only [Bool.or_eq_false_iff] at h3
       exact h3.1
     · have h3:(listed.setIfInBounds i true).getD i false=false:=h.2.2 i hc
       rw [hl'] at h3
       simp at h3
   have hpriv:∀ b,Priv z A cons F ops.size L0 (fun j=>(listed.setIfInBounds i true).getD j false) (upd V i v) (upd G i g) b →
       (L b∧∀ j,avail A cons ops.size i j=true→cons j=some i→(Fx z A F j V G).blk≠some b)∨(Fx z A F i (upd V i v) (upd G i g)).blk=some b:=fun b hb=>by
     rcases hb with h | ⟨i',hlv,hb⟩
     · refine .inl ⟨(hLb b).2 (.inl h),fun j hj hc he=>?_⟩
       have:=((hfacts j (hlive j hj)).2 b he).1
       have:=hL0 b h
       omega
     · by_cases hii:i' = i
       · subst hii; exact .inr hb
       · obtain ⟨h1,h2⟩:=hdown i' hii hlv
         rw [hsame i' hii h1.2.1] at hb
         refine .inl ⟨(hLb b).2 (.inr ⟨i',h1,hb⟩),fun j hj hc he=>?_⟩
         have:=hdist i' j b h1 (hlive j hj) hb he
         subst this
         exact h2 hc
   have hown:∀ b,(Fx z A F i (upd V i v) (upd G i g)).blk=some b→w0.heap.size≤b∧b<w'.heap.size∧(L b∨w.heap.size≤b):=fun b hb=>by
     have h1:=hg.size
     have h2:=post.grown.size
     rcases post.own b hb with h | ⟨j,hj,_,hb⟩
     · exact ⟨by omega,h.2,.inr h.1⟩
     · have h3:=(hfacts j (hlive j hj)).2 b hb
       exact ⟨h3.1,by omega,.inl ((hLb b).2 (.inr ⟨j,hlive j hj,hb⟩))⟩
   refine ⟨hf.put ha ho hl' v,?_,post.base,?_,?_,?_⟩
   · have k:=post.grown
     refine ⟨k.os.trans hg.os,k.tape.trans hg.tape,k.output.trans hg.output,Nat.le_trans hg.size k.size,fun b hb hn=>(k.block b (Nat.lt_of_lt_of_le hb hg.size) ?_).trans (hg.block b hb hn)⟩
     rintro (h | ⟨j,hj,_,he⟩)
     · exact hn h
     · have:=((hfacts j (hlive j hj)).2 b he).1
       omega
   · intro i' j hi' hj hli hij
     rw [hl'] at hli ⊢
     by_cases hii:i' = i
     · subst hii; rw [hAi j hj hij]; rfl
     · have:(i' == i)=false:=by simp [hii]
       rw [this,Bool.or_false] at hli
       rw [hcl i' j hi' hj hli hij]; rfl
   · intro i' hlv
     by_cases hii:i' = i
     · subst hii
       exact ⟨post.fact _ hpriv (fun b hb=>.inl hb),fun b hb=>⟨(hown b hb).1,(hown b hb).2.1⟩⟩
     · obtain ⟨h1,h2⟩:=hdown i' hii hlv
       rw [hsame i' hii h1.2.1]
       obtain ⟨h3,h4⟩:=hfacts i' h1
       refine ⟨(Fx z A F i' V G).keep post.grown ?_ ?_ ?_ h3,fun b hb=>⟨(h4 b hb).1,Nat.lt_of_lt_of_le (h4 b hb).2 post.grown.size⟩⟩
       · rintro b (h | ⟨j,hj,_,he⟩)
         · exact (hLb b).2 (.inl (hW0 b h))
         · exact (hLb b).2 (.inr ⟨j,hlive j hj,he⟩)
       · rintro b hb (h | ⟨j,hj,hc,he⟩)
         · have:=(h4 b hb).1; have:=hL0 b (hW0 b h); omega
         · have:=hdist i' j b h1 (hlive j hj) hb he
           subst this
           exact h2 hc
       · intro b hb
         rcases hpriv b hb with h | h
         · exact .inl h.1
         · exact (hown b h).2.2
   · have key:∀ j b,j≠i→Live cons ops.size (fun j=>(listed.setIfInBounds i true).getD j false) j→(Fx z A F i (upd V i v) (upd G i g)).blk=some b→(Fx z A F j (upd V i v) (upd G i g)).blk=some b→False:=fun j b hne hlv hb he=>by
       obtain ⟨h1,h2⟩:=hdown j hne hlv
       rw [hsame j hne h1.2.1] at he
       rcases post.own b hb with h | ⟨j',hj',hc,he'⟩
       · have:=((hfacts j h1).2 b he).2; omega
       · have:=hdist j j' b h1 (hlive j' hj') he he'
         subst this
         exact h2 hc
     intro i1 i2 b hv1 hv2 h1 h2
     by_cases e1:i1=i
     · by_cases e2:i2=i
       · rw [e1,e2]
       · subst e1; exact (key i2 b e2 hv2 h1 h2).elim
     · by_cases e2:i2=i
       · subst e2; exact (key i1 b e1 hv1 h2 h1).elim
       · obtain ⟨l1,_⟩:=hdown i1 e1 hv1
         obtain ⟨l2,_⟩:=hdown i2 e2 hv2
         rw [hsame i1 e1 l1.2.1] at h1
         rw [hsame i2 e2 l2.2.1] at h2
         exact hdist i1 i2 b l1 l2 h1 h2
 · intro listed a w hall ⟨V,G,hf,hg,hBw,hcl,hfacts,hdist⟩
   have hlive:∀ i,i<ops.size→cons i=none→Live cons ops.size (fun i=>listed.getD i false) i:=fun i hi hc=>⟨hi,hall i hi,fun c h=>by rw [hc] at h; cases h⟩
   rw [hf.all ha hall]
   refine fin V G w _ hg hBw (fun i hi hc=>hfacts i (hlive i hi hc)) ?_ (fun i j b hi hj hci hcj h1 h2=>hdist i j b (hlive i hi hci) (hlive j hj hcj) h1 h2)
   intro b
   constructor
   · rintro (h | ⟨i,hlv,hb⟩)
     · exact .inl h
     · refine .inr ⟨i,hlv.1,?_,hb⟩
       cases hc:cons i with
       | none=>rfl
       | some c=>
         have h1:=List.all_eq_true.1 hcons i (List.mem_range.2 hlv.1)
         simp only [hc,Bool.and_eq_true,decide_eq_true_eq] at h1
         have h2:listed.getD c false=false:=hlv.2.2 c hc
         rw [hall c h1.2] at h2
         cases h2
   · rintro (h | ⟨i,hi,hc,hb⟩)
     · exact .inl h
     · exact .inr ⟨i,hlive i hi hc,hb⟩
 · simp [leftOf,List.countP_replicate]
 · have h0:∀ i,(Array.replicate ops.size false).getD i false=false:=fun i=>by
     simp only [Array.getD_eq_getD_getElem?,Array.getElem?_replicate]
     split <;> rfl
   refine ⟨fun _=>undef,fun _=>z,?_,Turn.refl _ _,hB0,fun i j _ _ h=>(by rw [h0] at h; cases h),fun i h=>(by have:=h.2.1; simp only [h0] at this; cases this),fun i j b h=>(by have:=h.2.1; simp only [h0] at this; cases this)⟩
   have:=FrameOf.refl (ops:=ops) a0 (fun _=>undef)
   simp only [h0]
   exact this
end
end Go.Proofs.YtipfnkajdooiiaaGreatDoor
namespace Go.Proofs.YtipfnkajdooiiaaGreatDoor
open Go.RowKit

theorem good_keep {L L' Wr:Nat→Prop} {w w':World} (h:Turn Wr w w') (hW:∀ b,Wr b→L b) (hL:∀ b,L' b→L b∨w.heap.size≤b) :
   (∀ b,Good L w b→Good L' w' b)∧(∀ p:Addr,Good L w p.block→w'.cell? p=w.cell? p):=
 ⟨fun b hb=>⟨fun e=>(hL b e).elim hb.1 (fun h1=>by have:=hb.2; omega),Nat.lt_of_lt_of_le hb.2 h.size⟩,fun p hp=>World.cell?_of_block (h.block p.block hp.2 (fun e=>hp.1 (hW _ e)))⟩

/-- Something that holds of public blocks. -/
def RFact.pub (R:(Nat→Prop)→World→Prop) (hk:∀ {S S':Nat→Prop} {w w':World},(∀ b,S b→S' b)→(∀ p:Addr,S p.block→w'.cell? p=w.cell? p)→R S w→R S' w'):RFact:=
 ⟨fun L w=>R (Good L w) w,none,fun h hW _ hL hr=>hk (good_keep h hW hL).1 (good_keep h hW hL).2 hr⟩
def RFact.pure (p:Prop):RFact:=⟨fun _ _=>p,none,fun _ _ _ _ h=>h⟩
def RFact.tm (T:Tm) (v:Value) (p:Prop):RFact:=.pub (fun S w=>IsTm S w T v∧p) fun hS hc h=>⟨IsTm.keep hS hc _ h.1,h.2⟩
def RFact.ty (T:Ty) (v:Value) (p:Prop):RFact:=.pub (fun S w=>IsTy S w T v∧p) fun hS hc h=>⟨IsTy.keep hS hc _ h.1,h.2⟩
def RFact.sl {α:Type} (R:Rep α) (l:List α) (v:Value) (p:Prop):RFact:=.pub (fun S w=>R.Sl S w l v∧p) fun hS hc h=>⟨h.1.keep hS hc,h.2⟩
def ptrBlk:Value→Option Nat
 | .pointer (some a)=>some a.block
 | _=>none
/-- A box: the value is a pointer to it. -/
def RFact.box (t:TypeId) (c:Array Value) (v:Value):RFact:=
 ⟨fun _ w=>∃ b,v=.pointer (some ⟨b,0,none⟩)∧Blk w b t c,ptrBlk v,fun h _ hb _ ⟨b,hv,hk⟩=>⟨b,hv,h.blk hk (hb b (by rw [hv]; rfl))⟩⟩
/-- A box that holds a value. -/
def RFact.boxv (t:TypeId) (x v:Value):RFact:=
 ⟨fun _ w=>∃ b c,x=.agg c∧v=.pointer (some ⟨b,0,none⟩)∧Blk w b t c,ptrBlk v,fun h _ hb _ ⟨b,c,hx,hv,hk⟩=>⟨b,c,hx,hv,h.blk hk (hb b (by rw [hv]; rfl))⟩⟩
/-- A slice of the call's own. -/
def RFact.own {α:Type} (R:Rep α) (base:Nat) (l:List α) (v:Value) (p:Prop):RFact:=
 ⟨fun L w=>R.Own (fun b=>¬ L b) base v l w∧p,v.ownBlock,fun {L L' Wr w w'} h hW hb hL hr=>by
   obtain ⟨⟨xs,⟨h1,h2⟩,hc⟩,hp⟩:=hr
   have hg:=good_keep h hW hL
   refine ⟨⟨xs,⟨h1,?_⟩,hc.keep (fun b hb=>⟨?_,Nat.lt_of_lt_of_le hb.2.1 h.size,hb.2.2⟩) (fun q hq=>World.cell?_of_block (h.block q.block hq.2.1 (fun e=>hq.1 (hW _ e))))⟩,hp⟩
   · rcases h2 with h2 | ⟨g,cap,cur,hv,hbs,hgg,rest⟩
     · exact .inl h2
     · refine .inr ⟨g,cap,cur,hv,hbs,?_,rest⟩
       rw [h.block g (Array.getElem?_eq_some_iff.1 hgg).1 (hb g (by rw [hv]; rfl))]
       exact hgg
   · exact fun e=>(hL b e).elim hb.1 (fun h1=>by have:=hb.2.1; omega)⟩

/-- No operation writes the temporary. -/
def notDst (ops:Array Oper) (d:Nat):Bool:=(List.range ops.size).all fun i=>dstOf ops i != some d
theorem notDst_spec {ops:Array Oper} {d:Nat} (h:notDst ops d=true) (j:Nat):dstOf ops j≠some d:=fun e=>by
 have:=List.all_eq_true.1 h j (List.mem_range.2 (dstOf_lt e))
 rw [e] at this
 simp at this

section
variable {γ : Type} {ops : Array Oper} {z : γ} {A : Nat → Nat → Bool} {cons : Nat → Option Nat} {F : Nat → (Nat → Value) → (Nat → γ) → RFact} {L0 W0 : Nat → Prop} {B : World → Prop} {a0 : Act} {w0 : World}
   {i n:Nat} {V:Nat→Value} {G:Nat→γ} {L:Nat→Prop} {a:Act} {w:World}

theorem Pre.slot (h:Pre ops z A cons F L0 W0 B a0 w0 i V G L a w) (j d:Nat) (hA:A i j=true) (hd:dstOf ops j=some d) (hs:Nat.blt d a0.tmps.size=true):a.eval (.tmp d)=V j:=by
 show a.tmps.getD d undef=V j
 rw [Array.getD_eq_getD_getElem?,h.dep j d hA hd (Nat.blt_eq.mp hs)]; rfl
theorem Pre.slot0 (h:Pre ops z A cons F L0 W0 B a0 w0 i V G L a w) (d:Nat) (v:Value) (hd:notDst ops d=true) (hv:a0.eval (.tmp d)=v):a.eval (.tmp d)=v:=by
 rw [← hv]
 show a.tmps.getD d undef=a0.tmps.getD d undef
 rw [Array.getD_eq_getD_getElem?,Array.getD_eq_getD_getElem?,h.old d (notDst_spec hd)]
/-- What was known ahead of the region. -/
theorem Pre.good (h:Pre ops z A cons F L0 W0 B a0 w0 i V G L a w) (b:Nat) (hb:Good L0 w0 b):Good L w b:=
 ⟨fun e=>(h.new b e).elim hb.1 (fun h1=>by have:=hb.2; omega),Nat.lt_of_lt_of_le hb.2 h.grown.size⟩
theorem Pre.cell (h:Pre ops z A cons F L0 W0 B a0 w0 i V G L a w) (p:Addr) (hb:Good L0 w0 p.block):w.cell? p=w0.cell? p:=World.cell?_of_block (h.grown.block _ hb.2 (fun e=>hb.1 (h.wr _ e)))
theorem Pre.blk0 (h:Pre ops z A cons F L0 W0 B a0 w0 i V G L a w) {b:Nat} {t:TypeId} {c:Array Value} (hk:Blk w0 b t c) (hb:¬ W0 b):Blk w b t c:=h.grown.blk hk hb
/-- An operation that turns no private block, and yields something public. -/
theorem Post.of {v:Value} {g:γ} {w':World} (hn:(Fx z A F i (upd V i v) (upd G i g)).blk=none) (hg:Turn W0 w w') (hb:B w') (hlt:∀ b,L b→b<w.heap.size)
   (hf:∀ L':Nat→Prop,(∀ b,Good L w b→Good L' w' b)→(∀ b,w.heap.size≤b→b<w'.heap.size→Good L' w' b)→(Fx z A F i (upd V i v) (upd G i g)).holds L' w'):Post z A cons F n L0 W0 B i V G L w v g w' where
 grown:=hg.mono fun _ _ h=>.inl h
 base:=hb
 fact L' h _:=by
   have hd:∀ b,L' b→L b:=fun b hb=>by
     rcases h b hb with h1 | h1
     · exact h1.1
     · rw [hn] at h1; cases h1
   exact hf L' (fun b hb=>⟨fun e=>hb.1 (hd b e),Nat.lt_of_lt_of_le hb.2 hg.size⟩) (fun b hb hb'=>⟨fun e=>by have:=hlt b (hd b e); omega,hb'⟩)
 own b hb:=by rw [hn] at hb; cases hb
/-- An operation that yields a number, a pointer or whatever, and leaves the world as it is. -/
theorem Post.still {v:Value} {g:γ} (hn:(Fx z A F i (upd V i v) (upd G i g)).blk=none) (hb:B w) (hlt:∀ b,L b→b<w.heap.size)
   (hf:∀ L':Nat→Prop,(∀ b,Good L w b→Good L' w b)→(Fx z A F i (upd V i v) (upd G i g)).holds L' w):Post z A cons F n L0 W0 B i V G L w v g w:=
 .of hn (Turn.refl _ _) hb hlt fun L' h _=>hf L' h
/-- A box that is made. -/
theorem Post.made {g:γ} {t:TypeId} {c:Array Value} (hF:Fx z A F i (upd V i (.pointer (some ⟨w.heap.size,0,none⟩))) (upd G i g)=.box t c (.pointer (some ⟨w.heap.size,0,none⟩))) (hb:B (w.alloc (.cells c t))) :
   Post z A cons F n L0 W0 B i V G L w (.pointer (some ⟨w.heap.size,0,none⟩)) g (w.alloc (.cells c t)) where
 grown:=Turn.alloc _ _
 base:=hb
 fact L' _ _:=by rw [hF]; exact ⟨_,rfl,Blk.new _ _ _⟩
 own b h:=by rw [hF] at h; cases h; exact .inl ⟨Nat.le_refl _,by simp⟩
/-- A box that is filled. -/
theorem Post.filled {g:γ} {t:TypeId} {b j:Nat} {g0 g1 g2 g3 g4 x0 x1 x2 x3 x4:Value} (hj:avail A cons n i j=true) (hc:cons j=some i) (hbj:(Fx z A F j V G).blk=some b)
   (hF:Fx z A F i (upd V i undef) (upd G i g)=.boxv t (.agg #[x0,x1,x2,x3,x4]) (.pointer (some ⟨b,0,none⟩))) (hk:Blk w b t #[g0,g1,g2,g3,g4])
   (hb:B (((((w.setCell ⟨b,0,none⟩ x0).setCell ⟨b,1,none⟩ x1).setCell ⟨b,2,none⟩ x2).setCell ⟨b,3,none⟩ x3).setCell ⟨b,4,none⟩ x4)) :
   Post z A cons F n L0 W0 B i V G L w undef g (((((w.setCell ⟨b,0,none⟩ x0).setCell ⟨b,1,none⟩ x1).setCell ⟨b,2,none⟩ x2).setCell ⟨b,3,none⟩ x3).setCell ⟨b,4,none⟩ x4) where
 grown:=Turn.grown (only_set5 w b x0 x1 x2 x3 x4) (fun k e=>by cases e; exact .inr ⟨j,hj,hc,hbj⟩)
 base:=hb
 fact L' _ _:=by rw [hF]; exact ⟨_,_,rfl,rfl,hk.set5 x0 x1 x2 x3 x4⟩
 own b' h:=by rw [hF] at h; cases h; exact .inr ⟨j,hj,hc,hbj⟩
end

section
variable {P : Program} {ops : Array Oper} {o : Oper} {a : Act} {w : World} {K : Act → World → Prop} {Q : Exit → Act → World → Prop} {E : Prop}
/-- An operation that runs to its end at once. -/
theorem step_run (hg:o.guard=none) {v:Value} {w':World} (h:(execOp a.eval o).run P w=.ok (.value v) w') (hK:K (a.put o.dst v) w'):if Region.wanted o (yielded ops a.tmps)=true then Oper.wp P o a w K Q else E:=by
 have hw:Region.wanted o (yielded ops a.tmps)=true:=by simp [Region.wanted,hg]
 rw [if_pos hw]
 unfold Oper.wp
 rw [h]
 exact hK
theorem step_skip' (hg:o.guard=none) {w':World} (h:(execOp a.eval o).run P w=.ok .skip w') (hK:K (a.put o.dst undef) w'):if Region.wanted o (yielded ops a.tmps)=true then Oper.wp P o a w K Q else E:=by
 have hw:Region.wanted o (yielded ops a.tmps)=true:=by simp [Region.wanted,hg]
 rw [if_pos hw]
 unfold Oper.wp
 rw [h]
 exact hK
theorem run_move {x:Operand} (ho:o.op=.move x) {v:Value} (hx:a.eval x=v):(execOp a.eval o).run P w=.ok (.value v) w:=by
 simp only [execOp,ho,hx]; rfl
theorem run_assign {x:Operand} (ho:o.op=.assign x) {v:Value} (hx:a.eval x=v):(execOp a.eval o).run P w=.ok (.value v) w:=by
 simp only [execOp,ho,hx]; rfl
end

section
variable {ops : Array Oper} {o : Oper} {a : Act} {w : World}
theorem run_extract {x:Operand} {i:Nat} (ho:o.op=.extract x i) {vs:Array Value} {v:Value} (hx:a.eval x=.tuple vs) (hv:vs[i]? = some v):(execOp a.eval o).run Tryz.prog w=.ok (.value v) w:=by
 simp only [execOp,ho,hx]
 go_simp
end
end Go.Proofs.YtipfnkajdooiiaaGreatDoor
