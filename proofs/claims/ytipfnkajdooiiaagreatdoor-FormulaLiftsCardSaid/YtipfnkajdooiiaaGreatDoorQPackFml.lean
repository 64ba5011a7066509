/- Formulas as trees in memory. -/
import Derived.Test.YtipfnkajdooiiaaGreatDoorQCopyT
import Derived.Test.YtipfnkajdooiiaaGreatDoorQStepCall
import Derived.Test.YtipfnkajdooiiaaGreatDoorQMakeT
import Derived.Deep.RegionHeld3
import Derived.Test.YtipfnkajdooiiaaGreatDoorQPackSizeT
import Derived.Test.YtipfnkajdooiiaaGreatDoorQPackSubst
import Derived.Sort.LoopGhostIn
namespace Go.Proofs.YtipfnkajdooiiaaGreatDoor
open Go.RowKit

inductive Fm where
 | mk (kind:Int) (type:Ty) (terms:List Tm) (args:List Fm)

def Fm.kind:Fm→Int | .mk k _ _ _=>k
def Fm.type:Fm→Ty | .mk _ T _ _=>T
def Fm.terms:Fm→List Tm | .mk _ _ ts _=>ts
def Fm.args:Fm→List Fm | .mk _ _ _ l=>l

mutual
/-- Nodes, those of types and terms among them. -/
def Fm.bulk:Fm→Nat
 | .mk _ T ts l=>1+T.nodes+bulkAll ts+bulkAllF l
def bulkAllF:List Fm→Nat
 | []=>0
 | t :: r=>t.bulk+bulkAllF r
end

mutual
/-- The value v is the formula f, its lists lying in blocks of S. -/
def IsFm (S:Nat→Prop) (w:World):Fm→Value→Prop
 | .mk k T ts l,v=>∃ B d C e A c,v=.agg #[.int .i64 k,.int .i64 T.kind,.slice B T.args.length d,.slice C ts.length e,.slice A l.length c] ∧
     IsTy S w T (.agg #[.int .i64 T.kind,.slice B T.args.length d])∧TmR.Sl S w ts (.slice C ts.length e)∧(l≠[]→∃ a,A=some a∧S a.block∧AreFms S w l a)
def AreFms (S:Nat→Prop) (w:World):List Fm→Addr→Prop
 | [],_=>True
 | t :: r,a=>(∃ vs:List Value,IsFm S w t (.agg vs.toArray)∧∀ j u,vs[j]? = some u→w.cell? (a.add j)=some u)∧AreFms S w r (a.add 5)
end

mutual
theorem IsFm.keep {S S':Nat→Prop} {w w':World} (hS:∀ b,S b→S' b) (hc:∀ p:Addr,S p.block→w'.cell? p=w.cell? p):∀ (t:Fm) {v:Value},IsFm S w t v→IsFm S' w' t v
 | .mk k T ts l,v,h=>by
   unfold IsFm at h ⊢
   obtain ⟨B,d,C,e,A,c,hv,hT,hts,h⟩:=h
   refine ⟨B,d,C,e,A,c,hv,IsTy.keep hS hc T hT,hts.keep hS hc,fun hl=>?_⟩
   obtain ⟨a,ha,hs,h⟩:=h hl
   exact ⟨a,ha,hS _ hs,AreFms.keep hS hc l hs h⟩
theorem AreFms.keep {S S':Nat→Prop} {w w':World} (hS:∀ b,S b→S' b) (hc:∀ p:Addr,S p.block→w'.cell? p=w.cell? p):∀ (l:List Fm) {a:Addr},S a.block→AreFms S w l a→AreFms S' w' l a
 | [],a,_,h=>by unfold AreFms; trivial
 | t :: r,a,hs,h=>by
   unfold AreFms at h ⊢
   obtain ⟨⟨vs,h1,h2⟩,hr⟩:=h
   exact ⟨⟨vs,IsFm.keep hS hc t h1,fun j u hu=>(hc _ (by rw [add_block]; exact hs)).trans (h2 j u hu)⟩,AreFms.keep hS hc r (by rw [add_block]; exact hs) hr⟩
end

theorem IsFm.form {S:Nat→Prop} {w:World} {t:Fm} {v:Value} (h:IsFm S w t v) :
   ∃ B d C e A c,v=.agg #[.int .i64 t.kind,.int .i64 t.type.kind,.slice B t.type.args.length d,.slice C t.terms.length e,.slice A t.args.length c]∧IsTy S w t.type (.agg #[.int .i64 t.type.kind,.slice B t.type.args.length d])∧TmR.Sl S w t.terms (.slice C t.terms.length e):=by
 cases t
 unfold IsFm at h
 obtain ⟨B,d,C,e,A,c,h,hT,hts,_⟩:=h
 exact ⟨B,d,C,e,A,c,h,hT,hts⟩

/-- Formulas in cells. -/
def FmR:Rep Fm where
 n:=5
 t:=34
 is S w T vs:=IsFm S w T (.agg vs.toArray)
 pos:=by decide
 len h:=by
   obtain ⟨B,d,C,e',A,c,e,_⟩:=h.form
   have:=congrArg (fun x=>match x with | Value.agg a=>a.size | _=>0) e
   simpa using this
 one h:=by
   obtain ⟨B,d,C,e',A,c,e,_⟩:=h.form
   intro u hu
   simp only [Value.agg.injEq] at e
   have e':=congrArg Array.toList e
   simp only at e'
   rw [e'] at hu
   simp at hu
   rcases hu with rfl | rfl | rfl | rfl | rfl <;> rfl
 keep hS hc h:=IsFm.keep hS hc _ h

theorem areFms_arr {S:Nat→Prop} {w:World}:∀ {l:List Fm} {a:Addr},AreFms S w l a↔FmR.Arr S w l a
 | [],a=>by
   unfold AreFms
   exact ⟨fun _ i hi=>by simp at hi,fun _=>trivial⟩
 | t :: r,a=>by
   unfold AreFms
   rw [areFms_arr (l:=r)]
   constructor
   · rintro ⟨h,hr⟩ i hi
     cases i with
     | zero=>rw [Nat.zero_mul,add_zero']; exact h
     | succ i=>
       have:=hr i (by simpa using hi)
       rw [add_add'] at this
       rw [show (i+1) * FmR.n=5+i * FmR.n from by show (i+1) * 5=5+i * 5; omega]
       simpa using this
   · intro h
     refine ⟨by have:=h 0 (by simp); rw [Nat.zero_mul,add_zero'] at this; exact this,fun i hi=>?_⟩
     have:=h (i+1) (by simpa using hi)
     rw [add_add',show 5+i * FmR.n=(i+1) * FmR.n from by show 5+i * 5=(i+1) * 5; omega]
     simpa using this

/-- A formula is its node's fields and the lists of its terms and its parts. -/
theorem isFm_iff {S:Nat→Prop} {w:World} {k:Int} {T:Ty} {ts:List Tm} {l:List Fm} {x0 x1 x2 x3 x4:Value}:IsFm S w (.mk k T ts l) (.agg #[x0,x1,x2,x3,x4]) ↔
   x0=.int .i64 k∧IsTy S w T (.agg #[x1,x2])∧TmR.Sl S w ts x3∧FmR.Sl S w l x4:=by
 constructor
 · intro h
   unfold IsFm at h
   obtain ⟨B,d,C,e',A,c,e,hT,hts,h⟩:=h
   simp at e
   obtain ⟨rfl,rfl,rfl,rfl,rfl⟩:=e
   refine ⟨rfl,hT,hts,A,c,rfl,fun hl=>?_⟩
   obtain ⟨a,ha,hs,h⟩:=h hl
   exact ⟨a,ha,hs,areFms_arr.1 h⟩
 · rintro ⟨rfl,hT,hts,A,c,rfl,h⟩
   obtain ⟨B,d,e⟩:=hT.form
   simp at e
   obtain ⟨rfl,rfl⟩:=e
   obtain ⟨C,e',rfl⟩:=hts.form
   unfold IsFm
   refine ⟨B,d,C,e',A,c,rfl,hT,hts,fun hl=>?_⟩
   obtain ⟨a,ha,hs,h⟩:=h hl
   exact ⟨a,ha,hs,areFms_arr.2 h⟩

theorem IsFm.parts {S:Nat→Prop} {w:World} {t:Fm} {v:Value} (h:IsFm S w t v):∃ B d C e A c,v=.agg #[.int .i64 t.kind,.int .i64 t.type.kind,.slice B t.type.args.length d,.slice C t.terms.length e,.slice A t.args.length c] ∧
   IsTy S w t.type (.agg #[.int .i64 t.type.kind,.slice B t.type.args.length d])∧TmR.Sl S w t.terms (.slice C t.terms.length e)∧FmR.Sl S w t.args (.slice A t.args.length c):=by
 obtain ⟨B,d,C,e,A,c,rfl,hT,hts⟩:=h.form
 refine ⟨B,d,C,e,A,c,rfl,hT,hts,?_⟩
 cases t
 exact (isFm_iff.1 h).2.2.2

/-- The cells of a formula at an address, as the walk asks for them. -/
theorem at_fm {S:Nat→Prop} {w:World} {t:Fm} {a:Addr} (h:FmR.At S w t a):∃ B d C e A c,
   w.cell? a=some (.int .i64 t.kind)∧w.cell? ⟨a.block,a.off+1,none⟩ = some (.int .i64 t.type.kind) ∧
   w.cell? ⟨a.block,a.off+2,none⟩ = some (.slice B t.type.args.length d)∧w.cell? ⟨a.block,a.off+3,none⟩ = some (.slice C t.terms.length e)∧w.cell? ⟨a.block,a.off+4,none⟩ = some (.slice A t.args.length c) ∧
   IsFm S w t (.agg #[.int .i64 t.kind,.int .i64 t.type.kind,.slice B t.type.args.length d,.slice C t.terms.length e,.slice A t.args.length c]):=by
 obtain ⟨vs,h1,h2⟩:=h
 have h1':IsFm S w t (.agg vs.toArray):=h1
 obtain ⟨B,d,C,e0,A,c,e,_⟩:=h1'.form
 simp only [Value.agg.injEq] at e
 have e':=congrArg Array.toList e
 simp only at e'
 subst e'
 refine ⟨B,d,C,e0,A,c,by simpa [add_zero'] using h2 0 _ rfl,?_,?_,?_,?_,h1'⟩
 · simpa [Addr.add] using h2 1 _ rfl
 · simpa [Addr.add] using h2 2 _ rfl
 · simpa [Addr.add] using h2 3 _ rfl
 · simpa [Addr.add] using h2 4 _ rfl

theorem bulkF_pos (t:Fm):1≤t.bulk:=by cases t; simp only [Fm.bulk]; omega
theorem bulkAllF_get:∀ (l:List Fm) (i:Nat) (h:i<l.length),l[i].bulk≤bulkAllF l
 | [],i,h=>by simp at h
 | t :: r,0,h=>by simp [bulkAllF]
 | t :: r,i+1,h=>by
   have:=bulkAllF_get r i (by simpa using h)
   simp only [bulkAllF,List.getElem_cons_succ]
   omega
theorem bulkAllF_len:∀ (l:List Fm),l.length≤bulkAllF l
 | []=>by simp [bulkAllF]
 | t :: r=>by
   have:=bulkAllF_len r
   have:=bulkF_pos t
   simp only [bulkAllF,List.length_cons]
   omega
theorem bulkAllF_append:∀ (l r:List Fm),bulkAllF (l ++ r)=bulkAllF l+bulkAllF r
 | [],r=>by simp [bulkAllF]
 | t :: l,r=>by simp only [List.cons_append,bulkAllF,bulkAllF_append l r]; omega
theorem bulkF_eq (t:Fm):t.bulk=1+t.type.nodes+bulkAll t.terms+bulkAllF t.args:=by cases t; rfl

theorem info_formula:(Tryz.prog.info? 34).map (fun i=>(i.zero,i.size,i.bytes))=some (some (.agg #[.int .i64 0,.int .i64 0,.slice none 0 0,.slice none 0 0,.slice none 0 0]),5,88):=by kernel_rfl
end Go.Proofs.YtipfnkajdooiiaaGreatDoor
namespace Go.Proofs.YtipfnkajdooiiaaGreatDoor
open Go.RowKit

/-- The formula f is in new memory. -/
def FreshF (w:World) (f:Fm) (e:Ending) (w':World):Prop:=
 ∃ v,e=.returned v∧IsFm (fun b=>w.heap.size≤b∧b<w'.heap.size) w' f v∧Below w.heap.size w w'
theorem IsFm.boxed {w:World} {f:Fm} {v:Value} (h:IsFm (· < w.heap.size) w f v) {W:World} (hb:Below w.heap.size w W):IsFm (· < W.heap.size) W f v:=
 IsFm.keep (fun _ hb'=>Nat.lt_of_lt_of_le hb' hb.size) (fun _p hp=>hb.cell hp) _ h
theorem two_blks (w:World) (c1 c2:Array Value) (t1 t2:TypeId):∃ W,W=(w.alloc (.cells c1 t1)).alloc (.cells c2 t2) ∧
   Below w.heap.size w W∧W.heap.size=w.heap.size+2∧Blk W w.heap.size t1 c1∧Blk W (w.heap.size+1) t2 c2:=by
 obtain ⟨b1,z1,k1⟩:=new_blk (Below.refl w.heap.size w) (Nat.le_refl _) c1 t1
 generalize w.alloc (.cells c1 t1)=W1 at b1 z1 k1 ⊢
 obtain ⟨b2,z2,k2⟩:=new_blk b1 b1.size c2 t2
 rw [z1] at k2
 exact ⟨_,rfl,b2,by omega,k1.alloc _,k2⟩
theorem IsFm.mk_parts {S:Nat→Prop} {w:World} {k:Int} {T:Ty} {ts:List Tm} {l:List Fm} {v:Value} (h:IsFm S w (.mk k T ts l) v):∃ B d C e A c,v=.agg #[.int .i64 k,.int .i64 T.kind,.slice B T.args.length d,.slice C ts.length e,.slice A l.length c] ∧
   IsTy S w T (.agg #[.int .i64 T.kind,.slice B T.args.length d])∧TmR.Sl S w ts (.slice C ts.length e)∧FmR.Sl S w l (.slice A l.length c):=h.parts

/-- One more element behind a slice of the call's own that lies in a field. -/
theorem field_step {α:Type} {R:Rep α} {w2 w5:World} {Bz:Nat} {m:List α} {x:α} {A3:Option Addr} {d3 g5 cap5:Nat} {xs vs:List Value}
   (hxo:w2.ownsRow Bz R.t R.n (.slice A3 m.length d3) m.length xs) (hxc:R.Ch (fun b=>Bz≤b∧b<w2.heap.size∧(Value.slice A3 m.length d3).ownBlock≠some b) w2 m xs)
   (hx:R.is (fun b=>Bz≤b∧b<w2.heap.size∧(Value.slice A3 m.length d3).ownBlock≠some b) w2 x vs)
   (hown5:w5.ownsRow Bz R.t R.n (.slice (some ⟨g5,0,none⟩) (m.length+1) cap5) (m.length+1) (xs ++ vs))
   (hgr5:(w2.alloc (.cells vs.toArray R.t)).grownBy w5 (Value.slice A3 m.length d3).ownBlock)
   (hat5:(Value.slice A3 m.length d3).ownBlock=some g5∨g5=(w2.alloc (.cells vs.toArray R.t)).heap.size) :
   R.Own (Bz≤·) Bz (.slice (some ⟨g5,0,none⟩) (m.length+1) cap5) (m ++ [x]) w5∧Turn (Bz≤·) w2 w5:=by
 refine ⟨Rep.Own.more (R:=R) (m:=[x]) (hxo.alloc _) (hxc.keep (fun b hb=>⟨hb.1,by have:=hb.2.1; simp; omega,hb.2.2⟩) (fun p hp=>World.cell?_alloc_lt _ _ _ hp.2.1)) (Rep.Ch.one (R:=R) (vs:=vs) (R.keep (fun b hb=>⟨hb.1,by have:=hb.2.1; simp; omega,hb.2.2⟩) (fun p hp=>World.cell?_alloc_lt _ _ _ hp.2.1) hx)) hown5 hgr5 (by
     rcases hat5 with h | h
     · left; rw [h]; rfl
     · right; rw [h]; rfl),?_⟩
 exact Turn.grown (only_trans (World.grownBy_alloc w2 _ _) hgr5) (fun k e=>(hxo.lt k e).1)

/-- The type was copied, and the new formula lies in a block of its own. -/
def FmStep (W:World) (k:Int) (T:Ty) (x:Value) (wx:World):Prop:=
 ∃ p A2 c2,x=.pointer (some ⟨p,0,none⟩)∧Blk wx p 34 #[.int .i64 k,.int .i64 T.kind,.slice A2 T.args.length c2,.slice none 0 0,.slice none 0 0]∧W.heap.size≤p ∧
   IsTy (fun b=>W.heap.size≤b∧b≠p∧b<wx.heap.size) wx T (.agg #[.int .i64 T.kind,.slice A2 T.args.length c2])∧Below W.heap.size W wx
theorem fm_step_new {W w2:World} {k:Int} {T:Ty} {A2:Option Addr} {c2:Nat} (hb:Below W.heap.size W w2) (ht:IsTy (fun b=>W.heap.size≤b∧b<w2.heap.size) w2 T (.agg #[.int .i64 T.kind,.slice A2 T.args.length c2])) :
   FmStep W k T (.pointer (some ⟨w2.heap.size,0,none⟩)) (w2.alloc (Obj.cells #[.int .i64 k,.int .i64 T.kind,.slice A2 T.args.length c2,.slice none 0 0,.slice none 0 0] 34)):=
 ⟨_,A2,c2,rfl,Blk.new _ _ _,hb.size,IsTy.keep (fun b h=>⟨h.1,by omega,by simp; omega⟩) (fun p hp=>World.cell?_alloc_lt _ _ _ hp.2) _ ht,hb.alloc hb.size _⟩
theorem fm_step_set {W w2:World} {k:Int} {T:Ty} {A2:Option Addr} {c2 p lo:Nat} (hb:Below W.heap.size W w2) (hp:W.heap.size≤p) (hlo:p<lo) (hz:Blk w2 p 34 #[.int .i64 0,.int .i64 0,.slice none 0 0,.slice none 0 0,.slice none 0 0])
   (ht:IsTy (fun b=>lo≤b∧b<w2.heap.size) w2 T (.agg #[.int .i64 T.kind,.slice A2 T.args.length c2])) :
   FmStep W k T (.pointer (some ⟨p,0,none⟩)) (((((w2.setCell ⟨p,0,none⟩ (.int .i64 k)).setCell ⟨p,1,none⟩ (.int .i64 T.kind)).setCell ⟨p,2,none⟩ (.slice A2 T.args.length c2)).setCell ⟨p,3,none⟩ (.slice none 0 0)).setCell ⟨p,4,none⟩ (.slice none 0 0)):=by
 have hg:=only_set5 w2 p (.int .i64 k) (.int .i64 T.kind) (.slice A2 T.args.length c2) (.slice none 0 0) (.slice none 0 0)
 exact ⟨_,A2,c2,rfl,hz.set5 _ _ _ _ _,hp,IsTy.keep (fun b h=>⟨by omega,by omega,Nat.lt_of_lt_of_le h.2 hg.size⟩) (fun q hq=>World.cell?_of_block (hg.block q.block hq.2 (by simp; omega))) _ ht,hb.grown hg hb.size (fun g e=>by cases e; exact hp)⟩

/-- The slice goes back into its field. -/
theorem copy_field {w5 w2 wr wx:World} {p g5 cap5 j:Nat} {ts:List Tm} {x0 x1 x2 x3 x4:Value} {hlt:j<ts.length} (h:TmR.Own (wx.heap.size≤·) wx.heap.size (.slice (some ⟨g5,0,none⟩) ((ts.take j).length+1) cap5) (ts.take j ++ [ts[j]]) w5∧Turn (wx.heap.size≤·) w2 w5)
   (htr:Turn (fun b=>b=p∨wx.heap.size≤b) wx wr) (hb:Below wr.heap.size wr w2) (hp:p<wx.heap.size) (kp:Blk w5 p 34 #[x0,x1,x2,x3,x4]) (hlen:(ts.take j).length=j) (_:j<ts.length) :
   TmR.Own (wx.heap.size≤·) wx.heap.size (.slice (some ⟨g5,0,none⟩) (j+1) cap5) (ts.take (j+1)) (w5.setCell ⟨p,3,none⟩ (.slice (some ⟨g5,0,none⟩) (j+1) cap5)) ∧
     Blk (w5.setCell ⟨p,3,none⟩ (.slice (some ⟨g5,0,none⟩) (j+1) cap5)) p 34 #[x0,x1,x2,.slice (some ⟨g5,0,none⟩) (j+1) cap5,x4] ∧
     Turn (fun b=>b=p∨wx.heap.size≤b) wx (w5.setCell ⟨p,3,none⟩ (.slice (some ⟨g5,0,none⟩) (j+1) cap5)):=by
 obtain ⟨h1,h2⟩:=h
 rw [hlen,← List.take_succ_eq_append_getElem hlt] at h1
 have hs:w5.grownBy (w5.setCell ⟨p,3,none⟩ (.slice (some ⟨g5,0,none⟩) (j+1) cap5)) (some p):=only_setCell (only_refl _ _) (.inl rfl) _
 exact ⟨h1.far hs hp (by omega),by simpa using kp.set_ 3 _,((htr.trans (Turn.call hb)).trans (h2.mono fun k _ hk=>.inr hk)).trans (Turn.grown hs fun k e=>by cases e; exact .inl rfl)⟩

/-- The list of the parts goes back into its field. -/
theorem copy_field4 {w5 w2 wr wx:World} {p g5 cap5 j:Nat} {ts:List Fm} {x0 x1 x2 x3 x4:Value} {hlt:j<ts.length} (h:FmR.Own (wx.heap.size≤·) wx.heap.size (.slice (some ⟨g5,0,none⟩) ((ts.take j).length+1) cap5) (ts.take j ++ [ts[j]]) w5∧Turn (wx.heap.size≤·) w2 w5)
   (htr:Turn (fun b=>b=p∨wx.heap.size≤b) wx wr) (hb:Below wr.heap.size wr w2) (hp:p<wx.heap.size) (kp:Blk w5 p 34 #[x0,x1,x2,x3,x4]) (hlen:(ts.take j).length=j) (_:j<ts.length) :
   FmR.Own (wx.heap.size≤·) wx.heap.size (.slice (some ⟨g5,0,none⟩) (j+1) cap5) (ts.take (j+1)) (w5.setCell ⟨p,4,none⟩ (.slice (some ⟨g5,0,none⟩) (j+1) cap5)) ∧
     Blk (w5.setCell ⟨p,4,none⟩ (.slice (some ⟨g5,0,none⟩) (j+1) cap5)) p 34 #[x0,x1,x2,x3,.slice (some ⟨g5,0,none⟩) (j+1) cap5] ∧
     Turn (fun b=>b=p∨wx.heap.size≤b) wx (w5.setCell ⟨p,4,none⟩ (.slice (some ⟨g5,0,none⟩) (j+1) cap5)):=by
 obtain ⟨h1,h2⟩:=h
 rw [hlen,← List.take_succ_eq_append_getElem hlt] at h1
 have hs:w5.grownBy (w5.setCell ⟨p,4,none⟩ (.slice (some ⟨g5,0,none⟩) (j+1) cap5)) (some p):=only_setCell (only_refl _ _) (.inl rfl) _
 exact ⟨h1.far hs hp (by omega),by simpa using kp.set_ 4 _,((htr.trans (Turn.call hb)).trans (h2.mono fun k _ hk=>.inr hk)).trans (Turn.grown hs fun k e=>by cases e; exact .inl rfl)⟩

set_option maxRecDepth 100000 in
set_option maxHeartbeats 4000000 in
theorem copyF_any (n:Nat):∀ (f:Fm) (v:Value) (w:World),f.bulk≤n→n≤400000→IsFm (· < w.heap.size) w f v →
   Calls Tryz.prog 99 #[v] w (FreshF w f):=by
 induction n with
 | zero=>intro t; have:=bulkF_pos t; omega
 | succ n ih=>
   rintro ⟨k,T,ts,l⟩ v w hn hb ht
   obtain ⟨B,d,C,e0,A,c,rfl,hT,hts,hl⟩:=ht.mk_parts
   have hll:=bulkAllF_len l
   have htl:=bulkAll_len ts
   simp only [Fm.bulk] at hn
   obtain ⟨W,hW,hbW,hz,k0,k1⟩:=two_blks w #[.int .i64 k,.int .i64 T.kind,.slice B T.args.length d,.slice C ts.length e0,.slice A l.length c] #[.int .i64 0,.int .i64 0,.slice none 0 0,.slice none 0 0,.slice none 0 0] 34 34
   have IH:=Lib.hid ih
   have HB:=Lib.hid hbW
   have HT:=Lib.hid (IsTy.keep (S':=(· < w.heap.size)) (w':=W) (fun _ h=>h) (fun p hp=>hbW.cell hp) _ hT)
   have HTS:=Lib.hid (hts.keep (S':=(· < w.heap.size)) (w':=W) (fun _ h=>h) (fun p hp=>hbW.cell hp))
   have HL:=Lib.hid (hl.keep (S':=(· < w.heap.size)) (w':=W) (fun _ h=>h) (fun p hp=>hbW.cell hp))
   have HK0:=Lib.hid k0
   have HK1:=Lib.hid k1
   have HSK:=Lib.hid fun (w':World) (h:Below W.heap.size W w')=>(k0.below h k0.lt).cells5
   obtain ⟨q0,q1,q2,q3,q4⟩:=HSK.out W (Below.refl _ _)
   have HZ:=Lib.hid hz
   have hzW:w.heap.size+1<W.heap.size:=by omega
   clear hT hts hl ht ih k0 k1 hbW hz
   go_enter Tryz.func99,Tryz.ntmps99
   go_upto_region 1 with fail
   rw [← hW]
   clear hW
   have V0:=Lib.hid ((Below.refl W.heap.size W).drew)
   have VZ:=Lib.hid (((Below.refl W.heap.size W).alloc (Nat.le_refl _) (Obj.cells #[.int .i64 0,.int .i64 0,.slice none 0 0,.slice none 0 0,.slice none 0 0] 34)))
   have VL:=Lib.hid (VZ.out.drew)
   have KZ:=Lib.hid ((Blk.new W 34 #[.int .i64 0,.int .i64 0,.slice none 0 0,.slice none 0 0,.slice none 0 0]).drew)
   go_cut [3] from 8 to 13 (fun x wx=>FmStep W k T x wx)
   case first=>
     go_region_held3 (fun w'=>w'.cell? ⟨w.heap.size,0,none⟩ = some (.int .i64 k)∧w'.cell? ⟨w.heap.size,1,none⟩ = some (.int .i64 T.kind)∧w'.cell? ⟨w.heap.size,2,none⟩ = some (.slice B T.args.length d)∧w'.cell? ⟨w.heap.size,3,none⟩ = some (.slice C ts.length e0)∧w'.cell? ⟨w.heap.size,4,none⟩ = some (.slice A l.length c))
       (first | with_reducible exact HSK.out _ V0.out | with_reducible exact HSK.out _ VZ.out | with_reducible exact HSK.out _ VL.out | with_reducible exact HSK.out _ G2.out | with_reducible exact HSK.out _ G3.out | with_reducible exact HSK.out _ G4.out)
       (first
         | (go_at_call 143
            (with_reducible refine (copy_any 400000 T (.agg #[.int .i64 T.kind,.slice B T.args.length d]) (W.alloc (Obj.cells #[.int .i64 0,.int .i64 0,.slice none 0 0,.slice none 0 0,.slice none 0 0] 34)).drew (by omega) (by decide) (IsTy.keep (fun b h=>Nat.lt_of_lt_of_le (show b<W.heap.size by omega) VL.out.size) (fun p hp=>VL.out.cell (show p.block<W.heap.size by have hp:p.block<w.heap.size:=hp; omega)) _ HT.out)).mono ?_)
            rintro e w2 ⟨v2,rfl,h2,b2⟩
            obtain ⟨A2,c2,rfl⟩:=h2.form
            have G2:=Lib.hid (VL.out.trans (b2.mono VL.out.size))
            have K2:=Lib.hid (KZ.out.below b2 KZ.out.lt)
            obtain ⟨n0,n1,n2,n3,n4,f0,f1,f2,f3,f4⟩:=K2.out.facts5
            have END:=Lib.hid (fm_step_set (k:=k) G2.out (Nat.le_refl _) KZ.out.lt K2.out h2)
            have G3:=Lib.hid (show Below W.heap.size W _ from END.out.choose_spec.choose_spec.choose_spec.2.2.2.2)
            clear h2 b2)
         | (go_at_call 143
            (with_reducible refine (copy_any 400000 T (.agg #[.int .i64 T.kind,.slice B T.args.length d]) W.drew (by omega) (by decide) (IsTy.keep (fun b h=>Nat.lt_of_lt_of_le (show b<W.heap.size by omega) V0.out.size) (fun p hp=>V0.out.cell (show p.block<W.heap.size by have hp:p.block<w.heap.size:=hp; omega)) _ HT.out)).mono ?_)
            rintro e w2 ⟨v2,rfl,h2,b2⟩
            obtain ⟨A2,c2,rfl⟩:=h2.form
            have G2:=Lib.hid (V0.out.trans (b2.mono V0.out.size))
            have ENDN:=Lib.hid (fm_step_new (k:=k) G2.out h2)
            obtain ⟨n0,n1,n2,n3,n4,f0,f1,f2,f3,f4⟩:=(Blk.new w2 34 #[.int .i64 0,.int .i64 0,.slice none 0 0,.slice none 0 0,.slice none 0 0]).facts5
            have G3:=Lib.hid (G2.out.alloc G2.out.size (Obj.cells #[.int .i64 k,.int .i64 T.kind,.slice A2 T.args.length c2,.slice none 0 0,.slice none 0 0] 34))
            have G4:=Lib.hid (G2.out.alloc G2.out.size (Obj.cells #[.int .i64 0,.int .i64 0,.slice none 0 0,.slice none 0 0,.slice none 0 0] 34))
            clear h2 b2))
     all_goals (go_wp2_with fail; go_meet; first | exact END.out | exact ENDN.out)
   case rest=>
     obtain ⟨p,A2,c2,rfl,kp,hp,hT2,hbx⟩:=hcut
     rename World=>wx
     have hpx:=kp.lt
     have hxz:=hbx.size
     have KP:=Lib.hid kp
     have HT2:=Lib.hid hT2
     have HBX:=Lib.hid hbx
     have OLDX:=Lib.hid fun (wr:World) (h:Turn (fun b=>b=p∨wx.heap.size≤b) wx wr) (q:Addr) (hq:q.block<W.heap.size)=>(show wr.cell? q=W.cell? q from (World.cell?_of_block (h.block q.block (by omega) (by omega))).trans (hbx.cell hq))
     obtain ⟨r0,r1,r2,r3,r4⟩:=HSK.out wx hbx
     clear kp hT2 hbx q0 q1 q2 q3 q4
     go_wp2_with fail
     clear r0 r1 r2 r3 r4
     go_loopw [17] (fun ix wr=>∃ (j:Nat) (s:Value),j≤ts.length∧ix=.int .i64 j∧TmR.Own (wx.heap.size≤·) wx.heap.size s (ts.take j) wr ∧
         Blk wr p 34 #[.int .i64 k,.int .i64 T.kind,.slice A2 T.args.length c2,s,.slice none 0 0]∧Turn (fun b=>b=p∨wx.heap.size≤b) wx wr) (fun ix _=>ts.length - (intOf ix).toNat)
     case atStart=>exact ⟨0,.slice none 0 0,by omega,rfl,Rep.Own.nil _ _ _,KP.out,Turn.refl _ _⟩
     case round=>
       obtain ⟨j,s,hj,rfl,hown,hkp,htr⟩:=hrel
       have HTR:=Lib.hid htr
       have HO:=Lib.hid hown
       have HKP:=Lib.hid hkp
       have hzr:=htr.size
       have hlen:(ts.take j).length=j:=by simp; omega
       obtain ⟨As,cs,hs⟩:=hown.form
       rw [hlen] at hs
       subst hs
       by_cases hlt:j<ts.length
       · have hlr:TmR.Sl (· < w.heap.size) wr ts (.slice C ts.length e0):=HTS.out.keep (fun _ h=>h) (fun q hq=>OLDX.out wr HTR.out q (by have hq:q.block<w.heap.size:=hq; omega))
         obtain ⟨a,rfl,ha,hat⟩:=hlr.get j hlt
         obtain ⟨B1,d1,A1,c1,q0,q1,q2,q3,q4,hx⟩:=at_tm hat
         change wr.cell? (a.add (j * 5))=_ at q0
         simp only [show TmR.n=5 from rfl] at q1 q2 q3 q4
         have hnj:=bulkAll_get ts j hlt
         obtain ⟨i0,hi,hz0,hz1,hz2⟩:=info_parts info_term
         have HX:=Lib.hid hx
         have HLE:=Lib.hid hlen
         have HAS:=Lib.hid hown.lt
         clear hlr hat hx hown hkp htr hlen
         go_upto_region 5 with fail
         obtain ⟨bR,zR,kR⟩:=new_blk (Below.refl wr.heap.size wr) (Nat.le_refl _) #[.int .i64 ts[j].kind,.int .i64 ts[j].index,.int .i64 ts[j].type.kind,.slice B1 ts[j].type.args.length d1,.slice A1 ts[j].args.length c1] 42
         have kpR:=HKP.out.alloc (Obj.cells #[.int .i64 ts[j].kind,.int .i64 ts[j].index,.int .i64 ts[j].type.kind,.slice B1 ts[j].type.args.length d1,.slice A1 ts[j].args.length c1] 42)
         generalize wr.alloc (Obj.cells #[.int .i64 ts[j].kind,.int .i64 ts[j].index,.int .i64 ts[j].type.kind,.slice B1 ts[j].type.args.length d1,.slice A1 ts[j].args.length c1] 42)=R at bR zR kR kpR ⊢
         have XR:=Lib.hid (show IsTm (· < R.drew.heap.size) R.drew ts[j] _ from IsTm.keep (S:=(· < w.heap.size)) (S':=(· < R.drew.heap.size)) (w':=R.drew) (fun b h=>by have hb:=bR.size; have h:b<w.heap.size:=h; show b<R.heap.size; omega) (fun q hq=>(World.cell?_drew R q).trans (bR.cell (by have hq:q.block<w.heap.size:=hq; omega))) _ HX.out)
         obtain ⟨y0,y1,y2,y3,y4,_⟩:=kR.facts5
         obtain ⟨_,_,_,c3,_,_,_,_,f3,_⟩:=kpR.facts5
         have KPR:=Lib.hid kpR
         have HRB:=Lib.hid bR
         have hRz:=bR.size
         clear zR kR kpR q0 q1 q2 q3 q4 bR
         go_region_law (first
           | (refine step_call (by rfl) 144 #[.tmp 23] _ (by rfl) #[.agg #[.int .i64 ts[j].kind,.int .i64 ts[j].index,.int .i64 ts[j].type.kind,.slice B1 ts[j].type.args.length d1,.slice A1 ts[j].args.length c1]] (by simp only [List.map_toArray,List.map_cons,List.map_nil]; rfl) (enters_of Tryz.func144 (by kernel_rfl) rfl) (copyT_any 400000 ts[j] _ R.drew (by omega) (by decide) XR.out) ?_
              rintro e w2 ⟨v2,rfl,h2,b2⟩
              obtain ⟨B2,d2,A3,c3',rfl,_⟩:=h2.form
              refine ⟨_,rfl,?_⟩
              have G2:=Lib.hid (show Below wr.heap.size wr w2 from HRB.out.trans ((((Below.refl R.heap.size R).drew).trans b2).mono hRz))
              have KP2:=Lib.hid (KPR.out.below (((Below.refl R.heap.size R).drew).trans b2) KPR.out.lt)
              have c3a:=KP2.out.facts5.2.2.2.1
              have c3b:=(KP2.out.alloc (Obj.cells #[.int .i64 ts[j].kind,.int .i64 ts[j].index,.int .i64 ts[j].type.kind,.slice B2 ts[j].type.args.length d2,.slice A3 ts[j].args.length c3'] 42)).facts5.2.2.2.1
              obtain ⟨xs,hxo,hxc⟩:=HO.out.below G2.out
              rw [HLE.out] at hxo
              have HXO:=Lib.hid hxo
              have HXC:=Lib.hid hxc
              have H2:=Lib.hid (And.intro h2 b2.size)
              clear h2 b2 hxo hxc)
           | (refine step_append_lies _ (by rfl) (.tmp 22) (.tmp 25) 31 (by rfl) wx.heap.size 42 i0 _ 5 72 Tryz.underlying31 hi hz0 hz1 hz2 rfl (by decide) (.slice As j cs) j xs (by rfl) (HXO.out.alloc _) _ 1 1 [.int .i64 ts[j].kind,.int .i64 ts[j].index,.int .i64 ts[j].type.kind,.slice B2 ts[j].type.args.length d2,.slice A3 ts[j].args.length c3'] (by rfl) rfl (World.news_of_block (Blk.new w2 42 #[.int .i64 ts[j].kind,.int .i64 ts[j].index,.int .i64 ts[j].type.kind,.slice B2 ts[j].type.args.length d2,.slice A3 ts[j].args.length c3'])) (by simp [Value.oneCell']) (by decide) (by simp only [maxLen]; omega) (by omega) (by have:=G2.out.size; simp; omega) _ rfl ?_
              intro g5 cap5 w5 hown5 hgr5 hat5 hlt5
              have HST:=Lib.hid (field_step (R:=TmR) (Bz:=wx.heap.size) (m:=ts.take j) (x:=ts[j]) (A3:=As) (d3:=cs) (g5:=g5) (cap5:=cap5) (xs:=xs) (vs:=[.int .i64 ts[j].kind,.int .i64 ts[j].index,.int .i64 ts[j].type.kind,.slice B2 ts[j].type.args.length d2,.slice A3 ts[j].args.length c3']) (by rw [HLE.out]; exact HXO.out) (by rw [HLE.out]; exact HXC.out) (IsTm.keep (fun b h=>⟨by have h1:=h.1; have h3:R.heap.size≤b:=h1; omega,h.2,fun e=>by have h1:=h.1; have h3:R.heap.size≤b:=h1; have:=(HAS.out b (by rw [HLE.out] at e; exact e)).2; omega⟩) (fun _ _=>rfl) _ H2.out.1) (by rw [HLE.out]; exact hown5) (by rw [HLE.out]; exact hgr5) (by rw [HLE.out]; exact hat5))
              have KP5:=Lib.hid (HST.out.2.blk KP2.out (by omega))
              have c3c:=KP5.out.facts5.2.2.2.1
              have f3c:=KP5.out.facts5.2.2.2.2.2.2.2.2.1
              clear hown5 hgr5 hat5 hlt5))
         all_goals go_wp2_with fail
         all_goals exact ⟨⟨j+1,_,by omega,by go_num,copy_field HST.out HTR.out G2.out hpx KP5.out HLE.out hlt⟩,by simp [intOf]; omega⟩
       · obtain rfl:j=ts.length:=by omega
         rename World=>wy
         have hpy:p<wy.heap.size:=by omega
         have HOY:=Lib.hid hown
         have KPY:=Lib.hid hkp
         have OLDY:=Lib.hid fun (wr:World) (h:Turn (fun b=>b=p∨wy.heap.size≤b) wy wr) (q:Addr) (hq:q.block<W.heap.size)=>(show wr.cell? q=W.cell? q from (World.cell?_of_block (h.block q.block (by omega) (by omega))).trans (OLDX.out wy HTR.out q hq))
         have k0y:=HK0.out.carry ((HTR.out.block _ (by omega) (by omega)).trans (HBX.out.block _ (by omega)))
         obtain ⟨q0,q1,q2,q3,q4,_⟩:=k0y.facts5
         have HTRY:=Lib.hid htr
         clear hown hkp htr HTR HO HKP k0y
         go_wp2_with fail
         clear q0 q1 q2 q3 q4
         go_loopw [32] (fun ix wr=>∃ (j:Nat) (s:Value),j≤l.length∧ix=.int .i64 j∧FmR.Own (wy.heap.size≤·) wy.heap.size s (l.take j) wr ∧
             Blk wr p 34 #[.int .i64 k,.int .i64 T.kind,.slice A2 T.args.length c2,.slice As ts.length cs,s]∧Turn (fun b=>b=p∨wy.heap.size≤b) wy wr) (fun ix _=>l.length - (intOf ix).toNat)
         case atStart=>exact ⟨0,.slice none 0 0,by omega,rfl,Rep.Own.nil _ _ _,KPY.out,Turn.refl _ _⟩
         case round=>
           obtain ⟨j,s,hj,rfl,hown,hkp,htr⟩:=hrel
           have HTR:=Lib.hid htr
           have HO:=Lib.hid hown
           have HKP:=Lib.hid hkp
           have hzr:=htr.size
           have hlen:(l.take j).length=j:=by simp; omega
           obtain ⟨As',cs',hs⟩:=hown.form
           rw [hlen] at hs
           subst hs
           by_cases hlt:j<l.length
           · have hlr:FmR.Sl (· < w.heap.size) wr l (.slice A l.length c):=HL.out.keep (fun _ h=>h) (fun q hq=>OLDY.out wr HTR.out q (by have hq:q.block<w.heap.size:=hq; omega))
             obtain ⟨a,rfl,ha,hat⟩:=hlr.get j hlt
             obtain ⟨B1,d1,C1,e1,A1,c1,q0,q1,q2,q3,q4,hx⟩:=at_fm hat
             change wr.cell? (a.add (j * 5))=_ at q0
             simp only [show FmR.n=5 from rfl] at q1 q2 q3 q4
             have hnj:=bulkAllF_get l j hlt
             obtain ⟨i0,hi,hz0,hz1,hz2⟩:=info_parts info_formula
             have HX:=Lib.hid hx
             have HLE:=Lib.hid hlen
             have HAS:=Lib.hid hown.lt
             clear hlr hat hx hown hkp htr hlen
             go_upto_region 10 with fail
             obtain ⟨bR,zR,kR⟩:=new_blk (Below.refl wr.heap.size wr) (Nat.le_refl _) #[.int .i64 l[j].kind,.int .i64 l[j].type.kind,.slice B1 l[j].type.args.length d1,.slice C1 l[j].terms.length e1,.slice A1 l[j].args.length c1] 34
             have kpR:=HKP.out.alloc (Obj.cells #[.int .i64 l[j].kind,.int .i64 l[j].type.kind,.slice B1 l[j].type.args.length d1,.slice C1 l[j].terms.length e1,.slice A1 l[j].args.length c1] 34)
             generalize wr.alloc (Obj.cells #[.int .i64 l[j].kind,.int .i64 l[j].type.kind,.slice B1 l[j].type.args.length d1,.slice C1 l[j].terms.length e1,.slice A1 l[j].args.length c1] 34)=R at bR zR kR kpR ⊢
             have XR:=Lib.hid (show IsFm (· < R.drew.heap.size) R.drew l[j] _ from IsFm.keep (S:=(· < w.heap.size)) (S':=(· < R.drew.heap.size)) (w':=R.drew) (fun b h=>by have hb:=bR.size; have h:b<w.heap.size:=h; show b<R.heap.size; omega) (fun q hq=>(World.cell?_drew R q).trans (bR.cell (by have hq:q.block<w.heap.size:=hq; omega))) _ HX.out)
             obtain ⟨y0,y1,y2,y3,y4,_⟩:=kR.facts5
             obtain ⟨_,_,_,_,c3,_,_,_,_,f3⟩:=kpR.facts5
             have KPR:=Lib.hid kpR
             have HRB:=Lib.hid bR
             have hRz:=bR.size
             clear zR kR kpR q0 q1 q2 q3 q4 bR
             go_region_law (first
               | (refine step_call (by rfl) 99 #[.tmp 38] _ (by rfl) #[.agg #[.int .i64 l[j].kind,.int .i64 l[j].type.kind,.slice B1 l[j].type.args.length d1,.slice C1 l[j].terms.length e1,.slice A1 l[j].args.length c1]] (by simp only [List.map_toArray,List.map_cons,List.map_nil]; rfl) (enters_of Tryz.func99 (by kernel_rfl) rfl) (IH.out l[j] _ R.drew (by omega) (by omega) XR.out) ?_
                  rintro e w2 ⟨v2,rfl,h2,b2⟩
                  obtain ⟨B2,d2,C2,e2,A3,c3',rfl,_⟩:=h2.form
                  refine ⟨_,rfl,?_⟩
                  have G2:=Lib.hid (show Below wr.heap.size wr w2 from HRB.out.trans ((((Below.refl R.heap.size R).drew).trans b2).mono hRz))
                  have KP2:=Lib.hid (KPR.out.below (((Below.refl R.heap.size R).drew).trans b2) KPR.out.lt)
                  have c3a:=KP2.out.facts5.2.2.2.2.1
                  have c3b:=(KP2.out.alloc (Obj.cells #[.int .i64 l[j].kind,.int .i64 l[j].type.kind,.slice B2 l[j].type.args.length d2,.slice C2 l[j].terms.length e2,.slice A3 l[j].args.length c3'] 34)).facts5.2.2.2.2.1
                  obtain ⟨xs,hxo,hxc⟩:=HO.out.below G2.out
                  rw [HLE.out] at hxo
                  have HXO:=Lib.hid hxo
                  have HXC:=Lib.hid hxc
                  have H2:=Lib.hid (And.intro h2 b2.size)
                  clear h2 b2 hxo hxc)
               | (refine step_append_lies _ (by rfl) (.tmp 37) (.tmp 40) 32 (by rfl) wy.heap.size 34 i0 _ 5 88 Tryz.underlying32 hi hz0 hz1 hz2 rfl (by decide) (.slice As' j cs') j xs (by rfl) (HXO.out.alloc _) _ 1 1 [.int .i64 l[j].kind,.int .i64 l[j].type.kind,.slice B2 l[j].type.args.length d2,.slice C2 l[j].terms.length e2,.slice A3 l[j].args.length c3'] (by rfl) rfl (World.news_of_block (Blk.new w2 34 #[.int .i64 l[j].kind,.int .i64 l[j].type.kind,.slice B2 l[j].type.args.length d2,.slice C2 l[j].terms.length e2,.slice A3 l[j].args.length c3'])) (by simp [Value.oneCell']) (by decide) (by simp only [maxLen]; omega) (by omega) (by have:=G2.out.size; simp; omega) _ rfl ?_
                  intro g5 cap5 w5 hown5 hgr5 hat5 hlt5
                  have HST:=Lib.hid (field_step (R:=FmR) (Bz:=wy.heap.size) (m:=l.take j) (x:=l[j]) (A3:=As') (d3:=cs') (g5:=g5) (cap5:=cap5) (xs:=xs) (vs:=[.int .i64 l[j].kind,.int .i64 l[j].type.kind,.slice B2 l[j].type.args.length d2,.slice C2 l[j].terms.length e2,.slice A3 l[j].args.length c3']) (by rw [HLE.out]; exact HXO.out) (by rw [HLE.out]; exact HXC.out) (IsFm.keep (fun b h=>⟨by have h1:=h.1; have h3:R.heap.size≤b:=h1; omega,h.2,fun e=>by have h1:=h.1; have h3:R.heap.size≤b:=h1; have:=(HAS.out b (by rw [HLE.out] at e; exact e)).2; omega⟩) (fun _ _=>rfl) _ H2.out.1) (by rw [HLE.out]; exact hown5) (by rw [HLE.out]; exact hgr5) (by rw [HLE.out]; exact hat5))
                  have KP5:=Lib.hid (HST.out.2.blk KP2.out (by omega))
                  have c3c:=KP5.out.facts5.2.2.2.2.1
                  have f3c:=KP5.out.facts5.2.2.2.2.2.2.2.2.2
                  clear hown5 hgr5 hat5 hlt5))
             all_goals go_wp2_with fail
             all_goals exact ⟨⟨j+1,_,by omega,by go_num,copy_field4 HST.out HTR.out G2.out hpy KP5.out HLE.out hlt⟩,by simp [intOf]; omega⟩
           · obtain rfl:j=l.length:=by omega
             rename World=>wz
             have k1z:=HK1.out.carry ((HTR.out.block _ (by omega) (by omega)).trans ((HTRY.out.block _ (by omega) (by omega)).trans (HBX.out.block _ (by omega))))
             obtain ⟨y0,y1,y2,y3,y4,_⟩:=HKP.out.facts5
             obtain ⟨_,_,_,_,_,f0,f1,f2,f3,f4⟩:=k1z.facts5
             rw [List.take_length] at hown
             have hoy:=HOY.out
             rw [List.take_length] at hoy
             have HK1Z:=Lib.hid k1z
             have HOZ:=Lib.hid (And.intro hown hoy)
             clear hown hoy hkp htr k1z HOY
             go_wp2_with fail
             obtain ⟨z0,z1,z2,z3,z4⟩:=(HK1Z.out.set5 (.int .i64 k) (.int .i64 T.kind) (.slice A2 T.args.length c2) (.slice As ts.length cs) (.slice As' l.length cs')).cells5
             have hg:=only_set5 wz (w.heap.size+1) (.int .i64 k) (.int .i64 T.kind) (.slice A2 T.args.length c2) (.slice As ts.length cs) (.slice As' l.length cs')
             refine bodyPost_ret (v:=.agg #[.int .i64 k,.int .i64 T.kind,.slice A2 T.args.length c2,.slice As ts.length cs,.slice As' l.length cs']) (by simp [results,Tryz.results99,go_sem,z0,z1,z2,z3,z4]) rfl ⟨_,rfl,isFm_iff.2 ⟨rfl,?_,?_,?_⟩,?_⟩
             · exact IsTy.keep (fun b h=>⟨by omega,by have:=hg.size; omega⟩) (fun q hq=>(World.cell?_of_block (hg.block q.block (by omega) (by simp; omega))).trans ((World.cell?_of_block (HTR.out.block q.block (by omega) (by omega))).trans (World.cell?_of_block (HTRY.out.block q.block (by omega) (by omega))))) _ HT2.out
             · exact HOZ.out.2.sl.keep (fun b h=>⟨by omega,by have:=hg.size; omega⟩) (fun q hq=>(World.cell?_of_block (hg.block q.block (by omega) (by simp; omega))).trans (World.cell?_of_block (HTR.out.block q.block (by omega) (by omega))))
             · exact HOZ.out.1.sl.keep (fun b h=>⟨by omega,by have:=hg.size; omega⟩) (fun q hq=>World.cell?_of_block (hg.block q.block (by omega) (by simp; omega)))
             · have h1:Below w.heap.size w wz:=(HB.out.trans (HBX.out.mono (by omega))).trans (((HTRY.out.mono (Y:=fun b=>W.heap.size≤b) fun b _ h=>by omega).trans (HTR.out.mono (Y:=fun b=>W.heap.size≤b) fun b _ h=>by omega)).toBelow (fun b h=>by omega) (by omega))
               exact h1.grown hg (by omega) (fun g e=>by cases e; omega)
end Go.Proofs.YtipfnkajdooiiaaGreatDoor
namespace Go.Proofs.YtipfnkajdooiiaaGreatDoor
open Go.RowKit

/-- A valid formula, whatever its size. -/
inductive GoodF:Fm→Prop
 | eq (s t:Tm) (hs:s.err=0) (ht:t.err=0):GoodF (.mk 1 .zero [s,t] [])
 | two (k:Int) (a b:Fm) (hk:k=2∨k=3) (ha:GoodF a) (hb:GoodF b):GoodF (.mk k .zero [] [a,b])
 | quant (k:Int) (T:Ty) (b:Fm) (hk:k=4∨k=5∨k=6∨k=7) (hT:T.err=0) (hb:GoodF b):GoodF (.mk k T [] [b])
mutual
/-- The number of nodes, with those of terms. -/
def Fm.size:Fm→Nat
 | .mk _ _ ts l=>1+sizeAllT ts+sizeAllF l
def sizeAllF:List Fm→Nat
 | []=>0
 | f :: r=>f.size+sizeAllF r
end
theorem sizeF_eq (f:Fm):f.size=1+sizeAllT f.terms+sizeAllF f.args:=by cases f; rfl
theorem sizeAllF_append:∀ l r:List Fm,sizeAllF (l ++ r)=sizeAllF l+sizeAllF r
 | [],r=>by simp [sizeAllF]
 | f :: l,r=>by simp only [List.cons_append,sizeAllF,sizeAllF_append l r]; omega
theorem sizeF_pos (f:Fm):1≤f.size:=by rw [sizeF_eq]; omega
theorem GoodF.args {f:Fm} (h:GoodF f):∀ a ∈ f.args,GoodF a:=by
 cases h with
 | eq=>intro a ha; simp [Fm.args] at ha
 | two k a b hk ha hb=>intro x hx; simp [Fm.args] at hx; rcases hx with rfl | rfl; exact ha; exact hb
 | quant k T b hk hT hb=>intro x hx; simp [Fm.args] at hx; subst hx; exact hb
end Go.Proofs.YtipfnkajdooiiaaGreatDoor
namespace Go.Proofs.YtipfnkajdooiiaaGreatDoor
open Go.RowKit

set_option maxRecDepth 100000 in
set_option maxHeartbeats 4000000 in
theorem formed_ok {f:Fm} (hf:GoodF f) (v:Value) (w:World) (hn:f.bulk≤400000) (hF:IsFm (· < w.heap.size) w f v) :
   Calls Tryz.prog 242 #[v] w fun e w'=>e=.returned (.bool true)∧Below w.heap.size w w':=by
 cases hf with
 | eq s t hs ht=>
   obtain ⟨B,d,C,e0,A,c,rfl,_,_,_⟩:=hF.mk_parts
   clear hF hs ht hn
   go_enter Tryz.func242,Tryz.ntmps242
   go_wp2_with fail
   go_ret
   exact ⟨rfl,(Below.refl _ _).alloc (Nat.le_refl _) _⟩
 | two k a b hk ha hb=>
   obtain ⟨B,d,C,e0,A,c,rfl,_,_,_⟩:=hF.mk_parts
   clear hF ha hb hn
   rcases hk with rfl | rfl
   all_goals
     go_enter Tryz.func242,Tryz.ntmps242
     go_wp2_with fail
     go_ret
     exact ⟨rfl,(Below.refl _ _).alloc (Nat.le_refl _) _⟩
 | quant k T b hk hT hb=>
   obtain ⟨B,d,C,e0,A,c,rfl,hty,_,_⟩:=hF.mk_parts
   have HTY:=Lib.hid hty
   have hTn:T.nodes≤400000:=by simp only [Fm.bulk] at hn; omega
   clear hF hb hn hty
   obtain ⟨W,hW⟩:∃ W,W=w.alloc (Obj.cells #[.int .i64 k,.int .i64 T.kind,.slice B T.args.length d,.slice C 0 e0,.slice A 1 c] 34):=⟨_,rfl⟩
   have hbW:Below w.heap.size w W:=by rw [hW]; exact (Below.refl _ _).alloc (Nat.le_refl _) _
   have k0:Blk W w.heap.size 34 #[.int .i64 k,.int .i64 T.kind,.slice B T.args.length d,.slice C 0 e0,.slice A 1 c]:=by rw [hW]; exact Blk.new _ _ _
   obtain ⟨r0,r1,r2,r3,r4,_⟩:=k0.facts5
   have HK:=Lib.hid (And.intro k0 hbW)
   clear k0 hbW
   rcases hk with rfl | rfl | rfl | rfl
   all_goals
     go_enter Tryz.func242,Tryz.ntmps242
     go_upto_region 1 with fail
     try simp only [List.length_nil,List.length_cons,Nat.zero_add]
     rw [← hW]
     clear hW
     go_wp2_with fail
     refine (check_any T _ W hTn (HTY.out.boxed HK.out.2)).mono ?_
     rintro e w1 ⟨he,hb1⟩
     rw [hT] at he
     subst he
     have HB1:=Lib.hid (HK.out.2.trans (hb1.mono HK.out.2.size))
     have k1:=HK.out.1.below hb1 HK.out.1.lt
     clear r0 r1 r2 r3 r4 hb1
     obtain ⟨r0,r1,r2,r3,r4,_⟩:=k1.facts5
     go_wp2_with fail
     go_ret
     exact ⟨rfl,HB1.out⟩

theorem GoodF.terms {f:Fm} (h:GoodF f):∀ t ∈ f.terms,t.err=0:=by
 cases h with
 | eq s t hs ht=>intro x hx; simp [Fm.terms] at hx; rcases hx with rfl | rfl; exact hs; exact ht
 | two=>intro x hx; simp [Fm.terms] at hx
 | quant=>intro x hx; simp [Fm.terms] at hx
theorem sizeAllT_upto (l:List Tm) (j:Nat) (hj:j<l.length):sizeAllT (l.take (j+1))=sizeAllT (l.take j)+l[j].size:=by
 rw [List.take_succ_eq_append_getElem hj,sizeAllT_append]; simp [sizeAllT]
theorem sizeAllT_upto_le (l:List Tm) (j:Nat):sizeAllT (l.take j)≤sizeAllT l:=by
 conv=>rhs; rw [← List.take_append_drop j l,sizeAllT_append]
 omega
theorem terms_size {f:Fm} (h:GoodF f):sizeAllT f.terms≤8192:=by
 cases h with
 | eq s t hs ht=>have:=(errT_zero.1 hs).2; have:=(errT_zero.1 ht).2; simp only [Fm.terms,sizeAllT]; omega
 | two=>simp [Fm.terms,sizeAllT]
 | quant=>simp [Fm.terms,sizeAllT]

set_option maxRecDepth 100000 in
set_option maxHeartbeats 4000000 in
theorem weight_ok {f:Fm} (hf:GoodF f) (v:Value) (w:World) (hn:f.bulk≤400000) (htab:Tab w) (hF:IsFm (· < w.heap.size) w f v) :
   Calls Tryz.prog 208 #[v] w fun e w'=>e=.returned (.tuple #[.int .i64 ((1+sizeAllT f.terms:Nat):Int),.int .i64 0])∧Below w.heap.size w w':=by
 have hte:=hf.terms
 have hts:=terms_size hf
 obtain ⟨B,d,C,e0,A,c,rfl,_,hl,_⟩:=hF.parts
 have hbl:=bulkF_eq f
 have hll:=bulkAll_len f.terms
 obtain ⟨W,hW⟩:∃ W,W=w.alloc (Obj.cells #[.int .i64 f.kind,.int .i64 f.type.kind,.slice B f.type.args.length d,.slice C f.terms.length e0,.slice A f.args.length c] 34):=⟨_,rfl⟩
 have hbW:Below w.heap.size w W:=by rw [hW]; exact (Below.refl _ _).alloc (Nat.le_refl _) _
 have k0:Blk W w.heap.size 34 #[.int .i64 f.kind,.int .i64 f.type.kind,.slice B f.type.args.length d,.slice C f.terms.length e0,.slice A f.args.length c]:=by rw [hW]; exact Blk.new _ _ _
 obtain ⟨r0,r1,r2,r3,r4,_⟩:=k0.facts5
 have HK:=Lib.hid (And.intro k0 hbW)
 have HF:=Lib.hid (And.intro hf (hF.boxed hbW))
 have HL:=Lib.hid hl
 have HTE:=Lib.hid hte
 have HTab:=Lib.hid htab
 have hzW:=hbW.size
 clear hf hF hl hte htab k0 hbW
 go_enter Tryz.func208,Tryz.ntmps208
 go_upto_region 1 with fail
 rw [← hW]
 clear hW
 go_wp2_with fail
 refine (formed_ok HF.out.1 _ W hn HF.out.2).mono ?_
 rintro e w1 ⟨rfl,hb1⟩
 have hz1:=hb1.size
 have HB1:=Lib.hid (HK.out.2.trans (hb1.mono HK.out.2.size))
 have k1:=HK.out.1.below hb1 HK.out.1.lt
 clear r0 r1 r2 r3 r4 hb1
 obtain ⟨r0,r1,r2,r3,r4,_⟩:=k1.facts5
 clear k1
 generalize hts':f.terms=ts at *
 go_wp2_with fail
 go_loopw [4,15] (fun cnt ix wr=>∃ j:Nat,j≤ts.length∧ix=.int .i64 j∧cnt=.int .i64 ((1+sizeAllT (ts.take j):Nat):Int)∧Below w.heap.size w wr) (fun _ ix _=>ts.length - (intOf ix).toNat)
 case atStart=>exact ⟨0,by omega,rfl,by simp [sizeAllT],HB1.out⟩
 case round=>
   obtain ⟨j,hj,rfl,rfl,hbel⟩:=hrel
   by_cases hlt:j<ts.length
   · have hlr:TmR.Sl (· < w.heap.size) wr ts (.slice C ts.length e0):=HL.out.keep (fun _ h=>h) (fun q hq=>hbel.cell hq)
     obtain ⟨a,rfl,ha,hat⟩:=hlr.get j hlt
     obtain ⟨B1,d1,A1,c1,q0,q1,q2,q3,q4,hx⟩:=at_tm hat
     change wr.cell? (a.add (j * 5))=_ at q0
     simp only [show TmR.n=5 from rfl] at q1 q2 q3 q4
     have hnj:=bulkAll_get ts j hlt
     have hup:=sizeAllT_upto ts j hlt
     have hul:=sizeAllT_upto_le ts (j+1)
     have HUP:=Lib.hid hup
     have hxe:=HTE.out ts[j] (List.getElem_mem hlt)
     have HX:=Lib.hid (And.intro hxe (hx.keep (S':=(· < (wr.alloc (Obj.cells #[.int .i64 ts[j].kind,.int .i64 ts[j].index,.int .i64 ts[j].type.kind,.slice B1 ts[j].type.args.length d1,.slice A1 ts[j].args.length c1] 42)).heap.size)) (w':=wr.alloc (Obj.cells #[.int .i64 ts[j].kind,.int .i64 ts[j].index,.int .i64 ts[j].type.kind,.slice B1 ts[j].type.args.length d1,.slice A1 ts[j].args.length c1] 42)) (fun b h=>by have:=hbel.size; have h:b<w.heap.size:=h; simp; omega) (fun q hq=>World.cell?_alloc_lt _ _ _ (by have:=hbel.size; have hq:q.block<w.heap.size:=hq; omega))))
     have hbx:=below_box wr (Obj.cells #[.int .i64 ts[j].kind,.int .i64 ts[j].index,.int .i64 ts[j].type.kind,.slice B1 ts[j].type.args.length d1,.slice A1 ts[j].args.length c1] 42)
     have HBX:=Lib.hid (And.intro (hbel.trans (hbx.mono hbel.size)) (HTab.out.after (hbel.trans (hbx.mono hbel.size))))
     have hsz:sizeAllT (ts.take j)+ts[j].size≤8192:=by omega
     clear hlr hat hx hxe hbx hup
     go_wp2_with fail
     refine (sizeT_ok (T:=ts[j]) HX.out.1 (by omega) HBX.out.2 HX.out.2).mono ?_
     rintro e w2 ⟨rfl,hb2⟩
     have HB2:=Lib.hid (HBX.out.1.trans (hb2.mono HBX.out.1.size))
     clear hb2
     go_wp2_with fail
     refine ⟨⟨j+1,by omega,by go_num,?_,HB2.out⟩,by simp [intOf]; omega⟩
     rw [HUP.out]
     go_num
   · obtain rfl:j=ts.length:=by omega
     rw [List.take_length]
     go_wp2_with fail
     go_ret2
     exact ⟨by rw [hts']; rfl,hbel⟩

/-- The last formula of a slice of the call's own, as the walk asks for it. -/
theorem own_last_fm {S:Nat→Prop} {base:Nat} {v:Value} {ts:List Fm} {x:Fm} {w:World} (h:FmR.Own S base v (ts ++ [x]) w):∃ (g cap:Nat) (B:Option Addr) (d:Nat) (C:Option Addr) (e:Nat) (A:Option Addr) (c:Nat),
   v=.slice (some ⟨g,0,none⟩) (ts.length+1) cap∧base≤g∧g<w.heap.size∧ts.length+1≤cap ∧
   w.cell? ⟨g,ts.length * 5,none⟩ = some (.int .i64 x.kind)∧w.cell? ⟨g,ts.length * 5+1,none⟩ = some (.int .i64 x.type.kind)∧w.cell? ⟨g,ts.length * 5+2,none⟩ = some (.slice B x.type.args.length d) ∧
   w.cell? ⟨g,ts.length * 5+3,none⟩ = some (.slice C x.terms.length e)∧w.cell? ⟨g,ts.length * 5+4,none⟩ = some (.slice A x.args.length c) ∧
   IsFm (fun b=>S b∧b<w.heap.size) w x (.agg #[.int .i64 x.kind,.int .i64 x.type.kind,.slice B x.type.args.length d,.slice C x.terms.length e,.slice A x.args.length c]) ∧
   FmR.Own S base (.slice (some ⟨g,0,none⟩) ts.length cap) ts w:=by
 obtain ⟨g,cap,vs,rfl,hg0,hg1,hcap,hcell,hx,ho⟩:=h.last
 have hx':IsFm (fun b=>S b∧b<w.heap.size∧g≠b) w x (.agg vs.toArray):=hx
 obtain ⟨B,d,C,e0,A,c,e,_⟩:=hx'.form
 simp only [Value.agg.injEq] at e
 have e':=congrArg Array.toList e
 simp only at e'
 subst e'
 exact ⟨g,cap,B,d,C,e0,A,c,rfl,hg0,hg1,hcap,hcell 0 _ rfl,hcell 1 _ rfl,hcell 2 _ rfl,hcell 3 _ rfl,hcell 4 _ rfl,IsFm.keep (fun b hb=>⟨hb.1,hb.2.1⟩) (fun _ _=>rfl) _ hx',ho⟩
/-- The cells of a slice of formulas that is there. -/
theorem sl_cellsF {S:Nat→Prop} {w:World} {l:List Fm} {a:Addr} {n c:Nat} (h:FmR.Sl S w l (.slice (some a) n c)):∃ news,FmR.Ch S w l news∧∀ j u,news[j]? = some u→w.cell? (a.add j)=some u:=by
 cases l with
 | nil=>exact ⟨[],Rep.Ch.nil _ _,fun j u h=>by simp at h⟩
 | cons x r=>
   obtain ⟨A,c',e,h⟩:=h
   simp at e
   obtain ⟨a',h1,_,h2⟩:=h (by simp)
   rw [← e.1] at h1
   cases h1
   exact h2.cells
def SizeRelF (w:World) (f:Fm) (k:Nat) (cnt s:Value) (wr:World):Prop:=
 ∃ (st:List Fm) (n:Nat),cnt=.int .i64 (n:Int)∧FmR.Own (· < w.heap.size) (w.heap.size+1) s st wr∧(∀ a ∈ st,GoodF a)∧n+sizeAllF st=f.size∧bulkAllF st≤400000∧sizeAllF st=k∧Below w.heap.size w wr∧w.heap.size+1≤wr.heap.size

set_option maxRecDepth 100000 in
set_option maxHeartbeats 4000000 in
theorem sizeF_ok {f:Fm} (hf:GoodF f) (hsz:f.size≤4096) (v:Value) (w:World) (hn:f.bulk≤400000) (htab:Tab w) (hF:IsFm (· < w.heap.size) w f v) :
   Calls Tryz.prog 157 #[v] w fun e w'=>e=.returned (.tuple #[.int .i64 (f.size:Int),.int .i64 0])∧Below w.heap.size w w':=by
 obtain ⟨B,d,C,e0,A,c,rfl,_,_,_⟩:=hF.parts
 have HF:=Lib.hid (And.intro hf hF)
 have HTab:=Lib.hid htab
 clear hf hF htab
 go_enter Tryz.func157,Tryz.ntmps157
 go_wp2_with fail
 obtain ⟨b1,z1,k0⟩:=new_blk (Below.refl w.heap.size w) (Nat.le_refl _) #[.int .i64 f.kind,.int .i64 f.type.kind,.slice B f.type.args.length d,.slice C f.terms.length e0,.slice A f.args.length c] 34
 go_loopg [4,5] f.size (fun k cnt s wr=>SizeRelF w f k cnt s wr)
 case atStart=>
   have e:(w.alloc (Obj.cells #[.int .i64 f.kind,.int .i64 f.type.kind,.slice B f.type.args.length d,.slice C f.terms.length e0,.slice A f.args.length c] 34)).heap.size=w.heap.size+1:=z1
   refine ⟨[f],0,rfl,?_,fun a ha=>by rw [List.mem_singleton.1 ha]; exact HF.out.1,by simp [sizeAllF],by simpa [bulkAllF] using hn,by simp [sizeAllF],b1.alloc b1.size _,by simp⟩
   have h0:IsFm (· < w.heap.size) _ f _:=IsFm.keep (fun b h=>h) (fun p hp=>b1.cell hp) _ HF.out.2
   have h1:=Rep.Own.built (R:=FmR) (base:=w.heap.size+1) (Rep.Ch.one (R:=FmR) (vs:=[_,_,_,_,_]) h0) (fun b hb=>by have:b<w.heap.size:=hb; omega) (by omega) (by simp [maxLen]) (by simp)
   rw [e] at h1
   exact h1
 case round=>
   obtain ⟨st,n,rfl,hown,hgd,hsum,hbk,hk,hbel,hz⟩:=hrel
   clear b1 z1 k0
   rcases List.eq_nil_or_concat st with rfl | ⟨ts,x,rfl⟩
   · obtain ⟨A3,c3,rfl⟩:=hown.form
     have hn':n=f.size:=by simpa [sizeAllF] using hsum
     subst hn'
     have e4:decide ((4096:Int)<(f.size:Int))=false:=by simp; omega
     go_wp2_with fail
     go_ret2
     exact ⟨rfl,hbel⟩
   · simp only [List.concat_eq_append] at hown hgd hsum hbk hk
     obtain ⟨g,cap,B1,d1,C1,e1,A1,c1,rfl,hg0,hg1,hcap,q0,q1,q2,q3,q4,hx,hown2⟩:=own_last_fm hown
     have hgx:=hgd x (by simp)
     have hxb:=bulkF_eq x
     have hxa:=bulkAllF_len x.args
     have hb2:=hbk
     rw [bulkAllF_append] at hb2
     simp only [bulkAllF] at hb2
     have hlen:=bulkAllF_len ts
     have hts:=terms_size hgx
     have hs2:=hsum
     rw [sizeAllF_append] at hs2
     simp only [sizeAllF,sizeF_eq x] at hs2
     have HX:=Lib.hid hx
     have HO:=Lib.hid hown2
     have HG:=Lib.hid (And.intro hgd hgx)
     have HS:=Lib.hid (And.intro hsum hk)
     clear hx hown2 hgd hgx hown hsum hk
     go_wp2_with fail
     have hbx:=Blk.new wr 34 #[.int .i64 x.kind,.int .i64 x.type.kind,.slice B1 x.type.args.length d1,.slice C1 x.terms.length e1,.slice A1 x.args.length c1]
     have htab1:=(HTab.out.after hbel).alloc (Obj.cells #[.int .i64 x.kind,.int .i64 x.type.kind,.slice B1 x.type.args.length d1,.slice C1 x.terms.length e1,.slice A1 x.args.length c1] 34)
     have hx1:IsFm (· < w.heap.size) (wr.alloc (Obj.cells #[.int .i64 x.kind,.int .i64 x.type.kind,.slice B1 x.type.args.length d1,.slice C1 x.terms.length e1,.slice A1 x.args.length c1] 34)) x (.agg #[.int .i64 x.kind,.int .i64 x.type.kind,.slice B1 x.type.args.length d1,.slice C1 x.terms.length e1,.slice A1 x.args.length c1]):=IsFm.keep (fun b hb=>hb.1) (fun p hp=>World.cell?_alloc_lt _ _ _ hp.2) _ HX.out
     have z1:=World.size_alloc wr (Obj.cells #[.int .i64 x.kind,.int .i64 x.type.kind,.slice B1 x.type.args.length d1,.slice C1 x.terms.length e1,.slice A1 x.args.length c1] 34)
     have hb1:=hbel.alloc hbel.size (Obj.cells #[.int .i64 x.kind,.int .i64 x.type.kind,.slice B1 x.type.args.length d1,.slice C1 x.terms.length e1,.slice A1 x.args.length c1] 34)
     have ho1:=HO.out.below (below_box wr (Obj.cells #[.int .i64 x.kind,.int .i64 x.type.kind,.slice B1 x.type.args.length d1,.slice C1 x.terms.length e1,.slice A1 x.args.length c1] 34))
     have HX1:=Lib.hid hx1
     have HTab1:=Lib.hid htab1
     have HO1:=Lib.hid ho1
     clear HX HO hx1 htab1 ho1 hbel q0 q1 q2 q3 q4
     generalize wr.alloc (Obj.cells #[.int .i64 x.kind,.int .i64 x.type.kind,.slice B1 x.type.args.length d1,.slice C1 x.terms.length e1,.slice A1 x.args.length c1] 34)=W1 at hbx HX1 HTab1 HO1 hb1 z1 ⊢
     have hbs:=hb1.size
     refine (weight_ok HG.out.2 _ W1 (by omega) HTab1.out (IsFm.keep (fun b hb=>Nat.lt_of_lt_of_le hb hbs) (fun _ _=>rfl) _ HX1.out)).mono ?_
     rintro e W2 ⟨rfl,hb2'⟩
     have hbw2:Below w.heap.size w W2:=hb1.trans (hb2'.mono hbs)
     have hsz2:=hb2'.size
     obtain ⟨_,_,_,_,p4,_,_,_,_,_⟩:=(hbx.below hb2' (by omega)).facts5
     have hx2:IsFm (· < w.heap.size) W2 x _:=IsFm.keep (fun b hb=>hb) (fun p hp=>hb2'.cell (by omega)) _ HX1.out
     have hargs:FmR.Sl (· < w.heap.size) W2 x.args (.slice A1 x.args.length c1):=by
       cases x; exact (isFm_iff.1 hx2).2.2.2
     clear hx2
     cases A1 with
     | none=>
       have hnil:=hargs.none_nil
       have hnl:x.args.length=0:=by rw [hnil]; rfl
       rw [hnl] at p4
       have HN:=Lib.hid hnil
       clear hargs hnil
       go_wp2_with fail
       go_roundg (sizeAllF ts)
       case rel=>
         obtain ⟨f2,f4⟩:=HS.out
         refine ⟨ts,n+(1+sizeAllT x.terms),by go_num,HO1.out.below hb2',fun a ha=>HG.out.1 a (by simp [ha]),?_,by omega,rfl,hbw2,by omega⟩
         rw [sizeAllF_append] at f2
         simp only [sizeAllF,sizeF_eq x,HN.out] at f2
         omega
       case measure=>
         obtain ⟨f2,f4⟩:=HS.out
         have:=sizeF_pos x
         rw [sizeAllF_append] at f4; simp only [sizeAllF] at f4; omega
     | some a=>
       obtain ⟨news,hch,hnc⟩:=sl_cellsF hargs
       obtain ⟨xs,hown,hxs⟩:=HO1.out.below hb2'
       obtain ⟨i0,hi,hz0,hz1,hz2⟩:=info_parts info_formula
       have HCH:=Lib.hid hch
       have HNC:=Lib.hid hnc
       have HXS:=Lib.hid hxs
       have hno:=hch.oneCells
       have hnl:news.length=x.args.length * 5:=hch.1
       clear hch hnc hxs hargs
       go_wp2_with (at_builtin; go_loud (refine wpList_append_own_at _ rfl _ _ 32 rfl (w.heap.size+1) 34 i0 _ 5 88 Tryz.underlying32 hi hz0 hz1 hz2 rfl (by decide) _ ts.length xs rfl hown a x.args.length c1 news rfl hnl HNC.out hno (by simp only [maxLen]; omega) (by omega) (by omega) ?_); intro v2 w2 hown2 hg2 hnil2 hat2)
       go_roundg (sizeAllF (ts ++ x.args))
       case rel=>
         obtain ⟨f2,f4⟩:=HS.out
         refine ⟨ts ++ x.args,n+(1+sizeAllT x.terms),by go_num,?_,fun y hy=>(List.mem_append.1 hy).elim (fun h=>HG.out.1 y (by simp [h])) (fun h=>HG.out.2.args y h),?_,by rw [bulkAllF_append]; omega,rfl,hbw2.grown hg2 (by omega) (fun k e=>by cases e; show w.heap.size≤g; omega),by have:=hg2.size; omega⟩
         · exact Rep.Own.more (R:=FmR) hown HXS.out (HCH.out.keep (fun b hb=>⟨hb,by have:b<w.heap.size:=hb; omega,fun e=>by cases e; have:g<w.heap.size:=hb; omega⟩) (fun _ _=>rfl)) hown2 hg2 hat2
         · rw [sizeAllF_append] at f2 ⊢
           simp only [sizeAllF,sizeF_eq x] at f2
           omega
       case measure=>
         obtain ⟨f2,f4⟩:=HS.out
         rw [sizeAllF_append] at f4 ⊢; simp only [sizeAllF,sizeF_eq x] at f4; omega

set_option maxHeartbeats 1000000 in
theorem checkF_ok {f:Fm} (hf:GoodF f) (hsz:f.size≤4096) (v:Value) (w:World) (hn:f.bulk≤400000) (htab:Tab w) (hF:IsFm (· < w.heap.size) w f v) :
   Calls Tryz.prog 83 #[v] w fun e w'=>e=.returned (.int .i64 0)∧Below w.heap.size w w':=by
 obtain ⟨B,d,C,e0,A,c,rfl,_,_,_⟩:=hF.parts
 have hb:=below_box w (Obj.cells #[.int .i64 f.kind,.int .i64 f.type.kind,.slice B f.type.args.length d,.slice C f.terms.length e0,.slice A f.args.length c] 34)
 have hF1:=hF.boxed hb
 have ht1:=htab.after hb
 go_enter Tryz.func83,Tryz.ntmps83
 go_wp2_with (go_at_call 157; refine (sizeF_ok hf hsz _ _ hn ht1 hF1).mono ?_; rintro e w' ⟨rfl,hb2⟩)
 go_ret
 exact ⟨rfl,hb.trans (hb2.mono (by simp))⟩
end Go.Proofs.YtipfnkajdooiiaaGreatDoor
namespace Go.Proofs.YtipfnkajdooiiaaGreatDoor
open Go.RowKit

theorem three_blks (w:World) (c1 c2 c3:Array Value) (t1 t2 t3:TypeId):∃ W,W=((w.alloc (.cells c1 t1)).alloc (.cells c2 t2)).alloc (.cells c3 t3) ∧
   Below w.heap.size w W∧W.heap.size=w.heap.size+3∧Blk W w.heap.size t1 c1∧Blk W (w.heap.size+1) t2 c2∧Blk W (w.heap.size+1+1) t3 c3:=by
 obtain ⟨W2,hW2,b2,z2,k0,k1⟩:=two_blks w c1 c2 t1 t2
 rw [← hW2]
 obtain ⟨b3,z3,k2⟩:=new_blk b2 b2.size c3 t3
 rw [z2] at k2
 exact ⟨_,rfl,b3,by omega,k0.alloc _,k1.alloc _,k2⟩
theorem below_set5' {B p:Nat} {w w9:World} (h:Below B w w9) (hp:B≤p) (a b c d e:Value):Below B w (((((w9.setCell ⟨p,0,none⟩ a).setCell ⟨p,1,none⟩ b).setCell ⟨p,2,none⟩ c).setCell ⟨p,3,none⟩ d).setCell ⟨p,4,none⟩ e):=
 ((((h.setCell (p:=⟨p,0,none⟩) hp a).setCell (p:=⟨p,1,none⟩) hp b).setCell (p:=⟨p,2,none⟩) hp c).setCell (p:=⟨p,3,none⟩) hp d).setCell (p:=⟨p,4,none⟩) hp e
theorem set5_end {w w9:World} {f:Fm} {x0 x1 x2 x3 x4:Value} {lo p:Nat} (hb:Below w.heap.size w w9) (hp:w.heap.size≤p) (hlo:p<lo) (hf:IsFm (fun b=>lo≤b∧b<w9.heap.size) w9 f (.agg #[x0,x1,x2,x3,x4])) :
   FreshF w f (.returned (.agg #[x0,x1,x2,x3,x4])) (((((w9.setCell ⟨p,0,none⟩ x0).setCell ⟨p,1,none⟩ x1).setCell ⟨p,2,none⟩ x2).setCell ⟨p,3,none⟩ x3).setCell ⟨p,4,none⟩ x4):=by
 have hg:=only_set5 w9 p x0 x1 x2 x3 x4
 exact ⟨_,rfl,IsFm.keep (fun b h=>⟨by omega,Nat.lt_of_lt_of_le h.2 hg.size⟩) (fun q hq=>World.cell?_of_block (hg.block q.block hq.2 (by simp; omega))) _ hf,hb.grown hg hb.size (fun g e=>by cases e; exact hp)⟩
/-- Slices that were just built of what lies in new memory. -/
theorem built_two {α:Type} {R:Rep α} {lo:Nat} {w:World} {x y:α} {xs ys:List Value} (hx:R.is (fun b=>lo≤b∧b<w.heap.size) w x xs) (hy:R.is (fun b=>lo≤b∧b<w.heap.size) w y ys) (hlo:lo≤w.heap.size) :
   R.Sl (fun b=>lo≤b∧b<(w.alloc (.cells (xs ++ ys).toArray R.t)).heap.size) (w.alloc (.cells (xs ++ ys).toArray R.t)) [x,y] (.slice (some ⟨w.heap.size,0,none⟩) 2 2):=
 Rep.Sl.built (R:=R) (l:=[x,y]) (Rep.Ch.append (l:=[x]) (m:=[y]) (Rep.Ch.one hx) (Rep.Ch.one hy)) (fun b h=>h.2) _ (fun b h=>⟨h.1,by simp; omega⟩) ⟨hlo,by simp⟩
theorem built_one {α:Type} {R:Rep α} {lo:Nat} {w:World} {x:α} {xs:List Value} (hx:R.is (fun b=>lo≤b∧b<w.heap.size) w x xs) (hlo:lo≤w.heap.size) :
   R.Sl (fun b=>lo≤b∧b<(w.alloc (.cells xs.toArray R.t)).heap.size) (w.alloc (.cells xs.toArray R.t)) [x] (.slice (some ⟨w.heap.size,0,none⟩) 1 1):=
 Rep.Sl.built (R:=R) (l:=[x]) (Rep.Ch.one hx) (fun b h=>h.2) _ (fun b h=>⟨h.1,by simp; omega⟩) ⟨hlo,by simp⟩

set_option maxRecDepth 100000 in
set_option maxHeartbeats 4000000 in
theorem eqF_any (s t:Tm) (u v:Value) (w:World) (hs:s.bulk≤400000) (ht:t.bulk≤400000) (hS:IsTm (· < w.heap.size) w s u) (hT:IsTm (· < w.heap.size) w t v):Calls Tryz.prog 58 #[u,v] w (FreshF w (.mk 1 .zero [s,t] [])):=by
 obtain ⟨Bs,es,As,cs,rfl,_⟩:=hS.form
 obtain ⟨Bt,et,At,ct,rfl,_⟩:=hT.form
 obtain ⟨W,hW,hbW,hz,k0,k1,k2⟩:=three_blks w #[.int .i64 s.kind,.int .i64 s.index,.int .i64 s.type.kind,.slice Bs s.type.args.length es,.slice As s.args.length cs] #[.int .i64 t.kind,.int .i64 t.index,.int .i64 t.type.kind,.slice Bt t.type.args.length et,.slice At t.args.length ct] #[.int .i64 0,.int .i64 0,.slice none 0 0,.slice none 0 0,.slice none 0 0] 42 42 34
 have HB:=Lib.hid hbW
 have HK2:=Lib.hid k2
 have hzW:w.heap.size+1+1<W.heap.size:=by omega
 have HSK:=Lib.hid fun (w':World) (h:Below (w.heap.size+1+1) W w')=>And.intro (k0.below h (by omega)).facts5.1 (And.intro (k0.below h (by omega)).facts5.2.1 (And.intro (k0.below h (by omega)).facts5.2.2.1 (And.intro (k0.below h (by omega)).facts5.2.2.2.1 (And.intro (k0.below h (by omega)).facts5.2.2.2.2.1 (And.intro (k1.below h (by omega)).facts5.1 (And.intro (k1.below h (by omega)).facts5.2.1 (And.intro (k1.below h (by omega)).facts5.2.2.1 (And.intro (k1.below h (by omega)).facts5.2.2.2.1 ((k1.below h (by omega)).facts5.2.2.2.2.1)))))))))
 have HOLD:=Lib.hid fun (w':World) (h:Below W.heap.size W w') (q:Addr) (hq:q.block<w.heap.size)=>(show w'.cell? q=w.cell? q from (h.cell (by omega)).trans (hbW.cell hq))
 obtain ⟨y0,y1,y2,y3,y4,y5,y6,y7,y8,y9⟩:=HSK.out W (Below.refl _ _)
 have V0:=Lib.hid ((Below.refl W.heap.size W).drew)
 have LV0:=Lib.hid ((Below.refl (w.heap.size+1+1) W).drew)
 clear hz k0 k1 k2 hbW
 go_enter Tryz.func58,Tryz.ntmps58
 go_upto_region 1 with fail
 rw [← hW]
 clear hW
 go_region_held3 (fun w'=>w'.cell? ⟨w.heap.size,0,none⟩ = some (.int .i64 s.kind)∧w'.cell? ⟨w.heap.size,1,none⟩ = some (.int .i64 s.index)∧w'.cell? ⟨w.heap.size,2,none⟩ = some (.int .i64 s.type.kind)∧w'.cell? ⟨w.heap.size,3,none⟩ = some (.slice Bs s.type.args.length es)∧w'.cell? ⟨w.heap.size,4,none⟩ = some (.slice As s.args.length cs)∧w'.cell? ⟨w.heap.size+1,0,none⟩ = some (.int .i64 t.kind)∧w'.cell? ⟨w.heap.size+1,1,none⟩ = some (.int .i64 t.index)∧w'.cell? ⟨w.heap.size+1,2,none⟩ = some (.int .i64 t.type.kind)∧w'.cell? ⟨w.heap.size+1,3,none⟩ = some (.slice Bt t.type.args.length et)∧w'.cell? ⟨w.heap.size+1,4,none⟩ = some (.slice At t.args.length ct))
   (first | with_reducible exact HSK.out _ LV0.out | with_reducible exact HSK.out _ LG3.out | with_reducible exact HSK.out _ LG4.out | with_reducible exact HSK.out _ LG5.out | with_reducible exact HSK.out _ G6.out)
   (first
     | (go_at_call 144
        have P4:=copyT_any 400000 t _ w3 ht (by decide) (IsTm.keep (S':=(· < w3.heap.size)) (w':=w3) (fun b h=>by have h:b<w.heap.size:=h; have:=G3.out.size; omega) (fun q hq=>HOLD.out _ G3.out q hq) _ hT)
        (with_reducible refine P4.mono ?_)
        rintro e w4 ⟨v4,rfl,h4,b4⟩
        clear P4
        obtain ⟨B4,e4',A4,c4,rfl,_⟩:=h4.form
        have G4:=Lib.hid (G3.out.trans (b4.mono G3.out.size))
        have LG4:=Lib.hid (G4.out.mono (show w.heap.size+1+1≤W.heap.size by omega))
        have H4:=Lib.hid (And.intro h4 (And.intro b4 b4.size))
        have K4:=Lib.hid (HK2.out.below G4.out HK2.out.lt)
        have hz4:=b4.size
        obtain ⟨m0,m1,m2,m3,m4,x0,x1,x2,x3,x4⟩:=K4.out.facts5
        have G5:=Lib.hid (G4.out.alloc G4.out.size (Obj.cells #[.int .i64 s.kind,.int .i64 s.index,.int .i64 s.type.kind,.slice B3 s.type.args.length e3,.slice A3 s.args.length c3,.int .i64 t.kind,.int .i64 t.index,.int .i64 t.type.kind,.slice B4 t.type.args.length e4',.slice A4 t.args.length c4] 42))
        have LG5:=Lib.hid (G5.out.mono (show w.heap.size+1+1≤W.heap.size by omega))
        obtain ⟨n0,n1,n2,n3,n4,g0,g1,g2,g3,g4⟩:=(K4.out.alloc (Obj.cells #[.int .i64 s.kind,.int .i64 s.index,.int .i64 s.type.kind,.slice B3 s.type.args.length e3,.slice A3 s.args.length c3,.int .i64 t.kind,.int .i64 t.index,.int .i64 t.type.kind,.slice B4 t.type.args.length e4',.slice A4 t.args.length c4] 42)).facts5
        have G6:=Lib.hid (show Below (w.heap.size+1+1) W _ from below_set5' (B:=w.heap.size+1+1) (G5.out.mono (by omega)) (p:=w.heap.size+1+1) (Nat.le_refl _) (.int .i64 1) (.int .i64 0) (.slice none 0 0) (.slice (some ⟨w4.heap.size,0,none⟩) 2 2) (.slice none 0 0))
        clear h4 b4)
     | (go_at_call 144
        have P3:=copyT_any 400000 s _ W.drew hs (by decide) (IsTm.keep (S':=(· < W.drew.heap.size)) (w':=W.drew) (fun b h=>by have h:b<w.heap.size:=h; have:=V0.out.size; omega) (fun q hq=>HOLD.out _ V0.out q hq) _ hS)
        (with_reducible refine P3.mono ?_)
        rintro e w3 ⟨v3,rfl,h3,b3⟩
        clear P3
        obtain ⟨B3,e3,A3,c3,rfl,_⟩:=h3.form
        have G3:=Lib.hid (V0.out.trans (b3.mono V0.out.size))
        have LG3:=Lib.hid (G3.out.mono (show w.heap.size+1+1≤W.heap.size by omega))
        have hz3:=b3.size
        have H3:=Lib.hid h3
        clear h3 b3))
 go_wp2_with fail
 obtain ⟨z0,z1,z2,z3,z4⟩:=((K4.out.alloc (Obj.cells #[.int .i64 s.kind,.int .i64 s.index,.int .i64 s.type.kind,.slice B3 s.type.args.length e3,.slice A3 s.args.length c3,.int .i64 t.kind,.int .i64 t.index,.int .i64 t.type.kind,.slice B4 t.type.args.length e4',.slice A4 t.args.length c4] 42)).set5 (.int .i64 1) (.int .i64 0) (.slice none 0 0) (.slice (some ⟨w4.heap.size,0,none⟩) 2 2) (.slice none 0 0)).cells5
 refine bodyPost_ret (v:=.agg #[.int .i64 1,.int .i64 0,.slice none 0 0,.slice (some ⟨w4.heap.size,0,none⟩) 2 2,.slice none 0 0]) (by simp [results,Tryz.results58,go_sem,z0,z1,z2,z3,z4]) rfl ?_
 exact set5_end (lo:=W.heap.size) (HB.out.trans (G5.out.mono (by omega))) (by omega) (by omega) (isFm_iff.2 ⟨rfl,IsTy.leaf _ _ _,built_two (R:=TmR) (IsTm.keep (S':=fun b=>W.heap.size≤b∧b<w4.heap.size) (w':=w4) (fun b h=>⟨show W.heap.size≤b from h.1,by have:=h.2; have:=H4.out.2.2; omega⟩) (fun q hq=>H4.out.2.1.cell hq.2) _ H3.out) (IsTm.keep (S':=fun b=>W.heap.size≤b∧b<w4.heap.size) (w':=w4) (fun b h=>⟨by have:=h.1; have:=G3.out.size; omega,h.2⟩) (fun _ _=>rfl) _ H4.out.1) (show W.heap.size≤w4.heap.size from G4.out.size),Rep.Sl.nil _ _⟩)

set_option maxRecDepth 100000 in
set_option maxHeartbeats 4000000 in
theorem twoF_any (k:Int) (a b:Fm) (u v:Value) (w:World) (hs:a.bulk≤400000) (ht:b.bulk≤400000) (hS:IsFm (· < w.heap.size) w a u) (hT:IsFm (· < w.heap.size) w b v):Calls Tryz.prog 55 #[.int .i64 k,u,v] w (FreshF w (.mk k .zero [] [a,b])):=by
 obtain ⟨Ba,da,Ca,ea,Aa,ca,rfl,_⟩:=hS.form
 obtain ⟨Bb,db,Cb,eb,Ab,cb,rfl,_⟩:=hT.form
 obtain ⟨W,hW,hbW,hz,k0,k1,k2⟩:=three_blks w #[.int .i64 a.kind,.int .i64 a.type.kind,.slice Ba a.type.args.length da,.slice Ca a.terms.length ea,.slice Aa a.args.length ca] #[.int .i64 b.kind,.int .i64 b.type.kind,.slice Bb b.type.args.length db,.slice Cb b.terms.length eb,.slice Ab b.args.length cb] #[.int .i64 0,.int .i64 0,.slice none 0 0,.slice none 0 0,.slice none 0 0] 34 34 34
 have HB:=Lib.hid hbW
 have HK2:=Lib.hid k2
 have hzW:w.heap.size+1+1<W.heap.size:=by omega
 have HSK:=Lib.hid fun (w':World) (h:Below (w.heap.size+1+1) W w')=>And.intro (k0.below h (by omega)).facts5.1 (And.intro (k0.below h (by omega)).facts5.2.1 (And.intro (k0.below h (by omega)).facts5.2.2.1 (And.intro (k0.below h (by omega)).facts5.2.2.2.1 (And.intro (k0.below h (by omega)).facts5.2.2.2.2.1 (And.intro (k1.below h (by omega)).facts5.1 (And.intro (k1.below h (by omega)).facts5.2.1 (And.intro (k1.below h (by omega)).facts5.2.2.1 (And.intro (k1.below h (by omega)).facts5.2.2.2.1 ((k1.below h (by omega)).facts5.2.2.2.2.1)))))))))
 have HOLD:=Lib.hid fun (w':World) (h:Below W.heap.size W w') (q:Addr) (hq:q.block<w.heap.size)=>(show w'.cell? q=w.cell? q from (h.cell (by omega)).trans (hbW.cell hq))
 obtain ⟨y0,y1,y2,y3,y4,y5,y6,y7,y8,y9⟩:=HSK.out W (Below.refl _ _)
 have V0:=Lib.hid ((Below.refl W.heap.size W).drew)
 have LV0:=Lib.hid ((Below.refl (w.heap.size+1+1) W).drew)
 clear hz k0 k1 k2 hbW
 go_enter Tryz.func55,Tryz.ntmps55
 go_upto_region 1 with fail
 rw [← hW]
 clear hW
 go_region_held3 (fun w'=>w'.cell? ⟨w.heap.size,0,none⟩ = some (.int .i64 a.kind)∧w'.cell? ⟨w.heap.size,1,none⟩ = some (.int .i64 a.type.kind)∧w'.cell? ⟨w.heap.size,2,none⟩ = some (.slice Ba a.type.args.length da)∧w'.cell? ⟨w.heap.size,3,none⟩ = some (.slice Ca a.terms.length ea)∧w'.cell? ⟨w.heap.size,4,none⟩ = some (.slice Aa a.args.length ca)∧w'.cell? ⟨w.heap.size+1,0,none⟩ = some (.int .i64 b.kind)∧w'.cell? ⟨w.heap.size+1,1,none⟩ = some (.int .i64 b.type.kind)∧w'.cell? ⟨w.heap.size+1,2,none⟩ = some (.slice Bb b.type.args.length db)∧w'.cell? ⟨w.heap.size+1,3,none⟩ = some (.slice Cb b.terms.length eb)∧w'.cell? ⟨w.heap.size+1,4,none⟩ = some (.slice Ab b.args.length cb))
   (first | with_reducible exact HSK.out _ LV0.out | with_reducible exact HSK.out _ LG3.out | with_reducible exact HSK.out _ LG4.out | with_reducible exact HSK.out _ LG5.out | with_reducible exact HSK.out _ G6.out)
   (first
     | (go_at_call 99
        have P4:=copyF_any 400000 b _ w3 ht (by decide) (IsFm.keep (S':=(· < w3.heap.size)) (w':=w3) (fun b h=>by have h:b<w.heap.size:=h; have:=G3.out.size; omega) (fun q hq=>HOLD.out _ G3.out q hq) _ hT)
        (with_reducible refine P4.mono ?_)
        rintro e w4 ⟨v4,rfl,h4,b4⟩
        clear P4
        obtain ⟨B4,d4,C4,e4,A4,c4,rfl,_⟩:=h4.form
        have G4:=Lib.hid (G3.out.trans (b4.mono G3.out.size))
        have LG4:=Lib.hid (G4.out.mono (show w.heap.size+1+1≤W.heap.size by omega))
        have H4:=Lib.hid (And.intro h4 (And.intro b4 b4.size))
        have K4:=Lib.hid (HK2.out.below G4.out HK2.out.lt)
        have hz4:=b4.size
        obtain ⟨m0,m1,m2,m3,m4,x0,x1,x2,x3,x4⟩:=K4.out.facts5
        have G5:=Lib.hid (G4.out.alloc G4.out.size (Obj.cells #[.int .i64 a.kind,.int .i64 a.type.kind,.slice B3 a.type.args.length d3,.slice C3 a.terms.length e3,.slice A3 a.args.length c3,.int .i64 b.kind,.int .i64 b.type.kind,.slice B4 b.type.args.length d4,.slice C4 b.terms.length e4,.slice A4 b.args.length c4] 34))
        have LG5:=Lib.hid (G5.out.mono (show w.heap.size+1+1≤W.heap.size by omega))
        obtain ⟨n0,n1,n2,n3,n4,g0,g1,g2,g3,g4⟩:=(K4.out.alloc (Obj.cells #[.int .i64 a.kind,.int .i64 a.type.kind,.slice B3 a.type.args.length d3,.slice C3 a.terms.length e3,.slice A3 a.args.length c3,.int .i64 b.kind,.int .i64 b.type.kind,.slice B4 b.type.args.length d4,.slice C4 b.terms.length e4,.slice A4 b.args.length c4] 34)).facts5
        have G6:=Lib.hid (show Below (w.heap.size+1+1) W _ from below_set5' (B:=w.heap.size+1+1) (G5.out.mono (by omega)) (p:=w.heap.size+1+1) (Nat.le_refl _) (.int .i64 k) (.int .i64 0) (.slice none 0 0) (.slice none 0 0) (.slice (some ⟨w4.heap.size,0,none⟩) 2 2))
        clear h4 b4)
     | (go_at_call 99
        have P3:=copyF_any 400000 a _ W.drew hs (by decide) (IsFm.keep (S':=(· < W.drew.heap.size)) (w':=W.drew) (fun b h=>by have h:b<w.heap.size:=h; have:=V0.out.size; omega) (fun q hq=>HOLD.out _ V0.out q hq) _ hS)
        (with_reducible refine P3.mono ?_)
        rintro e w3 ⟨v3,rfl,h3,b3⟩
        clear P3
        obtain ⟨B3,d3,C3,e3,A3,c3,rfl,_⟩:=h3.form
        have G3:=Lib.hid (V0.out.trans (b3.mono V0.out.size))
        have LG3:=Lib.hid (G3.out.mono (show w.heap.size+1+1≤W.heap.size by omega))
        have hz3:=b3.size
        have H3:=Lib.hid h3
        clear h3 b3))
 go_wp2_with fail
 obtain ⟨z0,z1,z2,z3,z4⟩:=((K4.out.alloc (Obj.cells #[.int .i64 a.kind,.int .i64 a.type.kind,.slice B3 a.type.args.length d3,.slice C3 a.terms.length e3,.slice A3 a.args.length c3,.int .i64 b.kind,.int .i64 b.type.kind,.slice B4 b.type.args.length d4,.slice C4 b.terms.length e4,.slice A4 b.args.length c4] 34)).set5 (.int .i64 k) (.int .i64 0) (.slice none 0 0) (.slice none 0 0) (.slice (some ⟨w4.heap.size,0,none⟩) 2 2)).cells5
 refine bodyPost_ret (v:=.agg #[.int .i64 k,.int .i64 0,.slice none 0 0,.slice none 0 0,.slice (some ⟨w4.heap.size,0,none⟩) 2 2]) (by simp [results,Tryz.results55,go_sem,z0,z1,z2,z3,z4]) rfl ?_
 exact set5_end (lo:=W.heap.size) (HB.out.trans (G5.out.mono (by omega))) (by omega) (by omega) (isFm_iff.2 ⟨rfl,IsTy.leaf _ _ _,Rep.Sl.nil _ _,built_two (R:=FmR) (IsFm.keep (S':=fun b=>W.heap.size≤b∧b<w4.heap.size) (w':=w4) (fun b h=>⟨show W.heap.size≤b from h.1,by have:=h.2; have:=H4.out.2.2; omega⟩) (fun q hq=>H4.out.2.1.cell hq.2) _ H3.out) (IsFm.keep (S':=fun b=>W.heap.size≤b∧b<w4.heap.size) (w':=w4) (fun b h=>⟨by have:=h.1; have:=G3.out.size; omega,h.2⟩) (fun _ _=>rfl) _ H4.out.1) (show W.heap.size≤w4.heap.size from G4.out.size)⟩)

set_option maxRecDepth 100000 in
set_option maxHeartbeats 4000000 in
theorem qF_any (k:Int) (T:Ty) (b:Fm) (u v:Value) (w:World) (hs:T.nodes≤400000) (ht:b.bulk≤400000) (hS:IsTy (· < w.heap.size) w T u) (hT:IsFm (· < w.heap.size) w b v):Calls Tryz.prog 56 #[.int .i64 k,u,v] w (FreshF w (.mk k T [] [b])):=by
 obtain ⟨Ba,da,rfl⟩:=hS.form
 obtain ⟨Bb,db,Cb,eb,Ab,cb,rfl,_⟩:=hT.form
 obtain ⟨W,hW,hbW,hz,k0,k1,k2⟩:=three_blks w #[.int .i64 T.kind,.slice Ba T.args.length da] #[.int .i64 b.kind,.int .i64 b.type.kind,.slice Bb b.type.args.length db,.slice Cb b.terms.length eb,.slice Ab b.args.length cb] #[.int .i64 0,.int .i64 0,.slice none 0 0,.slice none 0 0,.slice none 0 0] 30 34 34
 have HB:=Lib.hid hbW
 have HK2:=Lib.hid k2
 have hzW:w.heap.size+1+1<W.heap.size:=by omega
 have HSK:=Lib.hid fun (w':World) (h:Below (w.heap.size+1+1) W w')=>And.intro (k0.below h (by omega)).facts2.1 (And.intro (k0.below h (by omega)).facts2.2.1 (And.intro (k1.below h (by omega)).facts5.1 (And.intro (k1.below h (by omega)).facts5.2.1 (And.intro (k1.below h (by omega)).facts5.2.2.1 (And.intro (k1.below h (by omega)).facts5.2.2.2.1 ((k1.below h (by omega)).facts5.2.2.2.2.1))))))
 have HOLD:=Lib.hid fun (w':World) (h:Below W.heap.size W w') (q:Addr) (hq:q.block<w.heap.size)=>(show w'.cell? q=w.cell? q from (h.cell (by omega)).trans (hbW.cell hq))
 obtain ⟨y0,y1,y2,y3,y4,y5,y6⟩:=HSK.out W (Below.refl _ _)
 have V0:=Lib.hid ((Below.refl W.heap.size W).drew)
 have LV0:=Lib.hid ((Below.refl (w.heap.size+1+1) W).drew)
 clear hz k0 k1 k2 hbW
 go_enter Tryz.func56,Tryz.ntmps56
 go_upto_region 1 with fail
 rw [← hW]
 clear hW
 go_region_held3 (fun w'=>w'.cell? ⟨w.heap.size,0,none⟩ = some (.int .i64 T.kind)∧w'.cell? ⟨w.heap.size,1,none⟩ = some (.slice Ba T.args.length da)∧w'.cell? ⟨w.heap.size+1,0,none⟩ = some (.int .i64 b.kind)∧w'.cell? ⟨w.heap.size+1,1,none⟩ = some (.int .i64 b.type.kind)∧w'.cell? ⟨w.heap.size+1,2,none⟩ = some (.slice Bb b.type.args.length db)∧w'.cell? ⟨w.heap.size+1,3,none⟩ = some (.slice Cb b.terms.length eb)∧w'.cell? ⟨w.heap.size+1,4,none⟩ = some (.slice Ab b.args.length cb))
   (first | with_reducible exact HSK.out _ LV0.out | with_reducible exact HSK.out _ LG3.out | with_reducible exact HSK.out _ LG4.out | with_reducible exact HSK.out _ LG5.out | with_reducible exact HSK.out _ G6.out)
   (first
     | (go_at_call 99
        have P4:=copyF_any 400000 b _ w3 ht (by decide) (IsFm.keep (S':=(· < w3.heap.size)) (w':=w3) (fun b h=>by have h:b<w.heap.size:=h; have:=G3.out.size; omega) (fun q hq=>HOLD.out _ G3.out q hq) _ hT)
        (with_reducible refine P4.mono ?_)
        rintro e w4 ⟨v4,rfl,h4,b4⟩
        clear P4
        obtain ⟨B4,d4,C4,e4,A4,c4,rfl,_⟩:=h4.form
        have G4:=Lib.hid (G3.out.trans (b4.mono G3.out.size))
        have LG4:=Lib.hid (G4.out.mono (show w.heap.size+1+1≤W.heap.size by omega))
        have H4:=Lib.hid (And.intro h4 (And.intro b4 b4.size))
        have K4:=Lib.hid (HK2.out.below G4.out HK2.out.lt)
        have hz4:=b4.size
        obtain ⟨m0,m1,m2,m3,m4,x0,x1,x2,x3,x4⟩:=K4.out.facts5
        have G5:=Lib.hid (G4.out.alloc G4.out.size (Obj.cells #[.int .i64 b.kind,.int .i64 b.type.kind,.slice B4 b.type.args.length d4,.slice C4 b.terms.length e4,.slice A4 b.args.length c4] 34))
        have LG5:=Lib.hid (G5.out.mono (show w.heap.size+1+1≤W.heap.size by omega))
        obtain ⟨n0,n1,n2,n3,n4,g0,g1,g2,g3,g4⟩:=(K4.out.alloc (Obj.cells #[.int .i64 b.kind,.int .i64 b.type.kind,.slice B4 b.type.args.length d4,.slice C4 b.terms.length e4,.slice A4 b.args.length c4] 34)).facts5
        have G6:=Lib.hid (show Below (w.heap.size+1+1) W _ from below_set5' (B:=w.heap.size+1+1) (G5.out.mono (by omega)) (p:=w.heap.size+1+1) (Nat.le_refl _) (.int .i64 k) (.int .i64 T.kind) (.slice B3 T.args.length d3) (.slice none 0 0) (.slice (some ⟨w4.heap.size,0,none⟩) 1 1))
        clear h4 b4)
     | (go_at_call 143
        have P3:=copy_any 400000 T _ W.drew hs (by decide) (IsTy.keep (S':=(· < W.drew.heap.size)) (w':=W.drew) (fun b h=>by have h:b<w.heap.size:=h; have:=V0.out.size; omega) (fun q hq=>HOLD.out _ V0.out q hq) _ hS)
        (with_reducible refine P3.mono ?_)
        rintro e w3 ⟨v3,rfl,h3,b3⟩
        clear P3
        obtain ⟨B3,d3,rfl⟩:=h3.form
        have G3:=Lib.hid (V0.out.trans (b3.mono V0.out.size))
        have LG3:=Lib.hid (G3.out.mono (show w.heap.size+1+1≤W.heap.size by omega))
        have hz3:=b3.size
        have H3:=Lib.hid h3
        clear h3 b3))
 go_wp2_with fail
 obtain ⟨z0,z1,z2,z3,z4⟩:=((K4.out.alloc (Obj.cells #[.int .i64 b.kind,.int .i64 b.type.kind,.slice B4 b.type.args.length d4,.slice C4 b.terms.length e4,.slice A4 b.args.length c4] 34)).set5 (.int .i64 k) (.int .i64 T.kind) (.slice B3 T.args.length d3) (.slice none 0 0) (.slice (some ⟨w4.heap.size,0,none⟩) 1 1)).cells5
 refine bodyPost_ret (v:=.agg #[.int .i64 k,.int .i64 T.kind,.slice B3 T.args.length d3,.slice none 0 0,.slice (some ⟨w4.heap.size,0,none⟩) 1 1]) (by simp [results,Tryz.results56,go_sem,z0,z1,z2,z3,z4]) rfl ?_
 exact set5_end (lo:=W.heap.size) (HB.out.trans (G5.out.mono (by omega))) (by omega) (by omega) (isFm_iff.2 ⟨rfl,(IsTy.keep (S':=fun n=>W.heap.size≤n∧n<(w4.alloc (Obj.cells #[.int .i64 b.kind,.int .i64 b.type.kind,.slice B4 b.type.args.length d4,.slice C4 b.terms.length e4,.slice A4 b.args.length c4] 34)).heap.size) (w':=w4.alloc (Obj.cells #[.int .i64 b.kind,.int .i64 b.type.kind,.slice B4 b.type.args.length d4,.slice C4 b.terms.length e4,.slice A4 b.args.length c4] 34)) (fun n h=>⟨show W.heap.size≤n from h.1,by have:=h.2; have:=H4.out.2.2; simp; omega⟩) (fun q hq=>(World.cell?_alloc_lt _ _ _ (by have:=hq.2; omega)).trans (H4.out.2.1.cell hq.2)) _ H3.out),Rep.Sl.nil _ _,built_one (R:=FmR) (IsFm.keep (S':=fun b=>W.heap.size≤b∧b<w4.heap.size) (w':=w4) (fun b h=>⟨by have:=h.1; have:=G3.out.size; omega,h.2⟩) (fun _ _=>rfl) _ H4.out.1) (show W.heap.size≤w4.heap.size from G4.out.size)⟩)

end Go.Proofs.YtipfnkajdooiiaaGreatDoor
