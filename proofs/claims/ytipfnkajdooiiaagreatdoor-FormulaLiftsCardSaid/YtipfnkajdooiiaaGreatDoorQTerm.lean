/- Terms as trees in memory. -/
import Derived.Test.YtipfnkajdooiiaaGreatDoorQSeq
import Derived.Test.YtipfnkajdooiiaaGreatDoorQMake
namespace Go.Proofs.YtipfnkajdooiiaaGreatDoor
open Go.RowKit

inductive Tm where
 | mk (kind index:Int) (type:Ty) (args:List Tm)

def Tm.kind:Tm→Int | .mk k _ _ _=>k
def Tm.index:Tm→Int | .mk _ i _ _=>i
def Tm.type:Tm→Ty | .mk _ _ T _=>T
def Tm.args:Tm→List Tm | .mk _ _ _ l=>l

mutual
/-- Nodes, those of types among them. -/
def Tm.bulk:Tm→Nat
 | .mk _ _ T l=>1+T.nodes+bulkAll l
def bulkAll:List Tm→Nat
 | []=>0
 | t :: r=>t.bulk+bulkAll r
end

mutual
/-- The value v is the term t, its lists lying in blocks of S. -/
def IsTm (S:Nat→Prop) (w:World):Tm→Value→Prop
 | .mk k i T l,v=>∃ B d A c,v=.agg #[.int .i64 k,.int .i64 i,.int .i64 T.kind,.slice B T.args.length d,.slice A l.length c] ∧
     IsTy S w T (.agg #[.int .i64 T.kind,.slice B T.args.length d])∧(l≠[]→∃ a,A=some a∧S a.block∧AreTms S w l a)
def AreTms (S:Nat→Prop) (w:World):List Tm→Addr→Prop
 | [],_=>True
 | t :: r,a=>(∃ vs:List Value,IsTm S w t (.agg vs.toArray)∧∀ j u,vs[j]? = some u→w.cell? (a.add j)=some u)∧AreTms S w r (a.add 5)
end

mutual
theorem IsTm.keep {S S':Nat→Prop} {w w':World} (hS:∀ b,S b→S' b) (hc:∀ p:Addr,S p.block→w'.cell? p=w.cell? p):∀ (t:Tm) {v:Value},IsTm S w t v→IsTm S' w' t v
 | .mk k i T l,v,h=>by
   unfold IsTm at h ⊢
   obtain ⟨B,d,A,c,hv,hT,h⟩:=h
   refine ⟨B,d,A,c,hv,IsTy.keep hS hc T hT,fun hl=>?_⟩
   obtain ⟨a,ha,hs,h⟩:=h hl
   exact ⟨a,ha,hS _ hs,AreTms.keep hS hc l hs h⟩
theorem AreTms.keep {S S':Nat→Prop} {w w':World} (hS:∀ b,S b→S' b) (hc:∀ p:Addr,S p.block→w'.cell? p=w.cell? p):∀ (l:List Tm) {a:Addr},S a.block→AreTms S w l a→AreTms S' w' l a
 | [],a,_,h=>by unfold AreTms; trivial
 | t :: r,a,hs,h=>by
   unfold AreTms at h ⊢
   obtain ⟨⟨vs,h1,h2⟩,hr⟩:=h
   exact ⟨⟨vs,IsTm.keep hS hc t h1,fun j u hu=>(hc _ (by rw [add_block]; exact hs)).trans (h2 j u hu)⟩,AreTms.keep hS hc r (by rw [add_block]; exact hs) hr⟩
end

theorem IsTm.form {S:Nat→Prop} {w:World} {t:Tm} {v:Value} (h:IsTm S w t v) :
   ∃ B d A c,v=.agg #[.int .i64 t.kind,.int .i64 t.index,.int .i64 t.type.kind,.slice B t.type.args.length d,.slice A t.args.length c]∧IsTy S w t.type (.agg #[.int .i64 t.type.kind,.slice B t.type.args.length d]):=by
 cases t
 unfold IsTm at h
 obtain ⟨B,d,A,c,h,hT,_⟩:=h
 exact ⟨B,d,A,c,h,hT⟩

/-- Terms and types in cells. -/
def TyR:Rep Ty where
 n:=2
 t:=30
 is S w T vs:=IsTy S w T (.agg vs.toArray)
 pos:=by decide
 len h:=by
   obtain ⟨A,c,e⟩:=h.form
   have:=congrArg (fun x=>match x with | Value.agg a=>a.size | _=>0) e
   simpa using this
 one h:=by
   obtain ⟨A,c,e⟩:=h.form
   intro u hu
   simp only [Value.agg.injEq] at e
   have e':=congrArg Array.toList e
   simp only at e'
   rw [e'] at hu
   simp at hu
   rcases hu with rfl | rfl <;> rfl
 keep hS hc h:=IsTy.keep hS hc _ h
def TmR:Rep Tm where
 n:=5
 t:=42
 is S w T vs:=IsTm S w T (.agg vs.toArray)
 pos:=by decide
 len h:=by
   obtain ⟨B,d,A,c,e,_⟩:=h.form
   have:=congrArg (fun x=>match x with | Value.agg a=>a.size | _=>0) e
   simpa using this
 one h:=by
   obtain ⟨B,d,A,c,e,_⟩:=h.form
   intro u hu
   simp only [Value.agg.injEq] at e
   have e':=congrArg Array.toList e
   simp only at e'
   rw [e'] at hu
   simp at hu
   rcases hu with rfl | rfl | rfl | rfl | rfl <;> rfl
 keep hS hc h:=IsTm.keep hS hc _ h

theorem areTms_arr {S:Nat→Prop} {w:World}:∀ {l:List Tm} {a:Addr},AreTms S w l a↔TmR.Arr S w l a
 | [],a=>by
   unfold AreTms
   exact ⟨fun _ i hi=>by simp at hi,fun _=>trivial⟩
 | t :: r,a=>by
   unfold AreTms
   rw [areTms_arr (l:=r)]
   constructor
   · rintro ⟨h,hr⟩ i hi
     cases i with
     | zero=>rw [Nat.zero_mul,add_zero']; exact h
     | succ i=>
       have:=hr i (by simpa using hi)
       rw [add_add'] at this
       rw [show (i+1) * TmR.n=5+i * TmR.n from by show (i+1) * 5=5+i * 5; omega]
       simpa using this
   · intro h
     refine ⟨by have:=h 0 (by simp); rw [Nat.zero_mul,add_zero'] at this; exact this,fun i hi=>?_⟩
     have:=h (i+1) (by simpa using hi)
     rw [add_add',show 5+i * TmR.n=(i+1) * TmR.n from by show 5+i * 5=(i+1) * 5; omega]
     simpa using this

/-- A term is its node's fields and the list of its parts. -/
theorem isTm_iff {S:Nat→Prop} {w:World} {k i:Int} {T:Ty} {l:List Tm} {x0 x1 x2 x3 x4:Value}:IsTm S w (.mk k i T l) (.agg #[x0,x1,x2,x3,x4]) ↔
   x0=.int .i64 k∧x1=.int .i64 i∧IsTy S w T (.agg #[x2,x3])∧TmR.Sl S w l x4:=by
 unfold IsTm Rep.Sl
 constructor
 · rintro ⟨B,d,A,c,e,hT,h⟩
   simp at e
   obtain ⟨rfl,rfl,rfl,rfl,rfl⟩:=e
   refine ⟨rfl,rfl,hT,A,c,rfl,fun hl=>?_⟩
   obtain ⟨a,ha,hs,h⟩:=h hl
   exact ⟨a,ha,hs,areTms_arr.1 h⟩
 · rintro ⟨rfl,rfl,hT,A,c,rfl,h⟩
   obtain ⟨B,d,e⟩:=hT.form
   simp at e
   obtain ⟨rfl,rfl⟩:=e
   refine ⟨B,d,A,c,rfl,hT,fun hl=>?_⟩
   obtain ⟨a,ha,hs,h⟩:=h hl
   exact ⟨a,ha,hs,areTms_arr.2 h⟩

theorem IsTm.parts {S:Nat→Prop} {w:World} {t:Tm} {v:Value} (h:IsTm S w t v):∃ B d A c,v=.agg #[.int .i64 t.kind,.int .i64 t.index,.int .i64 t.type.kind,.slice B t.type.args.length d,.slice A t.args.length c] ∧
   IsTy S w t.type (.agg #[.int .i64 t.type.kind,.slice B t.type.args.length d])∧TmR.Sl S w t.args (.slice A t.args.length c):=by
 obtain ⟨B,d,A,c,rfl,hT⟩:=h.form
 refine ⟨B,d,A,c,rfl,hT,?_⟩
 cases t
 exact (isTm_iff.1 h).2.2.2

/-- The cells of a term at an address, as the walk asks for them. -/
theorem at_tm {S:Nat→Prop} {w:World} {t:Tm} {a:Addr} (h:TmR.At S w t a):∃ B d A c,
   w.cell? a=some (.int .i64 t.kind)∧w.cell? ⟨a.block,a.off+1,none⟩ = some (.int .i64 t.index)∧w.cell? ⟨a.block,a.off+2,none⟩ = some (.int .i64 t.type.kind) ∧
   w.cell? ⟨a.block,a.off+3,none⟩ = some (.slice B t.type.args.length d)∧w.cell? ⟨a.block,a.off+4,none⟩ = some (.slice A t.args.length c) ∧
   IsTm S w t (.agg #[.int .i64 t.kind,.int .i64 t.index,.int .i64 t.type.kind,.slice B t.type.args.length d,.slice A t.args.length c]):=by
 obtain ⟨vs,h1,h2⟩:=h
 have h1':IsTm S w t (.agg vs.toArray):=h1
 obtain ⟨B,d,A,c,e,_⟩:=h1'.form
 simp only [Value.agg.injEq] at e
 have e':=congrArg Array.toList e
 simp only at e'
 subst e'
 refine ⟨B,d,A,c,by simpa [add_zero'] using h2 0 _ rfl,?_,?_,?_,?_,h1'⟩
 · simpa [Addr.add] using h2 1 _ rfl
 · simpa [Addr.add] using h2 2 _ rfl
 · simpa [Addr.add] using h2 3 _ rfl
 · simpa [Addr.add] using h2 4 _ rfl
theorem at_ty {S:Nat→Prop} {w:World} {t:Ty} {a:Addr} (h:TyR.At S w t a):∃ A c,w.cell? a=some (.int .i64 t.kind)∧w.cell? ⟨a.block,a.off+1,none⟩ = some (.slice A t.args.length c) ∧
   IsTy S w t (.agg #[.int .i64 t.kind,.slice A t.args.length c]):=by
 obtain ⟨vs,h1,h2⟩:=h
 have h1':IsTy S w t (.agg vs.toArray):=h1
 obtain ⟨A,c,e⟩:=h1'.form
 simp only [Value.agg.injEq] at e
 have e':=congrArg Array.toList e
 simp only at e'
 subst e'
 exact ⟨A,c,by simpa [add_zero'] using h2 0 _ rfl,by simpa [Addr.add] using h2 1 _ rfl,h1'⟩

theorem IsTy.sl {S:Nat→Prop} {w:World} {t:Ty} {k s:Value} (h:IsTy S w t (.agg #[k,s])):k=.int .i64 t.kind∧TyR.Sl S w t.args s:=by
 cases t
 unfold IsTy at h
 obtain ⟨A,c,e,h⟩:=h
 simp at e
 obtain ⟨rfl,rfl⟩:=e
 refine ⟨rfl,A,c,rfl,fun hl=>?_⟩
 obtain ⟨a,ha,hs,h⟩:=h hl
 refine ⟨a,ha,hs,fun i hi=>?_⟩
 obtain ⟨v0,v1,h0,h1,ht⟩:=h.at_ i hi
 refine ⟨[v0,v1],ht,fun j u hu=>?_⟩
 rw [add_add']
 match j,hu with
 | 0,hu=>simp at hu; rw [← hu]; exact h0
 | 1,hu=>simp at hu; rw [← hu]; exact h1
theorem IsTy.of_sl {S:Nat→Prop} {w:World} {k:Int} {l:List Ty} {s:Value} (h:TyR.Sl S w l s):IsTy S w (.mk k l) (.agg #[.int .i64 k,s]):=by
 unfold IsTy
 obtain ⟨A,c,rfl,h⟩:=h
 refine ⟨A,c,rfl,fun hl=>?_⟩
 obtain ⟨a,ha,hs,h⟩:=h hl
 refine ⟨a,ha,hs,AreTys.of_at fun i hi=>?_⟩
 obtain ⟨A',c',h0,h1,ht⟩:=at_ty (h i hi)
 refine ⟨_,_,h0,?_,ht⟩
 rw [add_succ']
 exact h1

theorem bulk_pos (t:Tm):1≤t.bulk:=by cases t; simp only [Tm.bulk]; omega
theorem bulkAll_get:∀ (l:List Tm) (i:Nat) (h:i<l.length),l[i].bulk≤bulkAll l
 | [],i,h=>by simp at h
 | t :: r,0,h=>by simp [bulkAll]
 | t :: r,i+1,h=>by
   have:=bulkAll_get r i (by simpa using h)
   simp only [bulkAll,List.getElem_cons_succ]
   omega
theorem bulkAll_len:∀ (l:List Tm),l.length≤bulkAll l
 | []=>by simp [bulkAll]
 | t :: r=>by
   have:=bulkAll_len r
   have:=bulk_pos t
   simp only [bulkAll,List.length_cons]
   omega
theorem bulkAll_append:∀ (l r:List Tm),bulkAll (l ++ r)=bulkAll l+bulkAll r
 | [],r=>by simp [bulkAll]
 | t :: l,r=>by simp only [List.cons_append,bulkAll,bulkAll_append l r]; omega
theorem bulk_eq (t:Tm):t.bulk=1+t.type.nodes+bulkAll t.args:=by cases t; rfl

theorem info_term:(Tryz.prog.info? 42).map (fun i=>(i.zero,i.size,i.bytes))=some (some (.agg #[.int .i64 0,.int .i64 0,.int .i64 0,.slice none 0 0,.slice none 0 0]),5,72):=by kernel_rfl

theorem Blk.facts5 {w:World} {g:Nat} {t:TypeId} {a b c d e:Value} (h:Blk w g t #[a,b,c,d,e]) :
   w.cell? ⟨g,0,none⟩ = some a∧w.cell? ⟨g,1,none⟩ = some b∧w.cell? ⟨g,2,none⟩ = some c∧w.cell? ⟨g,3,none⟩ = some d∧w.cell? ⟨g,4,none⟩ = some e ∧
     w.frozen? ⟨g,0,none⟩ = false∧w.frozen? ⟨g,1,none⟩ = false∧w.frozen? ⟨g,2,none⟩ = false∧w.frozen? ⟨g,3,none⟩ = false∧w.frozen? ⟨g,4,none⟩ = false:=
 ⟨by simpa using h.cell 0,by simpa using h.cell 1,by simpa using h.cell 2,by simpa using h.cell 3,by simpa using h.cell 4,h.frozen 0,h.frozen 1,h.frozen 2,h.frozen 3,h.frozen 4⟩
end Go.Proofs.YtipfnkajdooiiaaGreatDoor
