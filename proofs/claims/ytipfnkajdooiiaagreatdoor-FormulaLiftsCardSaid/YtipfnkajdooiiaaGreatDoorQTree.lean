/- Types as trees in memory. -/
import Derived.Test.YtipfnkajdooiiaaGreatDoorQDeck
import Derived.Maps.AppendAt
namespace Go.Proofs.YtipfnkajdooiiaaGreatDoor
open Go.RowKit

inductive Ty where
 | mk (kind:Int) (args:List Ty)

def Ty.kind:Ty→Int | .mk k _=>k
def Ty.args:Ty→List Ty | .mk _ l=>l

mutual
def Ty.nodes:Ty→Nat
 | .mk _ l=>1+nodesAll l
def nodesAll:List Ty→Nat
 | []=>0
 | t :: r=>t.nodes+nodesAll r
end

mutual
/-- The value v is the tree t, its lists lying in blocks of S. -/
def IsTy (S:Nat→Prop) (w:World):Ty→Value→Prop
 | .mk k l,v=>∃ A c,v=.agg #[.int .i64 k,.slice A l.length c]∧(l≠[]→∃ a,A=some a∧S a.block∧AreTys S w l a)
def AreTys (S:Nat→Prop) (w:World):List Ty→Addr→Prop
 | [],_=>True
 | t :: r,a=>(∃ v0 v1,w.cell? a=some v0∧w.cell? (a.add 1)=some v1∧IsTy S w t (.agg #[v0,v1]))∧AreTys S w r (a.add 2)
end

theorem add_block (a:Addr) (n:Nat):(a.add n).block=a.block:=by unfold Addr.add; split <;> rfl
theorem add_add' (a:Addr) (n m:Nat):(a.add n).add m=a.add (n+m):=by
 unfold Addr.add
 by_cases h:n=0
 · subst h; simp
 · by_cases h2:m=0
   · subst h2; simp
   · simp [h,h2,Nat.add_assoc]
theorem add_succ' (a:Addr) (n:Nat):a.add (n+1)=⟨(a.add n).block,(a.add n).off+1,none⟩:=by
 unfold Addr.add
 by_cases h:n=0
 · subst h; simp
 · simp [h,Nat.add_assoc]
theorem add_zero' (a:Addr):a.add 0=a:=by simp [Addr.add]

mutual
theorem IsTy.keep {S S':Nat→Prop} {w w':World} (hS:∀ b,S b→S' b) (hc:∀ p:Addr,S p.block→w'.cell? p=w.cell? p):∀ (t:Ty) {v:Value},IsTy S w t v→IsTy S' w' t v
 | .mk k l,v,h=>by
   unfold IsTy at h ⊢
   obtain ⟨A,c,hv,h⟩:=h
   refine ⟨A,c,hv,fun hl=>?_⟩
   obtain ⟨a,ha,hs,h⟩:=h hl
   exact ⟨a,ha,hS _ hs,AreTys.keep hS hc l hs h⟩
theorem AreTys.keep {S S':Nat→Prop} {w w':World} (hS:∀ b,S b→S' b) (hc:∀ p:Addr,S p.block→w'.cell? p=w.cell? p):∀ (l:List Ty) {a:Addr},S a.block→AreTys S w l a→AreTys S' w' l a
 | [],a,_,h=>by unfold AreTys; trivial
 | t :: r,a,hs,h=>by
   unfold AreTys at h ⊢
   obtain ⟨⟨v0,v1,h0,h1,ht⟩,hr⟩:=h
   refine ⟨⟨v0,v1,(hc a hs).trans h0,(hc _ (by rw [add_block]; exact hs)).trans h1,IsTy.keep hS hc t ht⟩,AreTys.keep hS hc r (by rw [add_block]; exact hs) hr⟩
end

theorem AreTys.at_ {S:Nat→Prop} {w:World}:∀ {l:List Ty} {a:Addr},AreTys S w l a→∀ i (hi:i<l.length),∃ v0 v1,w.cell? (a.add (i * 2))=some v0∧w.cell? (a.add (i * 2+1))=some v1∧IsTy S w l[i] (.agg #[v0,v1])
 | [],a,h,i,hi=>by simp at hi
 | t :: r,a,h,i,hi=>by
   unfold AreTys at h
   obtain ⟨⟨v0,v1,h0,h1,ht⟩,hr⟩:=h
   cases i with
   | zero=>exact ⟨v0,v1,by simpa [add_zero'] using h0,by simpa using h1,by simpa using ht⟩
   | succ i=>
     obtain ⟨u0,u1,g0,g1,gt⟩:=AreTys.at_ hr i (by simpa using hi)
     rw [add_add'] at g0 g1
     exact ⟨u0,u1,by rw [show (i+1) * 2=2+i * 2 from by omega]; exact g0,by rw [show (i+1) * 2+1=2+(i * 2+1) from by omega]; exact g1,by simpa using gt⟩

theorem AreTys.of_at {S:Nat→Prop} {w:World}:∀ {l:List Ty} {a:Addr},(∀ i (hi:i<l.length),∃ v0 v1,w.cell? (a.add (i * 2))=some v0∧w.cell? (a.add (i * 2+1))=some v1∧IsTy S w l[i] (.agg #[v0,v1]))→AreTys S w l a
 | [],a,h=>by unfold AreTys; trivial
 | t :: r,a,h=>by
   unfold AreTys
   refine ⟨?_,AreTys.of_at fun i hi=>?_⟩
   · obtain ⟨v0,v1,h0,h1,ht⟩:=h 0 (by simp)
     exact ⟨v0,v1,by simpa [add_zero'] using h0,by simpa using h1,by simpa using ht⟩
   · obtain ⟨u0,u1,g0,g1,gt⟩:=h (i+1) (by simpa using hi)
     rw [add_add',add_add']
     exact ⟨u0,u1,by rw [show 2+i * 2=(i+1) * 2 from by omega]; exact g0,by rw [show 2+(i * 2+1)=(i+1) * 2+1 from by omega]; exact g1,by simpa using gt⟩

theorem IsTy.form {S:Nat→Prop} {w:World} {t:Ty} {v:Value} (h:IsTy S w t v):∃ A c,v=.agg #[.int .i64 t.kind,.slice A t.args.length c]:=by
 cases t
 unfold IsTy at h
 obtain ⟨A,c,h,_⟩:=h
 exact ⟨A,c,h⟩

/-- Tree number i of a list: both its cells, as the walk asks for them. -/
theorem AreTys.get {S:Nat→Prop} {w:World} {l:List Ty} {a:Addr} (h:AreTys S w l a) (i:Nat) (hi:i<l.length) :
   ∃ A c,w.cell? (a.add (i * 2))=some (.int .i64 l[i].kind)∧w.cell? ⟨(a.add (i * 2)).block,(a.add (i * 2)).off+1,none⟩ = some (.slice A l[i].args.length c) ∧
     IsTy S w l[i] (.agg #[.int .i64 l[i].kind,.slice A l[i].args.length c]):=by
 obtain ⟨v0,v1,h0,h1,ht⟩:=h.at_ i hi
 obtain ⟨A,c,e⟩:=ht.form
 simp at e
 obtain ⟨rfl,rfl⟩:=e
 exact ⟨A,c,h0,by rw [← add_succ']; exact h1,ht⟩

theorem nat_any (w:World):Calls Tryz.prog 23 #[] w fun e w'=>e=.returned (.agg #[.int .i64 1,.slice none 0 0])∧Below w.heap.size w w':=by
 go_enter Tryz.func23,Tryz.ntmps23
 go_wp2_with fail
 exact bodyPost_ret (v:=.agg #[.int .i64 1,.slice none 0 0]) (by simp [results,Tryz.results23,go_sem]) rfl ⟨rfl,(Below.refl _ _).alloc (Nat.le_refl _) _⟩
theorem list_any (w:World):Calls Tryz.prog 70 #[] w fun e w'=>e=.returned (.agg #[.int .i64 2,.slice none 0 0])∧Below w.heap.size w w':=by
 go_enter Tryz.func70,Tryz.ntmps70
 go_wp2_with fail
 exact bodyPost_ret (v:=.agg #[.int .i64 2,.slice none 0 0]) (by simp [results,Tryz.results70,go_sem]) rfl ⟨rfl,(Below.refl _ _).alloc (Nat.le_refl _) _⟩
theorem unit_any (w:World):Calls Tryz.prog 75 #[] w fun e w'=>e=.returned (.agg #[.int .i64 5,.slice none 0 0])∧Below w.heap.size w w':=by
 go_enter Tryz.func75,Tryz.ntmps75
 go_wp2_with fail
 exact bodyPost_ret (v:=.agg #[.int .i64 5,.slice none 0 0]) (by simp [results,Tryz.results75,go_sem]) rfl ⟨rfl,(Below.refl _ _).alloc (Nat.le_refl _) _⟩

theorem IsTy.leaf (S:Nat→Prop) (w:World) (k:Int):IsTy S w (.mk k []) (.agg #[.int .i64 k,.slice none 0 0]):=by
 unfold IsTy
 exact ⟨none,0,rfl,fun h=>(h rfl).elim⟩

theorem nodesAll_get:∀ (l:List Ty) (i:Nat) (h:i<l.length),l[i].nodes≤nodesAll l
 | [],i,h=>by simp at h
 | t :: r,0,h=>by simp [nodesAll]
 | t :: r,i+1,h=>by
   have:=nodesAll_get r i (by simpa using h)
   simp only [nodesAll,List.getElem_cons_succ]
   omega
theorem nodesAll_len:∀ (l:List Ty),l.length≤nodesAll l
 | []=>by simp [nodesAll]
 | .mk k a :: r=>by
   have:=nodesAll_len r
   simp only [nodesAll,List.length_cons,Ty.nodes]
   omega
theorem nodes_pos (t:Ty):1≤t.nodes:=by cases t; simp [Ty.nodes]

/-- The tree t is in new memory. -/
def Fresh (w:World) (T:Ty) (e:Ending) (w':World):Prop:=
 ∃ v,e=.returned v∧IsTy (fun b=>w.heap.size≤b∧b<w'.heap.size) w' T v∧Below w.heap.size w w'

/-- The cells xs are the trees ts, which lie in blocks of S, none in the block of the slice v. -/
def Trees (S:Nat→Prop) (v:Value) (ts:List Ty) (xs:List Value) (w:World):Prop:=
 ∀ i (hi:i<ts.length),∃ v0 v1,xs[i * 2]? = some v0∧xs[i * 2+1]? = some v1∧IsTy (fun b=>S b∧b<w.heap.size∧v.ownBlock≠some b) w ts[i] (.agg #[v0,v1])

/-- The value v is a slice of the call's own, of the trees ts; the trees lie in blocks of S, none in the slice's own. -/
def Row (S:Nat→Prop) (base:Nat) (v:Value) (ts:List Ty) (w:World):Prop:=
 ∃ xs,w.ownsRow base 30 2 v ts.length xs∧Trees S v ts xs w

theorem Row.nil (S:Nat→Prop) (base:Nat) (w:World):Row S base (.slice none 0 0) [] w:=
 ⟨[],World.ownsRow_nil w base _ 2,fun i hi=>by simp at hi⟩

theorem Trees.kept {S:Nat→Prop} {v:Value} {ts:List Ty} {xs:List Value} {w w':World} {row:Option Nat} (h:Trees S v ts xs w) (hg:w.grownBy w' row)
   (hr:∀ k,row=some k→¬ S k):Trees S v ts xs w':=fun i hi=>by
 obtain ⟨v0,v1,h0,h1,h2⟩:=h i hi
 refine ⟨v0,v1,h0,h1,IsTy.keep (fun b hb=>⟨hb.1,Nat.lt_of_lt_of_le hb.2.1 hg.size,hb.2.2⟩) (fun p hp=>?_) _ h2⟩
 exact World.cell?_of_block (hg.block p.block hp.2.1 (fun e=>hr _ e.symm hp.1))

/-- The row stands while anything but its own block and new blocks turns. -/
theorem Row.kept {S:Nat→Prop} {base:Nat} {v:Value} {ts:List Ty} {w w':World} {row:Option Nat} (h:Row S base v ts w) (hg:w.grownBy w' row)
   (hr:∀ k,row=some k→¬ S k∧k<base):Row S base v ts w':=by
 obtain ⟨xs,hown,ht⟩:=h
 have hne:v.ownBlock=none∨v.ownBlock≠row:=by
   cases hv:v.ownBlock with
   | none=>exact .inl rfl
   | some g=>exact .inr fun e=>by have h1:=(hown.lt g hv).1; have h2:=(hr g e.symm).2; omega
 exact ⟨xs,hown.kept hg hne,ht.kept hg fun k e=>(hr k e).1⟩

theorem Row.snoc {S:Nat→Prop} {base:Nat} {v v' v0 v1:Value} {ts:List Ty} {t:Ty} {w w':World} {xs:List Value}
   (hown:w.ownsRow base 30 2 v ts.length xs) (ht:Trees S v ts xs w)
   (hn:IsTy (fun b=>S b∧b<w.heap.size∧v.ownBlock≠some b) w t (.agg #[v0,v1]))
   (hown':w'.ownsRow base 30 2 v' (ts.length+1) (xs ++ [v0,v1])) (hg:w.grownBy w' v.ownBlock)
   (hb:v'.ownBlock=v.ownBlock∨v'.ownBlock=some w.heap.size):Row S base v' (ts ++ [t]) w':=by
 have hx:xs.length=ts.length * 2:=hown.1
 have hkeep:∀ (u:Ty) (x:Value),IsTy (fun b=>S b∧b<w.heap.size∧v.ownBlock≠some b) w u x→IsTy (fun b=>S b∧b<w'.heap.size∧v'.ownBlock≠some b) w' u x:=by
   intro u x hu
   refine IsTy.keep (fun b hb'=>⟨hb'.1,Nat.lt_of_lt_of_le hb'.2.1 hg.size,?_⟩) (fun p hp=>World.cell?_of_block (hg.block p.block hp.2.1 (fun e=>hp.2.2 e.symm))) _ hu
   rcases hb with e | e
   · rw [e]; exact hb'.2.2
   · rw [e]; intro e'; have:=hb'.2.1; simp at e'; omega
 refine ⟨xs ++ [v0,v1],by simpa using hown',fun i hi=>?_⟩
 by_cases hl:i<ts.length
 · obtain ⟨u0,u1,h0,h1,h2⟩:=ht i hl
   refine ⟨u0,u1,?_,?_,?_⟩
   · rw [List.getElem?_append_left (by omega)]; exact h0
   · rw [List.getElem?_append_left (by omega)]; exact h1
   · rw [List.getElem_append_left hl]; exact hkeep _ _ h2
 · have e:i=ts.length:=by simp at hi; omega
   subst e
   refine ⟨v0,v1,?_,?_,?_⟩
   · rw [List.getElem?_append_right (by omega),hx]; simp
   · rw [List.getElem?_append_right (by omega),hx]; simp
   · simpa using hkeep _ _ hn

/-- A row is a list of trees. -/
theorem Row.isTy {S:Nat→Prop} {base:Nat} {v:Value} {ts:List Ty} {w:World} (k:Int) (h:Row S base v ts w) :
   IsTy (fun b=>(S b∨base≤b)∧b<w.heap.size) w (.mk k ts) (.agg #[.int .i64 k,v]):=by
 obtain ⟨xs,hown,ht⟩:=h
 unfold IsTy
 rcases hown.2 with ⟨rfl,hn⟩ | ⟨g,cap,cur,rfl,hb,hg,_⟩
 · have:ts=[]:=List.eq_nil_of_length_eq_zero hn
   subst this
   exact ⟨none,0,rfl,fun h=>(h rfl).elim⟩
 · refine ⟨_,cap,rfl,fun _=>⟨_,rfl,⟨.inr hb,(Array.getElem?_eq_some_iff.1 hg).1⟩,AreTys.of_at fun i hi=>?_⟩⟩
   obtain ⟨v0,v1,h0,h1,h2⟩:=ht i hi
   refine ⟨v0,v1,hown.cells rfl _ _ h0,hown.cells rfl _ _ h1,IsTy.keep (fun b hb=>⟨.inl hb.1,hb.2.1⟩) (fun _ _=>rfl) _ h2⟩

theorem Row.form {S:Nat→Prop} {base:Nat} {v:Value} {ts:List Ty} {w:World} (h:Row S base v ts w):∃ A c,v=.slice A ts.length c:=by
 obtain ⟨xs,hown,_⟩:=h
 rcases hown.2 with ⟨rfl,hn⟩ | ⟨g,cap,cur,rfl,_⟩
 · exact ⟨none,0,by rw [hn]⟩
 · exact ⟨_,cap,rfl⟩

theorem cells_new (w:World) (cs:Array Value) (t:TypeId):∀ j u,cs.toList[j]? = some u→(w.alloc (.cells cs t)).cell? ((⟨w.heap.size,0,none⟩:Addr).add j)=some u:=by
 intro j u h
 have e:(⟨w.heap.size,0,none⟩:Addr).add j=⟨w.heap.size,j,none⟩:=by unfold Addr.add; split <;> simp_all
 rw [e,(Blk.new w t cs).cell]
 simpa using h

theorem below_only {a w:World} {B:Nat} (h:Below B a w) (hB:a.heap.size≤B) (row:Option Nat):a.grownBy w row:=only_of_below (h.mono hB) row

theorem info_type:(Tryz.prog.info? 30).map (fun i=>(i.zero,i.size,i.bytes))=some (some (.agg #[.int .i64 0,.slice none 0 0]),2,32):=by kernel_rfl

/-- What a round of Copy comes to. -/
theorem copy_round {w wr w1 w2:World} {l:List Ty} {j:Nat} {k:Int} {s0 u3 v2 x0 x1 y0 y1:Value} {xs:List Value} (hlt:j<l.length)
   (hbel:Below w.heap.size w wr) (hb0:Blk wr w.heap.size 30 #[.int .i64 k,s0]) (hb1:Blk wr (w.heap.size+1) 30 #[.int .i64 0,.slice none 0 0])
   (hown:wr.ownsRow (w.heap.size+2) 30 2 u3 (l.take j).length xs) (hxs:Trees (w.heap.size+2≤·) u3 (l.take j) xs wr)
   (hbw:Below wr.heap.size wr w1) (ht1:IsTy (fun b=>(wr.alloc (.cells #[x0,x1] 30)).heap.size≤b∧b<w1.heap.size) w1 l[j] (.agg #[y0,y1]))
   (hown2:w2.ownsRow (w.heap.size+2) 30 2 v2 ((l.take j).length+1) (xs ++ [y0,y1]))
   (hg2:(w1.alloc (.cells #[y0,y1] 30)).grownBy w2 u3.ownBlock)
   (hat2:v2.ownBlock=u3.ownBlock∨v2.ownBlock=some (w1.alloc (.cells #[y0,y1] 30)).heap.size) :
   Row (w.heap.size+2≤·) (w.heap.size+2) v2 (l.take (j+1)) w2∧Below w.heap.size w w2 ∧
     Blk w2 w.heap.size 30 #[.int .i64 k,s0]∧Blk w2 (w.heap.size+1) 30 #[.int .i64 0,.slice none 0 0]:=by
 have hg1:wr.grownBy (w1.alloc (.cells #[y0,y1] 30)) none:=only_alloc (below_only hbw (Nat.le_refl _) none) _
 have hown1:=hown.kept hg1 (by cases u3.ownBlock <;> simp)
 have hlt1:=hown.lt
 have hs1:=hb1.lt
 have hs2:=hbel.size
 have hrow:∀ g,u3.ownBlock=some g→w.heap.size+2≤g:=fun g e=>(hlt1 g e).1
 refine ⟨?_,?_,?_,?_⟩
 · rw [List.take_succ_eq_append_getElem hlt]
   refine Row.snoc hown1 (hxs.kept hg1 (by simp)) ?_ hown2 hg2 hat2
   refine IsTy.keep (fun b hb=>⟨?_,?_,?_⟩) (fun p hp=>World.cell?_alloc_lt _ _ _ hp.2) _ ht1
   · have:=hb.1; simp at this; omega
   · have:=hb.2; simp; omega
   · intro e; have:=(hlt1 _ e).2; have:=hb.1; simp at this; omega
 · exact (hbel.trans (hbw.mono hs2)).trans (((Below.refl _ _).alloc (by have:=hbw.size; omega) _).grown hg2 (by have:=hbw.size; simp; omega) (fun g e=>by have:=hrow g e; omega))
 · exact (hb0.grown hg1 (by simp)).grown hg2 (fun e=>by have:=hrow _ e.symm; omega)
 · exact (hb1.grown hg1 (by simp)).grown hg2 (fun e=>by have:=hrow _ e.symm; omega)

theorem only_set2 (w:World) (g:Nat) (u v:Value):w.grownBy ((w.setCell ⟨g,0,none⟩ u).setCell ⟨g,1,none⟩ v) (some g):=by
 have h:=only_setCell (only_refl w (some g)) (p:=⟨g,0,none⟩) (Or.inl rfl) u
 exact only_setCell h (p:=⟨g,1,none⟩) (Or.inl rfl) v
theorem Blk.set2 {w:World} {g:Nat} {t:TypeId} {a b:Value} (h:Blk w g t #[a,b]) (u v:Value):Blk ((w.setCell ⟨g,0,none⟩ u).setCell ⟨g,1,none⟩ v) g t #[u,v]:=
 (h.set_ 0 u).set_ 1 v
theorem copy_end {w wr W:World} {l:List Ty} {k:Int} {s:Value} (hbel:Below w.heap.size w wr) (_hs:w.heap.size+1<wr.heap.size)
   (hrow:Row (w.heap.size+2≤·) (w.heap.size+2) s l wr) (hg:wr.grownBy W (some (w.heap.size+1))) :
   IsTy (fun b=>w.heap.size≤b∧b<W.heap.size) W (.mk k l) (.agg #[.int .i64 k,s])∧Below w.heap.size w W:=by
 have h1:=(hrow.kept hg (fun g e=>by cases e; omega)).isTy k
 refine ⟨IsTy.keep (fun b hb=>⟨?_,hb.2⟩) (fun _ _=>rfl) _ h1,hbel.grown hg hbel.size (fun g e=>by cases e; omega)⟩
 rcases hb.1 with h | h <;> omega

set_option maxHeartbeats 400000 in
theorem copy_any (n:Nat):∀ (T:Ty) (v:Value) (w:World),T.nodes≤n→n≤400000→IsTy (· < w.heap.size) w T v →
   Calls Tryz.prog 143 #[v] w (Fresh w T):=by
 induction n with
 | zero=>intro T; have:=nodes_pos T; omega
 | succ n ih=>
   rintro ⟨k,l⟩ v w hn hb hT
   have hT0:=Lib.hid hT
   unfold IsTy at hT
   obtain ⟨A,c,rfl,hT⟩:=hT
   have hll:=nodesAll_len l
   simp only [Ty.nodes] at hn
   have HT:=Lib.hid hT
   clear hT
   have IH:=Lib.hid ih
   clear ih
   go_enter Tryz.func143,Tryz.ntmps143
   go_wp2_with fail
   go_loopw [3,9] (fun s i wr=>∃ j:Nat,j≤l.length∧i=.int .i64 j∧Row (w.heap.size+2≤·) (w.heap.size+2) s (l.take j) wr∧Below w.heap.size w wr ∧
       Blk wr w.heap.size 30 #[.int .i64 k,.slice A l.length c]∧Blk wr (w.heap.size+1) 30 #[.int .i64 0,.slice none 0 0])
     (fun _ i _=>l.length - (intOf i).toNat)
   case atStart=>
     refine ⟨0,by omega,rfl,Row.nil _ _ _,((Below.refl _ _).alloc (Nat.le_refl _) _).alloc (by simp) _,(Blk.new _ _ _).alloc _,?_⟩
     have:=Blk.new (w.alloc (.cells #[.int .i64 k,.slice A l.length c] 30)) 30 #[.int .i64 0,.slice none 0 0]
     simpa using this
   case round=>
     obtain ⟨j,hj,rfl,hrow,hbel,hb0,hb1⟩:=hrel
     by_cases hlt:j<l.length
     · have hl0:l≠[]:=by intro e; subst e; simp at hlt
       obtain ⟨a,rfl,ha,hts⟩:=HT.out hl0
       have hts':AreTys (· < w.heap.size) wr l a:=AreTys.keep (fun _ h=>h) (fun p hp=>hbel.cell hp) _ ha hts
       obtain ⟨A',c',hk0,hk1,ht⟩:=hts'.get j hlt
       obtain ⟨xs,hown,hxs⟩:=hrow
       have hlen:(l.take j).length=j:=by simp; omega
       have hnj:l[j].nodes≤n:=by have:=nodesAll_get l j hlt; omega
       obtain ⟨i0,hi,hz0,hz1,hz2⟩:=info_parts info_type
       have HL:=Lib.hid hlen
       have HX:=Lib.hid hxs
       clear hlen hxs
       go_wp2_with fail
       refine (IH.out l[j] _ _ hnj (by omega) (ht.keep (fun b h=>by simp; have:=hbel.size; omega) (fun p hp=>World.cell?_alloc_lt _ _ _ (by have:=hbel.size; omega)))).mono ?_
       rintro e w1 ⟨v',rfl,ht1,hb1'⟩
       obtain ⟨A2,c2,rfl⟩:=ht1.form
       have hbw:Below wr.heap.size wr w1:=((Below.refl _ _).alloc (Nat.le_refl _) _).trans (hb1'.mono (by simp))
       go_wp2_with (at_builtin; go_loud (refine wpList_append_own_at _ rfl _ _ 27 rfl (w.heap.size+2) 30 i0 _ 2 32 Tryz.underlying27 hi hz0 hz1 hz2 rfl (by decide) u3 (l.take j).length xs rfl ((hown.kept (below_only hbw (Nat.le_refl _) none) (by cases u3.ownBlock <;> simp)).alloc _) ⟨w1.heap.size,0,none⟩ 1 1 [_,_] rfl rfl (cells_new _ _ _) (by simp [Value.oneCell']) (by have:=HL.out; simp only [maxLen]; omega) (by have:=HL.out; omega) (by have:=hb1.lt; have:=hbw.size; simp; omega) ?_); intro v2 w2 hown2 hg2 hnil2 hat2)
       refine ⟨⟨j+1,by omega,by go_num,copy_round hlt hbel hb0 hb1 hown HX.out hbw ht1 hown2 hg2 hat2⟩,by simp [intOf]; omega⟩
     · have hjl:j=l.length:=by omega
       subst hjl
       rw [List.take_length] at hrow
       obtain ⟨A3,c3,rfl⟩:=hrow.form
       have c00:=hb0.cell 0
       have c10:=hb1.cell 0
       have c11:=hb1.cell 1
       have f10:=hb1.frozen 0
       have f11:=hb1.frozen 1
       simp at c00 c10 c11
       go_wp2_with fail
       have hs:=hb1.lt
       have hK2:=hb1.set2 (.int .i64 k) (.slice A3 l.length c3)
       have k0:=hK2.cell 0
       have k1:=hK2.cell 1
       simp at k0 k1
       have hg:=only_set2 wr (w.heap.size+1) (.int .i64 k) (.slice A3 l.length c3)
       refine bodyPost_ret (v:=.agg #[.int .i64 k,.slice A3 l.length c3]) (by simp [results,Tryz.results143,go_sem,k0,k1]) rfl ⟨_,rfl,?_,?_⟩
       · exact (copy_end hbel hs hrow hg).1
       · exact (copy_end (k:=k) hbel hs hrow hg).2
end Go.Proofs.YtipfnkajdooiiaaGreatDoor
