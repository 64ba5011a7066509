/- The iterator over the nodes of a type. -/
import Derived.Test.YtipfnkajdooiiaaGreatDoorQRange
import Derived.Sort.LoopGhostIn
namespace Go.Proofs.YtipfnkajdooiiaaGreatDoor
open Go.RowKit Go.Shelf

attribute [local go_sem] Oper.semAt_some

mutual
/-- The nodes in the order in which they come: each before its Args, the last of these first. -/
def Ty.order:Ty→List Ty
 | .mk k l=>.mk k l :: orderAll l
def orderAll:List Ty→List Ty
 | []=>[]
 | t :: r=>orderAll r ++ t.order
end

theorem orderAll_append:∀ (l r:List Ty),orderAll (l ++ r)=orderAll r ++ orderAll l
 | [],r=>by simp [orderAll]
 | t :: l,r=>by simp [orderAll,orderAll_append l r]
theorem orderAll_snoc (l:List Ty) (t:Ty):orderAll (l ++ [t])=t :: orderAll (l ++ t.args):=by
 rw [orderAll_append,orderAll_append]
 cases t
 simp [orderAll,Ty.order,Ty.args]

mutual
theorem order_length:∀ t:Ty,t.order.length=t.nodes
 | .mk k l=>by simp only [Ty.order,Ty.nodes,List.length_cons,orderAll_length l]; omega
theorem orderAll_length:∀ l:List Ty,(orderAll l).length=nodesAll l
 | []=>by simp [orderAll,nodesAll]
 | t :: r=>by simp only [orderAll,nodesAll,List.length_append,orderAll_length r,order_length t]; omega
end
theorem nodesAll_append:∀ (l r:List Ty),nodesAll (l ++ r)=nodesAll l+nodesAll r
 | [],r=>by simp [nodesAll]
 | t :: l,r=>by simp only [List.cons_append,nodesAll,nodesAll_append l r]; omega

/-- The last tree of a row. -/
theorem Row.last {S:Nat→Prop} {base:Nat} {s:Value} {ts:List Ty} {t:Ty} {w:World} (h:Row S base s (ts ++ [t]) w) :
   ∃ (g cap:Nat) (A:Option Addr) (c:Nat),s=.slice (some ⟨g,0,none⟩) (ts.length+1) cap∧base≤g∧g<w.heap.size∧ts.length+1≤cap ∧
     w.cell? ⟨g,ts.length * 2,none⟩ = some (.int .i64 t.kind)∧w.cell? ⟨g,ts.length * 2+1,none⟩ = some (.slice A t.args.length c) ∧
     IsTy (fun b=>S b∧b<w.heap.size) w t (.agg #[.int .i64 t.kind,.slice A t.args.length c])∧Row S base (.slice (some ⟨g,0,none⟩) ts.length cap) ts w:=by
 obtain ⟨xs,hown,ht⟩:=h
 obtain ⟨v0,v1,h0,h1,h2⟩:=ht ts.length (by simp)
 obtain ⟨A,c,e⟩:=h2.form
 simp at e
 obtain ⟨rfl,rfl⟩:=e
 have hx:xs.length=(ts.length+1) * 2:=by simpa using hown.1
 rcases hown.2 with ⟨rfl,hn⟩ | ⟨g,cap,cur,rfl,hb,hg,hnc,hcm,hcs,htake⟩
 · simp at hn
 · have hcell:∀ j u,xs[j]? = some u→w.cell? ⟨g,j,none⟩ = some u:=by
     intro j u hu
     have:=hown.cells rfl j u hu
     have e:(⟨g,0,none⟩:Addr).add j=⟨g,j,none⟩:=by unfold Addr.add; split <;> simp_all
     rwa [e] at this
   have e1:(ts ++ [t])[ts.length]'(by simp)=t:=by simp
   have e2:(ts ++ [t]).length=ts.length+1:=by simp
   rw [e1] at h2
   refine ⟨g,cap,A,c,by simp,hb,(Array.getElem?_eq_some_iff.1 hg).1,by omega,hcell _ _ h0,hcell _ _ h1,IsTy.keep (fun b hb=>⟨hb.1,hb.2.1⟩) (fun _ _=>rfl) _ h2,xs.take (ts.length * 2),⟨?_,.inr ⟨g,cap,cur,rfl,hb,hg,?_,hcm,hcs,?_⟩⟩,fun i hi=>?_⟩
   · simp; omega
   · omega
   · rw [← htake,e2,List.take_take]; congr 1; omega
   · obtain ⟨u0,u1,k0,k1,k2⟩:=ht i (by simp; omega)
     rw [List.getElem_append_left hi] at k2
     exact ⟨u0,u1,by rw [List.getElem?_take,if_pos (by omega)]; exact k0,by rw [List.getElem?_take,if_pos (by omega)]; exact k1,k2⟩

/-- A row of one tree, just built. -/
theorem Row.one {S:Nat→Prop} {w:World} {T:Ty} {x y:Value} (hS:∀ b,S b→b<w.heap.size) (h:IsTy S (w.alloc (.cells #[x,y] 30)) T (.agg #[x,y])) :
   Row S w.heap.size (.slice (some ⟨w.heap.size,0,none⟩) 1 1) [T] (w.alloc (.cells #[x,y] 30)):=by
 refine ⟨[x,y],⟨by simp,.inr ⟨w.heap.size,1,#[x,y],rfl,Nat.le_refl _,heap_alloc_new w _,by simp,by simp [maxLen],by simp,by simp⟩⟩,fun i hi=>?_⟩
 have:i=0:=by simpa using hi
 subst this
 refine ⟨x,y,rfl,rfl,IsTy.keep (fun b hb=>⟨hb,?_,?_⟩) (fun _ _=>rfl) _ h⟩
 · have:=hS b hb; simp; omega
 · intro e; have:=hS b hb; simp [Value.ownBlock] at e; omega

/-- The cells of a list of trees. -/
theorem AreTys.cells {S:Nat→Prop} {w:World}:∀ {l:List Ty} {a:Addr},AreTys S w l a→∃ news:List Value,news.length=l.length * 2∧(∀ j u,news[j]? = some u→w.cell? (a.add j)=some u) ∧
   (∀ u ∈ news,u.oneCell' = true)∧∀ i (hi:i<l.length),∃ v0 v1,news[i * 2]? = some v0∧news[i * 2+1]? = some v1∧IsTy S w l[i] (.agg #[v0,v1])
 | [],a,_=>⟨[],rfl,fun j u h=>by simp at h,fun u h=>by simp at h,fun i hi=>by simp at hi⟩
 | t :: r,a,h=>by
   unfold AreTys at h
   obtain ⟨⟨v0,v1,h0,h1,ht⟩,hr⟩:=h
   obtain ⟨news,hl,hc,ho,hi⟩:=AreTys.cells hr
   obtain ⟨A,c,e⟩:=ht.form
   simp at e
   obtain ⟨rfl,rfl⟩:=e
   refine ⟨.int .i64 t.kind :: .slice A t.args.length c :: news,by simp [hl,Nat.add_mul],fun j u hu=>?_,fun u hu=>?_,fun i hii=>?_⟩
   · match j,hu with
     | 0,hu=>simp at hu; rw [add_zero',← hu]; exact h0
     | 1,hu=>simp at hu; rw [← hu]; exact h1
     | j+2,hu=>
       have:=hc j u (by simpa using hu)
       rw [add_add',Nat.add_comm] at this
       exact this
   · simp at hu
     rcases hu with rfl | rfl | hu
     · simp [Value.oneCell']
     · simp [Value.oneCell']
     · exact ho u hu
   · match i,hii with
     | 0,_=>exact ⟨_,_,rfl,rfl,ht⟩
     | i+1,hii=>
       obtain ⟨u0,u1,k0,k1,kt⟩:=hi i (by simpa using hii)
       refine ⟨u0,u1,?_,?_,kt⟩
       · rw [show (i+1) * 2=i * 2+1+1 from by omega]; simpa using k0
       · rw [show (i+1) * 2+1=i * 2+1+1+1 from by omega]; simpa using k1

/-- More trees behind a row. -/
theorem Row.more {S:Nat→Prop} {base:Nat} {v v':Value} {ts l:List Ty} {w w':World} {xs news:List Value}
   (hown:w.ownsRow base 30 2 v ts.length xs) (ht:Trees S v ts xs w) (_hl:news.length=l.length * 2)
   (hn:∀ i (hi:i<l.length),∃ v0 v1,news[i * 2]? = some v0∧news[i * 2+1]? = some v1∧IsTy (fun b=>S b∧b<w.heap.size∧v.ownBlock≠some b) w l[i] (.agg #[v0,v1]))
   (hown':w'.ownsRow base 30 2 v' (ts.length+l.length) (xs ++ news)) (hg:w.grownBy w' v.ownBlock)
   (hb:v'.ownBlock=v.ownBlock∨v'.ownBlock=some w.heap.size):Row S base v' (ts ++ l) w':=by
 have hx:xs.length=ts.length * 2:=hown.1
 have hkeep:∀ (u:Ty) (x:Value),IsTy (fun b=>S b∧b<w.heap.size∧v.ownBlock≠some b) w u x→IsTy (fun b=>S b∧b<w'.heap.size∧v'.ownBlock≠some b) w' u x:=by
   intro u x hu
   refine IsTy.keep (fun b hb'=>⟨hb'.1,Nat.lt_of_lt_of_le hb'.2.1 hg.size,?_⟩) (fun p hp=>World.cell?_of_block (hg.block p.block hp.2.1 (fun e=>hp.2.2 e.symm))) _ hu
   rcases hb with e | e
   · rw [e]; exact hb'.2.2
   · rw [e]; intro e'; have:=hb'.2.1; simp at e'; omega
 refine ⟨xs ++ news,by simpa using hown',fun i hi=>?_⟩
 by_cases hlt:i<ts.length
 · obtain ⟨u0,u1,h0,h1,h2⟩:=ht i hlt
   refine ⟨u0,u1,?_,?_,?_⟩
   · rw [List.getElem?_append_left (by omega)]; exact h0
   · rw [List.getElem?_append_left (by omega)]; exact h1
   · rw [List.getElem_append_left hlt]; exact hkeep _ _ h2
 · have hi':i<ts.length+l.length:=by simpa using hi
   obtain ⟨u0,u1,h0,h1,h2⟩:=hn (i - ts.length) (by omega)
   refine ⟨u0,u1,?_,?_,?_⟩
   · rw [List.getElem?_append_right (by omega),hx,show i * 2 - ts.length * 2=(i - ts.length) * 2 from by omega]; exact h0
   · rw [List.getElem?_append_right (by omega),hx,show i * 2+1 - ts.length * 2=(i - ts.length) * 2+1 from by omega]; exact h1
   · rw [List.getElem_append_right (by omega)]; exact hkeep _ _ h2

/-- A row, while a round turns the caller's variables. -/
theorem Row.round {n₀ B:Nat} {v:Value} {ts:List Ty} {w w':World} (h:Row (· < n₀) B v ts w) (hk:Kept n₀ B w w'):Row (· < n₀) B v ts w':=by
 obtain ⟨xs,hown,ht⟩:=h
 have hlt:=hown.lt
 refine ⟨xs,⟨hown.1,?_⟩,fun i hi=>?_⟩
 · rcases hown.2 with hn | ⟨g,cap,cur,rfl,hb,hg,rest⟩
   · exact .inl hn
   · exact .inr ⟨g,cap,cur,rfl,hb,(hk.block g (Array.getElem?_eq_some_iff.1 hg).1 (.inr hb)).trans hg,rest⟩
 · obtain ⟨v0,v1,h0,h1,h2⟩:=ht i hi
   exact ⟨v0,v1,h0,h1,IsTy.keep (fun b hb=>⟨hb.1,Nat.lt_of_lt_of_le hb.2.1 hk.size,hb.2.2⟩) (fun p hp=>World.cell?_of_block (hk.block p.block hp.2.1 (.inl hp.1))) _ h2⟩

theorem IsTy.nil_args {S:Nat→Prop} {w:World} {t:Ty} {k:Value} {n c:Nat} (h:IsTy S w t (.agg #[k,.slice none n c])):t.args.length=0:=by
 cases t with
 | mk k l=>
   unfold IsTy at h
   obtain ⟨A,c',e,h⟩:=h
   simp at e
   cases l with
   | nil=>rfl
   | cons x y=>
     obtain ⟨a,h1,_⟩:=h (by simp)
     rw [h1] at e
     simp at e

/-- A tree stands as a value. -/
def EncTy (n₀:Nat) (T:Ty) (args:Array Value) (w:World):Prop:=∃ v,args=#[v]∧IsTy (· < n₀) w T v

def NodesRel (n₀ B:Nat) (T:Ty) (J:List Ty→World→Prop) (k:Nat) (s:Value) (wr:World):Prop:=
 ∃ pre st,Row (· < n₀) B s st wr∧pre ++ orderAll st=T.order∧nodesAll st=k∧J pre wr∧B≤wr.heap.size

theorem IsTy.arg_cells {S:Nat→Prop} {w:World} {t:Ty} {k:Value} {a:Addr} {n c:Nat} (h:IsTy S w t (.agg #[k,.slice (some a) n c])) :
   ∃ news:List Value,news.length=t.args.length * 2∧(∀ j u,news[j]? = some u→w.cell? (a.add j)=some u) ∧
   (∀ u ∈ news,u.oneCell' = true)∧∀ i (hi:i<t.args.length),∃ v0 v1,news[i * 2]? = some v0∧news[i * 2+1]? = some v1∧IsTy S w t.args[i] (.agg #[v0,v1]):=by
 cases t with
 | mk k l=>
   unfold IsTy at h
   obtain ⟨A,c',e,h⟩:=h
   simp at e
   obtain ⟨_,e,_,_⟩:=e
   subst e
   cases l with
   | nil=>exact ⟨[],rfl,fun j u h=>by simp at h,fun u h=>by simp at h,fun i hi=>by simp [Ty.args] at hi⟩
   | cons x y=>
     obtain ⟨a',h1,_,h2⟩:=h (by simp)
     cases h1
     exact h2.cells

theorem nodesRel_step {n₀ B gk:Nat} {T t:Ty} {J:List Ty→World→Prop} {pre ts _l st:List Ty} {s:Value} {w:World} (hrow:Row (· < n₀) B s st w) (hl:st=ts ++ t.args)
   (hord:pre ++ orderAll (ts ++ [t])=T.order) (hk:nodesAll (ts ++ [t])=gk) (hJ:J (pre ++ [t]) w) (hB:B≤w.heap.size):NodesRel n₀ B T J (gk - 1) s w:=by
 refine ⟨pre ++ [t],st,hrow,?_,?_,hJ,hB⟩
 · rw [← hord,hl,orderAll_snoc]; simp
 · have h3:t.nodes=1+nodesAll t.args:=by cases t; simp [Ty.nodes,Ty.args]
   rw [hl,← hk,nodesAll_append,nodesAll_append]
   simp only [nodesAll]
   omega
theorem nodes_drop {ts:List Ty} {t:Ty} {gk:Nat} (h:nodesAll (ts ++ [t])=gk):gk - 1<gk:=by
 have:=nodes_pos t
 rw [nodesAll_append] at h
 simp only [nodesAll] at h
 omega

set_option maxRecDepth 100000 in
set_option maxHeartbeats 2000000 in
theorem nodes_iter (n n₀ bt:Nat) (T:Ty) (v:Value) (w:World) (hn:1≤n) (hn₀:n₀≤w.heap.size) (hT:IsTy (· < n₀) w T v) (hsz:T.nodes≤400000) (hbt:bt<w.heap.size)
   (hb:∀ x y,v=.agg #[x,y]→Blk w bt 30 #[x,y]) :
   Iterates Tryz.prog n n₀ 270 #[.pointer (some ⟨bt,0,none⟩)] (EncTy n₀) T.order w:=by
 intro l J Jx W hW hJ hJx hY h0
 obtain ⟨A0,c0,rfl⟩:=hT.form
 have hB:=(hb _ _ rfl).below hW hbt
 obtain ⟨q0,q1,_,_⟩:=hB.facts2
 have hTW:=hT.keep (S':=(· < n₀)) (fun _ h=>h) (fun p hp=>hW.cell (by omega))
 have HT:=Lib.hid hTW
 have HY:=Lib.hid hY
 have HJ:=Lib.hid hJ
 clear hT hTW hY hb
 refine callsIn_of_wp Tryz.func270 rfl trivial ?_ rfl
 simp only [Tryz.ntmps270,List.size_toArray,List.length_cons,List.length_nil,Nat.reduceAdd,Nat.reduceSub,Array.replicate_succ,Array.replicate_zero,List.push_toArray,List.append_toArray,List.nil_append,List.cons_append]
 gi_wp2
 gi_loopg [3] T.nodes (fun k s wr=>NodesRel n₀ W.heap.size T J k s wr)
 case atStart=>
   exact ⟨[],[T],Row.one (fun b hb=>by have:=hW.size; omega) (HT.out.keep (fun b h=>h) (fun p hp=>World.cell?_alloc_lt _ _ _ (by have:=hW.size; omega))),by simp [orderAll],by simp [nodesAll],HJ.out _ _ _ h0 ((Below.refl _ _).alloc (Nat.le_refl _) _),by simp⟩
 case round=>
   obtain ⟨pre,st,hrow,hord,hk,hJp,hBw⟩:=hrel
   rcases List.eq_nil_or_concat st with rfl | ⟨ts,t,rfl⟩
   · obtain ⟨A3,c3,rfl⟩:=hrow.form
     gi_wp2
     go_end0
     have e:pre=T.order:=by simpa [orderAll] using hord
     exact ⟨⟨_,rfl⟩,.inl (by rw [← e]; exact hJp)⟩
   · simp only [List.concat_eq_append] at hrow hord hk
     obtain ⟨g,cap,A,c,rfl,hg0,hg1,hcap,k0,k1,ht,hrow2⟩:=hrow.last
     have hpre:pre ++ [t] <+: T.order:=by rw [← hord,orderAll_snoc]; simp
     have hlen:ts.length+1≤400000:=by
       have h1:=congrArg List.length hord
       rw [List.length_append,orderAll_length,order_length] at h1
       have h2:=nodesAll_len (ts ++ [t])
       simp only [List.length_append,List.length_cons,List.length_nil] at h2
       omega
     have HO:=Lib.hid hord
     have HK:=Lib.hid hk
     have HP:=Lib.hid hpre
     clear hord hk hpre
     have ht1:IsTy (· < n₀) (wr.alloc (.cells #[.int .i64 t.kind,.slice A t.args.length c] 30)) t (.agg #[.int .i64 t.kind,.slice A t.args.length c]):=
       IsTy.keep (fun b hb=>hb.1) (fun p hp=>World.cell?_alloc_lt _ _ _ hp.2) _ ht
     obtain ⟨fn,tmps,assign,body,hy,hR⟩:=HY.out pre t #[.agg #[.int .i64 t.kind,.slice A t.args.length c]] (wr.alloc (.cells #[.int .i64 t.kind,.slice A t.args.length c] 30))
       (HJ.out _ _ _ hJp ((Below.refl _ _).alloc hBw _)) HP.out (by simp; omega) ⟨_,rfl,ht1⟩
     gi_wp2
     refine hR.mono ?_
     rintro e W' (⟨rfl,hJ',hkp⟩ | ⟨rfl,hJx',_⟩)
     · have hbx:Blk W' wr.heap.size 30 #[.int .i64 t.kind,.slice A t.args.length c]:=
         (Blk.new wr 30 #[.int .i64 t.kind,.slice A t.args.length c]).carry (hkp.block _ (by simp) (.inr hBw))
       have hsz':=hkp.size
       simp only [World.size_alloc] at hsz'
       have hrow3:=(hrow2.kept (World.grownBy_alloc wr (.cells #[.int .i64 t.kind,.slice A t.args.length c] 30) none) (by simp)).round hkp
       obtain ⟨b0,b1,_,_⟩:=hbx.facts2
       have ht2:IsTy (· < n₀) W' t (.agg #[.int .i64 t.kind,.slice A t.args.length c]):=
         IsTy.keep (fun b hb=>hb) (fun p hp=>World.cell?_of_block (hkp.block p.block (by have:=hW.size; simp; omega) (.inl hp))) _ ht1
       cases A with
       | none=>
         have he:=ht2.nil_args
         have hta:t.args=[]:=List.eq_nil_of_length_eq_zero he
         rw [he] at b1 ⊢
         have hc2:ts.length≤cap:=by omega
         gi_wp2
         gi_roundg (gk - 1)
         case rel=>exact nodesRel_step (_l:=[]) hrow3 (by rw [hta,List.append_nil]) HO.out HK.out hJ' (by omega)
         case measure=>have:=HK.out; exact nodes_drop this
       | some a=>
         obtain ⟨news,hnl,hnc,hno,hni⟩:=ht2.arg_cells
         obtain ⟨xs,hown,hts⟩:=hrow3
         obtain ⟨i0,hi,hz0,hz1,hz2⟩:=info_parts info_type
         have hargs:t.args.length≤400000:=by
           have h1:=congrArg List.length HO.out
           rw [List.length_append,orderAll_length,order_length,nodesAll_append] at h1
           have h2:=nodesAll_len t.args
           have h3:t.nodes=1+nodesAll t.args:=by cases t; simp [Ty.nodes,Ty.args]
           simp only [nodesAll] at h1
           omega
         have HN:=Lib.hid hnl
         have HI:=Lib.hid hni
         have HS:=Lib.hid hts
         have HC:=Lib.hid hnc
         clear hnl hni hts hnc
         gi_wp2_with (gi_at_builtin; refine wpListIn_append_own_at _ rfl _ _ 27 rfl W.heap.size 30 i0 _ 2 32 Tryz.underlying27 hi hz0 hz1 hz2 rfl (by decide) _ ts.length xs rfl hown a t.args.length c news rfl HN.out HC.out hno (by simp only [maxLen]; omega) (by omega) (by omega) ?_; intro v2 w2 hown2 hg2 hnil2 hat2)
         gi_roundg (gk - 1)
         case rel=>
           refine nodesRel_step (_l:=t.args) ?_ rfl HO.out HK.out (HJ.out _ _ _ hJ' ((Below.refl _ _).grown hg2 (by omega) (fun k e=>by cases e; exact hg0))) (by have:=hg2.size; omega)
           exact Row.more hown HS.out HN.out (fun i hi=>by
             obtain ⟨v0,v1,g0,g1,g2⟩:=HI.out i hi
             exact ⟨v0,v1,g0,g1,IsTy.keep (fun b hb=>⟨hb,by have:=hW.size; omega,fun e=>by cases e; have h1:g<n₀:=hb; have:=hW.size; omega⟩) (fun _ _=>rfl) _ g2⟩) hown2 hg2 hat2
         case measure=>have:=HK.out; exact nodes_drop this
     · gi_wp2
       refine bodyPost_ret (results_none rfl _ _ _) rfl ?_
       exact ⟨⟨_,rfl⟩,.inr hJx'⟩
end Go.Proofs.YtipfnkajdooiiaaGreatDoor
namespace Go.Proofs.YtipfnkajdooiiaaGreatDoor
open Go.RowKit Go.Shelf

/-- A function whose rounds deferred nothing has come to its end. -/
theorem marks_end {P:Program} {n:Nat} {fn:Func} {R:Ending→World→Prop} {tmps:Array Value} {D:Nat} {W:World} {v:Value} (hD:W.heap[D]? = some (.deferred (some [])))
   (hres:(results fn tmps).run P (W.putObj D (.deferred none))=.ok v (W.putObj D (.deferred none))) (hR:R (.returned v) (W.putObj D (.deferred none))) :
   bodyPostM Fence.wide n P fn R .ret { tmps:=tmps,defers:=[{ target:=.collected D,args:=#[] }] } W:=
 ⟨by simp,.inl ⟨_,_,rfl,run_takeDeferred hD,v,hres,hR⟩⟩

theorem Blk.putObj {w:World} {g D:Nat} {t:TypeId} {cs:Array Value} (h:Blk w g t cs) (o:Obj) (hne:g≠D):Blk (w.putObj D o) g t cs:=
 h.grown (grownBy_putObj' w D o) (by simp; omega)

theorem below_put {B D:Nat} {w W:World} (h:Below B w W) (o:Obj) (hB:B≤w.heap.size) (hD:B≤D):Below B w (W.putObj D o):=
 h.trans (below_putObj W D o hD (Nat.le_trans hB h.size))
end Go.Proofs.YtipfnkajdooiiaaGreatDoor
namespace Go.Proofs.YtipfnkajdooiiaaGreatDoor
open Go.RowKit Go.Shelf

attribute [local go_sem] Oper.semAt_some

/-- One node is as it must be. -/
def Ty.formed (t:Ty):Bool:=if t.kind=1∨t.kind=2∨t.kind=5 then t.args.length == 0 else if t.kind=3∨t.kind=4 then t.args.length == 2 else false

theorem formed_eq (k:Int) (l:List Ty):(l.isEmpty && (k == 1 || k == 2 || k == 5) || l.length == 2 && (k == 3 || k == 4))=(Ty.mk k l).formed:=by
 by_cases h:k=1∨k=2∨k=5
 · rcases h with rfl | rfl | rfl <;> cases l <;> simp [Ty.formed,Ty.kind,Ty.args]
 · by_cases h':k=3∨k=4
   · rcases h' with rfl | rfl <;> simp [Ty.formed,Ty.kind,Ty.args]
   · have a1:k≠1:=fun e=>h (by omega)
     have a2:k≠2:=fun e=>h (by omega)
     have a3:k≠5:=fun e=>h (by omega)
     have a4:k≠3:=fun e=>h' (by omega)
     have a5:k≠4:=fun e=>h' (by omega)
     simp [Ty.formed,Ty.kind,a1,a2,a3,a4,a5]

mutual
theorem ok_order:∀ t:Ty,t.ok=t.order.all Ty.formed
 | .mk k l=>by rw [Ty.ok,Ty.order,List.all_cons,okAll_order l,formed_eq]
theorem okAll_order:∀ l:List Ty,okAll l=(orderAll l).all Ty.formed
 | []=>rfl
 | t :: r=>by simp only [okAll,orderAll,List.all_append,ok_order t,okAll_order r,Bool.and_comm]
end

theorem ret_bool {a b:Bool} (h:a=b):Ending.returned (.bool a)=.returned (.bool b):=by rw [h]
theorem len_eq (n m:Nat):((n:Int) == (m:Int))=(n == m):=by
 rw [Bool.eq_iff_iff]; simp; omega

set_option maxHeartbeats 1000000 in
theorem formed_any (S:Nat→Prop) (T:Ty) (v:Value) (w:World) (hT:IsTy S w T v) (hsz:T.args.length≤1000000) :
   Calls Tryz.prog 241 #[v] w fun e w'=>e=.returned (.bool T.formed)∧Below w.heap.size w w':=by
 obtain ⟨A,c,rfl⟩:=hT.form
 obtain ⟨k,l⟩:=T
 simp only [Ty.kind,Ty.args] at *
 by_cases h:k=1∨k=2∨k=5
 · rcases h with rfl | rfl | rfl
   all_goals
     go_enter Tryz.func241,Tryz.ntmps241
     go_wp2_with fail
     go_ret
     exact ⟨ret_bool (by simpa [Ty.formed,Ty.kind,Ty.args] using len_eq l.length 0),(Below.refl _ _).alloc (Nat.le_refl _) _⟩
 · by_cases h':k=3∨k=4
   · rcases h' with rfl | rfl
     all_goals
       go_enter Tryz.func241,Tryz.ntmps241
       go_wp2_with fail
       go_ret
       exact ⟨ret_bool (by simpa [Ty.formed,Ty.kind,Ty.args] using len_eq l.length 2),(Below.refl _ _).alloc (Nat.le_refl _) _⟩
   · have e1:(k == 1)=false:=by simp; omega
     have e2:(k == 2)=false:=by simp; omega
     have e3:(k == 5)=false:=by simp; omega
     have e4:(k == 3)=false:=by simp; omega
     have e5:(k == 4)=false:=by simp; omega
     have hf:(Ty.mk k l).formed=false:=by simp [Ty.formed,Ty.kind,h,h']
     have HF:=Lib.hid hf
     clear hf
     go_enter Tryz.func241,Tryz.ntmps241
     go_wp2_with fail
     go_ret
     exact ⟨ret_bool HF.out.symm,(Below.refl _ _).alloc (Nat.le_refl _) _⟩

theorem makeFunc_run (fn:Fn) (first cap:Array Value) (w:World):(Instr.makeFunc fn first cap).run Tryz.prog w=.ok (.func fn first cap) w:=rfl

theorem nodes_any (x y:Value) (w:World):Calls Tryz.prog 240 #[.agg #[x,y]] w fun e w'=>
   e=.returned (.func (.func 270) #[] #[.pointer (some ⟨w.heap.size,0,none⟩)])∧w.alloc (.cells #[x,y] 30)=w':=by
 have hmf:=makeFunc_run
 go_enter Tryz.func240,Tryz.ntmps240
 go_wp2_with fail
 go_ret
 exact ⟨rfl,rfl⟩

theorem formed_is {S:Nat→Prop} {v:Value} {w:World} (T:Ty) (b:Bool) (hb:T.formed=b) (hT:IsTy S w T v) (hsz:T.args.length≤1000000) :
   Calls Tryz.prog 241 #[v] w fun e w'=>e=.returned (.bool b)∧Below w.heap.size w w':=by
 subst hb
 exact formed_any S T v w hT hsz

theorem Blk.facts1 {w:World} {g:Nat} {t:TypeId} {a:Value} (h:Blk w g t #[a]):w.cell? ⟨g,0,none⟩ = some a∧w.frozen? ⟨g,0,none⟩ = false:=
 ⟨by simpa using h.cell 0,h.frozen 0⟩

mutual
theorem mem_order:∀ (t x:Ty),x ∈ t.order→x.nodes≤t.nodes
 | .mk k l,x,h=>by
   simp only [Ty.order,List.mem_cons] at h
   rcases h with rfl | h
   · exact Nat.le_refl _
   · have:=mem_orderAll l x h
     simp only [Ty.nodes]
     omega
theorem mem_orderAll:∀ (l:List Ty) (x:Ty),x ∈ orderAll l→x.nodes≤nodesAll l
 | [],x,h=>by simp [orderAll] at h
 | t :: r,x,h=>by
   simp only [orderAll,List.mem_append] at h
   simp only [nodesAll]
   rcases h with h | h
   · have:=mem_orderAll r x h; omega
   · have:=mem_order t x h; omega
end
/-- What comes is not more than the tree holds. -/
theorem order_bounds {T x:Ty} {pre:List Ty} (hsz:T.nodes≤400000) (h:pre ++ [x] <+: T.order):pre.length+1≤400000∧x.args.length≤1000000:=by
 have h1:=h.length_le
 rw [order_length] at h1
 simp at h1
 have h2:x ∈ T.order:=h.subset (by simp)
 have h3:=mem_order T x h2
 have h4:=nodesAll_len x.args
 have h5:x.nodes=1+nodesAll x.args:=by cases x; simp [Ty.nodes,Ty.args]
 omega
theorem order_wrong {T x:Ty} {pre:List Ty} (h:pre ++ [x] <+: T.order) (hx:¬ x.formed=true):T.ok=false:=by
 have h2:x ∈ T.order:=h.subset (by simp)
 rw [ok_order,Bool.eq_false_iff]
 intro h3
 exact hx (List.all_eq_true.1 h3 x h2)

theorem Blk.set1 {w:World} {g:Nat} {t:TypeId} {a:Value} (h:Blk w g t #[a]) (u:Value):Blk (w.setCell ⟨g,0,none⟩ u) g t #[u]:=by simpa using h.set_ 0 u

/-- The error of Check, and the number that Size returns. -/
def Ty.err (T:Ty):Int:=if T.ok then if T.nodes≤64 then 0 else 4 else 2
def Ty.count (T:Ty):Int:=if T.ok∧T.nodes≤64 then T.nodes else 0

def SizeR (T:Ty) (w:World) (e:Ending) (w':World):Prop:=e=.returned (.tuple #[.int .i64 T.count,.int .i64 T.err])∧Below w.heap.size w w'

def sizeWorld (w:World) (x y:Value):World:=
 ((((w.alloc (Obj.cells #[x,y] 30)).alloc (Obj.cells #[Value.int IntKind.i64 0] 3)).alloc (Obj.cells #[Value.int IntKind.i64 0] 36)).alloc (Obj.cells #[Value.int IntKind.i64 0] 3)).alloc (Obj.cells #[x,y] 30)

theorem sizeWorld_facts (w:World) (x y:Value):(sizeWorld w x y).heap.size=w.heap.size+5∧Below w.heap.size w (sizeWorld w x y)∧Blk (sizeWorld w x y) (w.heap.size+1) 3 #[.int .i64 0] ∧
   Blk (sizeWorld w x y) (w.heap.size+1+1) 36 #[.int .i64 0]∧Blk (sizeWorld w x y) (w.heap.size+1+1+1) 3 #[.int .i64 0]∧Blk (sizeWorld w x y) (w.heap.size+1+1+1+1) 30 #[x,y]:=by
 have a1:=World.size_alloc w (Obj.cells #[x,y] 30)
 generalize h1:w.alloc (Obj.cells #[x,y] 30)=w1 at a1
 have a2:=World.size_alloc w1 (Obj.cells #[Value.int IntKind.i64 0] 3)
 have b1:=Blk.new w1 3 #[.int .i64 0]
 generalize h2:w1.alloc (Obj.cells #[Value.int IntKind.i64 0] 3)=w2 at a2 b1
 have a3:=World.size_alloc w2 (Obj.cells #[Value.int IntKind.i64 0] 36)
 have b2:=Blk.new w2 36 #[.int .i64 0]
 generalize h3:w2.alloc (Obj.cells #[Value.int IntKind.i64 0] 36)=w3 at a3 b2
 have a4:=World.size_alloc w3 (Obj.cells #[Value.int IntKind.i64 0] 3)
 have b3:=Blk.new w3 3 #[.int .i64 0]
 generalize h4:w3.alloc (Obj.cells #[Value.int IntKind.i64 0] 3)=w4 at a4 b3
 have a5:=World.size_alloc w4 (Obj.cells #[x,y] 30)
 have b4:=Blk.new w4 30 #[x,y]
 have e:sizeWorld w x y=w4.alloc (Obj.cells #[x,y] 30):=by rw [← h4,← h3,← h2,← h1]; rfl
 rw [e]
 have z1:w1.heap.size=w.heap.size+1:=a1
 have z2:w2.heap.size=w.heap.size+1+1:=by omega
 have z3:w3.heap.size=w.heap.size+1+1+1:=by omega
 have z4:w4.heap.size=w.heap.size+1+1+1+1:=by omega
 rw [z1] at b1
 rw [z2] at b2
 rw [z3] at b3
 rw [z4] at b4
 refine ⟨by omega,?_,?_,?_,?_,b4⟩
 · have k1:Below w.heap.size w w1:=by rw [← h1]; exact (Below.refl _ _).alloc (Nat.le_refl _) _
   have k2:Below w.heap.size w w2:=by rw [← h2]; exact k1.alloc (by omega) _
   have k3:Below w.heap.size w w3:=by rw [← h3]; exact k2.alloc (by omega) _
   have k4:Below w.heap.size w w4:=by rw [← h4]; exact k3.alloc (by omega) _
   exact k4.alloc (by omega) _
 · have k3:Blk w3 (w.heap.size+1) 3 #[.int .i64 0]:=by rw [← h3]; exact b1.alloc _
   have k4:Blk w4 (w.heap.size+1) 3 #[.int .i64 0]:=by rw [← h4]; exact k3.alloc _
   exact k4.alloc _
 · have k4:Blk w4 (w.heap.size+1+1) 36 #[.int .i64 0]:=by rw [← h4]; exact b2.alloc _
   exact k4.alloc _
 · exact b3.alloc _

/-- Between two rounds. -/
def SizeI (w:World) (pre:List Ty) (W:World):Prop:=
 Below w.heap.size w W∧Blk W (w.heap.size+1) 3 #[.int .i64 0]∧Blk W (w.heap.size+1+1) 36 #[.int .i64 0]∧Blk W (w.heap.size+1+1+1) 3 #[.int .i64 (pre.length:Int)]∧pre.all Ty.formed=true

/-- A wrong node has come. -/
def SizeIx (T:Ty) (w:World) (c:Code) (W:World):Prop:=
 c=.ret∧Below w.heap.size w W∧Blk W (w.heap.size+1) 3 #[.int .i64 0]∧Blk W (w.heap.size+1+1) 36 #[.int .i64 2]∧T.ok=false

theorem sizeI_low {w:World} {B:Nat} (hB:w.heap.size+5≤B) (pre:List Ty):Low B (SizeI w pre):=by
 rintro W W' ⟨h0,h1,h2,h3,h4⟩ hb
 exact ⟨h0.trans (hb.mono (by omega)),h1.below hb (by omega),h2.below hb (by omega),h3.below hb (by omega),h4⟩
theorem sizeIx_low {T:Ty} {w:World} {B:Nat} (hB:w.heap.size+5≤B) (c:Code):Low B (SizeIx T w c):=by
 rintro W W' ⟨hc,h0,h1,h2,h3⟩ hb
 exact ⟨hc,h0.trans (hb.mono (by omega)),h1.below hb (by omega),h2.below hb (by omega),h3⟩

set_option maxRecDepth 100000 in
set_option maxHeartbeats 2000000 in
theorem size_any (T:Ty) (v:Value) (w:World) (hsz:T.nodes≤400000) (hT:IsTy (· < w.heap.size) w T v) :
   Calls Tryz.prog 207 #[v] w (SizeR T w):=by
 obtain ⟨A,c,rfl⟩:=hT.form
 refine (callsIn_wide (n:=3)).1 (callsIn_of_wp_marks Tryz.func207 rfl trivial ?_ rfl)
 simp only [Tryz.ntmps207,List.size_toArray,List.length_cons,List.length_nil,Nat.reduceAdd,Nat.reduceSub,Array.replicate_succ,Array.replicate_zero,List.push_toArray,List.append_toArray,List.nil_append,List.cons_append]
 gi_wp2_with (refine ⟨trivial,?_⟩; gi_at_call 240; refine (callsIn_wide.2 (nodes_any _ _ _)).mono ?_; rintro e w' ⟨rfl,rfl⟩)
 obtain ⟨hz,hb,k1,k2,k3,k4⟩:=sizeWorld_facts w (.int .i64 T.kind) (.slice A T.args.length c)
 rw [show ((((w.alloc (Obj.cells #[Value.int IntKind.i64 T.kind,Value.slice A T.args.length c] 30)).alloc (Obj.cells #[Value.int IntKind.i64 0] 3)).alloc (Obj.cells #[Value.int IntKind.i64 0] 36)).alloc (Obj.cells #[Value.int IntKind.i64 0] 3)).alloc (Obj.cells #[Value.int IntKind.i64 T.kind,Value.slice A T.args.length c] 30)=sizeWorld w (.int .i64 T.kind) (.slice A T.args.length c) from rfl]
 generalize sizeWorld w (.int .i64 T.kind) (.slice A T.args.length c)=W0 at hz hb k1 k2 k3 k4 ⊢
 have hT0:IsTy (· < w.heap.size) W0 T (.agg #[.int .i64 T.kind,.slice A T.args.length c]):=IsTy.keep (fun b h=>h) (fun p hp=>hb.cell hp) _ hT
 refine range_wp (by omega) (gf:=270) (lb:=#[.pointer (some ⟨w.heap.size+1+1+1+1,0,none⟩)]) rfl (enters_of Tryz.func270 (by kernel_rfl) rfl) (n₀:=w.heap.size) (by omega)
   (enc:=EncTy w.heap.size) (xs:=T.order) (fun x args W h=>by obtain ⟨v,rfl,_⟩:=h; rfl)
   (nodes_iter _ _ _ T _ W0 (by omega) (by omega) hT0 hsz (by omega) (fun x y e=>by simp at e; obtain ⟨rfl,rfl⟩:=e; exact k4))
   (SizeI w) (SizeIx T w) (fun pre=>sizeI_low (by omega) pre) (fun c=>sizeIx_low (by omega) c) ⟨hb,k1,k2,by simpa using k3,rfl⟩ ?round ?done ?stop
 case round=>
   rintro pre x args W ⟨j0,j1,j2,j3,j4⟩ hpre hW ⟨v,rfl,hx⟩
   obtain ⟨A1,c1,rfl⟩:=hx.form
   gi_wp2
   refine ⟨(Below.refl _ _).alloc (Nat.le_refl _) _,?_⟩
   rintro W₂ hg ⟨i0,i1,i2,i3,i4⟩
   have hbx:Blk W₂ W.heap.size 30 #[.int .i64 x.kind,.slice A1 x.args.length c1]:=(Blk.new W _ _).grown hg (by simp; omega)
   obtain ⟨b0,b1,_,_⟩:=hbx.facts2
   have hw:=i0.size
   have hx2:IsTy (· < w.heap.size) W₂ x (.agg #[.int .i64 x.kind,.slice A1 x.args.length c1]):=IsTy.keep (fun b h=>h) (fun p hp=>(i0.cell hp).trans (j0.cell hp).symm) _ hx
   obtain ⟨hlen,hargs⟩:=order_bounds hsz hpre
   have hzg:=hg.size
   simp only [World.size_alloc] at hzg
   clear hg
   by_cases hf:x.formed=true
   · have HF:=Lib.hid hf
     clear hf
     gi_wp2_with (refine ⟨trivial,?_⟩; gi_at_call 241; refine (CallsIn.inRound _ (callsIn_wide.2 (formed_is x true HF.out hx2 hargs))).mono ?_; rintro e W3 ⟨rfl,hb3⟩; obtain ⟨q3,f3⟩:=(i3.below hb3 (by omega)).facts1)
     refine ⟨?_,?_⟩
     · exact ((Kept.of_below hb3 (Nat.le_refl _)).trans (Kept.of_grownBy (only_setCell (only_refl W3 (some (w.heap.size+1+1+1))) (.inl rfl) _) (fun k e=>by cases e; omega)))
     · exact ⟨(i0.trans (hb3.mono (by omega))).setCell (p:=⟨_,0,none⟩) (by first | (simp; done) | (simp; omega)) _,(i1.below hb3 (by omega)).far (by simp) _,(i2.below hb3 (by omega)).far (by simp) _,
         by simpa using (i3.below hb3 (by omega)).set1 (.int .i64 ((pre.length:Int)+1)),by simp [i4,HF.out]⟩
   · have HF:=Lib.hid hf
     have hno:=Lib.hid (order_wrong hpre hf)
     clear hf
     gi_wp2_with (refine ⟨trivial,?_⟩; gi_at_call 241; refine (CallsIn.inRound _ (callsIn_wide.2 (formed_is x false (by simpa using HF.out) hx2 hargs))).mono ?_; rintro e W3 ⟨rfl,hb3⟩; obtain ⟨q3,f3⟩:=(i1.below hb3 (by omega)).facts1; obtain ⟨q4,f4⟩:=(i2.below hb3 (by omega)).facts1)
     refine ⟨?_,rfl,((i0.trans (hb3.mono (by omega))).setCell (p:=⟨_,0,none⟩) (by first | (simp; done) | (simp; omega)) _).setCell (p:=⟨_,0,none⟩) (by first | (simp; done) | (simp; omega)) _,((i1.below hb3 (by omega)).set1 (.int .i64 0)).far (by simp) _,((i2.below hb3 (by omega)).far (by simp) _).set1 (.int .i64 2),hno.out⟩
     exact ((Kept.of_below hb3 (Nat.le_refl _)).trans (Kept.of_grownBy (only_setCell (only_refl W3 (some (w.heap.size+1))) (.inl rfl) _) (fun k e=>by cases e; omega))).trans
       (Kept.of_grownBy (only_setCell (only_refl _ (some (w.heap.size+1+1))) (.inl rfl) _) (fun k e=>by cases e; omega))
 case done=>
   rintro W ⟨j0,j1,j2,j3,j4⟩ hzW hD
   obtain ⟨q3,f3⟩:=j3.facts1
   obtain ⟨q1,f1⟩:=j1.facts1
   obtain ⟨q2,f2⟩:=j2.facts1
   rw [order_length] at q3
   have hok:T.ok=true:=by rw [ok_order]; exact j4
   by_cases hle:T.nodes≤64
   · gi_wp2
     have z1:=(((j1.set1 (.int .i64 T.nodes)).far (p:=⟨w.heap.size+1+1,0,none⟩) (by simp) (.int .i64 0)).putObj (D:=W0.heap.size) (.deferred none) (by omega)).facts1.1
     have z2:=(((j2.far (p:=⟨w.heap.size+1,0,none⟩) (by simp) (.int .i64 T.nodes)).set1 (.int .i64 0)).putObj (D:=W0.heap.size) (.deferred none) (by omega)).facts1.1
     refine marks_end (v:=.tuple #[.int .i64 T.nodes,.int .i64 0]) ?_ (by simp [results,Tryz.results207,go_sem,z1,z2]) ⟨by simp [Ty.count,Ty.err,hok,hle],below_put ((j0.setCell (p:=⟨_,0,none⟩) (by first | (simp; done) | (simp; omega)) _).setCell (p:=⟨_,0,none⟩) (by first | (simp; done) | (simp; omega)) _) _ (Nat.le_refl _) (by omega)⟩
     rw [Below.heap_setCell _ _ _ _ (by simp; omega),Below.heap_setCell _ _ _ _ (by simp; omega)]
     exact hD
   · have hgt:64<T.nodes:=by omega
     gi_wp2
     have z1:=(((j1.set1 (.int .i64 0)).far (p:=⟨w.heap.size+1+1,0,none⟩) (by simp) (.int .i64 4)).putObj (D:=W0.heap.size) (.deferred none) (by omega)).facts1.1
     have z2:=(((j2.far (p:=⟨w.heap.size+1,0,none⟩) (by simp) (.int .i64 0)).set1 (.int .i64 4)).putObj (D:=W0.heap.size) (.deferred none) (by omega)).facts1.1
     refine marks_end (v:=.tuple #[.int .i64 0,.int .i64 4]) ?_ (by simp [results,Tryz.results207,go_sem,z1,z2]) ⟨by simp [Ty.count,Ty.err,hok,hle],below_put ((j0.setCell (p:=⟨_,0,none⟩) (by first | (simp; done) | (simp; omega)) _).setCell (p:=⟨_,0,none⟩) (by first | (simp; done) | (simp; omega)) _) _ (Nat.le_refl _) (by omega)⟩
     rw [Below.heap_setCell _ _ _ _ (by simp; omega),Below.heap_setCell _ _ _ _ (by simp; omega)]
     exact hD
 case stop=>
   rintro c W ⟨rfl,j0,j1,j2,hok⟩ hzW hD
   gi_wp2
   have z1:=(j1.putObj (D:=W0.heap.size) (.deferred none) (by omega)).facts1.1
   have z2:=(j2.putObj (D:=W0.heap.size) (.deferred none) (by omega)).facts1.1
   exact marks_end (v:=.tuple #[.int .i64 0,.int .i64 2]) hD (by simp [results,Tryz.results207,go_sem,z1,z2]) ⟨by simp [Ty.count,Ty.err,hok],below_put j0 _ (Nat.le_refl _) (by omega)⟩
end Go.Proofs.YtipfnkajdooiiaaGreatDoor
namespace Go.Proofs.YtipfnkajdooiiaaGreatDoor
open Go.RowKit Go.Shelf

attribute [local go_sem] Oper.semAt_some

theorem err_zero {T:Ty}:T.err=0↔T.ok=true∧T.nodes≤64:=by
 unfold Ty.err; split <;> rename_i h
 · split <;> simp_all
 · simp_all

def CheckR (T:Ty) (w:World) (e:Ending) (w':World):Prop:=e=.returned (.int .i64 T.err)∧Below w.heap.size w w'

/-- A value is boxed, and stands in the new world as it stood. -/
theorem IsTy.boxed {w:World} {T:Ty} {v:Value} (h:IsTy (· < w.heap.size) w T v) {W:World} (hb:Below w.heap.size w W):IsTy (· < W.heap.size) W T v:=
 IsTy.keep (fun _b hb'=>Nat.lt_of_lt_of_le hb' hb.size) (fun _p hp=>hb.cell hp) _ h

set_option maxHeartbeats 400000 in
theorem check_any (T:Ty) (v:Value) (w:World) (hsz:T.nodes≤400000) (hT:IsTy (· < w.heap.size) w T v) :
   Calls Tryz.prog 156 #[v] w (CheckR T w):=by
 obtain ⟨A,c,rfl⟩:=hT.form
 have hb:Below w.heap.size w (w.alloc (.cells #[.int .i64 T.kind,.slice A T.args.length c] 30)):=(Below.refl _ _).alloc (Nat.le_refl _) _
 have hT1:=hT.boxed hb
 go_enter Tryz.func156,Tryz.ntmps156
 go_wp2_with (go_at_call 207; refine (size_any T _ _ hsz hT1).mono ?_; rintro e w' ⟨rfl,hb2⟩)
 go_ret
 exact ⟨rfl,hb.trans (hb2.mono (by simp))⟩

end Go.Proofs.YtipfnkajdooiiaaGreatDoor
