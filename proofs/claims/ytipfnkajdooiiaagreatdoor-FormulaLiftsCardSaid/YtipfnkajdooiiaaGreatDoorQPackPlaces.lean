/- The arguments of a function, and what is left. -/
import Derived.Test.YtipfnkajdooiiaaGreatDoorQPackSize
import Derived.Deep.LoopGhost
import Derived.Deep.AppendLies
import Derived.Deep.RegionLaw
namespace Go.Proofs.YtipfnkajdooiiaaGreatDoor
open Go.RowKit Go.Shelf

theorem Row.base {S:Nat→Prop} {b b':Nat} {v:Value} {ts:List Ty} {w:World} (h:Row S b v ts w) (hb:b'≤b):Row S b' v ts w:=by
 obtain ⟨xs,⟨hl,hown⟩,ht⟩:=h
 refine ⟨xs,⟨hl,?_⟩,ht⟩
 rcases hown with h | ⟨g,cap,cur,hv,hg,rest⟩
 · exact .inl h
 · exact .inr ⟨g,cap,cur,hv,Nat.le_trans hb hg,rest⟩

theorem box2_facts (w:World) (x y:Value) :
   ((w.alloc (Obj.cells #[x,y] 30)).alloc (Obj.cells #[Value.int IntKind.i64 0,.slice none 0 0] 30)).heap.size=w.heap.size+2 ∧
   Below w.heap.size w ((w.alloc (Obj.cells #[x,y] 30)).alloc (Obj.cells #[Value.int IntKind.i64 0,.slice none 0 0] 30)) ∧
   Blk ((w.alloc (Obj.cells #[x,y] 30)).alloc (Obj.cells #[Value.int IntKind.i64 0,.slice none 0 0] 30)) w.heap.size 30 #[x,y] ∧
   Blk ((w.alloc (Obj.cells #[x,y] 30)).alloc (Obj.cells #[Value.int IntKind.i64 0,.slice none 0 0] 30)) (w.heap.size+1) 30 #[.int .i64 0,.slice none 0 0]:=by
 have a1:=World.size_alloc w (Obj.cells #[x,y] 30)
 have b0:=Blk.new w 30 #[x,y]
 have k1:Below w.heap.size w (w.alloc (Obj.cells #[x,y] 30)):=(Below.refl _ _).alloc (Nat.le_refl _) _
 generalize w.alloc (Obj.cells #[x,y] 30)=w1 at a1 b0 k1
 have a2:=World.size_alloc w1 (Obj.cells #[Value.int IntKind.i64 0,.slice none 0 0] 30)
 have b1:=Blk.new w1 30 #[.int .i64 0,.slice none 0 0]
 have z1:w1.heap.size=w.heap.size+1:=a1
 rw [z1] at b1
 exact ⟨by omega,k1.alloc (by omega) _,b0.alloc _,b1⟩

end Go.Proofs.YtipfnkajdooiiaaGreatDoor
namespace Go.Proofs.YtipfnkajdooiiaaGreatDoor
open Go.RowKit Go.Shelf

/-- The first error of some types. -/
def errs:List Ty→Int
 | []=>0
 | t :: r=>if t.err=0 then errs r else t.err
def funErr (l:List Ty) (T:Ty):Int:=if errs l=0 then if T.err=0 then if l.length+nodesAll l+T.nodes≤64 then 0 else 4 else T.err else errs l
def funTy (l:List Ty) (T:Ty):Ty:=l.foldr (fun a t=>.mk 4 [a,t]) T

/-- The slice value v is the types ts. -/
def AreIn (S:Nat→Prop) (w:World) (ts:List Ty) (v:Value):Prop:=∃ A c,v=.slice A ts.length c∧(ts≠[]→∃ a,A=some a∧S a.block∧AreTys S w ts a)

theorem AreIn.keep {S S':Nat→Prop} {w w':World} {ts:List Ty} {v:Value} (h:AreIn S w ts v) (hS:∀ b,S b→S' b) (hc:∀ p:Addr,S p.block→w'.cell? p=w.cell? p):AreIn S' w' ts v:=by
 obtain ⟨A,c,hv,h⟩:=h
 refine ⟨A,c,hv,fun hne=>?_⟩
 obtain ⟨a,ha,hs,h⟩:=h hne
 exact ⟨a,ha,hS _ hs,AreTys.keep hS hc ts hs h⟩

theorem errs_take {l:List Ty} {j:Nat} (hj:j<l.length) (h:errs (l.take j)=0) (he:l[j].err=0):errs (l.take (j+1))=0:=by
 induction l generalizing j with
 | nil=>simp at hj
 | cons t r ih=>
   cases j with
   | zero=>simp at he; simp [errs,he]
   | succ j=>
     simp only [List.take_succ_cons,errs] at h ⊢
     split at h
     · rename_i h0
       rw [if_pos h0]
       exact ih (by simpa using hj) h (by simpa using he)
     · rename_i h0; exact absurd h h0
theorem errs_stop {l:List Ty} {j:Nat} (hj:j<l.length) (h:errs (l.take j)=0) (he:l[j].err≠0):errs l=l[j].err:=by
 induction l generalizing j with
 | nil=>simp at hj
 | cons t r ih=>
   cases j with
   | zero=>simp at he; simp [errs,he]
   | succ j=>
     simp only [List.take_succ_cons,errs] at h ⊢
     split at h
     · rename_i h0
       rw [if_pos h0]
       simpa using ih (by simpa using hj) h (by simpa using he)
     · rename_i h0; exact absurd h h0
theorem nodesAll_take (l:List Ty) (j:Nat) (hj:j<l.length):nodesAll (l.take (j+1))=nodesAll (l.take j)+l[j].nodes:=by
 rw [List.take_succ_eq_append_getElem hj,nodesAll_append]
 simp [nodesAll]
theorem nodesAll_take_le (l:List Ty) (j:Nat):nodesAll (l.take j)≤nodesAll l:=by
 have:=nodesAll_append (l.take j) (l.drop j)
 rw [List.take_append_drop] at this
 omega
theorem err_count {T:Ty} (h:T.err=0):T.count=T.nodes:=by
 have:=err_zero.1 h
 simp [Ty.count,this]

/-- What Function returns, its parts in blocks of S or new. -/
def FunctionS (S:Nat→Prop) (l:List Ty) (T:Ty) (w:World) (e:Ending) (w':World):Prop:=
 Below w.heap.size w w'∧if funErr l T=0 then ∃ v,e=.returned (.tuple #[v,.int .i64 0])∧IsTy (fun b=>(S b∨w.heap.size≤b)∧b<w'.heap.size) w' (funTy l T) v
   else e=.returned (.tuple #[.agg #[.int .i64 0,.slice none 0 0],.int .i64 (funErr l T)])
theorem function_err {S:Nat→Prop} {w W0 w1:World} {l:List Ty} {T:Ty} {e:Int} {x y:Value} (hb:Below w.heap.size w W0) (hz:W0.heap.size=w.heap.size+2) (hb1:Below W0.heap.size W0 w1) (he:funErr l T=e) (h0:e≠0) :
   FunctionS S l T w (.returned (.tuple #[.agg #[.int .i64 0,.slice none 0 0],.int .i64 e])) ((w1.setCell ⟨w.heap.size+1,0,none⟩ x).setCell ⟨w.heap.size+1,1,none⟩ y):=by
 have hB:=hb.trans (hb1.mono (by omega))
 refine ⟨hB.grown (only_set2 w1 (w.heap.size+1) _ _) hB.size (fun k e=>by cases e; omega),?_⟩
 rw [if_neg (by rw [he]; exact h0),he]

def FunRel (S:Nat→Prop) (w:World) (l:List Ty) (T:Ty) (i:Value) (wr:World):Prop:=
 ∃ (j:Nat) (A:Option Addr) (c:Nat),j≤l.length∧i=.int .i64 ((j:Int) - 1)∧Blk wr w.heap.size 30 #[.int .i64 (funTy (l.drop j) T).kind,.slice A (funTy (l.drop j) T).args.length c] ∧
   IsTy (fun b=>(S b∨w.heap.size+2≤b)∧b<wr.heap.size) wr (funTy (l.drop j) T) (.agg #[.int .i64 (funTy (l.drop j) T).kind,.slice A (funTy (l.drop j) T).args.length c]) ∧
   Blk wr (w.heap.size+1) 30 #[.int .i64 0,.slice none 0 0]∧Below w.heap.size w wr

theorem funTy_drop (l:List Ty) (T:Ty) (i:Nat) (hi:i<l.length):funTy (l.drop i) T=.mk 4 [l[i],funTy (l.drop (i+1)) T]:=by
 rw [List.drop_eq_getElem_cons hi]; rfl

theorem fun_step {S:Nat→Prop} {w wr:World} {l:List Ty} {T:Ty} {i:Nat} {A A':Option Addr} {c c':Nat} (hi:i<l.length)
   (hbx:Blk wr w.heap.size 30 #[.int .i64 (funTy (l.drop (i+1)) T).kind,.slice A (funTy (l.drop (i+1)) T).args.length c])
   (hU:IsTy (fun b=>(S b∨w.heap.size+2≤b)∧b<wr.heap.size) wr (funTy (l.drop (i+1)) T) (.agg #[.int .i64 (funTy (l.drop (i+1)) T).kind,.slice A (funTy (l.drop (i+1)) T).args.length c]))
   (hS:∀ b,S b→b<w.heap.size) (ht:IsTy S wr l[i] (.agg #[.int .i64 l[i].kind,.slice A' l[i].args.length c']))
   (hrb:Blk wr (w.heap.size+1) 30 #[.int .i64 0,.slice none 0 0]) (hbn:Below w.heap.size w wr) :
   FunRel S w l T (.int .i64 ((i:Int) - 1)) (((wr.alloc (.cells #[.int .i64 l[i].kind,.slice A' l[i].args.length c',.int .i64 (funTy (l.drop (i+1)) T).kind,.slice A (funTy (l.drop (i+1)) T).args.length c] 30)).setCell
     ⟨w.heap.size,0,none⟩ (.int .i64 4)).setCell ⟨w.heap.size,1,none⟩ (.slice (some ⟨wr.heap.size,0,none⟩) 2 2)).drew:=by
 have hs1:=hrb.lt
 have hw:=hbn.size
 have b2:=(hbx.alloc (.cells #[.int .i64 l[i].kind,.slice A' l[i].args.length c',.int .i64 (funTy (l.drop (i+1)) T).kind,.slice A (funTy (l.drop (i+1)) T).args.length c] 30)).set2 (.int .i64 4) (.slice (some ⟨wr.heap.size,0,none⟩) 2 2)
 have b3:=Blk.new wr 30 #[.int .i64 l[i].kind,.slice A' l[i].args.length c',.int .i64 (funTy (l.drop (i+1)) T).kind,.slice A (funTy (l.drop (i+1)) T).args.length c]
 have z:=World.size_alloc wr (.cells #[.int .i64 l[i].kind,.slice A' l[i].args.length c',.int .i64 (funTy (l.drop (i+1)) T).kind,.slice A (funTy (l.drop (i+1)) T).args.length c] 30)
 have ga:wr.grownBy (wr.alloc (.cells #[.int .i64 l[i].kind,.slice A' l[i].args.length c',.int .i64 (funTy (l.drop (i+1)) T).kind,.slice A (funTy (l.drop (i+1)) T).args.length c] 30)) none:=World.grownBy_alloc _ _ _
 have hg:=only_drewN (only_set2 (wr.alloc (.cells #[.int .i64 l[i].kind,.slice A' l[i].args.length c',.int .i64 (funTy (l.drop (i+1)) T).kind,.slice A (funTy (l.drop (i+1)) T).args.length c] 30)) w.heap.size (.int .i64 4) (.slice (some ⟨wr.heap.size,0,none⟩) 2 2)) 1
 have b2':=b2.drew
 change World.grownBy _ (World.drew _) _ at hg
 generalize (((wr.alloc (.cells #[.int .i64 l[i].kind,.slice A' l[i].args.length c',.int .i64 (funTy (l.drop (i+1)) T).kind,.slice A (funTy (l.drop (i+1)) T).args.length c] 30)).setCell
     ⟨w.heap.size,0,none⟩ (.int .i64 4)).setCell ⟨w.heap.size,1,none⟩ (.slice (some ⟨wr.heap.size,0,none⟩) 2 2)).drew=W' at b2' hg ⊢
 have b3':=b3.grown hg (by simp; omega)
 have ra:=hrb.grown ga (by simp)
 generalize wr.alloc (.cells #[.int .i64 l[i].kind,.slice A' l[i].args.length c',.int .i64 (funTy (l.drop (i+1)) T).kind,.slice A (funTy (l.drop (i+1)) T).args.length c] 30)=W1 at z ga hg ra
 have hz:=hg.size
 have hkeep:∀ p:Addr,p.block≠w.heap.size→p.block<wr.heap.size→W'.cell? p=wr.cell? p:=fun p h1 h2=>
   (World.cell?_of_block (hg.block p.block (by omega) (by simp; omega))).trans (World.cell?_of_block (ga.block p.block h2 (by simp)))
 refine ⟨i,some ⟨wr.heap.size,0,none⟩,2,by omega,rfl,?_,?_,ra.grown hg (by simp),(hbn.grown ga (by omega) (by simp)).grown hg (by omega) (fun k e=>by cases e; exact Nat.le_refl _)⟩
 · rw [funTy_drop l T i hi]
   exact b2'
 · rw [funTy_drop l T i hi]
   unfold IsTy
   have e0:=b3'.cell 0
   have e1:=b3'.cell 1
   have e2:=b3'.cell 2
   have e3:=b3'.cell 3
   simp at e0 e1 e2 e3
   refine ⟨_,2,rfl,fun _=>⟨_,rfl,⟨.inr (by show w.heap.size+2≤wr.heap.size; omega),by show wr.heap.size<W'.heap.size; omega⟩,?_⟩⟩
   unfold AreTys
   refine ⟨⟨_,_,e0,by simpa [Addr.add] using e1,IsTy.keep (fun b hb=>⟨.inl hb,by have:=hS b hb; omega⟩) (fun p hp=>hkeep p (by have:=hS _ hp; omega) (by have:=hS _ hp; omega)) _ ht⟩,?_⟩
   unfold AreTys
   refine ⟨⟨_,_,by simpa [Addr.add] using e2,by simpa [Addr.add] using e3,IsTy.keep (fun b hb=>⟨hb.1,by omega⟩) (fun p hp=>hkeep p (by rcases hp.1 with h | h <;> first | omega | (have:=hS _ h; omega)) hp.2) _ hU⟩,?_⟩
   unfold AreTys
   trivial

theorem fun_end {S:Nat→Prop} {w wr:World} {l:List Ty} {T:Ty} {A:Option Addr} {c:Nat} (hS:∀ b,S b→b<w.heap.size) (he:funErr l T=0) (hbn:Below w.heap.size w wr)
   (hU:IsTy (fun b=>(S b∨w.heap.size+2≤b)∧b<wr.heap.size) wr (funTy l T) (.agg #[.int .i64 (funTy l T).kind,.slice A (funTy l T).args.length c])) :
   FunctionS S l T w (.returned (.tuple #[.agg #[.int .i64 (funTy l T).kind,.slice A (funTy l T).args.length c],.int .i64 0]))
     ((wr.setCell ⟨w.heap.size+1,0,none⟩ (.int .i64 (funTy l T).kind)).setCell ⟨w.heap.size+1,1,none⟩ (.slice A (funTy l T).args.length c)):=by
 have hg:=only_set2 wr (w.heap.size+1) (.int .i64 (funTy l T).kind) (.slice A (funTy l T).args.length c)
 refine ⟨hbn.grown hg hbn.size (fun k e=>by cases e; omega),?_⟩
 rw [if_pos he]
 refine ⟨_,rfl,IsTy.keep (fun b hb=>⟨hb.1.imp id (fun h=>by omega),Nat.lt_of_lt_of_le hb.2 hg.size⟩) (fun p hp=>World.cell?_of_block (hg.block p.block hp.2 (fun e=>?_))) _ hU⟩
 have e':p.block=w.heap.size+1:=by simpa using e
 rcases hp.1 with h | h
 · have:=hS _ h; omega
 · omega

set_option maxRecDepth 100000 in
set_option maxHeartbeats 2000000 in
theorem function_in (S:Nat→Prop) (l:List Ty) (T:Ty) (s v:Value) (w:World) (hS:∀ b,S b→b<w.heap.size) (hsz:nodesAll l+T.nodes≤400000) (hl:AreIn S w l s) (hT:IsTy S w T v) :
   Calls Tryz.prog 299 #[s,v] w (FunctionS S l T w):=by
 have HSS:=Lib.hid hS
 clear hS
 obtain ⟨A,c,rfl⟩:=hT.form
 obtain ⟨B,cl,rfl,hl⟩:=hl
 obtain ⟨hz,hb,k0,k1⟩:=box2_facts w (.int .i64 T.kind) (.slice A T.args.length c)
 have hll:=nodesAll_len l
 have HL:=Lib.hid hl
 clear hl
 go_enter Tryz.func299,Tryz.ntmps299
 go_wp2_with fail
 generalize (w.alloc (Obj.cells #[Value.int IntKind.i64 T.kind,Value.slice A T.args.length c] 30)).alloc (Obj.cells #[Value.int IntKind.i64 0,.slice none 0 0] 30)=W0 at hz hb k0 k1 ⊢
 go_loopw [6,18] (fun t i wr=>∃ j:Nat,j≤l.length∧i=.int .i64 j∧t=.int .i64 ((l.length+nodesAll (l.take j):Nat):Int)∧errs (l.take j)=0∧Below W0.heap.size W0 wr)
   (fun _ i _=>l.length - (intOf i).toNat)
 case atStart=>exact ⟨0,by omega,rfl,by simp [nodesAll],rfl,Below.refl _ _⟩
 case round=>
   obtain ⟨j,hj,rfl,rfl,herr,hbw⟩:=hrel
   have HE:=Lib.hid herr
   have hnt:=nodesAll_take_le l j
   clear herr
   by_cases hlt:j<l.length
   · have hl0:l≠[]:=by intro e; subst e; simp at hlt
     obtain ⟨a,rfl,ha,hts⟩:=HL.out hl0
     have hBw:Below w.heap.size w wr:=hb.trans (hbw.mono (by omega))
     have hts':AreTys S wr l a:=AreTys.keep (fun _ h=>h) (fun p hp=>hBw.cell (HSS.out _ hp)) _ ha hts
     obtain ⟨A',c',q0,q1,ht⟩:=hts'.get j hlt
     have hnj:=nodesAll_get l j hlt
     have htk:=nodesAll_take l j hlt
     by_cases hej:l[j].err=0
     · have e2:(l[j].err != 0)=false:=by simp [hej]
       have hcount:=err_count hej
       have HJ:=Lib.hid hej
       have HC:=Lib.hid hcount
       have HT:=Lib.hid htk
       clear hej hcount htk
       go_wp2_with fail
       refine (size_any l[j] _ _ (by omega) (IsTy.boxed (w:=wr) (IsTy.keep (fun b h=>Nat.lt_of_lt_of_le (HSS.out b h) hBw.size) (fun _ _=>rfl) _ ht) ((Below.refl _ _).alloc (Nat.le_refl _) _))).mono ?_
       rintro e w1 ⟨rfl,hb1⟩
       rw [HC.out]
       go_wp2_with fail
       refine ⟨⟨j+1,by omega,by go_num,?_,errs_take hlt HE.out HJ.out,hbw.trans (((Below.refl _ _).alloc hbw.size _).trans (hb1.mono (by have:=hbw.size; simp; omega)))⟩,by simp [intOf]; omega⟩
       rw [HT.out]; go_num
     · have e2:(l[j].err != 0)=true:=by simp [hej]
       have HS:=Lib.hid (errs_stop hlt HE.out hej)
       have HJ:=Lib.hid hej
       clear hej
       go_wp2_with fail
       refine (size_any l[j] _ _ (by omega) (IsTy.boxed (w:=wr) (IsTy.keep (fun b h=>Nat.lt_of_lt_of_le (HSS.out b h) hBw.size) (fun _ _=>rfl) _ ht) ((Below.refl _ _).alloc (Nat.le_refl _) _))).mono ?_
       rintro e w1 ⟨rfl,hb1⟩
       have hb01:Below W0.heap.size W0 w1:=hbw.trans (((Below.refl _ _).alloc hbw.size _).trans (hb1.mono (by have:=hbw.size; simp; omega)))
       obtain ⟨r0,r1,f0,f1⟩:=(k1.below hb01 k1.lt).facts2
       go_wp2_with fail
       obtain ⟨z0,z1,_,_⟩:=((k1.below hb01 k1.lt).set2 (.int .i64 0) (.slice none 0 0)).facts2
       exact bodyPost_ret (v:=.tuple #[.agg #[.int .i64 0,.slice none 0 0],.int .i64 l[j].err]) (by simp [results,Tryz.results299,go_sem,z0,z1]) rfl
         (function_err hb hz hb01 (by unfold funErr; rw [HS.out,if_neg HJ.out]) HJ.out)
   · have hjl:j=l.length:=by omega
     subst hjl
     rw [List.take_length] at HE ⊢
     have hwr:=hbw.size
     obtain ⟨q0,q1,_,_⟩:=(k0.below hbw (by omega)).facts2
     obtain ⟨r0,r1,f0,f1⟩:=(k1.below hbw (by omega)).facts2
     have HZ:=Lib.hid hz
     clear hz
     go_wp2_with fail
     refine (size_any T _ wr (by omega) (((IsTy.keep (S':=(· < w.heap.size)) (fun b h=>HSS.out b h) (fun _ _=>rfl) _ hT).boxed hb).boxed hbw)).mono ?_
     rintro e w1 ⟨rfl,hb1⟩
     have hb01:Below W0.heap.size W0 w1:=hbw.trans (hb1.mono hwr)
     have c0:=(k0.below hb01 (by have:=HZ.out; omega))
     have c1:=(k1.below hb01 (by have:=HZ.out; omega))
     obtain ⟨q0,q1,d0,d1⟩:=c0.facts2
     obtain ⟨r0,r1,f0,f1⟩:=c1.facts2
     by_cases heT:T.err=0
     · have e2:(T.err != 0)=false:=by simp [heT]
       have hcount:=err_count heT
       have hfe:funErr l T=if l.length+nodesAll l+T.nodes≤64 then 0 else 4:=by unfold funErr; rw [if_pos HE.out,if_pos heT]
       have HT:=Lib.hid heT
       clear heT
       rw [hcount]
       clear hcount
       by_cases hgt:l.length+nodesAll l+T.nodes≤64
       · rw [if_pos hgt] at hfe
         have HF:=Lib.hid hfe
         clear hfe
         go_wp2_with fail
         go_loopw [13] (fun i wr=>FunRel S w l T i wr) (fun i _=>(intOf i+1).toNat)
         case atStart=>
           have hBw:Below w.heap.size w w1:=hb.trans (hb01.mono (by have:=HZ.out; omega))
           refine ⟨l.length,A,c,Nat.le_refl _,rfl,?_,?_,c1,hBw⟩
           · rw [List.drop_length]; exact c0
           · rw [List.drop_length]
             exact IsTy.keep (fun b h=>⟨.inl h,Nat.lt_of_lt_of_le (HSS.out b h) hBw.size⟩) (fun p hp=>hBw.cell (HSS.out _ hp)) _ hT
         case round=>
           obtain ⟨j,A1,c1',hj,rfl,hbx,hU,hrb,hbn⟩:=hrel
           cases j with
           | zero=>
             simp only [List.drop_zero] at hbx hU
             rw [show (((0:Nat):Int) - 1) = -1 from rfl]
             obtain ⟨s0,s1,g0,g1⟩:=hbx.facts2
             obtain ⟨v0,v1,h0,h1⟩:=hrb.facts2
             go_wp2_with fail
             obtain ⟨z0,z1,_,_⟩:=(hrb.set2 (.int .i64 (funTy l T).kind) (.slice A1 (funTy l T).args.length c1')).facts2
             exact bodyPost_ret (v:=.tuple #[.agg #[.int .i64 (funTy l T).kind,.slice A1 (funTy l T).args.length c1'],.int .i64 0]) (by simp [results,Tryz.results299,go_sem,z0,z1]) rfl
               (fun_end HSS.out HF.out hbn hU)
           | succ i=>
             rw [show (((i+1:Nat):Int) - 1)=(i:Int) from by omega]
             have hl0:l≠[]:=by intro e; subst e; simp at hj
             obtain ⟨a,rfl,ha,hts⟩:=HL.out hl0
             have hts':AreTys S wr l a:=AreTys.keep (fun _ h=>h) (fun p hp=>hbn.cell (HSS.out _ hp)) _ ha hts
             obtain ⟨A',c',p0,p1,ht⟩:=hts'.get i hj
             obtain ⟨s0,s1,g0,g1⟩:=hbx.facts2
             have a0:=fun o=>(hbx.alloc o).facts2.1
             have a1:=fun o=>(hbx.alloc o).facts2.2.1
             have a2:=fun o=>(hbx.alloc o).facts2.2.2.1
             have a3:=fun o=>(hbx.alloc o).facts2.2.2.2
             go_wp2_with fail
             go_region
             all_goals (go_wp2_with fail)
             all_goals exact ⟨fun_step hj hbx hU HSS.out ht hrb hbn,by simp [intOf]⟩
       · rw [if_neg hgt] at hfe
         have HF:=Lib.hid hfe
         clear hfe
         have hgt':64<l.length+nodesAll l+T.nodes:=by omega
         go_wp2_with fail
         obtain ⟨z0,z1,_,_⟩:=(c1.set2 (.int .i64 0) (.slice none 0 0)).facts2
         exact bodyPost_ret (v:=.tuple #[.agg #[.int .i64 0,.slice none 0 0],.int .i64 4]) (by simp [results,Tryz.results299,go_sem,z0,z1]) rfl
           (function_err hb HZ.out hb01 HF.out (by omega))
     · have e2:(T.err != 0)=true:=by simp [heT]
       have HF:=Lib.hid (show funErr l T=T.err by unfold funErr; rw [if_pos HE.out,if_neg heT])
       have HT:=Lib.hid heT
       clear heT
       go_wp2_with fail
       obtain ⟨z0,z1,_,_⟩:=(c1.set2 (.int .i64 0) (.slice none 0 0)).facts2
       exact bodyPost_ret (v:=.tuple #[.agg #[.int .i64 0,.slice none 0 0],.int .i64 T.err]) (by simp [results,Tryz.results299,go_sem,z0,z1]) rfl
         (function_err hb HZ.out hb01 HF.out HT.out)

end Go.Proofs.YtipfnkajdooiiaaGreatDoor
namespace Go.Proofs.YtipfnkajdooiiaaGreatDoor
open Go.RowKit Go.Shelf

attribute [local go_sem] Oper.semAt_some

mutual
/-- The pairs of nodes at the places that both have, in the order in which they come. -/
def Ty.order2:Ty→Ty→List (Ty × Ty)
 | .mk k l,T=>(.mk k l,T) :: orderArgs l T.args
def orderArgs:List Ty→List Ty→List (Ty × Ty)
 | a :: r,b :: s=>orderArgs r s ++ a.order2 b
 | _,_=>[]
end
def orderSt:List (Ty × Ty)→List (Ty × Ty)
 | []=>[]
 | p :: r=>orderSt r ++ p.1.order2 p.2

theorem orderArgs_zip:∀ l m:List Ty,orderArgs l m=orderSt (l.zip m)
 | [],m=>by cases m <;> simp [orderArgs,orderSt]
 | a :: r,[]=>by simp [orderArgs,orderSt]
 | a :: r,b :: s=>by simp [orderArgs,orderSt,orderArgs_zip r s]
theorem order2_eq (S T:Ty):S.order2 T=(S,T) :: orderSt (S.args.zip T.args):=by
 cases S with
 | mk k l=>rw [Ty.order2,orderArgs_zip]; rfl
theorem orderSt_append:∀ l r:List (Ty × Ty),orderSt (l ++ r)=orderSt r ++ orderSt l
 | [],r=>by simp [orderSt]
 | t :: l,r=>by simp [orderSt,orderSt_append l r]
theorem orderSt_snoc (l:List (Ty × Ty)) (p:Ty × Ty):orderSt (l ++ [p])=p :: orderSt (l ++ p.1.args.zip p.2.args):=by
 rw [orderSt_append,orderSt_append]
 simp [orderSt,order2_eq]
theorem orderSt_len:∀ l:List (Ty × Ty),l.length≤(orderSt l).length
 | []=>by simp
 | p :: r=>by
   have:=orderSt_len r
   simp only [orderSt,List.length_append,List.length_cons,order2_eq]
   omega

mutual
theorem order2_length:∀ (S T:Ty),(S.order2 T).length≤S.nodes
 | .mk k l,T=>by
   have:=orderArgs_length l T.args
   simp only [Ty.order2,Ty.nodes,List.length_cons]
   omega
theorem orderArgs_length:∀ (l m:List Ty),(orderArgs l m).length≤nodesAll l
 | [],m=>by cases m <;> simp [orderArgs]
 | a :: r,[]=>by simp [orderArgs]
 | a :: r,b :: s=>by
   have h1:=order2_length a b
   have h2:=orderArgs_length r s
   simp only [orderArgs,List.length_append,nodesAll]
   omega
end

/-- The cells xs are the pairs of trees ps. -/
def Pairs (S:Nat→Prop) (v:Value) (ps:List (Ty × Ty)) (xs:List Value) (w:World):Prop:=
 ∀ i (hi:i<ps.length),∃ u0 u1 v0 v1,xs[i * 4]? = some u0∧xs[i * 4+1]? = some u1∧xs[i * 4+2]? = some v0∧xs[i * 4+3]? = some v1 ∧
   IsTy (fun b=>S b∧b<w.heap.size∧v.ownBlock≠some b) w ps[i].1 (.agg #[u0,u1])∧IsTy (fun b=>S b∧b<w.heap.size∧v.ownBlock≠some b) w ps[i].2 (.agg #[v0,v1])

def PRow (S:Nat→Prop) (base:Nat) (v:Value) (ps:List (Ty × Ty)) (w:World):Prop:=
 ∃ xs,w.ownsRow base 270 4 v ps.length xs∧Pairs S v ps xs w

theorem Pairs.kept {S:Nat→Prop} {v:Value} {ps:List (Ty × Ty)} {xs:List Value} {w w':World} {row:Option Nat} (h:Pairs S v ps xs w) (hg:w.grownBy w' row)
   (hr:∀ k,row=some k→¬ S k):Pairs S v ps xs w':=fun i hi=>by
 obtain ⟨u0,u1,v0,v1,h0,h1,h2,h3,h4,h5⟩:=h i hi
 have hk:∀ (t:Ty) (x:Value),IsTy (fun b=>S b∧b<w.heap.size∧v.ownBlock≠some b) w t x→IsTy (fun b=>S b∧b<w'.heap.size∧v.ownBlock≠some b) w' t x:=fun t x ht=>
   IsTy.keep (fun b hb=>⟨hb.1,Nat.lt_of_lt_of_le hb.2.1 hg.size,hb.2.2⟩) (fun p hp=>World.cell?_of_block (hg.block p.block hp.2.1 (fun e=>hr _ e.symm hp.1))) _ ht
 exact ⟨u0,u1,v0,v1,h0,h1,h2,h3,hk _ _ h4,hk _ _ h5⟩

theorem PRow.kept {S:Nat→Prop} {base:Nat} {v:Value} {ps:List (Ty × Ty)} {w w':World} {row:Option Nat} (h:PRow S base v ps w) (hg:w.grownBy w' row)
   (hr:∀ k,row=some k→¬ S k∧k<base):PRow S base v ps w':=by
 obtain ⟨xs,hown,ht⟩:=h
 have hne:v.ownBlock=none∨v.ownBlock≠row:=by
   cases hv:v.ownBlock with
   | none=>exact .inl rfl
   | some g=>exact .inr fun e=>by have h1:=(hown.lt g hv).1; have h2:=(hr g e.symm).2; omega
 exact ⟨xs,hown.kept hg hne,ht.kept hg fun k e=>(hr k e).1⟩

theorem PRow.round {n₀ B:Nat} {v:Value} {ps:List (Ty × Ty)} {w w':World} (h:PRow (· < n₀) B v ps w) (hk:Kept n₀ B w w'):PRow (· < n₀) B v ps w':=by
 obtain ⟨xs,hown,ht⟩:=h
 refine ⟨xs,⟨hown.1,?_⟩,fun i hi=>?_⟩
 · rcases hown.2 with hn | ⟨g,cap,cur,rfl,hb,hg,rest⟩
   · exact .inl hn
   · exact .inr ⟨g,cap,cur,rfl,hb,(hk.block g (Array.getElem?_eq_some_iff.1 hg).1 (.inr hb)).trans hg,rest⟩
 · obtain ⟨u0,u1,v0,v1,h0,h1,h2,h3,h4,h5⟩:=ht i hi
   have hkk:∀ (t:Ty) (x:Value),IsTy (fun b=>b<n₀∧b<w.heap.size∧v.ownBlock≠some b) w t x→IsTy (fun b=>b<n₀∧b<w'.heap.size∧v.ownBlock≠some b) w' t x:=fun t x ht=>
     IsTy.keep (fun b hb=>⟨hb.1,Nat.lt_of_lt_of_le hb.2.1 hk.size,hb.2.2⟩) (fun p hp=>World.cell?_of_block (hk.block p.block hp.2.1 (.inl hp.1))) _ ht
   exact ⟨u0,u1,v0,v1,h0,h1,h2,h3,hkk _ _ h4,hkk _ _ h5⟩

theorem PRow.form {S:Nat→Prop} {base:Nat} {v:Value} {ps:List (Ty × Ty)} {w:World} (h:PRow S base v ps w):∃ A c,v=.slice A ps.length c:=by
 obtain ⟨xs,hown,_⟩:=h
 rcases hown.2 with ⟨rfl,hn⟩ | ⟨g,cap,cur,rfl,_⟩
 · exact ⟨none,0,by rw [hn]⟩
 · exact ⟨_,cap,rfl⟩

/-- A row of one pair, just built. -/
theorem PRow.one {S:Nat→Prop} {w:World} {T U:Ty} {x y x' y':Value} (hS:∀ b,S b→b<w.heap.size) (h:IsTy S (w.alloc (.cells #[x,y,x',y'] 270)) T (.agg #[x,y]))
   (h':IsTy S (w.alloc (.cells #[x,y,x',y'] 270)) U (.agg #[x',y'])) :
   PRow S w.heap.size (.slice (some ⟨w.heap.size,0,none⟩) 1 1) [(T,U)] (w.alloc (.cells #[x,y,x',y'] 270)):=by
 refine ⟨[x,y,x',y'],⟨by simp,.inr ⟨w.heap.size,1,#[x,y,x',y'],rfl,Nat.le_refl _,heap_alloc_new w _,by simp,by simp [maxLen],by simp,by simp⟩⟩,fun i hi=>?_⟩
 have:i=0:=by simpa using hi
 subst this
 have hk:∀ b,S b→S b∧b<(w.alloc (.cells #[x,y,x',y'] 270)).heap.size∧(Value.slice (some ⟨w.heap.size,0,none⟩) 1 1).ownBlock≠some b:=fun b hb=>
   ⟨hb,by have:=hS b hb; simp; omega,fun e=>by have:=hS b hb; simp [Value.ownBlock] at e; omega⟩
 exact ⟨x,y,x',y',rfl,rfl,rfl,rfl,IsTy.keep hk (fun _ _=>rfl) _ h,IsTy.keep hk (fun _ _=>rfl) _ h'⟩

/-- The last pair of a row. -/
theorem PRow.last {S:Nat→Prop} {base:Nat} {s:Value} {ts:List (Ty × Ty)} {t u:Ty} {w:World} (h:PRow S base s (ts ++ [(t,u)]) w) :
   ∃ (g cap:Nat) (A B:Option Addr) (c d:Nat),s=.slice (some ⟨g,0,none⟩) (ts.length+1) cap∧base≤g∧g<w.heap.size∧ts.length+1≤cap ∧
     w.cell? ⟨g,ts.length * 4,none⟩ = some (.int .i64 t.kind)∧w.cell? ⟨g,ts.length * 4+1,none⟩ = some (.slice A t.args.length c) ∧
     w.cell? ⟨g,ts.length * 4+2,none⟩ = some (.int .i64 u.kind)∧w.cell? ⟨g,ts.length * 4+2+1,none⟩ = some (.slice B u.args.length d) ∧
     IsTy (fun b=>S b∧b<w.heap.size) w t (.agg #[.int .i64 t.kind,.slice A t.args.length c])∧IsTy (fun b=>S b∧b<w.heap.size) w u (.agg #[.int .i64 u.kind,.slice B u.args.length d]) ∧
     PRow S base (.slice (some ⟨g,0,none⟩) ts.length cap) ts w:=by
 obtain ⟨xs,hown,ht⟩:=h
 obtain ⟨x0,x1,y0,y1,h0,h1,h2,h3,h4,h5⟩:=ht ts.length (by simp)
 have e1:(ts ++ [(t,u)])[ts.length]'(by simp)=(t,u):=by simp
 have e2:(ts ++ [(t,u)]).length=ts.length+1:=by simp
 rw [e1] at h4 h5
 obtain ⟨A,c,e⟩:=h4.form
 simp at e
 obtain ⟨rfl,rfl⟩:=e
 obtain ⟨B,d,e⟩:=h5.form
 simp at e
 obtain ⟨rfl,rfl⟩:=e
 have hx:xs.length=(ts.length+1) * 4:=by simpa using hown.1
 rcases hown.2 with ⟨rfl,hn⟩ | ⟨g,cap,cur,rfl,hb,hg,hnc,hcm,hcs,htake⟩
 · simp at hn
 · have hcell:∀ j u,xs[j]? = some u→w.cell? ⟨g,j,none⟩ = some u:=by
     intro j u hu
     have:=hown.cells rfl j u hu
     have e:(⟨g,0,none⟩:Addr).add j=⟨g,j,none⟩:=by unfold Addr.add; split <;> simp_all
     rwa [e] at this
   refine ⟨g,cap,A,B,c,d,by simp,hb,(Array.getElem?_eq_some_iff.1 hg).1,by omega,hcell _ _ h0,hcell _ _ h1,hcell _ _ h2,hcell _ _ h3,IsTy.keep (fun b hb=>⟨hb.1,hb.2.1⟩) (fun _ _=>rfl) _ h4,
     IsTy.keep (fun b hb=>⟨hb.1,hb.2.1⟩) (fun _ _=>rfl) _ h5,xs.take (ts.length * 4),⟨?_,.inr ⟨g,cap,cur,rfl,hb,hg,?_,hcm,hcs,?_⟩⟩,fun i hi=>?_⟩
   · simp; omega
   · omega
   · rw [← htake,e2,List.take_take]; congr 1; omega
   · obtain ⟨u0,u1,v0,v1,k0,k1,k2,k3,k4,k5⟩:=ht i (by simp; omega)
     rw [List.getElem_append_left hi] at k4 k5
     exact ⟨u0,u1,v0,v1,by rw [List.getElem?_take,if_pos (by omega)]; exact k0,by rw [List.getElem?_take,if_pos (by omega)]; exact k1,by rw [List.getElem?_take,if_pos (by omega)]; exact k2,
       by rw [List.getElem?_take,if_pos (by omega)]; exact k3,k4,k5⟩

theorem PRow.snoc {S:Nat→Prop} {base:Nat} {v v' u0 u1 v0 v1:Value} {ts:List (Ty × Ty)} {t u:Ty} {w w':World} {xs:List Value}
   (hown:w.ownsRow base 270 4 v ts.length xs) (ht:Pairs S v ts xs w)
   (hn:IsTy (fun b=>S b∧b<w.heap.size∧v.ownBlock≠some b) w t (.agg #[u0,u1])) (hn':IsTy (fun b=>S b∧b<w.heap.size∧v.ownBlock≠some b) w u (.agg #[v0,v1]))
   (hown':w'.ownsRow base 270 4 v' (ts.length+1) (xs ++ [u0,u1,v0,v1])) (hg:w.grownBy w' v.ownBlock)
   (hb:v'.ownBlock=v.ownBlock∨v'.ownBlock=some w.heap.size):PRow S base v' (ts ++ [(t,u)]) w':=by
 have hx:xs.length=ts.length * 4:=hown.1
 have hkeep:∀ (u:Ty) (x:Value),IsTy (fun b=>S b∧b<w.heap.size∧v.ownBlock≠some b) w u x→IsTy (fun b=>S b∧b<w'.heap.size∧v'.ownBlock≠some b) w' u x:=by
   intro u x hu
   refine IsTy.keep (fun b hb'=>⟨hb'.1,Nat.lt_of_lt_of_le hb'.2.1 hg.size,?_⟩) (fun p hp=>World.cell?_of_block (hg.block p.block hp.2.1 (fun e=>hp.2.2 e.symm))) _ hu
   rcases hb with e | e
   · rw [e]; exact hb'.2.2
   · rw [e]; intro e'; have:=hb'.2.1; simp at e'; omega
 refine ⟨xs ++ [u0,u1,v0,v1],by simpa using hown',fun i hi=>?_⟩
 by_cases hl:i<ts.length
 · obtain ⟨a0,a1,b0,b1,h0,h1,h2,h3,h4,h5⟩:=ht i hl
   refine ⟨a0,a1,b0,b1,?_,?_,?_,?_,?_,?_⟩
   · rw [List.getElem?_append_left (by omega)]; exact h0
   · rw [List.getElem?_append_left (by omega)]; exact h1
   · rw [List.getElem?_append_left (by omega)]; exact h2
   · rw [List.getElem?_append_left (by omega)]; exact h3
   · rw [List.getElem_append_left hl]; exact hkeep _ _ h4
   · rw [List.getElem_append_left hl]; exact hkeep _ _ h5
 · have e:i=ts.length:=by simp at hi; omega
   subst e
   refine ⟨u0,u1,v0,v1,?_,?_,?_,?_,?_,?_⟩
   · rw [List.getElem?_append_right (by omega),hx]; simp
   · rw [List.getElem?_append_right (by omega),hx]; simp
   · rw [List.getElem?_append_right (by omega),hx]; simp
   · rw [List.getElem?_append_right (by omega),hx]; simp
   · simpa using hkeep _ _ hn
   · simpa using hkeep _ _ hn'

theorem PRow.ne {S:Nat→Prop} {base g:Nat} {v:Value} {ps:List (Ty × Ty)} {w:World} {cs:Array Value} (h:PRow S base v ps w) (hb:Blk w g 30 cs):v.ownBlock≠some g:=by
 obtain ⟨xs,hown,_⟩:=h
 rcases hown.2 with ⟨rfl,_⟩ | ⟨g',cap,cur,rfl,_,hg,_⟩
 · simp [Value.ownBlock]
 · intro e
   have e':g' = g:=by simpa [Value.ownBlock] using e
   subst e'
   have e2:=hg.symm.trans hb
   simp at e2

/-- One of the trees below a node. -/
theorem IsTy.arg_get {S:Nat→Prop} {w:World} {t:Ty} {k:Value} {A:Option Addr} {n c:Nat} (h:IsTy S w t (.agg #[k,.slice A n c])) (i:Nat) (hi:i<t.args.length) :
   ∃ (a:Addr) (A':Option Addr) (c':Nat),A=some a∧S a.block∧w.cell? (a.add (i * 2))=some (.int .i64 t.args[i].kind) ∧
     w.cell? ⟨(a.add (i * 2)).block,(a.add (i * 2)).off+1,none⟩ = some (.slice A' t.args[i].args.length c')∧IsTy S w t.args[i] (.agg #[.int .i64 t.args[i].kind,.slice A' t.args[i].args.length c']):=by
 cases t with
 | mk k l=>
   unfold IsTy at h
   obtain ⟨B,d,e,h⟩:=h
   simp at e
   obtain ⟨_,rfl,_,_⟩:=e
   obtain ⟨a,rfl,hs,h⟩:=h (by intro e; subst e; simp [Ty.args] at hi)
   obtain ⟨A',c',h0,h1,h2⟩:=h.get i hi
   exact ⟨a,A',c',rfl,hs,h0,h1,h2⟩

theorem two_new (w:World) (cs ds:Array Value):Blk ((w.alloc (.cells cs 30)).alloc (.cells ds 30)).drew w.heap.size 30 cs∧Blk ((w.alloc (.cells cs 30)).alloc (.cells ds 30)).drew (w.heap.size+1) 30 ds ∧
   w.heap.size≤w.heap.size∧w.heap.size≤w.heap.size+1∧Below w.heap.size w ((w.alloc (.cells cs 30)).alloc (.cells ds 30)).drew:=by
 have h:=Blk.new (w.alloc (.cells cs 30)) 30 ds
 rw [World.size_alloc] at h
 exact ⟨((Blk.new w 30 cs).alloc _).drew,h.drew,Nat.le_refl _,by omega,(((Below.refl _ _).alloc (Nat.le_refl _) _).alloc (by simp) _).drew⟩
theorem two_new' (w:World) (cs ds:Array Value):Blk ((w.alloc (.cells ds 30)).alloc (.cells cs 30)).drew (w.heap.size+1) 30 cs∧Blk ((w.alloc (.cells ds 30)).alloc (.cells cs 30)).drew w.heap.size 30 ds ∧
   w.heap.size≤w.heap.size+1∧w.heap.size≤w.heap.size∧Below w.heap.size w ((w.alloc (.cells ds 30)).alloc (.cells cs 30)).drew:=by
 obtain ⟨h1,h2,h3,h4,h5⟩:=two_new w ds cs
 exact ⟨h2,h1,h4,h3,h5⟩

def EncTy2 (n₀:Nat) (p:Ty × Ty) (args:Array Value) (w:World):Prop:=∃ u v,args=#[u,v]∧IsTy (· < n₀) w p.1 u∧IsTy (· < n₀) w p.2 v

def PlacesRel (n₀ B:Nat) (S T:Ty) (J:List (Ty × Ty)→World→Prop) (k:Nat) (s:Value) (wr:World):Prop:=
 ∃ pre st,PRow (· < n₀) B s st wr∧pre ++ orderSt st=S.order2 T∧(orderSt st).length=k∧J pre wr∧B≤wr.heap.size

theorem info_two:(Tryz.prog.info? 270).map (fun i=>(i.zero,i.size,i.bytes))=some (some (.agg #[.int .i64 0,.slice none 0 0,.int .i64 0,.slice none 0 0]),4,64):=by kernel_rfl

/-- Between two rounds of the inner loop. -/
def PInner (n₀ B:Nat) (ts:List (Ty × Ty)) (t t':Ty) (A A':Option Addr) (c c':Nat) (b6 b7:Nat) (J:World→Prop) (z j:Nat) (s:Value) (w:World):Prop:=
 PRow (· < n₀) B s (ts ++ (t.args.zip t'.args).take j) w∧Blk w b6 30 #[.int .i64 t.kind,.slice A t.args.length c]∧Blk w b7 30 #[.int .i64 t'.kind,.slice A' t'.args.length c']∧J w ∧
   IsTy (· < n₀) w t (.agg #[.int .i64 t.kind,.slice A t.args.length c])∧IsTy (· < n₀) w t' (.agg #[.int .i64 t'.kind,.slice A' t'.args.length c'])∧z≤w.heap.size

theorem pinner_step {n₀ B:Nat} {ts:List (Ty × Ty)} {t t':Ty} {a b:Addr} {c c' b6 b7:Nat} {J:List (Ty × Ty)→World→Prop} {pre:List (Ty × Ty)} {z j:Nat} {s:Value} {w w2:World} {xs:List Value}
   {A' B':Option Addr} {d d' g2 cap2:Nat} (h1:j<t.args.length) (h2:j<t'.args.length) (hBw:B≤w.heap.size) (hn:n₀≤B)
   (hown:w.ownsRow B 270 4 s (ts ++ (t.args.zip t'.args).take j).length xs) (hxs:Pairs (· < n₀) s (ts ++ (t.args.zip t'.args).take j) xs w)
   (h6:Blk w b6 30 #[.int .i64 t.kind,.slice (some a) t.args.length c]) (h7:Blk w b7 30 #[.int .i64 t'.kind,.slice (some b) t'.args.length c']) (hJ:J pre w) (hJl:∀ pre,Low B (J pre))
   (ht:IsTy (· < n₀) w t (.agg #[.int .i64 t.kind,.slice (some a) t.args.length c])) (ht':IsTy (· < n₀) w t' (.agg #[.int .i64 t'.kind,.slice (some b) t'.args.length c']))
   (hta:IsTy (· < n₀) w t.args[j] (.agg #[.int .i64 t.args[j].kind,.slice A' t.args[j].args.length d])) (htb:IsTy (· < n₀) w t'.args[j] (.agg #[.int .i64 t'.args[j].kind,.slice B' t'.args[j].args.length d']))
   (hz:z≤w.heap.size)
   (hown2:w2.ownsRow B 270 4 (.slice (some ⟨g2,0,none⟩) ((ts ++ (t.args.zip t'.args).take j).length+1) cap2) ((ts ++ (t.args.zip t'.args).take j).length+1) (xs ++ [.int .i64 t.args[j].kind,.slice A' t.args[j].args.length d,.int .i64 t'.args[j].kind,.slice B' t'.args[j].args.length d']))
   (hg:(w.alloc (.cells #[.int .i64 t.args[j].kind,.slice A' t.args[j].args.length d,.int .i64 t'.args[j].kind,.slice B' t'.args[j].args.length d'] 270)).drew.grownBy w2 s.ownBlock)
   (hat:s.ownBlock=some g2∨g2=(w.alloc (.cells #[.int .i64 t.args[j].kind,.slice A' t.args[j].args.length d,.int .i64 t'.args[j].kind,.slice B' t'.args[j].args.length d'] 270)).drew.heap.size) :
   PInner n₀ B ts t t' (some a) (some b) c c' b6 b7 (J pre) z (j+1) (.slice (some ⟨g2,0,none⟩) ((ts ++ (t.args.zip t'.args).take j).length+1) cap2) w2:=by
 have hrow:PRow (· < n₀) B s (ts ++ (t.args.zip t'.args).take j) w:=⟨xs,hown,hxs⟩
 have hlow:=hown.lt
 have ne6:=hrow.ne h6
 have ne7:=hrow.ne h7
 have ga:w.grownBy (w.alloc (.cells #[.int .i64 t.args[j].kind,.slice A' t.args[j].args.length d,.int .i64 t'.args[j].kind,.slice B' t'.args[j].args.length d'] 270)).drew none:=
   ⟨rfl,rfl,rfl,by simp,fun k hk _=>Below.heap_alloc w _ k hk⟩
 generalize (w.alloc (.cells #[.int .i64 t.args[j].kind,.slice A' t.args[j].args.length d,.int .i64 t'.args[j].kind,.slice B' t'.args[j].args.length d'] 270)).drew=W1 at ga hg hat
 have hs1:=ga.size
 have hs2:=hg.size
 have hown1:=hown.kept ga (by cases s.ownBlock <;> simp)
 have keep:∀ (u:Ty) (x:Value),IsTy (· < n₀) w u x→IsTy (· < n₀) w2 u x:=fun u x hu=>
   IsTy.keep (fun b h=>h) (fun p hp=>(World.cell?_of_block (hg.block p.block (by omega) (fun e=>by have:=(hlow _ e.symm).1; omega))).trans (World.cell?_of_block (ga.block p.block (by omega) (by simp)))) _ hu
 have keep1:∀ (u:Ty) (x:Value),IsTy (· < n₀) w u x→IsTy (fun b=>b<n₀∧b<W1.heap.size∧s.ownBlock≠some b) W1 u x:=fun u x hu=>
   IsTy.keep (fun b h=>⟨h,by omega,fun e=>by have:=(hlow _ e).1; omega⟩) (fun p hp=>World.cell?_of_block (ga.block p.block (by omega) (by simp))) _ hu
 have hzip:j<(t.args.zip t'.args).length:=by simp; omega
 refine ⟨?_,(h6.grown ga (by simp)).grown hg ne6.symm,(h7.grown ga (by simp)).grown hg ne7.symm,?_,keep _ _ ht,keep _ _ ht',by omega⟩
 · rw [List.take_succ_eq_append_getElem hzip,← List.append_assoc,show (t.args.zip t'.args)[j]=(t.args[j],t'.args[j]) from by simp]
   exact PRow.snoc hown1 (hxs.kept ga (by simp)) (keep1 _ _ hta) (keep1 _ _ htb) hown2 hg (by
     rcases hat with e | e
     · exact .inl e.symm
     · exact .inr (by rw [e]; rfl))
 · exact hJl pre _ _ hJ (((Below.refl B w).grown ga hBw (by simp)).grown hg (by omega) (fun k e=>(hlow _ e).1))

set_option maxRecDepth 100000 in
set_option maxHeartbeats 4000000 in
theorem places_iter (n n₀ bs bt:Nat) (S T:Ty) (u v:Value) (w:World) (hn:1≤n) (hn₀:n₀≤w.heap.size) (hS:IsTy (· < n₀) w S u) (hT:IsTy (· < n₀) w T v) (hsz:S.nodes≤400000) (hbs:bs<w.heap.size) (hbt:bt<w.heap.size)
   (hb:∀ x y,u=.agg #[x,y]→Blk w bs 30 #[x,y]) (hb':∀ x y,v=.agg #[x,y]→Blk w bt 30 #[x,y]) :
   Iterates Tryz.prog n n₀ 298 #[.pointer (some ⟨bs,0,none⟩),.pointer (some ⟨bt,0,none⟩)] (EncTy2 n₀) (S.order2 T) w:=by
 intro l J Jx W hW hJ hJx hY h0
 obtain ⟨A0,c0,rfl⟩:=hS.form
 obtain ⟨A1,c1,rfl⟩:=hT.form
 have hB:=(hb _ _ rfl).below hW hbs
 have hB':=(hb' _ _ rfl).below hW hbt
 obtain ⟨q0,q1,_,_⟩:=hB.facts2
 obtain ⟨r0,r1,_,_⟩:=hB'.facts2
 have hWs:=hW.size
 have hSW:=IsTy.keep (S':=(· < n₀)) (w':=W) (fun _ h=>h) (fun p hp=>hW.cell (by omega)) _ hS
 have hTW:=IsTy.keep (S':=(· < n₀)) (w':=W) (fun _ h=>h) (fun p hp=>hW.cell (by omega)) _ hT
 have HS:=Lib.hid hSW
 have HT:=Lib.hid hTW
 have HY:=Lib.hid hY
 have HJ:=Lib.hid hJ
 have htot:=order2_length S T
 clear hSW hTW hS hT hY hb hb' hJ
 refine callsIn_of_wp Tryz.func298 rfl trivial ?_ rfl
 simp only [Tryz.ntmps298,List.size_toArray,List.length_cons,List.length_nil,Nat.reduceAdd,Nat.reduceSub,Array.replicate_succ,Array.replicate_zero,List.push_toArray,List.append_toArray,List.nil_append,List.cons_append]
 gi_wp2
 gi_loopg [4] (S.order2 T).length (fun k s wr=>PlacesRel n₀ W.heap.size S T J k s wr)
 case atStart=>
   exact ⟨[],[(S,T)],PRow.one (fun b hb=>by omega) (HS.out.keep (fun b h=>h) (fun p hp=>World.cell?_alloc_lt _ _ _ (by omega))) (HT.out.keep (fun b h=>h) (fun p hp=>World.cell?_alloc_lt _ _ _ (by omega))),by simp [orderSt],by simp [orderSt],
     HJ.out _ _ _ h0 ((Below.refl _ _).alloc (Nat.le_refl _) _),by simp⟩
 case round=>
   obtain ⟨pre,st,hrow,hord,hk,hJp,hBw⟩:=hrel
   rcases List.eq_nil_or_concat st with rfl | ⟨ts,⟨t,t'⟩,rfl⟩
   · obtain ⟨A3,c3,rfl⟩:=hrow.form
     gi_wp2
     go_end0
     have e:pre=S.order2 T:=by simpa [orderSt] using hord
     exact ⟨⟨_,rfl⟩,.inl (by rw [← e]; exact hJp)⟩
   · simp only [List.concat_eq_append] at hrow hord hk
     obtain ⟨g,cap,A,B,c,d,rfl,hg0,hg1,hcap,k0,k1,k2,k3,ht,ht',hrow2⟩:=hrow.last
     have hpre:pre ++ [(t,t')] <+: S.order2 T:=by rw [← hord,orderSt_snoc]; simp
     have hlen:ts.length+1≤400000:=by
       have h1:=congrArg List.length hord
       rw [List.length_append] at h1
       have h2:=orderSt_len (ts ++ [(t,t')])
       simp only [List.length_append,List.length_cons,List.length_nil] at h2
       omega
     have hzl:ts.length+min t.args.length t'.args.length≤400000:=by
       have h1:=congrArg List.length hord
       rw [List.length_append,orderSt_snoc,List.length_cons] at h1
       have h2:=orderSt_len (ts ++ (t,t').1.args.zip (t,t').2.args)
       have h3:(ts ++ (t,t').1.args.zip (t,t').2.args).length=ts.length+min t.args.length t'.args.length:=by simp
       rw [h3] at h2
       omega
     have HO:=Lib.hid hord
     have HK:=Lib.hid hk
     have HP:=Lib.hid hpre
     clear hord hk hpre
     gi_wp2
     rw [wpIn_wide]
     go_cut [6,7] from 19 to 28 (fun s6 s7 wx=>∃ b6 b7:Nat,s6=.pointer (some ⟨b6,0,none⟩)∧s7=.pointer (some ⟨b7,0,none⟩)∧Blk wx b6 30 #[.int .i64 t.kind,.slice A t.args.length c] ∧
       Blk wx b7 30 #[.int .i64 t'.kind,.slice B t'.args.length d]∧wr.heap.size≤b6∧wr.heap.size≤b7∧Below wr.heap.size wr wx)
     case first=>
       go_region
       all_goals (go_wp2_with fail; go_meet)
       all_goals first
         | exact ⟨wr.heap.size,wr.heap.size+1,rfl,rfl,two_new wr _ _⟩
         | exact ⟨wr.heap.size+1,wr.heap.size,rfl,rfl,two_new' wr _ _⟩
     case rest=>
       obtain ⟨b6,b7,rfl,rfl,hx6,hx7,h6,h7,hbc⟩:=hcut
       have hbw:=hbc.size
       obtain ⟨x0,x1,_,_⟩:=hx6.facts2
       obtain ⟨y0,y1,_,_⟩:=hx7.facts2
       have htc:IsTy (· < n₀) wc t (.agg #[.int .i64 t.kind,.slice A t.args.length c]):=IsTy.keep (fun b hb=>hb.1) (fun p hp=>hbc.cell hp.2) _ ht
       have htc':IsTy (· < n₀) wc t' (.agg #[.int .i64 t'.kind,.slice B t'.args.length d]):=IsTy.keep (fun b hb=>hb.1) (fun p hp=>hbc.cell hp.2) _ ht'
       obtain ⟨fn,tmps,assign,body,hy,hR⟩:=HY.out pre (t,t') #[.agg #[.int .i64 t.kind,.slice A t.args.length c],.agg #[.int .i64 t'.kind,.slice B t'.args.length d]] wc
         (HJ.out _ _ _ hJp (hbc.mono hBw)) HP.out (by omega) ⟨_,_,rfl,htc,htc'⟩
       gi_wp2
       refine hR.mono ?_
       rintro e W' (⟨rfl,hJ',hkp⟩ | ⟨rfl,hJx',_⟩)
       · have hs6:=hx6.lt
         have hs7:=hx7.lt
         have hx6':=hx6.carry (hkp.block _ hs6 (.inr (by omega)))
         have hx7':=hx7.carry (hkp.block _ hs7 (.inr (by omega)))
         have hsz':=hkp.size
         have hrow3:=(hrow2.kept (row:=none) (below_only hbc (Nat.le_refl _) none) (by simp)).round hkp
         obtain ⟨x0',x1',_,_⟩:=hx6'.facts2
         obtain ⟨y0',y1',_,_⟩:=hx7'.facts2
         have htw:IsTy (· < n₀) W' t (.agg #[.int .i64 t.kind,.slice A t.args.length c]):=IsTy.keep (fun b hb=>hb) (fun p hp=>World.cell?_of_block (hkp.block p.block (by omega) (.inl hp))) _ htc
         have htw':IsTy (· < n₀) W' t' (.agg #[.int .i64 t'.kind,.slice B t'.args.length d]):=IsTy.keep (fun b hb=>hb) (fun p hp=>World.cell?_of_block (hkp.block p.block (by omega) (.inl hp))) _ htc'
         have H0:=Lib.hid (show PInner n₀ W.heap.size ts t t' A B c d b6 b7 (J (pre ++ [(t,t')])) W'.heap.size 0 (.slice (some ⟨g,0,none⟩) ts.length cap) W' from
           ⟨by simpa using hrow3,hx6',hx7',hJ',htw,htw',Nat.le_refl _⟩)
         have ha1:=(nodesAll_len t.args)
         have HM:=Lib.hid hrow3
         clear hrow3
         gi_wp2
         all_goals
           gi_loopw [4,44] (fun s i wx=>∃ j:Nat,j≤t.args.length∧j≤t'.args.length∧i=.int .i64 j∧PInner n₀ W.heap.size ts t t' A B c d b6 b7 (J (pre ++ [(t,t')])) W'.heap.size j s wx)
             (fun _ i _=>t.args.length+t'.args.length - (intOf i).toNat)
           case atStart=>exact ⟨0,by omega,by omega,rfl,H0.out⟩
           case round=>
             obtain ⟨j,hj,hj',rfl,hP⟩:=hrel
             by_cases hlt:j<t.args.length∧j<t'.args.length
             · obtain ⟨hlt1,hlt2⟩:=hlt
               obtain ⟨hpr,hz6,hz7,hJz,htz,htz',hsz2⟩:=hP
               obtain ⟨a,A',c',rfl,ha,m0,m1,hta⟩:=htz.arg_get j hlt1
               obtain ⟨b,B',d',rfl,hb,o0,o1,htb⟩:=htz'.arg_get j hlt2
               obtain ⟨n0,n1,_,_⟩:=hz6.facts2
               obtain ⟨p0,p1,_,_⟩:=hz7.facts2
               gi_wp2
               obtain ⟨xs,hown,hxs⟩:=hpr
               obtain ⟨i0,hi,hz0,hz1,hz2⟩:=info_parts info_two
               have HX:=Lib.hid hxs
               have hj1:j<400000:=by omega
               have hpl:(ts ++ (t.args.zip t'.args).take j).length≤400000:=by simp only [List.length_append,List.length_take,List.length_zip]; omega
               clear hxs
               rw [wpIn_wide]
               go_region_law (refine step_append_lies _ rfl (.tmp 47) (.tmp 59) 271 rfl W.heap.size 270 i0 _ 4 64 Tryz.underlying271 hi hz0 hz1 hz2 rfl (by decide) u4 (ts ++ (t.args.zip t'.args).take j).length xs rfl (hown.alloc _).drew ⟨wr.heap.size,0,none⟩ 1 1 [.int .i64 t.args[j].kind,.slice A' t.args[j].args.length c',.int .i64 t'.args[j].kind,.slice B' t'.args[j].args.length d'] rfl rfl (cells_new _ _ _) (by simp [Value.oneCell']) (by decide) (by simp only [maxLen]; omega) (by omega) (by simp; omega) _ rfl ?_; intro g2 cap2 w2 hown2 hg2 hat2 hlt3)
               all_goals gi_wp2
               all_goals exact ⟨⟨j+1,by omega,by omega,by go_num,by have:=pinner_step (J:=J) (pre:=pre ++ [(t,t')]) (z:=W'.heap.size) (cap2:=cap2) hlt1 hlt2 (by omega) (Nat.le_trans hn₀ hWs) hown HX.out hz6 hz7 hJz HJ.out htz htz' hta htb hsz2 hown2 hg2 hat2; simpa using this⟩,by simp [intOf]; omega⟩
             · obtain ⟨hpr,hz6,hz7,hJz,htz,htz',hsz2⟩:=hP
               have hjm:(t.args.zip t'.args).length≤j:=by simp; omega
               rw [List.take_of_length_le hjm] at hpr
               gi_wp2
               gi_roundg ((orderSt (ts ++ t.args.zip t'.args)).length)
               case rel=>exact ⟨pre ++ [(t,t')],_,hpr,by rw [← HO.out,orderSt_snoc]; simp,rfl,hJz,by omega⟩
               case measure=>rw [← HK.out,orderSt_snoc]; simp
       · gi_wp2
         refine bodyPost_ret (results_none rfl _ _ _) rfl ?_
         exact ⟨⟨_,rfl⟩,.inr hJx'⟩
end Go.Proofs.YtipfnkajdooiiaaGreatDoor
namespace Go.Proofs.YtipfnkajdooiiaaGreatDoor
open Go.RowKit Go.Shelf

attribute [local go_sem] Oper.semAt_some

def alike (p:Ty × Ty):Bool:=p.1.kind == p.2.kind && p.1.args.length == p.2.args.length
def Ty.same (S T:Ty):Bool:=(S.order2 T).all alike

theorem same_wrong {S T:Ty} {p:Ty × Ty} {pre:List (Ty × Ty)} (h:pre ++ [p] <+: S.order2 T) (hp:¬ alike p=true):S.same T=false:=by
 have h2:p ∈ S.order2 T:=h.subset (by simp)
 rw [Ty.same,Bool.eq_false_iff]
 intro h3
 exact hp (List.all_eq_true.1 h3 p h2)

theorem places_any (x y x' y':Value) (w:World):Calls Tryz.prog 269 #[.agg #[x,y],.agg #[x',y']] w fun e w'=>
   e=.returned (.func (.func 298) #[] #[.pointer (some ⟨w.heap.size,0,none⟩),.pointer (some ⟨w.heap.size+1,0,none⟩)]) ∧
     (w.alloc (.cells #[x,y] 30)).alloc (.cells #[x',y'] 30)=w':=by
 have hmf:=makeFunc_run
 go_enter Tryz.func269,Tryz.ntmps269
 go_wp2_with fail
 go_ret
 exact ⟨rfl,rfl⟩

/-- A world with new blocks on top. -/
theorem alloc_facts {w0 w:World} {B:Nat} (h:Below B w0 w) (hB:B≤w.heap.size) (cs:Array Value) (t:TypeId) :
   Below B w0 (w.alloc (.cells cs t))∧(w.alloc (.cells cs t)).heap.size=w.heap.size+1∧Blk (w.alloc (.cells cs t)) w.heap.size t cs:=
 ⟨h.alloc hB _,World.size_alloc _ _,Blk.new _ _ _⟩

def SameR (S T:Ty) (w:World) (e:Ending) (w':World):Prop:=e=.returned (.bool (S.same T))∧Below w.heap.size w w'

def SameI (w:World) (pre:List (Ty × Ty)) (W:World):Prop:=Below w.heap.size w W∧Blk W (w.heap.size+1+1) 4 #[.bool false]∧pre.all alike=true
def SameIx (S T:Ty) (w:World) (c:Code) (W:World):Prop:=c=.ret∧Below w.heap.size w W∧Blk W (w.heap.size+1+1) 4 #[.bool false]∧S.same T=false
theorem sameI_low {w:World} {B:Nat} (hB:w.heap.size+3≤B) (pre:List (Ty × Ty)):Low B (SameI w pre):=by
 rintro W W' ⟨h0,h1,h4⟩ hb
 exact ⟨h0.trans (hb.mono (by omega)),h1.below hb (by omega),h4⟩
theorem sameIx_low {S T:Ty} {w:World} {B:Nat} (hB:w.heap.size+3≤B) (c:Code):Low B (SameIx S T w c):=by
 rintro W W' ⟨hc,h0,h1,h3⟩ hb
 exact ⟨hc,h0.trans (hb.mono (by omega)),h1.below hb (by omega),h3⟩

theorem bne_len (n m:Nat):((n:Int) != (m:Int)) = !(n == m):=by
 rw [Bool.eq_iff_iff]; simp; omega

set_option maxRecDepth 100000 in
set_option maxHeartbeats 2000000 in
theorem same_any (S T:Ty) (u v:Value) (w:World) (hsz:S.nodes≤400000) (hS:IsTy (· < w.heap.size) w S u) (hT:IsTy (· < w.heap.size) w T v) :
   Calls Tryz.prog 236 #[u,v] w (SameR S T w):=by
 obtain ⟨A,c,rfl⟩:=hS.form
 obtain ⟨B,d,rfl⟩:=hT.form
 refine (callsIn_wide (n:=3)).1 (callsIn_of_wp_marks Tryz.func236 rfl trivial ?_ rfl)
 simp only [Tryz.ntmps236,List.size_toArray,List.length_cons,List.length_nil,Nat.reduceAdd,Nat.reduceSub,Array.replicate_succ,Array.replicate_zero,List.push_toArray,List.append_toArray,List.nil_append,List.cons_append]
 gi_wp2_with (refine ⟨trivial,?_⟩; gi_at_call 269; refine (callsIn_wide.2 (places_any _ _ _ _ _)).mono ?_; rintro e w' ⟨rfl,rfl⟩)
 obtain ⟨a1,z1,b1⟩:=alloc_facts (Below.refl w.heap.size w) (Nat.le_refl _) #[.int .i64 S.kind,.slice A S.args.length c] 30
 generalize w.alloc (Obj.cells #[Value.int IntKind.i64 S.kind,Value.slice A S.args.length c] 30)=w1 at a1 z1 b1 ⊢
 obtain ⟨a2,z2,b2⟩:=alloc_facts a1 (by omega) #[.int .i64 T.kind,.slice B T.args.length d] 30
 generalize w1.alloc (Obj.cells #[Value.int IntKind.i64 T.kind,Value.slice B T.args.length d] 30)=w2 at a2 z2 b2 ⊢
 obtain ⟨a3,z3,b3⟩:=alloc_facts a2 (by omega) #[.bool false] 4
 generalize w2.alloc (Obj.cells #[Value.bool false] 4)=w3 at a3 z3 b3 ⊢
 obtain ⟨a4,z4,b4⟩:=alloc_facts a3 (by omega) #[.int .i64 S.kind,.slice A S.args.length c] 30
 have b3:=b3.alloc (Obj.cells #[Value.int IntKind.i64 S.kind,Value.slice A S.args.length c] 30)
 generalize w3.alloc (Obj.cells #[Value.int IntKind.i64 S.kind,Value.slice A S.args.length c] 30)=w4 at a4 z4 b4 b3 ⊢
 obtain ⟨a5,z5,b5⟩:=alloc_facts a4 (by omega) #[.int .i64 T.kind,.slice B T.args.length d] 30
 have b4:=b4.alloc (Obj.cells #[Value.int IntKind.i64 T.kind,Value.slice B T.args.length d] 30)
 have b3:=b3.alloc (Obj.cells #[Value.int IntKind.i64 T.kind,Value.slice B T.args.length d] 30)
 generalize w4.alloc (Obj.cells #[Value.int IntKind.i64 T.kind,Value.slice B T.args.length d] 30)=w5 at a5 z5 b5 b4 b3 ⊢
 rw [z2,z1] at b3
 have hz5:w5.heap.size=w.heap.size+5:=by omega
 rw [show w3.heap.size=w.heap.size+1+1+1 from by omega] at b4
 rw [show w4.heap.size=w.heap.size+1+1+1+1 from by omega] at b5
 clear a1 a2 a3 a4 b1 b2 z1 z2 z3 z4 z5
 have hS0:IsTy (· < w.heap.size) w5 S (.agg #[.int .i64 S.kind,.slice A S.args.length c]):=IsTy.keep (fun b h=>h) (fun p hp=>a5.cell hp) _ hS
 have hT0:IsTy (· < w.heap.size) w5 T (.agg #[.int .i64 T.kind,.slice B T.args.length d]):=IsTy.keep (fun b h=>h) (fun p hp=>a5.cell hp) _ hT
 refine range_wp (by omega) (gf:=298) (lb:=#[.pointer (some ⟨w.heap.size+1+1+1,0,none⟩),.pointer (some ⟨w.heap.size+1+1+1+1,0,none⟩)]) (by first | rfl | (simp [Act.eval])) (enters_of Tryz.func298 (by kernel_rfl) rfl) (n₀:=w.heap.size) (by omega)
   (enc:=EncTy2 w.heap.size) (xs:=S.order2 T) (fun x args W h=>by obtain ⟨u,v,rfl,_⟩:=h; rfl)
   (places_iter _ _ _ _ S T _ _ w5 (by omega) (by omega) hS0 hT0 hsz (by omega) (by omega) (fun x y e=>by simp at e; obtain ⟨rfl,rfl⟩:=e; exact b4) (fun x y e=>by simp at e; obtain ⟨rfl,rfl⟩:=e; exact b5))
   (SameI w) (SameIx S T w) (fun pre=>sameI_low (by omega) pre) (fun c=>sameIx_low (by omega) c) ⟨a5,b3,rfl⟩ ?round ?done ?stop
 case round=>
   rintro pre ⟨x,y⟩ args W ⟨j0,j1,j4⟩ hpre hW ⟨u,v,rfl,hx,hy⟩
   obtain ⟨A1,c1,rfl⟩:=hx.form
   obtain ⟨B1,d1,rfl⟩:=hy.form
   gi_wp2
   have hxy:=alloc_facts (Below.refl W.heap.size W) (Nat.le_refl _) #[.int .i64 x.kind,.slice A1 x.args.length c1] 30
   obtain ⟨g1,y1,f1⟩:=hxy
   generalize W.alloc (Obj.cells #[Value.int IntKind.i64 x.kind,Value.slice A1 x.args.length c1] 30)=V1 at g1 y1 f1 ⊢
   obtain ⟨g2,y2,f2⟩:=alloc_facts g1 (by omega) #[.int .i64 y.kind,.slice B1 y.args.length d1] 30
   have f1:=f1.alloc (Obj.cells #[Value.int IntKind.i64 y.kind,Value.slice B1 y.args.length d1] 30)
   generalize V1.alloc (Obj.cells #[Value.int IntKind.i64 y.kind,Value.slice B1 y.args.length d1] 30)=V2 at g2 y2 f2 f1 ⊢
   rw [y1] at f2
   refine ⟨g2,?_⟩
   rintro W₂ hg ⟨i0,i1,i4⟩
   have hbx:Blk W₂ W.heap.size 30 #[.int .i64 x.kind,.slice A1 x.args.length c1]:=f1.grown hg (by simp; omega)
   have hby:Blk W₂ (W.heap.size+1) 30 #[.int .i64 y.kind,.slice B1 y.args.length d1]:=f2.grown hg (by simp; omega)
   obtain ⟨p0,p1,_,_⟩:=hbx.facts2
   obtain ⟨q0,q1,_,_⟩:=hby.facts2
   obtain ⟨r0,r1⟩:=i1.facts1
   have hw:=i0.size
   have hzg:=hg.size
   clear hg f1 f2
   by_cases hk:x.kind=y.kind
   · have e1:(x.kind == y.kind)=true:=by simp [hk]
     have e2:(x.kind != y.kind)=false:=by simp [hk]
     have HK:=Lib.hid hk
     clear hk
     by_cases hl:x.args.length=y.args.length
     · have e3:((x.args.length:Int) != (y.args.length:Int))=false:=by rw [bne_len]; simp [hl]
       have e4:((x.args.length:Int) == (y.args.length:Int))=true:=by rw [len_eq]; simp [hl]
       have HL:=Lib.hid hl
       clear hl
       gi_wp2
       exact ⟨Kept.refl _ _ _,i0,i1,by have h1:=HK.out; have h2:=HL.out; simp [i4,alike,h1,h2]⟩
     · have e3:((x.args.length:Int) != (y.args.length:Int))=true:=by rw [bne_len]; simp [hl]
       have e4:((x.args.length:Int) == (y.args.length:Int))=false:=by rw [len_eq]; simp [hl]
       have hno:=Lib.hid (same_wrong hpre (by simp [alike,hl]))
       clear hl
       gi_wp2
       exact ⟨Kept.of_grownBy (only_setCell (only_refl W₂ (some (w.heap.size+1+1))) (.inl rfl) _) (fun k e=>by cases e; omega),rfl,i0.setCell (p:=⟨_,0,none⟩) (by first | (simp; done) | (simp; omega)) _,i1.set1 (.bool false),hno.out⟩
   · have e1:(x.kind == y.kind)=false:=by simp [hk]
     have e2:(x.kind != y.kind)=true:=by simp [hk]
     have hno:=Lib.hid (same_wrong hpre (by simp [alike,hk]))
     clear hk
     gi_wp2
     exact ⟨Kept.of_grownBy (only_setCell (only_refl W₂ (some (w.heap.size+1+1))) (.inl rfl) _) (fun k e=>by cases e; omega),rfl,i0.setCell (p:=⟨_,0,none⟩) (by first | (simp; done) | (simp; omega)) _,i1.set1 (.bool false),hno.out⟩
 case done=>
   rintro W ⟨j0,j1,j4⟩ hzW hD
   obtain ⟨q1,f1⟩:=j1.facts1
   gi_wp2
   have z1:=((j1.set1 (.bool true)).putObj (D:=w5.heap.size) (.deferred none) (by omega)).facts1.1
   refine marks_end (v:=.bool true) ?_ (by simp [results,Tryz.results236,go_sem,z1]) ⟨by unfold Ty.same; rw [j4],below_put (j0.setCell (p:=⟨_,0,none⟩) (by first | (simp; done) | (simp; omega)) _) _ (Nat.le_refl _) (by omega)⟩
   rw [Below.heap_setCell _ _ _ _ (by simp; omega)]
   exact hD
 case stop=>
   rintro c W ⟨rfl,j0,j1,hno⟩ hzW hD
   gi_wp2
   have z1:=(j1.putObj (D:=w5.heap.size) (.deferred none) (by omega)).facts1.1
   exact marks_end (v:=.bool false) hD (by simp [results,Tryz.results236,go_sem,z1]) ⟨by rw [hno],below_put j0 _ (Nat.le_refl _) (by omega)⟩
end Go.Proofs.YtipfnkajdooiiaaGreatDoor
