/- The parts of TypeOf: fun, pairType, argTypes, ownType, variable, Context. -/
import Derived.Test.YtipfnkajdooiiaaGreatDoorQPackSizeT
import Derived.Test.YtipfnkajdooiiaaGreatDoorQPackPlaces
import Derived.Deep.RegionLaw
import Derived.Deep.AppendLies
import Derived.Deep.DeepAppendRoom
import Derived.ArgAppend
import Derived.Sort.LoopGhostIn
import Derived.Deep.RegionHeld3
import Derived.Lib.LazyBuf
namespace Go.Proofs.YtipfnkajdooiiaaGreatDoor
open Go.RowKit

/-- A block that is known whole is a slice. -/
theorem Rep.Sl.of_blk {α:Type} {R:Rep α} {S S':Nat→Prop} {W:World} {m:Nat} {t:TypeId} {l:List α} {xs:List Value} {n c:Nat} (hb:Blk W m t xs.toArray) (h:R.Ch S W l xs) (hS:∀ b,S b→S' b) (hm:S' m) (hn:l.length=n) :
   R.Sl S' W l (.slice (some ⟨m,0,none⟩) n c):=by
 subst hn
 refine ⟨_,c,rfl,fun _=>⟨_,rfl,hm,Rep.Arr.of_cells (h.keep hS (fun _ _=>rfl)) (fun j u hu=>?_)⟩⟩
 have e:(⟨m,0,none⟩:Addr).add j=⟨m,j,none⟩:=by unfold Addr.add; split <;> simp_all
 rw [e,hb.cell]
 simpa using hu
theorem ty_one {S:Nat→Prop} {W:World} {A:Ty} {x y:Value} (h:IsTy S W A (.agg #[x,y])):TyR.Ch S W [A] [x,y]:=Rep.Ch.one (R:=TyR) (vs:=[x,y]) h
theorem ty_cons {S:Nat→Prop} {W:World} {A:Ty} {l:List Ty} {x y:Value} {xs:List Value} (h:IsTy S W A (.agg #[x,y])) (k:TyR.Ch S W l xs):TyR.Ch S W (A :: l) (x :: y :: xs):=
 Rep.Ch.append (l:=[A]) (xs:=[x,y]) (ty_one h) k
theorem tm_one {S:Nat→Prop} {W:World} {A:Tm} {a b c d e:Value} (h:IsTm S W A (.agg #[a,b,c,d,e])):TmR.Ch S W [A] [a,b,c,d,e]:=Rep.Ch.one (R:=TmR) (vs:=[a,b,c,d,e]) h
/-- The tree T, in blocks of S or new ones. -/
def InTy (S:Nat→Prop) (w:World) (T:Ty) (e:Ending) (w':World):Prop:=
 ∃ v,e=.returned v∧IsTy (fun b=>(S b∨w.heap.size≤b)∧b<w'.heap.size) w' T v∧Below w.heap.size w w'

set_option maxHeartbeats 1000000 in
theorem tfun_in (S:Nat→Prop) (A B:Ty) (u v:Value) (w:World) (hS:∀ b,S b→b<w.heap.size) (hA:IsTy S w A u) (hB:IsTy S w B v) :
   Calls Tryz.prog 315 #[u,v] w (InTy S w (.mk 4 [A,B])):=by
 obtain ⟨A0,c0,rfl⟩:=hA.form
 obtain ⟨B0,d0,rfl⟩:=hB.form
 have HA:=Lib.hid hA
 have HB:=Lib.hid hB
 have HS:=Lib.hid hS
 clear hA hB hS
 go_enter Tryz.func315,Tryz.ntmps315
 go_wp2_with fail
 obtain ⟨b1,z1,k1⟩:=new_blk (Below.refl w.heap.size w) (Nat.le_refl _) #[.int .i64 A.kind,.slice A0 A.args.length c0] 30
 generalize w.alloc (Obj.cells #[.int .i64 A.kind,.slice A0 A.args.length c0] 30)=W1 at b1 z1 k1 ⊢
 obtain ⟨b2,z2,k2⟩:=new_blk b1 b1.size #[.int .i64 B.kind,.slice B0 B.args.length d0] 30
 generalize W1.alloc (Obj.cells #[.int .i64 B.kind,.slice B0 B.args.length d0] 30)=W2 at b2 z2 k2 ⊢
 obtain ⟨b3,z3,k3⟩:=new_blk b2 b2.size #[.int .i64 4,.slice (some ⟨w.heap.size+1+1+1,0,none⟩) 2 2] 30
 generalize W2.alloc (Obj.cells #[.int .i64 4,.slice (some ⟨w.heap.size+1+1+1,0,none⟩) 2 2] 30)=W3 at b3 z3 k3 ⊢
 obtain ⟨b4,z4,k4⟩:=new_blk b3 b3.size #[.int .i64 A.kind,.slice A0 A.args.length c0,.int .i64 B.kind,.slice B0 B.args.length d0] 30
 have k3:=k3.alloc (Obj.cells #[.int .i64 A.kind,.slice A0 A.args.length c0,.int .i64 B.kind,.slice B0 B.args.length d0] 30)
 generalize W3.alloc (Obj.cells #[.int .i64 A.kind,.slice A0 A.args.length c0,.int .i64 B.kind,.slice B0 B.args.length d0] 30)=W4 at b4 z4 k3 k4 ⊢
 obtain ⟨q0,q1,_,_⟩:=k3.facts2
 rw [show W2.heap.size=w.heap.size+1+1 from by omega] at q0 q1
 rw [show W3.heap.size=w.heap.size+1+1+1 from by omega] at k4
 refine bodyPost_ret (v:=.agg #[.int .i64 4,.slice (some ⟨w.heap.size+1+1+1,0,none⟩) 2 2]) (by simp [results,Tryz.results315,go_sem,q0,q1]) rfl ⟨_,rfl,?_,b4⟩
 have hk:∀ p:Addr,S p.block→W4.cell? p=w.cell? p:=fun p hp=>b4.cell (HS.out _ hp)
 exact IsTy.of_sl (Rep.Sl.of_blk (R:=TyR) k4 (ty_cons (HA.out.keep (fun _ h=>h) hk) (ty_one (HB.out.keep (fun _ h=>h) hk))) (fun b hb=>⟨.inl hb,by have:=HS.out b hb; omega⟩) ⟨.inr (by omega),by omega⟩ rfl)

/-- Below a type that is too large stands nothing: the pair of the parts of a node. -/
def PairS (S:Nat→Prop) (l:List Ty) (w:World) (e:Ending) (w':World):Prop:=
 Below w.heap.size w w'∧if (Ty.mk 3 l).err=0 then ∃ v,e=.returned (.tuple #[v,.int .i64 0])∧IsTy (fun b=>S b∧b<w'.heap.size) w' (.mk 3 l) v
   else e=.returned (.tuple #[.agg #[.int .i64 0,.slice none 0 0],.int .i64 (Ty.mk 3 l).err])

set_option maxHeartbeats 1000000 in
theorem pairType_in (S:Nat→Prop) (l:List Ty) (s:Value) (w:World) (hS:∀ b,S b→b<w.heap.size) (hsz:nodesAll l≤99999) (hl:TyR.Sl S w l s) :
   Calls Tryz.prog 300 #[s] w (PairS S l w):=by
 obtain ⟨A0,c0,rfl⟩:=hl.form
 have HL:=Lib.hid hl
 have HS:=Lib.hid hS
 clear hl hS
 go_enter Tryz.func300,Tryz.ntmps300
 go_wp2_with fail
 obtain ⟨b1,z1,k1⟩:=new_blk (Below.refl w.heap.size w) (Nat.le_refl _) #[.int .i64 0,.slice none 0 0] 30
 generalize w.alloc (Obj.cells #[.int .i64 0,.slice none 0 0] 30)=W1 at b1 z1 k1 ⊢
 obtain ⟨b2,z2,k2⟩:=new_blk b1 b1.size #[.int .i64 3,.slice A0 l.length c0] 30
 have k1:=k1.alloc (Obj.cells #[.int .i64 3,.slice A0 l.length c0] 30)
 generalize W1.alloc (Obj.cells #[.int .i64 3,.slice A0 l.length c0] 30)=W2 at b2 z2 k1 k2 ⊢
 rw [z1] at k2
 have hT:IsTy S W2 (.mk 3 l) (.agg #[.int .i64 3,.slice A0 l.length c0]):=IsTy.of_sl (HL.out.keep (fun _ h=>h) (fun p hp=>b2.cell (HS.out _ hp)))
 refine (check_any (.mk 3 l) _ W2 (by simp only [Ty.nodes]; omega) (IsTy.keep (fun b h=>by have:=HS.out b h; omega) (fun _ _=>rfl) _ hT)).mono ?_
 rintro e w3 ⟨rfl,hb3⟩
 have hb03:Below w.heap.size w w3:=b2.trans (hb3.mono b2.size)
 have k1:=k1.below hb3 k1.lt
 have k2:=k2.below hb3 k2.lt
 obtain ⟨p0,p1,f0,f1⟩:=k1.facts2
 obtain ⟨q0,q1,_,_⟩:=k2.facts2
 have hT3:IsTy S w3 (.mk 3 l) (.agg #[.int .i64 3,.slice A0 l.length c0]):=IsTy.keep (fun _ h=>h) (fun p hp=>hb3.cell (by have:=HS.out _ hp; omega)) _ hT
 have HT:=Lib.hid hT3
 have HZ:=Lib.hid (And.intro z1 z2)
 clear hT hT3 z1 z2
 by_cases he:(Ty.mk 3 l).err=0
 · have e2:((Ty.mk 3 l).err != 0)=false:=by simp [he]
   have HE:=Lib.hid he
   rw [he] at e2 ⊢
   clear he
   go_wp2_with fail
   obtain ⟨z0,z1,_,_⟩:=(k1.set2 (.int .i64 3) (.slice A0 l.length c0)).facts2
   have hg:=only_set2 w3 w.heap.size (.int .i64 3) (.slice A0 l.length c0)
   refine bodyPost_ret (v:=.tuple #[.agg #[.int .i64 3,.slice A0 l.length c0],.int .i64 0]) (by simp [results,Tryz.results300,go_sem,z0,z1]) rfl ⟨hb03.grown hg hb03.size (fun k e=>by cases e; exact Nat.le_refl _),?_⟩
   rw [if_pos HE.out]
   exact ⟨_,rfl,IsTy.keep (fun b hb=>⟨hb,by have:=HS.out b hb; have:=hg.size; have:=hb03.size; omega⟩) (fun p hp=>World.cell?_of_block (hg.block p.block (by have:=HS.out _ hp; have:=hb03.size; omega) (fun e=>by have:=HS.out _ hp; simp at e; omega))) _ HT.out⟩
 · have e2:((Ty.mk 3 l).err != 0)=true:=by simp [he]
   have HE:=Lib.hid he
   clear he
   go_wp2_with fail
   obtain ⟨z0,z1,_,_⟩:=(k1.set2 (.int .i64 0) (.slice none 0 0)).facts2
   have hg:=only_set2 w3 w.heap.size (.int .i64 0) (.slice none 0 0)
   refine bodyPost_ret (v:=.tuple #[.agg #[.int .i64 0,.slice none 0 0],.int .i64 (Ty.mk 3 l).err]) (by simp [results,Tryz.results300,go_sem,z0,z1]) rfl ⟨hb03.grown hg hb03.size (fun k e=>by cases e; exact Nat.le_refl _),?_⟩
   rw [if_neg HE.out]

/-- A slice whose elements lie in blocks of S, the slice itself anywhere. -/
def Rep.Ats {α:Type} (R:Rep α) (S:Nat→Prop) (w:World) (l:List α) (v:Value):Prop:=∃ A c,v=.slice A l.length c∧∀ i (hi:i<l.length),∃ a,A=some a∧a.block<w.heap.size∧R.At S w l[i] (a.add (i * R.n))
theorem Rep.Own.ats {α:Type} {R:Rep α} {S:Nat→Prop} {base:Nat} {v:Value} {l:List α} {w:World} (h:R.Own S base v l w):R.Ats S w l v:=by
 obtain ⟨xs,hown,hc⟩:=h
 rcases hown.2 with ⟨rfl,hn⟩ | ⟨g,cap,cur,rfl,hb,hg,_⟩
 · exact ⟨none,0,by rw [hn],fun i hi=>by omega⟩
 · refine ⟨_,cap,rfl,fun i hi=>⟨_,rfl,(Array.getElem?_eq_some_iff.1 hg).1,?_⟩⟩
   have h2:R.Ch S w l xs:=hc.keep (fun b hb=>hb.1) (fun _ _=>rfl)
   exact Rep.Arr.of_cells h2 (fun j u hu=>hown.cells rfl j u hu) i hi

/-- The types of the variables: what comes of one. -/
def VarS (S:Nat→Prop) (g:List Ty) (i:Int) (w:World) (e:Ending) (w':World):Prop:=
 Below w.heap.size w w'∧if h:i.toNat<g.length then ∃ v,e=.returned (.tuple #[v,.int .i64 0])∧IsTy S w' (g[g.length - 1 - i.toNat]'(by omega)) v
   else e=.returned (.tuple #[.agg #[.int .i64 0,.slice none 0 0],.int .i64 6])

set_option maxHeartbeats 1000000 in
theorem variable_in (S:Nat→Prop) (g:List Ty) (i:Int) (s:Value) (w:World) (hS:∀ b,S b→b<w.heap.size) (hi:0≤i) (hlen:g.length≤1000000) (hl:TyR.Ats S w g s) :
   Calls Tryz.prog 271 #[s,.int .i64 i] w (VarS S g i w):=by
 obtain ⟨A0,c0,rfl,hl⟩:=hl
 obtain ⟨n,rfl⟩:∃ n:Nat,i=(n:Int):=⟨i.toNat,by omega⟩
 obtain ⟨b1,z1,k1⟩:=new_blk (Below.refl w.heap.size w) (Nat.le_refl _) #[.int .i64 0,.slice none 0 0] 30
 have HL:=Lib.hid hl
 have HS:=Lib.hid hS
 clear hl hS
 by_cases hn:n<g.length
 · have e1:decide ((g.length:Int)≤(n:Int))=false:=by simp; omega
   obtain ⟨a,rfl,ha,hat0⟩:=HL.out (g.length - 1 - n) (by omega)
   have hat:TyR.At S (w.alloc (Obj.cells #[.int .i64 0,.slice none 0 0] 30)) g[g.length - 1 - n] (a.add ((g.length - 1 - n) * TyR.n)):=by
     obtain ⟨vs,h1,h2⟩:=hat0
     exact ⟨vs,TyR.keep (fun _ h=>h) (fun p hp=>World.cell?_alloc_lt _ _ _ (HS.out _ hp)) h1,fun j u hu=>(World.cell?_alloc_lt _ _ _ (by rw [add_block,add_block]; exact ha)).trans (h2 j u hu)⟩
   obtain ⟨A1,c1,q0,q1,hx⟩:=at_ty hat
   simp only [show TyR.n=2 from rfl] at q0 q1
   have ex:(g.length:Int) - 1 - (n:Int)=((g.length - 1 - n:Nat):Int):=by omega
   have HX:=Lib.hid hx
   clear hat hat0 hx b1 z1 k1
   go_enter Tryz.func271,Tryz.ntmps271
   go_wp2_with fail
   obtain ⟨b1,z1,k1⟩:=new_blk (Below.refl w.heap.size w) (Nat.le_refl _) #[.int .i64 g[g.length - 1 - n].kind,.slice A1 g[g.length - 1 - n].args.length c1] 30
   obtain ⟨z0,z1,_,_⟩:=k1.facts2
   refine bodyPost_ret (v:=.tuple #[.agg #[.int .i64 g[g.length - 1 - n].kind,.slice A1 g[g.length - 1 - n].args.length c1],.int .i64 0]) (by simp [results,Tryz.results271,go_sem,z0,z1]) rfl ⟨b1,?_⟩
   rw [dif_pos (by simpa using hn)]
   exact ⟨_,rfl,IsTy.keep (fun _ h=>h) (fun p hp=>(World.cell?_alloc_lt _ _ _ (HS.out _ hp)).trans (World.cell?_alloc_lt _ _ _ (HS.out _ hp)).symm) _ HX.out⟩
 · have e1:decide ((g.length:Int)≤(n:Int))=true:=by simp; omega
   go_enter Tryz.func271,Tryz.ntmps271
   go_wp2_with fail
   obtain ⟨z0,z1,_,_⟩:=k1.facts2
   refine bodyPost_ret (v:=.tuple #[.agg #[.int .i64 0,.slice none 0 0],.int .i64 6]) (by simp [results,Tryz.results271,go_sem,z0,z1]) rfl ⟨b1,?_⟩
   rw [dif_neg (by simpa using hn)]
end Go.Proofs.YtipfnkajdooiiaaGreatDoor
namespace Go.Proofs.YtipfnkajdooiiaaGreatDoor
open Go.RowKit

def tyNat:Ty:=.mk 1 []
def tyList:Ty:=.mk 2 []
def tyUnit:Ty:=.mk 5 []
def tyFun (A B:Ty):Ty:=.mk 4 [A,B]
/-- What the parts of a node must have. -/
def argTys (k:Int) (T:Ty):List Ty:=
 if k=5 then [tyNat] else if k=8 then [tyNat,tyList] else if k=6 then [T,tyFun tyNat (tyFun T T),tyNat] else if k=9 then [T,tyFun tyNat (tyFun tyList (tyFun T T)),tyList] else []
/-- What a node has. -/
def ownTy (k:Int) (T:Ty):Ty:=if k=4∨k=5 then tyNat else if k=7∨k=8 then tyList else if k=13 then tyUnit else T

set_option maxHeartbeats 2000000 in
theorem ownType_in (S:Nat→Prop) (t:Tm) (v:Value) (w:World) (hS:∀ b,S b→b<w.heap.size) (hT:IsTm S w t v) :
   Calls Tryz.prog 303 #[v] w (InTy S w (ownTy t.kind t.type)):=by
 obtain ⟨B,d,A,c,rfl,hty,_⟩:=hT.parts
 obtain ⟨k,i,T,l⟩:=t
 simp only [Tm.kind,Tm.index,Tm.type,Tm.args] at *
 have HT:=Lib.hid hty
 have HS:=Lib.hid hS
 clear hT hty hS
 have leaf:∀ (kk:Int) (W:World),Below w.heap.size w W→InTy S w (.mk kk []) (.returned (.agg #[.int .i64 kk,.slice none 0 0])) W:=fun kk W hb=>⟨_,rfl,IsTy.leaf _ _ _,hb⟩
 by_cases h1:k=4∨k=5
 · have e:ownTy k T=tyNat:=by unfold ownTy; rw [if_pos h1]
   rw [e]
   rcases h1 with rfl | rfl
   all_goals
     go_enter Tryz.func303,Tryz.ntmps303
     go_wp2_with fail
     exact bodyPost_ret (v:=.agg #[.int .i64 1,.slice none 0 0]) (by simp [results,Tryz.results303,go_sem]) rfl (leaf 1 _ (((Below.refl _ _).alloc (Nat.le_refl _) _).alloc (by simp) _))
 · by_cases h2:k=7∨k=8
   · have e:ownTy k T=tyList:=by unfold ownTy; rw [if_neg h1,if_pos h2]
     rw [e]
     rcases h2 with rfl | rfl
     all_goals
       go_enter Tryz.func303,Tryz.ntmps303
       go_wp2_with fail
       exact bodyPost_ret (v:=.agg #[.int .i64 2,.slice none 0 0]) (by simp [results,Tryz.results303,go_sem]) rfl (leaf 2 _ (((Below.refl _ _).alloc (Nat.le_refl _) _).alloc (by simp) _))
   · by_cases h3:k=13
     · have e:ownTy k T=tyUnit:=by unfold ownTy; rw [if_neg h1,if_neg h2,if_pos h3]
       rw [e]
       subst h3
       go_enter Tryz.func303,Tryz.ntmps303
       go_wp2_with fail
       exact bodyPost_ret (v:=.agg #[.int .i64 5,.slice none 0 0]) (by simp [results,Tryz.results303,go_sem]) rfl (leaf 5 _ (((Below.refl _ _).alloc (Nat.le_refl _) _).alloc (by simp) _))
     · have e:ownTy k T=T:=by unfold ownTy; rw [if_neg h1,if_neg h2,if_neg h3]
       have e4:(k == 4)=false:=by rw [beq_eq_false_iff_ne]; omega
       have e5:(k == 5)=false:=by rw [beq_eq_false_iff_ne]; omega
       have e7:(k == 7)=false:=by rw [beq_eq_false_iff_ne]; omega
       have e8:(k == 8)=false:=by rw [beq_eq_false_iff_ne]; omega
       have e13:(k == 13)=false:=by rw [beq_eq_false_iff_ne]; omega
       rw [e]
       clear e h1 h2 h3
       go_enter Tryz.func303,Tryz.ntmps303
       go_wp2_with fail
       refine bodyPost_ret (v:=.agg #[.int .i64 T.kind,.slice B T.args.length d]) (by simp [results,Tryz.results303,go_sem]) rfl ⟨_,rfl,?_,((Below.refl _ _).alloc (Nat.le_refl _) _).alloc (by simp) _⟩
       have hb:Below w.heap.size w ((w.alloc (Obj.cells #[.int .i64 k,.int .i64 i,.int .i64 T.kind,.slice B T.args.length d,.slice A l.length c] 42)).alloc (Obj.cells #[.int .i64 T.kind,.slice B T.args.length d] 30)):=
         ((Below.refl _ _).alloc (Nat.le_refl _) _).alloc (by simp) _
       exact IsTy.keep (fun b hb'=>⟨.inl hb',Nat.lt_of_lt_of_le (HS.out b hb') hb.size⟩) (fun p hp=>hb.cell (HS.out _ hp)) _ HT.out

/-- The list l, in blocks of S or new ones. -/
def InTys (S:Nat→Prop) (w:World) (l:List Ty) (e:Ending) (w':World):Prop:=
 ∃ v,e=.returned v∧TyR.Sl (fun b=>(S b∨w.heap.size≤b)∧b<w'.heap.size) w' l v∧Below w.heap.size w w'

theorem built_tys {S:Nat→Prop} {w W:World} {l:List Ty} {xs:List Value} {n m:Nat} (hb:Below w.heap.size w W) (h:TyR.Ch (fun b=>(S b∨w.heap.size≤b)∧b<W.heap.size) W l xs) (hn:l.length=n) (hm:W.heap.size=m) :
   TyR.Sl (fun b=>(S b∨w.heap.size≤b)∧b<(W.alloc (.cells xs.toArray 30)).heap.size) (W.alloc (.cells xs.toArray 30)) l (.slice (some ⟨m,0,none⟩) n n):=by
 subst hn
 subst hm
 exact Rep.Sl.built (R:=TyR) h (fun b hb=>hb.2) _ (fun b hb=>⟨hb.1,by have:=hb.2; simp; omega⟩) ⟨.inr hb.size,by simp⟩

theorem IsTy.form2 {S:Nat→Prop} {w:World} {k:Int} {A B:Ty} {v:Value} (h:IsTy S w (.mk k [A,B]) v):∃ a c,v=.agg #[.int .i64 k,.slice a 2 c]:=h.form

/-- The variables of argTypes. -/
theorem argTypes_world (w:World) (x0 x1 x2 x3 x4:Value):∃ W,W=((w.alloc (Obj.cells #[x0,x1,x2,x3,x4] 42)).alloc (Obj.cells #[.int .i64 1,.slice none 0 0] 30)).alloc (Obj.cells #[.int .i64 2,.slice none 0 0] 30) ∧
   Below w.heap.size w W∧W.heap.size=w.heap.size+3∧Blk W w.heap.size 42 #[x0,x1,x2,x3,x4]∧Blk W (w.heap.size+1) 30 #[.int .i64 1,.slice none 0 0]∧Blk W (w.heap.size+1+1) 30 #[.int .i64 2,.slice none 0 0]:=by
 obtain ⟨b1,z1,k1⟩:=new_blk (Below.refl w.heap.size w) (Nat.le_refl _) #[x0,x1,x2,x3,x4] 42
 generalize w.alloc (Obj.cells #[x0,x1,x2,x3,x4] 42)=W1 at b1 z1 k1 ⊢
 obtain ⟨b2,z2,k2⟩:=new_blk b1 b1.size #[.int .i64 1,.slice none 0 0] 30
 have k1:=k1.alloc (Obj.cells #[.int .i64 1,.slice none 0 0] 30)
 generalize W1.alloc (Obj.cells #[.int .i64 1,.slice none 0 0] 30)=W2 at b2 z2 k1 k2 ⊢
 obtain ⟨b3,z3,k3⟩:=new_blk b2 b2.size #[.int .i64 2,.slice none 0 0] 30
 have k1:=k1.alloc (Obj.cells #[.int .i64 2,.slice none 0 0] 30)
 have k2:=k2.alloc (Obj.cells #[.int .i64 2,.slice none 0 0] 30)
 rw [z1] at k2
 rw [z2,z1] at k3
 exact ⟨_,rfl,b3,by omega,k1,k2,k3⟩

set_option maxRecDepth 100000 in
set_option maxHeartbeats 4000000 in
theorem argTypes_in (S:Nat→Prop) (t:Tm) (v:Value) (w:World) (hS:∀ b,S b→b<w.heap.size) (hT:IsTm S w t v) :
   Calls Tryz.prog 302 #[v] w (InTys S w (argTys t.kind t.type)):=by
 obtain ⟨B,d,A,c,rfl,hty,_⟩:=hT.parts
 obtain ⟨k,i,T,l⟩:=t
 simp only [Tm.kind,Tm.index,Tm.type,Tm.args] at *
 obtain ⟨W,hW,hb,hz,k0,k1,k2⟩:=argTypes_world w (.int .i64 k) (.int .i64 i) (.int .i64 T.kind) (.slice B T.args.length d) (.slice A l.length c)
 have hT0:IsTy S W T (.agg #[.int .i64 T.kind,.slice B T.args.length d]):=IsTy.keep (fun _ h=>h) (fun p hp=>hb.cell (hS _ hp)) _ hty
 have HT:=Lib.hid hT0
 have HS:=Lib.hid hS
 clear hT hty hS hT0
 by_cases h5:k=5
 · subst h5
   rw [show argTys 5 T=[tyNat] from rfl]
   go_enter Tryz.func302,Tryz.ntmps302
   go_wp2_with fail
   rw [← hW]
   go_ret
   exact ⟨_,rfl,built_tys hb (ty_one (IsTy.leaf (fun b=>(S b∨w.heap.size≤b)∧b<W.heap.size) W 1)) rfl (by omega),hb.alloc hb.size _⟩
 by_cases h8:k=8
 · subst h8
   rw [show argTys 8 T=[tyNat,tyList] from rfl]
   go_enter Tryz.func302,Tryz.ntmps302
   go_wp2_with fail
   rw [← hW]
   go_ret
   exact ⟨_,rfl,built_tys hb (ty_cons (IsTy.leaf (fun b=>(S b∨w.heap.size≤b)∧b<W.heap.size) W 1) (ty_one (IsTy.leaf (fun b=>(S b∨w.heap.size≤b)∧b<W.heap.size) W 2))) rfl (by omega),hb.alloc hb.size _⟩
 by_cases h6:k=6
 · subst h6
   rw [show argTys 6 T=[T,tyFun tyNat (tyFun T T),tyNat] from rfl]
   go_enter Tryz.func302,Tryz.ntmps302
   go_wp2_with fail
   rw [← hW]
   have HB:=Lib.hid hb
   have HK0:=Lib.hid k0
   have HK1:=Lib.hid k1
   have HK2:=Lib.hid k2
   have HZ:=Lib.hid hz
   have HSK:=Lib.hid fun (w1:World) (h:Below (w.heap.size+3) W w1)=>And.intro h (And.intro (k0.below h (by omega)).cells5.2.2.1 (And.intro (k0.below h (by omega)).cells5.2.2.2.1 (And.intro (k1.below h (by omega)).facts2.1 (And.intro (k1.below h (by omega)).facts2.2.1 (And.intro (k2.below h (by omega)).facts2.1 (k2.below h (by omega)).facts2.2.1)))))
   obtain ⟨_,q0,q1,q2,q3,q4,q5⟩:=HSK.out W (Below.refl _ _)
   clear hb k0 k1 k2 hz hW
   go_region_held3 (fun w'=>Below (w.heap.size+3) W w'∧w'.cell? ⟨w.heap.size,2,none⟩ = some (.int .i64 T.kind)∧w'.cell? ⟨w.heap.size,3,none⟩ = some (.slice B T.args.length d) ∧
       w'.cell? ⟨w.heap.size+1,0,none⟩ = some (.int .i64 1)∧w'.cell? ⟨w.heap.size+1,1,none⟩ = some (.slice none 0 0)∧w'.cell? ⟨w.heap.size+1+1,0,none⟩ = some (.int .i64 2)∧w'.cell? ⟨w.heap.size+1+1,1,none⟩ = some (.slice none 0 0))
     (first | exact HSK.out _ (Below.refl _ _).drew | exact HSK.out _ hb1 | exact HSK.out _ hb2 | exact HSK.out _ (hb2.alloc (by have:=hb2.size; have:=HZ.out; omega) _) | go_keep)
     (first
       | (go_at_call 315
          (with_reducible refine (tfun_in (fun b=>(S b∨w.heap.size+3≤b)∧b<w1.heap.size) tyNat (tyFun T T) (.agg #[.int .i64 1,.slice none 0 0]) (.agg #[.int .i64 4,.slice A1 2 c1]) _ ?_ ?_ ?_).mono ?_)
          · intro b hb; exact hb.2
          · exact IsTy.leaf _ _ _
          · exact hy1
          rintro e w2 ⟨x2,rfl,hx2,hb2'⟩
          obtain ⟨A2,c2,rfl⟩:=hx2.form2
          have hb2:Below (w.heap.size+3) W w2:=hb1.trans (hb2'.mono (by have:=HZ.out; have:=hb1.size; omega))
          have hy2:IsTy (fun b=>(S b∨w.heap.size+3≤b)∧b<w2.heap.size) w2 (tyFun tyNat (tyFun T T)) (.agg #[.int .i64 4,.slice A2 2 c2]):=IsTy.keep (fun b h=>⟨by rcases h.1 with h1 | h1; exact h1.1; have:=HZ.out; have:=hb1.size; right; omega,h.2⟩) (fun _ _=>rfl) _ hx2)
       | (go_at_call 315
          (with_reducible refine (tfun_in (fun b=>(S b∨w.heap.size+3≤b)∧b<W.heap.size) T T (.agg #[.int .i64 T.kind,.slice B T.args.length d]) (.agg #[.int .i64 T.kind,.slice B T.args.length d]) _ ?_ ?_ ?_).mono ?_)
          · intro b hb; exact hb.2
          · exact IsTy.keep (S:=S) (w:=W) (w':=W.drew) (fun b h=>⟨.inl h,by have:=HS.out b h; have:=HZ.out; omega⟩) (fun p _=>World.cell?_drew W p) T HT.out
          · exact IsTy.keep (S:=S) (w:=W) (w':=W.drew) (fun b h=>⟨.inl h,by have:=HS.out b h; have:=HZ.out; omega⟩) (fun p _=>World.cell?_drew W p) T HT.out
          rintro e w1 ⟨x1,rfl,hx1,hb1'⟩
          obtain ⟨A1,c1,rfl⟩:=hx1.form2
          have hb1:Below (w.heap.size+3) W w1:=(((Below.refl _ W).drew).trans hb1').mono (by have:=HZ.out; show w.heap.size+3≤W.heap.size; omega)
          have hy1:IsTy (fun b=>(S b∨w.heap.size+3≤b)∧b<w1.heap.size) w1 (tyFun T T) (.agg #[.int .i64 4,.slice A1 2 c1]):=IsTy.keep (fun b h=>⟨by rcases h.1 with h1 | h1; exact h1.1; have:=HZ.out; right; show w.heap.size+3≤b; have h2:W.heap.size≤b:=h1; omega,h.2⟩) (fun _ _=>rfl) _ hx1))
   go_wp2_with fail
   go_ret
   have hbw:Below w.heap.size w w2:=HB.out.trans (hb2.mono (by omega))
   have hT2:IsTy (fun b=>(S b∨w.heap.size≤b)∧b<w2.heap.size) w2 T (.agg #[.int .i64 T.kind,.slice B T.args.length d]):=IsTy.keep (fun b h=>⟨.inl h,by have:=HS.out b h; have:=hbw.size; omega⟩) (fun p hp=>hb2.cell (by have:=HS.out _ hp; omega)) _ HT.out
   have hy:IsTy (fun b=>(S b∨w.heap.size≤b)∧b<w2.heap.size) w2 _ _:=IsTy.keep (fun b h=>⟨h.1.imp id (fun h1=>by omega),h.2⟩) (fun _ _=>rfl) _ hy2
   exact ⟨_,rfl,built_tys hbw (ty_cons hT2 (ty_cons hy (ty_one (IsTy.leaf _ _ 1)))) rfl rfl,hbw.alloc hbw.size _⟩
 by_cases h9:k=9
 · subst h9
   rw [show argTys 9 T=[T,tyFun tyNat (tyFun tyList (tyFun T T)),tyList] from rfl]
   go_enter Tryz.func302,Tryz.ntmps302
   go_wp2_with fail
   rw [← hW]
   have HB:=Lib.hid hb
   have HK0:=Lib.hid k0
   have HK1:=Lib.hid k1
   have HK2:=Lib.hid k2
   have HZ:=Lib.hid hz
   have HSK:=Lib.hid fun (w1:World) (h:Below (w.heap.size+3) W w1)=>And.intro h (And.intro (k0.below h (by omega)).cells5.2.2.1 (And.intro (k0.below h (by omega)).cells5.2.2.2.1 (And.intro (k1.below h (by omega)).facts2.1 (And.intro (k1.below h (by omega)).facts2.2.1 (And.intro (k2.below h (by omega)).facts2.1 (k2.below h (by omega)).facts2.2.1)))))
   obtain ⟨_,q0,q1,q2,q3,q4,q5⟩:=HSK.out W (Below.refl _ _)
   clear hb k0 k1 k2 hz hW
   go_region_held3 (fun w'=>Below (w.heap.size+3) W w'∧w'.cell? ⟨w.heap.size,2,none⟩ = some (.int .i64 T.kind)∧w'.cell? ⟨w.heap.size,3,none⟩ = some (.slice B T.args.length d) ∧
       w'.cell? ⟨w.heap.size+1,0,none⟩ = some (.int .i64 1)∧w'.cell? ⟨w.heap.size+1,1,none⟩ = some (.slice none 0 0)∧w'.cell? ⟨w.heap.size+1+1,0,none⟩ = some (.int .i64 2)∧w'.cell? ⟨w.heap.size+1+1,1,none⟩ = some (.slice none 0 0))
     (first | exact HSK.out _ (Below.refl _ _).drew | exact HSK.out _ hb1 | exact HSK.out _ hb2 | exact HSK.out _ hb3 | exact HSK.out _ (hb3.alloc (by have:=hb3.size; have:=HZ.out; omega) _) | go_keep)
     (first
       | (go_at_call 315
          (with_reducible refine (tfun_in (fun b=>(S b∨w.heap.size+3≤b)∧b<w2.heap.size) tyNat (tyFun tyList (tyFun T T)) (.agg #[.int .i64 1,.slice none 0 0]) (.agg #[.int .i64 4,.slice A2 2 c2]) _ ?_ ?_ ?_).mono ?_)
          · intro b hb; exact hb.2
          · exact IsTy.leaf _ _ _
          · exact hy2
          rintro e w3 ⟨x3,rfl,hx3,hb3'⟩
          obtain ⟨A3,c3,rfl⟩:=hx3.form2
          have hb3:Below (w.heap.size+3) W w3:=hb2.trans (hb3'.mono (by have:=HZ.out; have:=hb2.size; omega))
          have hy3:IsTy (fun b=>(S b∨w.heap.size+3≤b)∧b<w3.heap.size) w3 (tyFun tyNat (tyFun tyList (tyFun T T))) (.agg #[.int .i64 4,.slice A3 2 c3]):=IsTy.keep (fun b h=>⟨by rcases h.1 with h1 | h1; exact h1.1; have:=HZ.out; have:=hb2.size; right; omega,h.2⟩) (fun _ _=>rfl) _ hx3)
       | (go_at_call 315
          (with_reducible refine (tfun_in (fun b=>(S b∨w.heap.size+3≤b)∧b<w1.heap.size) tyList (tyFun T T) (.agg #[.int .i64 2,.slice none 0 0]) (.agg #[.int .i64 4,.slice A1 2 c1]) _ ?_ ?_ ?_).mono ?_)
          · intro b hb; exact hb.2
          · exact IsTy.leaf _ _ _
          · exact hy1
          rintro e w2 ⟨x2,rfl,hx2,hb2'⟩
          obtain ⟨A2,c2,rfl⟩:=hx2.form2
          have hb2:Below (w.heap.size+3) W w2:=hb1.trans (hb2'.mono (by have:=HZ.out; have:=hb1.size; omega))
          have hy2:IsTy (fun b=>(S b∨w.heap.size+3≤b)∧b<w2.heap.size) w2 (tyFun tyList (tyFun T T)) (.agg #[.int .i64 4,.slice A2 2 c2]):=IsTy.keep (fun b h=>⟨by rcases h.1 with h1 | h1; exact h1.1; have:=HZ.out; have:=hb1.size; right; omega,h.2⟩) (fun _ _=>rfl) _ hx2)
       | (go_at_call 315
          (with_reducible refine (tfun_in (fun b=>(S b∨w.heap.size+3≤b)∧b<W.heap.size) T T (.agg #[.int .i64 T.kind,.slice B T.args.length d]) (.agg #[.int .i64 T.kind,.slice B T.args.length d]) _ ?_ ?_ ?_).mono ?_)
          · intro b hb; exact hb.2
          · exact IsTy.keep (S:=S) (w:=W) (w':=W.drew) (fun b h=>⟨.inl h,by have:=HS.out b h; have:=HZ.out; omega⟩) (fun p _=>World.cell?_drew W p) T HT.out
          · exact IsTy.keep (S:=S) (w:=W) (w':=W.drew) (fun b h=>⟨.inl h,by have:=HS.out b h; have:=HZ.out; omega⟩) (fun p _=>World.cell?_drew W p) T HT.out
          rintro e w1 ⟨x1,rfl,hx1,hb1'⟩
          obtain ⟨A1,c1,rfl⟩:=hx1.form2
          have hb1:Below (w.heap.size+3) W w1:=(((Below.refl _ W).drew).trans hb1').mono (by have:=HZ.out; show w.heap.size+3≤W.heap.size; omega)
          have hy1:IsTy (fun b=>(S b∨w.heap.size+3≤b)∧b<w1.heap.size) w1 (tyFun T T) (.agg #[.int .i64 4,.slice A1 2 c1]):=IsTy.keep (fun b h=>⟨by rcases h.1 with h1 | h1; exact h1.1; have:=HZ.out; right; show w.heap.size+3≤b; have h2:W.heap.size≤b:=h1; omega,h.2⟩) (fun _ _=>rfl) _ hx1))
   go_wp2_with fail
   go_ret
   have hbw:Below w.heap.size w w3:=HB.out.trans (hb3.mono (by omega))
   have hT3:IsTy (fun b=>(S b∨w.heap.size≤b)∧b<w3.heap.size) w3 T (.agg #[.int .i64 T.kind,.slice B T.args.length d]):=IsTy.keep (fun b h=>⟨.inl h,by have:=HS.out b h; have:=hbw.size; omega⟩) (fun p hp=>hb3.cell (by have:=HS.out _ hp; omega)) _ HT.out
   have hy:IsTy (fun b=>(S b∨w.heap.size≤b)∧b<w3.heap.size) w3 _ _:=IsTy.keep (fun b h=>⟨h.1.imp id (fun h1=>by omega),h.2⟩) (fun _ _=>rfl) _ hy3
   exact ⟨_,rfl,built_tys hbw (ty_cons hT3 (ty_cons hy (ty_one (IsTy.leaf _ _ 2)))) rfl rfl,hbw.alloc hbw.size _⟩
 have e:argTys k T=[]:=by unfold argTys; rw [if_neg h5,if_neg h8,if_neg h6,if_neg h9]
 have e5:(k == 5)=false:=by rw [beq_eq_false_iff_ne]; omega
 have e8:(k == 8)=false:=by rw [beq_eq_false_iff_ne]; omega
 have e6:(k == 6)=false:=by rw [beq_eq_false_iff_ne]; omega
 have e9:(k == 9)=false:=by rw [beq_eq_false_iff_ne]; omega
 rw [e]
 clear e h5 h6 h8 h9
 go_enter Tryz.func302,Tryz.ntmps302
 go_wp2_with fail
 rw [← hW]
 go_ret
 exact ⟨_,rfl,Rep.Sl.nil _ _,hb⟩
end Go.Proofs.YtipfnkajdooiiaaGreatDoor
namespace Go.Proofs.YtipfnkajdooiiaaGreatDoor
open Go.RowKit

def sameAll:List Ty→List Ty→Bool
 | [],[]=>true
 | a :: r,b :: s=>a.same b && sameAll r s
 | _,_=>false
theorem sameAll_len:∀ {l m:List Ty},sameAll l m=true→l.length=m.length
 | [],[],_=>rfl
 | a :: r,b :: s,h=>by simp only [sameAll,Bool.and_eq_true] at h; simp [sameAll_len h.2]
 | [],_ :: _,h=>by simp [sameAll] at h
 | _ :: _,[],h=>by simp [sameAll] at h
theorem sameAll_at:∀ {l m:List Ty} (i:Nat) (hi:i<l.length) (hm:i<m.length),sameAll l m=true→l[i].same m[i]=true
 | a :: r,b :: s,0,_,_,h=>by simp only [sameAll,Bool.and_eq_true] at h; exact h.1
 | a :: r,b :: s,i+1,hi,hm,h=>by simp only [sameAll,Bool.and_eq_true] at h; exact sameAll_at i (by simpa using hi) (by simpa using hm) h.2
theorem sameAll_of:∀ {l m:List Ty},l.length=m.length→(∀ i (hi:i<l.length) (hm:i<m.length),l[i].same m[i]=true)→sameAll l m=true
 | [],[],_,_=>rfl
 | a :: r,b :: s,hl,h=>by
   simp only [sameAll,Bool.and_eq_true]
   exact ⟨h 0 (by simp) (by simp),sameAll_of (by simpa using hl) (fun i hi hm=>h (i+1) (by simpa using hi) (by simpa using hm))⟩
 | [],_ :: _,hl,_=>by simp at hl
 | _ :: _,[],hl,_=>by simp at hl

theorem same_is {S T:Ty} {u v:Value} {w:World} (b:Bool) (hb:S.same T=b) (hsz:S.nodes≤400000) (hS:IsTy (· < w.heap.size) w S u) (hT:IsTy (· < w.heap.size) w T v) :
   Calls Tryz.prog 236 #[u,v] w fun e w'=>e=.returned (.bool b)∧Below w.heap.size w w':=by
 subst hb
 exact same_any S T u v w hsz hS hT

set_option maxRecDepth 100000 in
set_option maxHeartbeats 2000000 in
theorem equal_any (l m:List Ty) (s t:Value) (w:World) (hsz:nodesAll l≤400000) (hsm:m.length≤400000) (hl:TyR.Sl (· < w.heap.size) w l s) (hm:TyR.Sl (· < w.heap.size) w m t) :
   Calls Tryz.prog 301 #[s,t,.func (.func 236) #[] #[]] w
     fun e w'=>e=.returned (.bool (sameAll l m))∧Below w.heap.size w w':=by
 obtain ⟨A,c,rfl⟩:=hl.form
 obtain ⟨B,d,rfl⟩:=hm.form
 have hll:=nodesAll_len l
 have HL:=Lib.hid hl
 have HM:=Lib.hid hm
 clear hl hm
 by_cases hlen:l.length=m.length
 · have e1:((l.length:Int) != (m.length:Int))=false:=by rw [hlen]; simp
   have HLEN:=Lib.hid hlen
   clear hlen
   go_enter Tryz.func301,Tryz.ntmps301
   go_wp2_with fail
   go_loopw [17] (fun ix wr=>∃ j:Nat,j≤l.length∧ix=.int .i64 j∧(∀ i (hi:i<l.length) (hm:i<m.length),i<j→l[i].same m[i]=true)∧Below w.heap.size w wr)
     (fun ix _=>l.length - (intOf ix).toNat)
   case atStart=>exact ⟨0,by omega,rfl,fun i _ _ h=>by omega,Below.refl _ _⟩
   case round=>
     obtain ⟨j,hj,rfl,hso,hbel⟩:=hrel
     have hws:=hbel.size
     by_cases hlt:j<l.length
     · have hltm:j<m.length:=by have:=HLEN.out; omega
       have hl1:TyR.Sl (· < w.heap.size) wr l (.slice A l.length c):=HL.out.keep (fun _ h=>h) (fun p hp=>hbel.cell hp)
       have hm1:TyR.Sl (· < w.heap.size) wr m (.slice B m.length d):=HM.out.keep (fun _ h=>h) (fun p hp=>hbel.cell hp)
       obtain ⟨a,rfl,ha,hat⟩:=hl1.get j hlt
       obtain ⟨a',rfl,ha',hat'⟩:=hm1.get j hltm
       obtain ⟨A1,c1,q0,q1,hx⟩:=at_ty hat
       obtain ⟨B1,d1,r0,r1,hy⟩:=at_ty hat'
       simp only [show TyR.n=2 from rfl] at q0 q1 r0 r1
       have r0':=fun o=>(World.cell?_alloc_lt wr o (a'.add (j * 2)) (by rw [add_block]; have:a'.block<w.heap.size:=ha'; omega)).trans r0
       have r1':=fun o=>(World.cell?_alloc_lt wr o ⟨(a'.add (j * 2)).block,(a'.add (j * 2)).off+1,none⟩ (by show (a'.add (j * 2)).block<_; rw [add_block]; have:a'.block<w.heap.size:=ha'; omega)).trans r1
       have HX:=Lib.hid hx
       have HY:=Lib.hid hy
       have HSO:=Lib.hid hso
       have hnj:=nodesAll_get l j hlt
       clear hl1 hm1 hat hat' hx hy r0 r1 hso
       go_wp2_with fail
       obtain ⟨b1,z1,k1⟩:=new_blk hbel hws #[.int .i64 l[j].kind,.slice A1 l[j].args.length c1] 30
       have hbx:=below_box wr (Obj.cells #[.int .i64 l[j].kind,.slice A1 l[j].args.length c1] 30)
       clear r0' r1'
       generalize wr.alloc (Obj.cells #[.int .i64 l[j].kind,.slice A1 l[j].args.length c1] 30)=W1 at b1 z1 k1 hbx ⊢
       obtain ⟨b2,z2,k2⟩:=new_blk b1 b1.size #[.int .i64 m[j].kind,.slice B1 m[j].args.length d1] 30
       have hby:=hbx.alloc hbx.size (Obj.cells #[.int .i64 m[j].kind,.slice B1 m[j].args.length d1] 30)
       have k1:=k1.alloc (Obj.cells #[.int .i64 m[j].kind,.slice B1 m[j].args.length d1] 30)
       generalize W1.alloc (Obj.cells #[.int .i64 m[j].kind,.slice B1 m[j].args.length d1] 30)=W2 at b2 z2 k1 k2 hby ⊢
       have hx2:IsTy (· < W2.heap.size) W2 l[j] (.agg #[.int .i64 l[j].kind,.slice A1 l[j].args.length c1]):=IsTy.keep (fun b h=>by have:b<w.heap.size:=h; omega) (fun p hp=>hby.cell (by have:p.block<w.heap.size:=hp; omega)) _ HX.out
       have hy2:IsTy (· < W2.heap.size) W2 m[j] (.agg #[.int .i64 m[j].kind,.slice B1 m[j].args.length d1]):=IsTy.keep (fun b h=>by have:b<w.heap.size:=h; omega) (fun p hp=>hby.cell (by have:p.block<w.heap.size:=hp; omega)) _ HY.out
       have HXY:=Lib.hid (And.intro hx2 hy2)
       clear hx2 hy2
       by_cases hs:l[j].same m[j]=true
       · have HS:=Lib.hid hs
         clear hs
         refine (same_is true HS.out (by omega) HXY.out.1 HXY.out.2).mono ?_
         rintro e w3 ⟨rfl,hb3⟩
         go_wp2_with fail
         refine ⟨⟨j+1,by omega,by go_num,?_,b2.trans (hb3.mono b2.size)⟩,by simp [intOf]; omega⟩
         intro i hi hm hij
         by_cases e:i=j
         · subst e; exact HS.out
         · exact HSO.out i hi hm (by omega)
       · have hs':l[j].same m[j]=false:=by simpa using hs
         have HS:=Lib.hid hs'
         clear hs hs'
         refine (same_is false HS.out (by omega) HXY.out.1 HXY.out.2).mono ?_
         rintro e w3 ⟨rfl,hb3⟩
         go_wp2_with fail
         go_ret
         have hf:sameAll l m=false:=by
           cases h:sameAll l m with
           | false=>rfl
           | true=>have:=sameAll_at j hlt hltm h; rw [HS.out] at this; cases this
         exact ⟨by rw [hf]; rfl,b2.trans (hb3.mono b2.size)⟩
     · have hjl:j=l.length:=by omega
       subst hjl
       have HSO:=Lib.hid hso
       clear hso
       go_wp2_with fail
       go_ret
       exact ⟨by rw [sameAll_of HLEN.out (fun i hi hm=>HSO.out i hi hm hi)]; rfl,hbel⟩
 · have e1:((l.length:Int) != (m.length:Int))=true:=by rw [bne_iff_ne]; omega
   have hf:sameAll l m=false:=by
     cases h:sameAll l m with
     | false=>rfl
     | true=>exact absurd (sameAll_len h) hlen
   rw [hf]
   go_enter Tryz.func301,Tryz.ntmps301
   go_wp2_with fail
   go_ret
   exact ⟨rfl,Below.refl _ _⟩
end Go.Proofs.YtipfnkajdooiiaaGreatDoor
namespace Go.Proofs.YtipfnkajdooiiaaGreatDoor
open Go.RowKit

def nodeTy (k:Int) (T:Ty) (ps:List Ty):Except Int Ty:=
 if k=2 then match ps with
   | [b]=>if (tyFun T b).nodes≤64 then .ok (tyFun T b) else .error 4
   | _=>.error 7
 else if k=3 then match ps with
   | [.mk 4 [s,u],a]=>if s.same a=true then .ok u else .error 7
   | _=>.error 7
 else if k=10 then if (Ty.mk 3 ps).nodes≤64 then .ok (.mk 3 ps) else .error 4
 else if k=11 then match ps with
   | [.mk 3 [a,_]]=>.ok a
   | _=>.error 7
 else if k=12 then match ps with
   | [.mk 3 [_,b]]=>.ok b
   | _=>.error 7
 else if sameAll ps (argTys k T)=true then .ok (ownTy k T) else .error 7

/-- What a call that returns a type or an error comes to. -/
def GivesTy (S:Nat→Prop) (r:Except Int Ty) (w:World) (e:Ending) (w':World):Prop:=
 Below w.heap.size w w'∧match r with
   | .ok U=>∃ v,e=.returned (.tuple #[v,.int .i64 0])∧IsTy (fun b=>(S b∨w.heap.size≤b)∧b<w'.heap.size) w' U v
   | .error c=>e=.returned (.tuple #[.agg #[.int .i64 0,.slice none 0 0],.int .i64 c])

theorem box52_facts (w:World) (x0 x1 x2 x3 x4:Value):∃ W,W=(w.alloc (Obj.cells #[x0,x1,x2,x3,x4] 42)).alloc (Obj.cells #[.int .i64 0,.slice none 0 0] 30) ∧
   Below w.heap.size w W∧W.heap.size=w.heap.size+2∧Blk W w.heap.size 42 #[x0,x1,x2,x3,x4]∧Blk W (w.heap.size+1) 30 #[.int .i64 0,.slice none 0 0]:=by
 obtain ⟨b1,z1,k1⟩:=new_blk (Below.refl w.heap.size w) (Nat.le_refl _) #[x0,x1,x2,x3,x4] 42
 generalize w.alloc (Obj.cells #[x0,x1,x2,x3,x4] 42)=W1 at b1 z1 k1 ⊢
 obtain ⟨b2,z2,k2⟩:=new_blk b1 b1.size #[.int .i64 0,.slice none 0 0] 30
 have k1:=k1.alloc (Obj.cells #[.int .i64 0,.slice none 0 0] 30)
 rw [z1] at k2
 exact ⟨_,rfl,b2,by omega,k1,k2⟩

/-- The result is stored, and the call ends: a type. -/
theorem gives_ok {S:Nat→Prop} {w w3:World} {U:Ty} {x y:Value} {r:Except Int Ty} (hr:r=.ok U) (hS:∀ b,S b→b<w.heap.size) (hb:Below w.heap.size w w3) (_hz:w.heap.size+2≤w3.heap.size)
   (hU:IsTy (fun b=>(S b∨w.heap.size+2≤b)∧b<w3.heap.size) w3 U (.agg #[x,y])) :
   GivesTy S r w (.returned (.tuple #[.agg #[x,y],.int .i64 0])) ((w3.setCell ⟨w.heap.size+1,0,none⟩ x).setCell ⟨w.heap.size+1,1,none⟩ y):=by
 have hg:=only_set2 w3 (w.heap.size+1) x y
 subst hr
 refine ⟨hb.grown hg hb.size (fun k e=>by cases e; omega),_,rfl,IsTy.keep (fun b h=>⟨h.1.imp id (fun h=>by omega),Nat.lt_of_lt_of_le h.2 hg.size⟩) (fun p hp=>World.cell?_of_block (hg.block p.block hp.2 (fun e=>?_))) _ hU⟩
 have e':p.block=w.heap.size+1:=by simpa using e
 rcases hp.1 with h | h
 · have:=hS _ h; omega
 · omega
theorem gives_err {S:Nat→Prop} {w w3:World} {c:Int} {x y:Value} {r:Except Int Ty} (hr:r=.error c) (hb:Below w.heap.size w w3) :
   GivesTy S r w (.returned (.tuple #[.agg #[.int .i64 0,.slice none 0 0],.int .i64 c])) ((w3.setCell ⟨w.heap.size+1,0,none⟩ x).setCell ⟨w.heap.size+1,1,none⟩ y):=by
 have hg:=only_set2 w3 (w.heap.size+1) x y
 subst hr
 exact ⟨hb.grown hg hb.size (fun k e=>by cases e; omega),rfl⟩

theorem argTys_len (k:Int) (T:Ty):(argTys k T).length≤400000:=by
 unfold argTys
 by_cases h5:k=5
 · simp [h5]
 by_cases h8:k=8
 · simp [h8]
 by_cases h6:k=6
 · simp [h6]
 by_cases h9:k=9
 · simp [h9]
 · simp [h5,h8,h6,h9]
theorem box3_facts (w:World) (o1:Obj) (cs:Array Value) (o3:Obj):Below w.heap.size w (((w.alloc o1).alloc (.cells cs 30)).alloc o3)∧(((w.alloc o1).alloc (.cells cs 30)).alloc o3).heap.size=w.heap.size+3 ∧
   Blk (((w.alloc o1).alloc (.cells cs 30)).alloc o3) (w.heap.size+1) 30 cs:=by
 refine ⟨((below_box w o1).alloc (by simp) _).alloc (by simp; omega) _,by simp,?_⟩
 have:=(Blk.new (w.alloc o1) 30 cs).alloc o3
 simpa using this
theorem kind_mk (k:Int) (l:List Ty):(Ty.mk k l).kind=k:=rfl
theorem args_mk (k:Int) (l:List Ty):(Ty.mk k l).args=l:=rfl
set_option maxRecDepth 100000 in
set_option maxHeartbeats 4000000 in
/-- Nodes whose parts have given types. -/
theorem nodeType_given (S:Nat→Prop) (k i:Int) (T:Ty) (l:List Tm) (ps:List Ty) (v s:Value) (w:World) (hS:∀ b,S b→b<w.heap.size) (hT:IsTm S w (.mk k i T l) v) (hl:TyR.Sl S w ps s)
   (hsz:nodesAll ps≤400000) (_hTs:T.nodes≤30000) (hk:k≠2∧k≠3∧k≠10∧k≠11∧k≠12) :
   Calls Tryz.prog 272 #[v,s] w (GivesTy S (nodeTy k T ps) w):=by
 obtain ⟨B,d,A,c,rfl,hty,_⟩:=hT.mk_parts
 obtain ⟨A0,c0,rfl⟩:=hl.form
 obtain ⟨W,hW,hb,hz,k0,k1⟩:=box52_facts w (.int .i64 k) (.int .i64 i) (.int .i64 T.kind) (.slice B T.args.length d) (.slice A l.length c)
 have hTW:IsTm S W (.mk k i T l) (.agg #[.int .i64 k,.int .i64 i,.int .i64 T.kind,.slice B T.args.length d,.slice A l.length c]):=IsTm.keep (fun _ h=>h) (fun p hp=>hb.cell (hS _ hp)) _ hT
 have hlW:TyR.Sl S W ps (.slice A0 ps.length c0):=hl.keep (fun _ h=>h) (fun p hp=>hb.cell (hS _ hp))
 obtain ⟨e2,e3,e10,e11,e12⟩:(k == 2)=false∧(k == 3)=false∧(k == 10)=false∧(k == 11)=false∧(k == 12)=false:=by
   obtain ⟨h1,h2,h3,h4,h5⟩:=hk
   simp [h1,h2,h3,h4,h5]
 have hr:nodeTy k T ps=if sameAll ps (argTys k T)=true then .ok (ownTy k T) else .error 7:=by
   obtain ⟨h1,h2,h3,h4,h5⟩:=hk
   unfold nodeTy
   rw [if_neg h1,if_neg h2,if_neg h3,if_neg h4,if_neg h5]
 have HT:=Lib.hid hTW
 have HL:=Lib.hid hlW
 have HS:=Lib.hid hS
 have HR:=Lib.hid hr
 have HW:=Lib.hid (And.intro hb hz)
 have hSW:∀ b,S b→b<W.heap.size:=fun b h=>Nat.lt_of_lt_of_le (hS b h) hb.size
 have HSW:=Lib.hid hSW
 clear hT hl hTW hlW hty hS hk hr hb hz hSW
 obtain ⟨q0,_,q2,q3,_⟩:=k0.cells5
 go_enter Tryz.func272,Tryz.ntmps272
 go_wp2_with fail
 rw [← hW]
 refine (argTypes_in S (.mk k i T l) _ W HSW.out HT.out).mono ?_
 rintro e w1 ⟨v1,rfl,hv1,hb1⟩
 obtain ⟨A1,c1,rfl⟩:=hv1.form
 simp only [Tm.kind,Tm.type] at hv1 ⊢
 have hs1:=hb1.size
 have HV1:=Lib.hid hv1
 clear hv1
 have k0:=k0.below hb1 k0.lt
 have k1:=k1.below hb1 k1.lt
 clear q0 q2 q3
 go_wp2_with fail
 refine (equal_any ps (argTys k T) _ _ w1 hsz (argTys_len k T) (HL.out.keep (fun b h=>Nat.lt_of_lt_of_le (HSW.out b h) hs1) (fun p hp=>hb1.cell (HSW.out _ hp))) (HV1.out.keep (fun b h=>h.2) (fun _ _=>rfl))).mono ?_
 rintro e w2 ⟨rfl,hb2⟩
 have hs2:=hb2.size
 have hb02:Below W.heap.size W w2:=hb1.trans (hb2.mono hs1)
 have k0:=k0.below hb2 k0.lt
 have k1:=k1.below hb2 k1.lt
 by_cases hsame:sameAll ps (argTys k T)=true
 · have HSA:=Lib.hid hsame
   rw [hsame]
   clear hsame
   obtain ⟨q0,q1,q2,q3,q4⟩:=k0.cells5
   go_wp2_with fail
   refine (ownType_in S (.mk k i T l) _ w2 (fun b h=>Nat.lt_of_lt_of_le (HSW.out b h) (hb02.size)) (IsTm.keep (fun _ h=>h) (fun p hp=>hb02.cell (HSW.out _ hp)) _ HT.out)).mono ?_
   rintro e w3 ⟨v3,rfl,hv3,hb3⟩
   obtain ⟨A3,c3,rfl⟩:=hv3.form
   simp only [Tm.kind,Tm.type] at hv3 ⊢
   have hs3:=hb3.size
   have k1:=k1.below hb3 k1.lt
   obtain ⟨r0,r1,f0,f1⟩:=k1.facts2
   have HV3:=Lib.hid hv3
   clear hv3 q0 q1 q2 q3 q4
   go_wp2_with fail
   obtain ⟨z0,z1,_,_⟩:=(k1.set2 (.int .i64 (ownTy k T).kind) (.slice A3 (ownTy k T).args.length c3)).facts2
   refine bodyPost_ret (v:=.tuple #[.agg #[.int .i64 (ownTy k T).kind,.slice A3 (ownTy k T).args.length c3],.int .i64 0]) (by simp [results,Tryz.results272,go_sem,z0,z1]) rfl ?_
   obtain ⟨hb,hz⟩:=HW.out
   refine gives_ok (by rw [HR.out,if_pos HSA.out]) HS.out (hb.trans ((hb02.trans (hb3.mono hb02.size)).mono hb.size)) (by omega) ?_
   exact IsTy.keep (fun b h=>⟨h.1.imp id (fun h=>by omega),h.2⟩) (fun _ _=>rfl) _ HV3.out
 · have hsame':sameAll ps (argTys k T)=false:=by simpa using hsame
   have HSA:=Lib.hid hsame
   rw [hsame']
   clear hsame hsame'
   obtain ⟨r0,r1,f0,f1⟩:=k1.facts2
   go_wp2_with fail
   obtain ⟨z0,z1,_,_⟩:=(k1.set2 (.int .i64 0) (.slice none 0 0)).facts2
   refine bodyPost_ret (v:=.tuple #[.agg #[.int .i64 0,.slice none 0 0],.int .i64 7]) (by simp [results,Tryz.results272,go_sem,z0,z1]) rfl ?_
   obtain ⟨hb,hz⟩:=HW.out
   exact gives_err (by rw [HR.out,if_neg HSA.out]) (hb.trans (hb02.mono hb.size))


set_option maxRecDepth 100000 in
set_option maxHeartbeats 4000000 in
theorem nodeType_pair (S:Nat→Prop) (i:Int) (T:Ty) (l:List Tm) (p q:Ty) (v s:Value) (w:World) (hS:∀ b,S b→b<w.heap.size) (hT:IsTm S w (.mk 10 i T l) v) (hl:TyR.Sl S w [p,q] s)
   (hp:p.err=0) (hq:q.err=0) :
   Calls Tryz.prog 272 #[v,s] w (GivesTy S (nodeTy 10 T [p,q]) w):=by
 obtain ⟨B,d,A,c,rfl,hty,_⟩:=hT.mk_parts
 obtain ⟨A0,c0,rfl⟩:=hl.form
 obtain ⟨W,hW,hb,hz,k0,k1⟩:=box52_facts w (.int .i64 10) (.int .i64 i) (.int .i64 T.kind) (.slice B T.args.length d) (.slice A l.length c)
 have hTW:IsTy S W T (.agg #[.int .i64 T.kind,.slice B T.args.length d]):=IsTy.keep (fun _ h=>h) (fun p hp=>hb.cell (hS _ hp)) _ hty
 have hlW:TyR.Sl S W [p,q] (.slice A0 2 c0):=hl.keep (fun _ h=>h) (fun p hp=>hb.cell (hS _ hp))
 have hSW:∀ b,S b→b<W.heap.size:=fun b h=>Nat.lt_of_lt_of_le (hS b h) hb.size
 have HSW:=Lib.hid hSW
 have HT:=Lib.hid hTW
 have HL:=Lib.hid hlW
 have HS:=Lib.hid hS
 have HW:=Lib.hid (And.intro hb hz)
 obtain ⟨p1,p2⟩:=err_zero.1 hp
 obtain ⟨q1,q2⟩:=err_zero.1 hq
 have he:(Ty.mk 3 [p,q]).err=if (Ty.mk 3 [p,q]).nodes≤64 then 0 else 4:=by
   unfold Ty.err
   rw [if_pos (by simp [Ty.ok,okAll,p1,q1])]
 have hr:nodeTy 10 T [p,q]=if (Ty.mk 3 [p,q]).nodes≤64 then .ok (.mk 3 [p,q]) else .error 4:=rfl
 have HE:=Lib.hid (And.intro he hr)
 have hsz:nodesAll [p,q]≤99999:=by simp only [nodesAll]; omega
 clear hT hl hTW hlW hty hS hb hz hSW he hr hp hq
 go_enter Tryz.func272,Tryz.ntmps272
 go_wp2_with fail
 rw [← hW]
 refine (pairType_in S [p,q] _ W HSW.out hsz HL.out).mono ?_
 rintro e w1 ⟨hb1,h1⟩
 have k1:=k1.below hb1 k1.lt
 obtain ⟨r0,r1,f0,f1⟩:=k1.facts2
 obtain ⟨hb,hz⟩:=HW.out
 have hs1:=hb1.size
 have HB:=Lib.hid (And.intro hb hz)
 clear hb hz
 by_cases hn:(Ty.mk 3 [p,q]).nodes≤64
 · have e0:(Ty.mk 3 [p,q]).err=0:=by rw [HE.out.1,if_pos hn]
   rw [if_pos e0] at h1
   obtain ⟨v1,rfl,hv1⟩:=h1
   obtain ⟨A1,c1,rfl⟩:=hv1.form2
   have HV:=Lib.hid hv1
   have HN:=Lib.hid hn
   clear hv1 hn e0
   go_wp2_with fail
   obtain ⟨z0,z1,_,_⟩:=(k1.set2 (.int .i64 3) (.slice A1 2 c1)).facts2
   refine bodyPost_ret (v:=.tuple #[.agg #[.int .i64 3,.slice A1 2 c1],.int .i64 0]) (by simp [results,Tryz.results272,go_sem,z0,z1]) rfl ?_
   obtain ⟨hb,hz⟩:=HB.out
   exact gives_ok (by rw [HE.out.2,if_pos HN.out]) HS.out (hb.trans (hb1.mono hb.size)) (by omega) (IsTy.keep (fun b h=>⟨.inl h.1,h.2⟩) (fun _ _=>rfl) _ HV.out)
 · have e0:(Ty.mk 3 [p,q]).err=4:=by rw [HE.out.1,if_neg hn]
   rw [if_neg (by rw [e0]; decide),e0] at h1
   subst h1
   have HN:=Lib.hid hn
   clear hn e0
   go_wp2_with fail
   obtain ⟨z0,z1,_,_⟩:=(k1.set2 (.int .i64 0) (.slice none 0 0)).facts2
   refine bodyPost_ret (v:=.tuple #[.agg #[.int .i64 0,.slice none 0 0],.int .i64 4]) (by simp [results,Tryz.results272,go_sem,z0,z1]) rfl ?_
   obtain ⟨hb,hz⟩:=HB.out
   exact gives_err (by rw [HE.out.2,if_neg HN.out]) (hb.trans (hb1.mono hb.size))

set_option maxRecDepth 100000 in
set_option maxHeartbeats 4000000 in
theorem nodeType_fst (S:Nat→Prop) (i:Int) (T:Ty) (l:List Tm) (p:Ty) (v s:Value) (w:World) (hS:∀ b,S b→b<w.heap.size) (hT:IsTm S w (.mk 11 i T l) v) (hl:TyR.Sl S w [p] s) (hp:p.err=0) :
   Calls Tryz.prog 272 #[v,s] w (GivesTy S (nodeTy 11 T [p]) w):=by
 obtain ⟨B,d,A,c,rfl,hty,_⟩:=hT.mk_parts
 obtain ⟨A0,c0,rfl⟩:=hl.form
 obtain ⟨W,hW,hb,hz,k0,k1⟩:=box52_facts w (.int .i64 11) (.int .i64 i) (.int .i64 T.kind) (.slice B T.args.length d) (.slice A l.length c)
 have hTW:IsTy S W T (.agg #[.int .i64 T.kind,.slice B T.args.length d]):=IsTy.keep (fun _ h=>h) (fun p hp=>hb.cell (hS _ hp)) _ hty
 have hlW:TyR.Sl S W [p] (.slice A0 1 c0):=hl.keep (fun _ h=>h) (fun p hp=>hb.cell (hS _ hp))
 have hSW:∀ b,S b→b<W.heap.size:=fun b h=>Nat.lt_of_lt_of_le (hS b h) hb.size
 have HSW:=Lib.hid hSW
 have HT:=Lib.hid hTW
 have HL:=Lib.hid hlW
 have HS:=Lib.hid hS
 have HW:=Lib.hid (And.intro hb hz)
 obtain ⟨a,rfl,ha,hat⟩:=hlW.get 0 (by simp)
 rw [Nat.zero_mul,add_zero'] at hat
 obtain ⟨A1,c1,q0,q1,hx⟩:=at_ty hat
 simp only [List.getElem_cons_zero] at q0 q1 hx
 obtain ⟨p1,p2⟩:=err_zero.1 hp
 have hsW:=hb.size
 have ha':a.block<W.heap.size:=hSW _ ha
 have q0':=fun o=>(World.cell?_alloc_lt W o a ha').trans q0
 clear hT hl hTW hlW hty hS hb hz hSW hp hat
 obtain ⟨b2,z2,k2⟩:=new_blk (Below.refl W.heap.size W) (Nat.le_refl _) #[.int .i64 p.kind,.slice A1 p.args.length c1] 30
 have k1':=k1.below b2 k1.lt
 obtain ⟨f0,f1,f2,f3⟩:=k1'.facts2
 obtain ⟨g0,g1,g2,g3⟩:=k2.facts2
 by_cases h3:p.kind=3
 · rcases Ty.ok_cases p1 with ⟨kk,hkk,rfl⟩ | ⟨kk,X,Y,hkk,rfl,hX,hY⟩
   · simp only [Ty.kind] at h3; omega
   · simp only [Ty.kind] at h3
     subst h3
     simp only [Ty.kind,Ty.args,List.length_cons,List.length_nil,Nat.reduceAdd] at q0 q1 hx k2 g0 g1 f0 f1 b2 z2 k1' q0' f2 f3 g2 g3
     have hx2:IsTy S (W.alloc (Obj.cells #[.int .i64 3,.slice A1 2 c1] 30)) (.mk 3 [X,Y]) (.agg #[.int .i64 3,.slice A1 2 c1]):=IsTy.keep (fun _ h=>h) (fun p hp=>World.cell?_alloc_lt _ _ _ (HSW.out _ hp)) _ hx
     obtain ⟨a2,D,d2,E,e2,rfl,ha2,r0,r1,s0,s1,gX,gY⟩:=hx2.two
     have HX:=Lib.hid gX
     have HY:=Lib.hid gY
     clear hx hx2 gX gY
     subst hW
     go_enter Tryz.func272,Tryz.ntmps272
     go_wp2_with fail
     obtain ⟨bF,zF,kF⟩:=box3_facts w (Obj.cells #[.int .i64 11,.int .i64 i,.int .i64 T.kind,.slice B T.args.length d,.slice A l.length c] 42) #[.int .i64 X.kind,.slice D X.args.length d2] (Obj.cells #[.int .i64 3,.slice (some a2) 2 c1] 30)
     obtain ⟨z0,z1,_,_⟩:=kF.facts2
     refine bodyPost_ret (v:=.tuple #[.agg #[.int .i64 X.kind,.slice D X.args.length d2],.int .i64 0]) (by simp [results,Tryz.results272,go_sem,z0,z1]) rfl ?_
     rw [show nodeTy 11 T [Ty.mk 3 [X,Y]]=.ok X from rfl]
     exact ⟨bF,_,rfl,IsTy.keep (fun b h=>⟨.inl h,Nat.lt_of_lt_of_le (HS.out b h) bF.size⟩) (fun p hp=>(bF.cell (HS.out _ hp)).trans ((((below_box _ _).alloc (by simp) _).alloc (by simp; omega) _).cell (HS.out _ hp)).symm) _ HX.out⟩
 · have e3:(p.kind == 3)=false:=by rw [beq_eq_false_iff_ne]; exact h3
   have hr:nodeTy 11 T [p]=.error 7:=by
     rcases Ty.ok_cases p1 with ⟨kk,hkk,rfl⟩ | ⟨kk,X,Y,hkk,rfl,hX,hY⟩
     · simp [nodeTy]
     · have:kk≠3:=h3
       simp [nodeTy,this]
   have HR:=Lib.hid hr
   have H3:=Lib.hid h3
   have HX:=Lib.hid hx
   clear hr h3 hx
   subst hW
   go_enter Tryz.func272,Tryz.ntmps272
   go_wp2_with fail
   obtain ⟨bF,zF,kF⟩:=box3_facts w (Obj.cells #[.int .i64 11,.int .i64 i,.int .i64 T.kind,.slice B T.args.length d,.slice A l.length c] 42) #[.int .i64 0,.slice none 0 0] (Obj.cells #[.int .i64 p.kind,.slice A1 p.args.length c1] 30)
   obtain ⟨z0,z1,_,_⟩:=kF.facts2
   refine bodyPost_ret (v:=.tuple #[.agg #[.int .i64 0,.slice none 0 0],.int .i64 7]) (by simp [results,Tryz.results272,go_sem,z0,z1]) rfl ?_
   rw [HR.out]
   exact ⟨bF,rfl⟩

set_option maxRecDepth 100000 in
set_option maxHeartbeats 4000000 in
theorem nodeType_snd (S:Nat→Prop) (i:Int) (T:Ty) (l:List Tm) (p:Ty) (v s:Value) (w:World) (hS:∀ b,S b→b<w.heap.size) (hT:IsTm S w (.mk 12 i T l) v) (hl:TyR.Sl S w [p] s) (hp:p.err=0) :
   Calls Tryz.prog 272 #[v,s] w (GivesTy S (nodeTy 12 T [p]) w):=by
 obtain ⟨B,d,A,c,rfl,hty,_⟩:=hT.mk_parts
 obtain ⟨A0,c0,rfl⟩:=hl.form
 obtain ⟨W,hW,hb,hz,k0,k1⟩:=box52_facts w (.int .i64 12) (.int .i64 i) (.int .i64 T.kind) (.slice B T.args.length d) (.slice A l.length c)
 have hTW:IsTy S W T (.agg #[.int .i64 T.kind,.slice B T.args.length d]):=IsTy.keep (fun _ h=>h) (fun p hp=>hb.cell (hS _ hp)) _ hty
 have hlW:TyR.Sl S W [p] (.slice A0 1 c0):=hl.keep (fun _ h=>h) (fun p hp=>hb.cell (hS _ hp))
 have hSW:∀ b,S b→b<W.heap.size:=fun b h=>Nat.lt_of_lt_of_le (hS b h) hb.size
 have HSW:=Lib.hid hSW
 have HT:=Lib.hid hTW
 have HL:=Lib.hid hlW
 have HS:=Lib.hid hS
 have HW:=Lib.hid (And.intro hb hz)
 obtain ⟨a,rfl,ha,hat⟩:=hlW.get 0 (by simp)
 rw [Nat.zero_mul,add_zero'] at hat
 obtain ⟨A1,c1,q0,q1,hx⟩:=at_ty hat
 simp only [List.getElem_cons_zero] at q0 q1 hx
 obtain ⟨p1,p2⟩:=err_zero.1 hp
 have hsW:=hb.size
 have ha':a.block<W.heap.size:=hSW _ ha
 have q0':=fun o=>(World.cell?_alloc_lt W o a ha').trans q0
 clear hT hl hTW hlW hty hS hb hz hSW hp hat
 obtain ⟨b2,z2,k2⟩:=new_blk (Below.refl W.heap.size W) (Nat.le_refl _) #[.int .i64 p.kind,.slice A1 p.args.length c1] 30
 have k1':=k1.below b2 k1.lt
 obtain ⟨f0,f1,f2,f3⟩:=k1'.facts2
 obtain ⟨g0,g1,g2,g3⟩:=k2.facts2
 by_cases h3:p.kind=3
 · rcases Ty.ok_cases p1 with ⟨kk,hkk,rfl⟩ | ⟨kk,X,Y,hkk,rfl,hX,hY⟩
   · simp only [Ty.kind] at h3; omega
   · simp only [Ty.kind] at h3
     subst h3
     simp only [Ty.kind,Ty.args,List.length_cons,List.length_nil,Nat.reduceAdd] at q0 q1 hx k2 g0 g1 f0 f1 b2 z2 k1' q0' f2 f3 g2 g3
     have hx2:IsTy S (W.alloc (Obj.cells #[.int .i64 3,.slice A1 2 c1] 30)) (.mk 3 [X,Y]) (.agg #[.int .i64 3,.slice A1 2 c1]):=IsTy.keep (fun _ h=>h) (fun p hp=>World.cell?_alloc_lt _ _ _ (HSW.out _ hp)) _ hx
     obtain ⟨a2,D,d2,E,e2,rfl,ha2,r0,r1,s0,s1,gX,gY⟩:=hx2.two
     have HX:=Lib.hid gX
     have HY:=Lib.hid gY
     clear hx hx2 gX gY
     subst hW
     go_enter Tryz.func272,Tryz.ntmps272
     go_wp2_with fail
     obtain ⟨bF,zF,kF⟩:=box3_facts w (Obj.cells #[.int .i64 12,.int .i64 i,.int .i64 T.kind,.slice B T.args.length d,.slice A l.length c] 42) #[.int .i64 Y.kind,.slice E Y.args.length e2] (Obj.cells #[.int .i64 3,.slice (some a2) 2 c1] 30)
     obtain ⟨z0,z1,_,_⟩:=kF.facts2
     refine bodyPost_ret (v:=.tuple #[.agg #[.int .i64 Y.kind,.slice E Y.args.length e2],.int .i64 0]) (by simp [results,Tryz.results272,go_sem,z0,z1]) rfl ?_
     rw [show nodeTy 12 T [Ty.mk 3 [X,Y]]=.ok Y from rfl]
     exact ⟨bF,_,rfl,IsTy.keep (fun b h=>⟨.inl h,Nat.lt_of_lt_of_le (HS.out b h) bF.size⟩) (fun p hp=>(bF.cell (HS.out _ hp)).trans ((((below_box _ _).alloc (by simp) _).alloc (by simp; omega) _).cell (HS.out _ hp)).symm) _ HY.out⟩
 · have e3:(p.kind == 3)=false:=by rw [beq_eq_false_iff_ne]; exact h3
   have hr:nodeTy 12 T [p]=.error 7:=by
     rcases Ty.ok_cases p1 with ⟨kk,hkk,rfl⟩ | ⟨kk,X,Y,hkk,rfl,hX,hY⟩
     · simp [nodeTy]
     · have:kk≠3:=h3
       simp [nodeTy,this]
   have HR:=Lib.hid hr
   have H3:=Lib.hid h3
   have HX:=Lib.hid hx
   clear hr h3 hx
   subst hW
   go_enter Tryz.func272,Tryz.ntmps272
   go_wp2_with fail
   obtain ⟨bF,zF,kF⟩:=box3_facts w (Obj.cells #[.int .i64 12,.int .i64 i,.int .i64 T.kind,.slice B T.args.length d,.slice A l.length c] 42) #[.int .i64 0,.slice none 0 0] (Obj.cells #[.int .i64 p.kind,.slice A1 p.args.length c1] 30)
   obtain ⟨z0,z1,_,_⟩:=kF.facts2
   refine bodyPost_ret (v:=.tuple #[.agg #[.int .i64 0,.slice none 0 0],.int .i64 7]) (by simp [results,Tryz.results272,go_sem,z0,z1]) rfl ?_
   rw [HR.out]
   exact ⟨bF,rfl⟩


theorem areIn_one {S:Nat→Prop} {W:World} {T:Ty} {x y:Value} (hS:∀ b,S b→b<W.heap.size) (h:IsTy S W T (.agg #[x,y])) :
   AreIn (fun b=>S b∨b=W.heap.size) (W.alloc (.cells #[x,y] 30)) [T] (.slice (some ⟨W.heap.size,0,none⟩) 1 1):=by
 refine ⟨_,1,rfl,fun _=>⟨_,rfl,.inr rfl,?_⟩⟩
 obtain ⟨h0,h1,_,_⟩:=(Blk.new W 30 #[x,y]).facts2
 unfold AreTys
 refine ⟨⟨x,y,h0,h1,IsTy.keep (fun b hb=>.inl hb) (fun p hp=>World.cell?_alloc_lt _ _ _ (hS _ hp)) _ h⟩,?_⟩
 unfold AreTys
 trivial

set_option maxRecDepth 100000 in
set_option maxHeartbeats 4000000 in
theorem nodeType_lam (S:Nat→Prop) (i:Int) (T:Ty) (l:List Tm) (p:Ty) (v s:Value) (w:World) (hS:∀ b,S b→b<w.heap.size) (hT:IsTm S w (.mk 2 i T l) v) (hl:TyR.Sl S w [p] s) (hp:p.err=0) (hTe:T.err=0) :
   Calls Tryz.prog 272 #[v,s] w (GivesTy S (nodeTy 2 T [p]) w):=by
 obtain ⟨B,d,A,c,rfl,hty,_⟩:=hT.mk_parts
 obtain ⟨A0,c0,rfl⟩:=hl.form
 obtain ⟨W,hW,hb,hz,k0,k1⟩:=box52_facts w (.int .i64 2) (.int .i64 i) (.int .i64 T.kind) (.slice B T.args.length d) (.slice A l.length c)
 have hTW:IsTy S W T (.agg #[.int .i64 T.kind,.slice B T.args.length d]):=IsTy.keep (fun _ h=>h) (fun p hp=>hb.cell (hS _ hp)) _ hty
 have hlW:TyR.Sl S W [p] (.slice A0 1 c0):=hl.keep (fun _ h=>h) (fun p hp=>hb.cell (hS _ hp))
 have hSW:∀ b,S b→b<W.heap.size:=fun b h=>Nat.lt_of_lt_of_le (hS b h) hb.size
 obtain ⟨a,rfl,ha,hat⟩:=hlW.get 0 (by simp)
 rw [Nat.zero_mul,add_zero'] at hat
 obtain ⟨A1,c1,r0,r1,hx⟩:=at_ty hat
 simp only [List.getElem_cons_zero] at r0 r1 hx
 obtain ⟨p1,p2⟩:=err_zero.1 hp
 obtain ⟨t1,t2⟩:=err_zero.1 hTe
 have ha':a.block<w.heap.size:=hS _ ha
 have he:funErr [T] p=if (tyFun T p).nodes≤64 then 0 else 4:=by
   unfold funErr
   simp only [errs,if_pos hTe,if_true,if_pos hp,nodesAll,List.length_cons,List.length_nil,tyFun,Ty.nodes]
   congr 1
   rw [eq_iff_iff]
   omega
 have hr:nodeTy 2 T [p]=if (tyFun T p).nodes≤64 then .ok (tyFun T p) else .error 4:=rfl
 have hsz:nodesAll [T]+p.nodes≤400000:=by simp only [nodesAll]; omega
 have HSW:=Lib.hid hSW
 have HT:=Lib.hid hTW
 have HX:=Lib.hid hx
 have HS:=Lib.hid hS
 have HW:=Lib.hid (And.intro hb hz)
 have HE:=Lib.hid (And.intro he hr)
 have HK1:=Lib.hid k1
 have HSK:=Lib.hid fun (w1:World) (h:Below (w.heap.size+1) W w1)=>And.intro h (And.intro (k0.below h (by omega)).cells5.2.2.1 (And.intro (k0.below h (by omega)).cells5.2.2.2.1
   (And.intro ((h.cell (p:=a) (by omega)).trans r0) ((h.cell (p:=⟨a.block,a.off+1,none⟩) (by show a.block<_; omega)).trans r1))))
 obtain ⟨_,q0,q1,q2,q3⟩:=HSK.out W (Below.refl _ _)
 have qk:=k0.cells5.1
 clear hT hl hTW hlW hty hS hb hz hSW hp hTe hat hx he hr r0 r1 k0 k1
 go_enter Tryz.func272,Tryz.ntmps272
 go_wp2_with fail
 rw [← hW]
 clear hW qk
 have HA:Hid (AreIn (fun b=>S b∨b=W.heap.size) (W.alloc (.cells #[.int .i64 T.kind,.slice B T.args.length d] 30)).drew [T] (.slice (some ⟨W.heap.size,0,none⟩) 1 1)):=
   Lib.hid ((areIn_one (fun b h=>HSW.out b h) HT.out).keep (fun _ h=>h) (fun p _=>World.cell?_drew _ p))
 by_cases hn:(tyFun T p).nodes≤64
 · have HN:=Lib.hid hn
   clear hn
   go_region_held3 (fun w'=>Below (w.heap.size+1) W w'∧w'.cell? ⟨w.heap.size,2,none⟩ = some (.int .i64 T.kind)∧w'.cell? ⟨w.heap.size,3,none⟩ = some (.slice B T.args.length d) ∧
       w'.cell? a=some (.int .i64 p.kind)∧w'.cell? ⟨a.block,a.off+1,none⟩ = some (.slice A1 p.args.length c1))
     (first | exact HSK.out _ (Below.refl _ _).drew | exact HSK.out _ (((Below.refl _ W).alloc (by have:=HW.out.2; omega) _).drew) | exact HSK.out _ hb1 | exact HSK.out _ ((hb1.setCell (p:=⟨w.heap.size+1,0,none⟩) (Nat.le_refl _) _).setCell (p:=⟨w.heap.size+1,1,none⟩) (Nat.le_refl _) _) | go_keep)
     (first
       | (go_at_call 299
          (with_reducible refine (function_in (fun b=>S b∨b=W.heap.size) [T] p _ (.agg #[.int .i64 p.kind,.slice A1 p.args.length c1]) _ ?_ hsz HA.out ?_).mono ?_)
          · intro b h
            rcases h with h | rfl
            · have:=HSW.out b h; simp; omega
            · simp
          · exact IsTy.keep (S:=S) (w:=W) (fun b h=>.inl h) (fun p hp=>(World.cell?_drew _ p).trans (World.cell?_alloc_lt W _ _ (HSW.out _ hp))) _ HX.out
          rintro e w1 ⟨hb1',h1⟩
          rw [if_pos (by rw [HE.out.1,if_pos HN.out])] at h1
          obtain ⟨v1,rfl,hv1⟩:=h1
          obtain ⟨A3,c3,rfl⟩:=hv1.form2
          have hb0:Below W.heap.size W w1:=((below_box W _).drew).trans (hb1'.mono (by simp))
          have hb1:Below (w.heap.size+1) W w1:=hb0.mono (by have:=HW.out.2; omega)
          obtain ⟨s0,s1,f0,f1⟩:=(HK1.out.below hb0 (by have:=HW.out.2; omega)).facts2))
   go_wp2_with fail
   have k3:=HK1.out.below hb0 (by have:=HW.out.2; omega)
   obtain ⟨z0,z1,_,_⟩:=(k3.set2 (.int .i64 4) (.slice A3 2 c3)).facts2
   refine bodyPost_ret (v:=.tuple #[.agg #[.int .i64 4,.slice A3 2 c3],.int .i64 0]) (by simp [results,Tryz.results272,go_sem,z0,z1]) rfl ?_
   obtain ⟨hb,hz⟩:=HW.out
   refine gives_ok (U:=tyFun T p) (by rw [HE.out.2,if_pos HN.out]) HS.out (hb.trans (hb0.mono hb.size)) (by have:=hb0.size; omega) ?_
   refine IsTy.keep (fun b h=>⟨?_,h.2⟩) (fun _ _=>rfl) _ hv1
   rcases h.1 with (h1 | rfl) | h1
   · exact .inl h1
   · exact .inr (by omega)
   · right; simp at h1; omega
 · have HN:=Lib.hid hn
   clear hn
   go_region_held3 (fun w'=>Below (w.heap.size+1) W w'∧w'.cell? ⟨w.heap.size,2,none⟩ = some (.int .i64 T.kind)∧w'.cell? ⟨w.heap.size,3,none⟩ = some (.slice B T.args.length d) ∧
       w'.cell? a=some (.int .i64 p.kind)∧w'.cell? ⟨a.block,a.off+1,none⟩ = some (.slice A1 p.args.length c1))
     (first | exact HSK.out _ (Below.refl _ _).drew | exact HSK.out _ (((Below.refl _ W).alloc (by have:=HW.out.2; omega) _).drew) | exact HSK.out _ hb1 | exact HSK.out _ ((hb1.setCell (p:=⟨w.heap.size+1,0,none⟩) (Nat.le_refl _) _).setCell (p:=⟨w.heap.size+1,1,none⟩) (Nat.le_refl _) _) | go_keep)
     (first
       | (go_at_call 299
          (with_reducible refine (function_in (fun b=>S b∨b=W.heap.size) [T] p _ (.agg #[.int .i64 p.kind,.slice A1 p.args.length c1]) _ ?_ hsz HA.out ?_).mono ?_)
          · intro b h
            rcases h with h | rfl
            · have:=HSW.out b h; simp; omega
            · simp
          · exact IsTy.keep (S:=S) (w:=W) (fun b h=>.inl h) (fun p hp=>(World.cell?_drew _ p).trans (World.cell?_alloc_lt W _ _ (HSW.out _ hp))) _ HX.out
          rintro e w1 ⟨hb1',h1⟩
          rw [if_neg (by rw [HE.out.1,if_neg HN.out]; decide),HE.out.1,if_neg HN.out] at h1
          subst h1
          have hb0:Below W.heap.size W w1:=((below_box W _).drew).trans (hb1'.mono (by simp))
          have hb1:Below (w.heap.size+1) W w1:=hb0.mono (by have:=HW.out.2; omega)
          obtain ⟨s0,s1,f0,f1⟩:=(HK1.out.below hb0 (by have:=HW.out.2; omega)).facts2))
   go_wp2_with fail
   have k3:=HK1.out.below hb0 (by have:=HW.out.2; omega)
   obtain ⟨z0,z1,_,_⟩:=(k3.set2 (.int .i64 0) (.slice none 0 0)).facts2
   refine bodyPost_ret (v:=.tuple #[.agg #[.int .i64 0,.slice none 0 0],.int .i64 4]) (by simp [results,Tryz.results272,go_sem,z0,z1]) rfl ?_
   obtain ⟨hb,hz⟩:=HW.out
   exact gives_err (by rw [HE.out.2,if_neg HN.out]) (hb.trans (hb0.mono hb.size))

set_option maxRecDepth 100000 in
set_option maxHeartbeats 4000000 in
theorem nodeType_app (S:Nat→Prop) (i:Int) (T:Ty) (l:List Tm) (p q:Ty) (v s:Value) (w:World) (hS:∀ b,S b→b<w.heap.size) (hT:IsTm S w (.mk 3 i T l) v) (hl:TyR.Sl S w [p,q] s) (hp:p.err=0) (_hq:q.err=0) :
   Calls Tryz.prog 272 #[v,s] w (GivesTy S (nodeTy 3 T [p,q]) w):=by
 obtain ⟨B,d,A,c,rfl,hty,_⟩:=hT.mk_parts
 obtain ⟨A0,c0,rfl⟩:=hl.form
 obtain ⟨p1,p2⟩:=err_zero.1 hp
 have hraw:∀ W:World,Below w.heap.size w W→IsTy S W (.mk 0 [p,q]) (.agg #[.int .i64 0,.slice A0 2 c0]):=fun W hb=>IsTy.of_sl (hl.keep (fun _ h=>h) (fun p hp=>hb.cell (hS _ hp)))
 obtain ⟨W,hW,hb,hz,k0,k1⟩:=box52_facts w (.int .i64 3) (.int .i64 i) (.int .i64 T.kind) (.slice B T.args.length d) (.slice A l.length c)
 obtain ⟨a,A1,c1,A2,c2,rfl,ha,r0,r1,s0,s1,hx,hy⟩:=(hraw W hb).two
 have ha':a.block<w.heap.size:=hS _ ha
 have hsW:=hb.size
 obtain ⟨b2,z2,k2⟩:=new_blk hb hb.size #[.int .i64 p.kind,.slice A1 p.args.length c1] 30
 have hbW:=below_box W (Obj.cells #[.int .i64 p.kind,.slice A1 p.args.length c1] 30)
 have k1':=k1.below hbW k1.lt
 have k0':=k0.below hbW k0.lt
 have hx':IsTy S _ p _:=IsTy.keep (fun _ h=>h) (fun p hp=>hbW.cell (by have:=hS _ hp; omega)) _ hx
 have hy':IsTy S _ q _:=IsTy.keep (fun _ h=>h) (fun p hp=>hbW.cell (by have:=hS _ hp; omega)) _ hy
 have s0':=(hbW.cell (p:=⟨a.block,a.off+2,none⟩) (by show a.block<_; omega)).trans s0
 have s1':=(hbW.cell (p:=⟨a.block,a.off+2+1,none⟩) (by show a.block<_; omega)).trans s1
 have HS:=Lib.hid hS
 have HX:=Lib.hid hx'
 have HY:=Lib.hid hy'
 have zW:W.heap.size=w.heap.size+1+1:=by omega
 rw [zW] at k2
 have HW:=Lib.hid (And.intro hb (And.intro hz (And.intro hbW z2)))
 rw [hW] at r0 r1
 clear hT hl hty hS hp hraw hx hy hx' hy' s0 s1 hb hz hbW z2 zW k0 k1 b2
 by_cases h4:p.kind=4
 · rcases Ty.ok_cases p1 with ⟨kk,hkk,rfl⟩ | ⟨kk,X,Y,hkk,rfl,hX,hY⟩
   · simp only [Ty.kind] at h4; omega
   · simp only [Ty.kind] at h4
     subst h4
     have hr:nodeTy 3 T [Ty.mk 4 [X,Y],q]=if X.same q=true then .ok Y else .error 7:=rfl
     have HR:=Lib.hid hr
     clear hr
     simp only [kind_mk,args_mk,List.length_cons,List.length_nil,Nat.reduceAdd] at r0 r1 k2 k1' k0' HX HY s0' s1' HW
     obtain ⟨q0,_,_,_⟩:=k0'.cells5
     go_enter Tryz.func272,Tryz.ntmps272
     go_wp2_with fail
     rw [← hW]
     clear hW r0 r1 q0
     generalize W.alloc (Obj.cells #[.int .i64 4,.slice A1 2 c1] 30)=W2 at k0' k1' k2 HX HY s0' s1' HW ⊢
     obtain ⟨a2,D,d2,E,e2,rfl,ha2,u0,u1,v0,v1,gX,gY⟩:=HX.out.two
     obtain ⟨p0,p1',f0,f1⟩:=k2.facts2
     obtain ⟨x0,x1,g0,g1⟩:=k1'.facts2
     have HGX:=Lib.hid gX
     have HGY:=Lib.hid gY
     have HK1:=Lib.hid k1'
     have HK2:=Lib.hid k2
     have hz2:w.heap.size+3=W2.heap.size:=by have:=HW.out; omega
     have hb2:Below w.heap.size w W2:=by have:=HW.out; exact this.1.trans (this.2.2.1.mono this.1.size)
     have HZ:=Lib.hid (And.intro hz2 hb2)
     have ha2':a2.block<W2.heap.size:=by have:=HS.out _ ha2; omega
     have ha'':a.block<W2.heap.size:=by omega
     have HSK:=Lib.hid fun (w1:World) (h:Below W2.heap.size W2 w1)=>And.intro h (And.intro (k2.below h k2.lt).facts2.1 (And.intro (k2.below h k2.lt).facts2.2.1
       (And.intro ((h.cell (p:=a2) ha2').trans u0) (And.intro ((h.cell (p:=⟨a2.block,a2.off+1,none⟩) ha2').trans u1)
         (And.intro ((h.cell (p:=⟨a.block,a.off+2,none⟩) ha'').trans s0') ((h.cell (p:=⟨a.block,a.off+2+1,none⟩) ha'').trans s1'))))))
     have hXn:X.nodes≤400000:=by simp only [Ty.nodes,nodesAll] at p2; omega
     clear gX gY k0' k1' k2 hz2 hb2 HW
     have arm:∀ (b:Bool),X.same q=b→Calls Tryz.prog 236 #[.agg #[.int .i64 X.kind,.slice D X.args.length d2],.agg #[.int .i64 q.kind,.slice A2 q.args.length c2]] W2.drew
         fun e w'=>e=.returned (.bool b)∧Below W2.heap.size W2 w':=fun b hb=>by
       refine (same_is b hb hXn (IsTy.keep (fun b h=>Nat.lt_of_lt_of_le (HS.out b h) HZ.out.2.size) (fun p _=>World.cell?_drew _ p) _ HGX.out) (IsTy.keep (fun b h=>Nat.lt_of_lt_of_le (HS.out b h) HZ.out.2.size) (fun p _=>World.cell?_drew _ p) _ HY.out)).mono ?_
       rintro e w1 ⟨h1,h2⟩
       exact ⟨h1,((Below.refl _ W2).drew).trans h2⟩
     by_cases hs:X.same q=true
     · have HR2:Hid (nodeTy 3 T [Ty.mk 4 [X,Y],q]=.ok Y):=Lib.hid (by rw [HR.out,if_pos hs])
       have ARM:=Lib.hid (arm true hs)
       clear arm hs
       go_region_held3 (fun w'=>Below W2.heap.size W2 w'∧w'.cell? ⟨w.heap.size+1+1,0,none⟩ = some (.int .i64 4)∧w'.cell? ⟨w.heap.size+1+1,1,none⟩ = some (.slice (some a2) 2 c1) ∧
           w'.cell? a2=some (.int .i64 X.kind)∧w'.cell? ⟨a2.block,a2.off+1,none⟩ = some (.slice D X.args.length d2) ∧
           w'.cell? ⟨a.block,a.off+2,none⟩ = some (.int .i64 q.kind)∧w'.cell? ⟨a.block,a.off+2+1,none⟩ = some (.slice A2 q.args.length c2))
         (first | exact HSK.out _ (Below.refl _ _).drew | exact HSK.out _ hb1 | go_keep)
         (first
           | (go_at_call 236
              (with_reducible refine ARM.out.mono ?_)
              rintro e w1 ⟨rfl,hb1⟩))
       have k1:=HK1.out.below hb1 HK1.out.lt
       have k2:=HK2.out.below hb1 HK2.out.lt
       obtain ⟨p0,p1',_,_⟩:=k2.facts2
       obtain ⟨x0,x1,g0,g1⟩:=k1.facts2
       have w0:=(hb1.cell (p:=⟨a2.block,a2.off+2,none⟩) ha2').trans v0
       have w1':=(hb1.cell (p:=⟨a2.block,a2.off+2+1,none⟩) ha2').trans v1
       clear u0 u1 v0 v1
       go_wp2_with fail
       obtain ⟨z0,z1,_,_⟩:=(k1.set2 (.int .i64 Y.kind) (.slice E Y.args.length e2)).facts2
       refine bodyPost_ret (v:=.tuple #[.agg #[.int .i64 Y.kind,.slice E Y.args.length e2],.int .i64 0]) (by simp [results,Tryz.results272,go_sem,z0,z1]) rfl ?_
       obtain ⟨hz2,hb2⟩:=HZ.out
       exact gives_ok HR2.out HS.out (hb2.trans (hb1.mono hb2.size)) (by have:=hb1.size; omega) (IsTy.keep (fun b h=>⟨.inl h,by have:=HS.out b h; have:=hb1.size; omega⟩) (fun p hp=>hb1.cell (by have:=HS.out _ hp; omega)) _ HGY.out)
     · have hs':X.same q=false:=by simpa using hs
       have HR2:Hid (nodeTy 3 T [Ty.mk 4 [X,Y],q]=.error 7):=Lib.hid (by rw [HR.out,if_neg hs])
       have ARM:=Lib.hid (arm false hs')
       clear arm hs hs'
       go_region_held3 (fun w'=>Below W2.heap.size W2 w'∧w'.cell? ⟨w.heap.size+1+1,0,none⟩ = some (.int .i64 4)∧w'.cell? ⟨w.heap.size+1+1,1,none⟩ = some (.slice (some a2) 2 c1) ∧
           w'.cell? a2=some (.int .i64 X.kind)∧w'.cell? ⟨a2.block,a2.off+1,none⟩ = some (.slice D X.args.length d2) ∧
           w'.cell? ⟨a.block,a.off+2,none⟩ = some (.int .i64 q.kind)∧w'.cell? ⟨a.block,a.off+2+1,none⟩ = some (.slice A2 q.args.length c2))
         (first | exact HSK.out _ (Below.refl _ _).drew | exact HSK.out _ hb1 | go_keep)
         (first
           | (go_at_call 236
              (with_reducible refine ARM.out.mono ?_)
              rintro e w1 ⟨rfl,hb1⟩))
       have k1:=HK1.out.below hb1 HK1.out.lt
       obtain ⟨x0,x1,g0,g1⟩:=k1.facts2
       go_wp2_with fail
       obtain ⟨z0,z1,_,_⟩:=(k1.set2 (.int .i64 0) (.slice none 0 0)).facts2
       refine bodyPost_ret (v:=.tuple #[.agg #[.int .i64 0,.slice none 0 0],.int .i64 7]) (by simp [results,Tryz.results272,go_sem,z0,z1]) rfl ?_
       obtain ⟨hz2,hb2⟩:=HZ.out
       exact gives_err HR2.out (hb2.trans (hb1.mono hb2.size))
 · have e4:(p.kind == 4)=false:=by rw [beq_eq_false_iff_ne]; exact h4
   have hr:nodeTy 3 T [p,q]=.error 7:=by
     rcases Ty.ok_cases p1 with ⟨kk,hkk,rfl⟩ | ⟨kk,X,Y,hkk,rfl,hX,hY⟩
     · simp [nodeTy]
     · have:kk≠4:=h4
       simp [nodeTy,this]
   have HR:=Lib.hid hr
   obtain ⟨q0,_,_,_⟩:=k0'.cells5
   clear hr h4
   go_enter Tryz.func272,Tryz.ntmps272
   go_wp2_with fail
   rw [← hW]
   clear hW r0 r1 q0
   generalize W.alloc (Obj.cells #[.int .i64 p.kind,.slice A1 p.args.length c1] 30)=W2 at k0' k1' k2 HX HY s0' s1' HW ⊢
   obtain ⟨p0,p1',f0,f1⟩:=k2.facts2
   go_quiet (fail)
   have k1:=k1'.drewN nq
   obtain ⟨x0,x1,g0,g1⟩:=k1.facts2
   go_wp2_with fail
   obtain ⟨z0,z1,_,_⟩:=(k1.set2 (.int .i64 0) (.slice none 0 0)).facts2
   refine bodyPost_ret (v:=.tuple #[.agg #[.int .i64 0,.slice none 0 0],.int .i64 7]) (by simp [results,Tryz.results272,go_sem,z0,z1]) rfl ?_
   have hb2:Below w.heap.size w W2:=by have:=HW.out; exact this.1.trans (this.2.2.1.mono this.1.size)
   exact gives_err HR.out (below_drewN hb2 _)
end Go.Proofs.YtipfnkajdooiiaaGreatDoor
namespace Go.Proofs.YtipfnkajdooiiaaGreatDoor
open Go.RowKit

mutual
/-- The type of a term in a context, or the error. -/
def Tm.typ:Tm→List Ty→Except Int Ty
 | .mk k i T l,g=>if k=1 then (if h:i.toNat<g.length then .ok (g[g.length - 1 - i.toNat]'(by omega)) else .error 6)
     else match typAll l (if k=2 then g ++ [T] else g) with
       | .error e=>.error e
       | .ok ps=>nodeTy k T ps
def typAll:List Tm→List Ty→Except Int (List Ty)
 | [],_=>.ok []
 | t :: r,g=>match t.typ g with
   | .error e=>.error e
   | .ok u=>match typAll r g with
     | .error e=>.error e
     | .ok us=>.ok (u :: us)
end

theorem typAll_snoc:∀ {l:List Tm} {t:Tm} {g ps:List Ty} {u:Ty},typAll l g=.ok ps→t.typ g=.ok u→typAll (l ++ [t]) g=.ok (ps ++ [u])
 | [],t,g,ps,u,h,hu=>by
   simp only [typAll,Except.ok.injEq] at h
   subst h
   simp [typAll,hu]
 | x :: r,t,g,ps,u,h,hu=>by
   simp only [typAll,List.cons_append] at h ⊢
   cases hx:x.typ g with
   | error e=>rw [hx] at h; cases h
   | ok y=>
     rw [hx] at h
     simp only at h ⊢
     cases hr:typAll r g with
     | error e=>rw [hr] at h; cases h
     | ok us=>
       rw [hr] at h
       simp only [Except.ok.injEq] at h
       subst h
       rw [typAll_snoc hr hu]
       rfl
theorem typAll_stop:∀ {l m:List Tm} {t:Tm} {g ps:List Ty} {e:Int},typAll l g=.ok ps→t.typ g=.error e→typAll (l ++ t :: m) g=.error e
 | [],m,t,g,ps,e,h,hu=>by simp [typAll,hu]
 | x :: r,m,t,g,ps,e,h,hu=>by
   simp only [typAll,List.cons_append] at h ⊢
   cases hx:x.typ g with
   | error e=>rw [hx] at h; cases h
   | ok y=>
     rw [hx] at h
     simp only at h ⊢
     cases hr:typAll r g with
     | error e=>rw [hr] at h; cases h
     | ok us=>
       rw [typAll_stop hr hu]
theorem typAll_len:∀ {l:List Tm} {g ps:List Ty},typAll l g=.ok ps→ps.length=l.length
 | [],g,ps,h=>by simp only [typAll,Except.ok.injEq] at h; subst h; rfl
 | x :: r,g,ps,h=>by
   simp only [typAll] at h
   cases hx:x.typ g with
   | error e=>rw [hx] at h; cases h
   | ok y=>
     rw [hx] at h
     simp only at h
     cases hr:typAll r g with
     | error e=>rw [hr] at h; cases h
     | ok us=>
       rw [hr] at h
       simp only [Except.ok.injEq] at h
       subst h
       simp [typAll_len hr]

/-- What formed says of the kinds. -/
theorem formed_kind {t:Tm} (h:t.formed=true):1≤t.kind∧t.kind≤13∧t.args.length=arities.getD t.kind.toNat 0∧0≤t.index∧(t.kind=1∨t.index=0) ∧
   ((t.kind=2∨t.kind=6∨t.kind=9)→t.type.err=0)∧(¬ (t.kind=2∨t.kind=6∨t.kind=9)→t.type.kind=0∧t.type.args.length=0):=by
 simp only [Tm.formed,Bool.and_eq_true,decide_eq_true_eq,beq_iff_eq,Bool.or_eq_true] at h
 obtain ⟨⟨⟨⟨⟨h1,h2⟩,h3⟩,h4⟩,h5⟩,h6⟩:=h
 refine ⟨h1,h2,h3,h4,h5,fun hk=>?_,fun hk=>?_⟩
 · rw [if_pos hk] at h6; simpa using h6
 · rw [if_neg hk] at h6; simpa using h6

theorem err_small {T:Ty} (h:T.err=0):T.nodes≤64:=(err_zero.1 h).2
theorem nodeTy_err {k:Int} {T:Ty} {ps:List Ty} {U:Ty} (hT:(k=2∨k=6∨k=9)→T.err=0) (hk:2≤k∧k≤13) (hl:ps.length=arities.getD k.toNat 0) (hp:∀ p ∈ ps,p.err=0) (h:nodeTy k T ps=.ok U):U.err=0:=by
 unfold nodeTy at h
 by_cases h2:k=2
 · subst h2
   rw [if_pos rfl] at h
   match ps,hl,hp,h with
   | [b],_,hp,h=>
     simp only at h
     split at h
     · rename_i hn
       cases h
       have hb:=err_zero.1 (hp b (by simp))
       have ht:=err_zero.1 (hT (.inl rfl))
       exact err_zero.2 ⟨by simp [tyFun,Ty.ok,okAll,hb.1,ht.1],hn⟩
     · cases h
 rw [if_neg h2] at h
 by_cases h3:k=3
 · subst h3
   rw [if_pos rfl] at h
   match ps,hl,hp,h with
   | [f,a],_,hp,h=>
     have hf:=err_zero.1 (hp f (by simp))
     rcases Ty.ok_cases hf.1 with ⟨kk,hkk,rfl⟩ | ⟨kk,X,Y,hkk,rfl,hX,hY⟩
     · simp at h
     · by_cases e4:kk=4
       · subst e4
         simp only at h
         split at h
         · cases h
           have:=hf.2
           simp only [Ty.nodes,nodesAll] at this
           exact err_zero.2 ⟨hY,by omega⟩
         · cases h
       · simp [e4] at h
 rw [if_neg h3] at h
 by_cases h10:k=10
 · subst h10
   rw [if_pos rfl] at h
   match ps,hl,hp,h with
   | [a,b],_,hp,h=>
     split at h
     · rename_i hn
       cases h
       have ha:=err_zero.1 (hp a (by simp))
       have hb:=err_zero.1 (hp b (by simp))
       exact err_zero.2 ⟨by simp [Ty.ok,okAll,ha.1,hb.1],hn⟩
     · cases h
 rw [if_neg h10] at h
 by_cases h11:k=11
 · subst h11
   rw [if_pos rfl] at h
   match ps,hl,hp,h with
   | [f],_,hp,h=>
     have hf:=err_zero.1 (hp f (by simp))
     rcases Ty.ok_cases hf.1 with ⟨kk,hkk,rfl⟩ | ⟨kk,X,Y,hkk,rfl,hX,hY⟩
     · simp at h
     · by_cases e4:kk=3
       · subst e4
         simp only at h
         cases h
         have:=hf.2
         simp only [Ty.nodes,nodesAll] at this
         exact err_zero.2 ⟨hX,by omega⟩
       · simp [e4] at h
 rw [if_neg h11] at h
 by_cases h12:k=12
 · subst h12
   rw [if_pos rfl] at h
   match ps,hl,hp,h with
   | [f],_,hp,h=>
     have hf:=err_zero.1 (hp f (by simp))
     rcases Ty.ok_cases hf.1 with ⟨kk,hkk,rfl⟩ | ⟨kk,X,Y,hkk,rfl,hX,hY⟩
     · simp at h
     · by_cases e4:kk=3
       · subst e4
         simp only at h
         cases h
         have:=hf.2
         simp only [Ty.nodes,nodesAll] at this
         exact err_zero.2 ⟨hY,by omega⟩
       · simp [e4] at h
 rw [if_neg h12] at h
 split at h
 · cases h
   unfold ownTy
   split
   · decide
   · split
     · decide
     · split
       · decide
       · exact hT (by omega)
 · cases h

mutual
theorem typ_err:∀ (t:Tm) (g:List Ty) {U:Ty},t.ok=true→(∀ T ∈ g,T.err=0)→t.typ g=.ok U→U.err=0
 | .mk k i T l,g,U,hok,hg,h=>by
   rw [Tm.ok,Bool.and_eq_true] at hok
   obtain ⟨f1,f2,f3,f4,f5,f6,f7⟩:=formed_kind hok.1
   simp only [Tm.kind,Tm.index,Tm.type,Tm.args] at f1 f2 f3 f4 f5 f6 f7
   unfold Tm.typ at h
   by_cases h1:k=1
   · rw [if_pos h1] at h
     split at h
     · cases h
       exact hg _ (List.getElem_mem _)
     · cases h
   · rw [if_neg h1] at h
     have hg':∀ T' ∈ (if k=2 then g ++ [T] else g),T'.err=0:=by
       intro T' hT'
       by_cases h2:k=2
       · rw [if_pos h2] at hT'
         rcases List.mem_append.1 hT' with h3 | h3
         · exact hg _ h3
         · simp at h3; subst h3; exact f6 (.inl h2)
       · rw [if_neg h2] at hT'; exact hg _ hT'
     generalize hgg:(if k=2 then g ++ [T] else g)=g' at h hg'
     cases hps:typAll l g' with
     | error e=>rw [hps] at h; cases h
     | ok ps=>
       rw [hps] at h
       exact nodeTy_err f6 (by omega) (by rw [typAll_len hps]; exact f3) (typAll_err l g' hok.2 hg' hps) h
theorem typAll_err:∀ (l:List Tm) (g:List Ty) {ps:List Ty},okAllT l=true→(∀ T ∈ g,T.err=0)→typAll l g=.ok ps→∀ p ∈ ps,p.err=0
 | [],g,ps,_,_,h=>by simp only [typAll,Except.ok.injEq] at h; subst h; intro p hp; simp at hp
 | t :: r,g,ps,hok,hg,h=>by
   simp only [okAllT,Bool.and_eq_true] at hok
   simp only [typAll] at h
   cases hx:t.typ g with
   | error e=>rw [hx] at h; cases h
   | ok y=>
     rw [hx] at h
     simp only at h
     cases hr:typAll r g with
     | error e=>rw [hr] at h; cases h
     | ok us=>
       rw [hr] at h
       simp only [Except.ok.injEq] at h
       subst h
       intro p hp
       simp at hp
       rcases hp with rfl | hp
       · exact typ_err t g hok.1 hg hx
       · exact typAll_err r g hok.2 hg hr p hp
end

theorem nodeTy_code {k:Int} {T:Ty} {ps:List Ty} {e:Int} (h:nodeTy k T ps=.error e):e=4∨e=6∨e=7:=by
 unfold nodeTy at h
 split at h
 · split at h
   · split at h <;> cases h
     simp
   · cases h; simp
 split at h
 · split at h
   · split at h <;> cases h
     simp
   · cases h; simp
 split at h
 · split at h <;> cases h
   simp
 split at h
 · split at h <;> cases h
   simp
 split at h
 · split at h <;> cases h
   simp
 split at h <;> cases h
 simp
mutual
theorem typ_code:∀ (t:Tm) (g:List Ty) {e:Int},t.typ g=.error e→e=4∨e=6∨e=7
 | .mk k i T l,g,e,h=>by
   unfold Tm.typ at h
   split at h
   · split at h <;> cases h
     simp
   · generalize (if k=2 then g ++ [T] else g)=g' at h
     cases hps:typAll l g' with
     | error x=>rw [hps] at h; cases h; exact typAll_code l g' hps
     | ok ps=>rw [hps] at h; exact nodeTy_code h
theorem typAll_code:∀ (l:List Tm) (g:List Ty) {e:Int},typAll l g=.error e→e=4∨e=6∨e=7
 | [],g,e,h=>by simp [typAll] at h
 | t :: r,g,e,h=>by
   simp only [typAll] at h
   cases hx:t.typ g with
   | error x=>rw [hx] at h; cases h; exact typ_code t g hx
   | ok y=>
     rw [hx] at h
     simp only at h
     cases hr:typAll r g with
     | error x=>rw [hr] at h; cases h; exact typAll_code r g hr
     | ok us=>rw [hr] at h; cases h
end
theorem typ_node {k i:Int} {T:Ty} {l:List Tm} {g g' ps:List Ty} (hk:k≠1) (hg:g' = if k=2 then g ++ [T] else g) (h:typAll l g' = .ok ps):(Tm.mk k i T l).typ g=nodeTy k T ps:=by
 unfold Tm.typ
 rw [if_neg hk,← hg,h]
theorem typ_stop {k i:Int} {T:Ty} {l:List Tm} {g g':List Ty} {e:Int} (hk:k≠1) (hg:g' = if k=2 then g ++ [T] else g) (h:typAll l g' = .error e):(Tm.mk k i T l).typ g=.error e:=by
 unfold Tm.typ
 rw [if_neg hk,← hg,h]

theorem nodesAll_err:∀ {ps:List Ty},(∀ p ∈ ps,p.err=0)→nodesAll ps≤64 * ps.length
 | [],_=>by simp [nodesAll]
 | p :: r,h=>by
   have h1:=err_small (h p (by simp))
   have h2:=nodesAll_err (ps:=r) (fun q hq=>h q (by simp [hq]))
   simp only [nodesAll,List.length_cons]
   omega

/-- All nodes but variables. -/
theorem nodeType_in (S:Nat→Prop) (k i:Int) (T:Ty) (l:List Tm) (ps:List Ty) (v s:Value) (w:World) (hS:∀ b,S b→b<w.heap.size) (hT:IsTm S w (.mk k i T l) v) (hl:TyR.Sl S w ps s) (hf:(Tm.mk k i T l).formed=true) (hk:k≠1)
   (hps:ps.length=l.length) (hp:∀ p ∈ ps,p.err=0):Calls Tryz.prog 272 #[v,s] w (GivesTy S (nodeTy k T ps) w):=by
 obtain ⟨f1,f2,f3,f4,f5,f6,f7⟩:=formed_kind hf
 simp only [Tm.kind,Tm.index,Tm.type,Tm.args] at f1 f2 f3 f4 f5 f6 f7
 rw [f3] at hps
 by_cases h2:k=2
 · subst h2
   match ps,hps,hp,hl with
   | [p],_,hp,hl=>exact nodeType_lam S i T l p v s w hS hT hl (hp p (by simp)) (f6 (.inl rfl))
 by_cases h3:k=3
 · subst h3
   match ps,hps,hp,hl with
   | [p,q],_,hp,hl=>exact nodeType_app S i T l p q v s w hS hT hl (hp p (by simp)) (hp q (by simp))
 by_cases h10:k=10
 · subst h10
   match ps,hps,hp,hl with
   | [p,q],_,hp,hl=>exact nodeType_pair S i T l p q v s w hS hT hl (hp p (by simp)) (hp q (by simp))
 by_cases h11:k=11
 · subst h11
   match ps,hps,hp,hl with
   | [p],_,hp,hl=>exact nodeType_fst S i T l p v s w hS hT hl (hp p (by simp))
 by_cases h12:k=12
 · subst h12
   match ps,hps,hp,hl with
   | [p],_,hp,hl=>exact nodeType_snd S i T l p v s w hS hT hl (hp p (by simp))
 refine nodeType_given S k i T l ps v s w hS hT hl ?_ ?_ ⟨h2,h3,h10,h11,h12⟩
 · have h:=nodesAll_err hp
   have:ps.length≤3:=by
     rw [hps]
     have hks:k=4∨k=5∨k=6∨k=7∨k=8∨k=9∨k=13:=by omega
     rcases hks with rfl | rfl | rfl | rfl | rfl | rfl | rfl <;> decide
   omega
 · by_cases h:k=2∨k=6∨k=9
   · have:=err_small (f6 h); omega
   · obtain ⟨_,h2⟩:=f7 h
     cases T with
     | mk kk ll=>
       have:ll=[]:=List.eq_nil_of_length_eq_zero h2
       subst this
       simp [Ty.nodes,nodesAll]
end Go.Proofs.YtipfnkajdooiiaaGreatDoor
namespace Go.Proofs.YtipfnkajdooiiaaGreatDoor
open Go.RowKit

/-- The context's own cells stand. -/
def Still (base:Nat) (c:Value) (n:Nat) (w w':World):Prop:=∀ xs,w.ownsRow base 30 2 c n xs→w'.ownsRow base 30 2 c n xs

def TypeOfR (S:Nat→Prop) (base:Nat) (c:Value) (g:List Ty) (t:Tm) (w:World) (e:Ending) (w':World):Prop:=
 w.grownBy w' c.ownBlock∧Still base c g.length w w'∧match t.typ g with
   | .ok U=>∃ v,e=.returned (.tuple #[v,.int .i64 0])∧IsTy (fun b=>(S b∨w.heap.size≤b)∧b<w'.heap.size) w' U v
   | .error k=>e=.returned (.tuple #[.agg #[.int .i64 0,.slice none 0 0],.int .i64 k])

theorem own_still {S:Nat→Prop} {base:Nat} {c:Value} {g:List Ty} {w w':World} (h:TyR.Own S base c g w) (hs:Still base c g.length w w') (hg:w.grownBy w' c.ownBlock):TyR.Own S base c g w':=by
 obtain ⟨xs,hown,hc⟩:=h
 exact ⟨xs,hs xs hown,hc.keep (fun b hb=>⟨hb.1,Nat.lt_of_lt_of_le hb.2.1 hg.size,hb.2.2⟩) (fun p hp=>World.cell?_of_block (hg.block p.block hp.2.1 (fun e=>hp.2.2 e.symm)))⟩

theorem ownsRow_drop {w:World} {base:Nat} {t:TypeId} {g cap n:Nat} {xs ys:List Value} (hx:xs.length=n * 2) (h:w.ownsRow base t 2 (.slice (some ⟨g,0,none⟩) (n+1) cap) (n+1) (xs ++ ys)) :
   w.ownsRow base t 2 (.slice (some ⟨g,0,none⟩) n cap) n xs:=by
 rcases h.2 with ⟨h0,_⟩ | ⟨g',cap',cur,hv,hb,hg,hnc,hcm,hcs,htake⟩
 · cases h0
 · cases hv
   refine ⟨hx,.inr ⟨_,_,cur,rfl,hb,hg,by omega,hcm,hcs,?_⟩⟩
   have:=congrArg (List.take (n * 2)) htake
   rw [List.take_take,Nat.min_eq_left (by omega)] at this
   rw [this,← hx,List.take_left]

/-- What holds when the parts of a node are gone through: the context is c', its types g'. -/
structure Rest (w W1:World) (S:Nat→Prop) (base:Nat) (c:Value) (g:List Ty) (t:Tm) (base':Nat) (c':Value) (g':List Ty):Prop where
 own:TyR.Own (fun b=>(S b∨w.heap.size+2≤b)∧c'.ownBlock≠some b) base' c' g' W1
 back:∀ W2,W1.grownBy W2 c'.ownBlock→Still base' c' g'.length W1 W2→w.grownBy W2 c.ownBlock∧Still base c g.length w W2
 lies:∀ b,c'.ownBlock=some b→(b<w.heap.size∨w.heap.size+2≤b)∧¬ S b
 g':g' = if t.kind=2 then g ++ [t.type] else g
 base':base'≤W1.heap.size
 size:w.heap.size+2≤W1.heap.size
 keeps:∀ p:Addr,S p.block→W1.cell? p=w.cell? p

theorem madeCells_at (z:Array Value) (n k:Nat) (h:k<n):(madeCells z n).toList[k]? = some z[k % z.size]!:=by
 have h1:(Array.range n)[k]? = some k:=by simp [h]
 simp [madeCells,h]
theorem zero_cells (S:Nat→Prop) (w:World) (n:Nat):TyR.Ch S w (List.replicate n .zero) (madeCells #[.int .i64 0,.slice none 0 0] (n * 2)).toList:=by
 refine ⟨by simp [madeCells]; rfl,fun i hi=>⟨[.int .i64 0,.slice none 0 0],fun j u hu=>?_,by rw [List.getElem_replicate]; exact IsTy.leaf S w 0⟩⟩
 have hi':i<n:=by simpa using hi
 show (madeCells #[.int .i64 0,.slice none 0 0] (n * 2)).toList[i * 2+j]? = some u
 match j,hu with
 | 0,hu=>
   simp at hu
   rw [madeCells_at _ _ _ (by omega),show (i * 2+0) % (#[Value.int IntKind.i64 0,Value.slice none 0 0]:Array Value).size=0 from by simp,← hu]
   rfl
 | 1,hu=>
   simp at hu
   rw [madeCells_at _ _ _ (by omega),show (i * 2+1) % (#[Value.int IntKind.i64 0,Value.slice none 0 0]:Array Value).size=1 from by show (i * 2+1) % 2=1; omega,← hu]
   rfl

theorem Rest.next {w W1 W2:World} {S:Nat→Prop} {base base':Nat} {c c':Value} {g g':List Ty} {t:Tm} (h:Rest w W1 S base c g t base' c' g') (hS:∀ b,S b→b<w.heap.size) (hg:W1.grownBy W2 c'.ownBlock) (hs:Still base' c' g'.length W1 W2):Rest w W2 S base c g t base' c' g' where
 own:=own_still h.own hs hg
 back W3 h1 h2:=h.back W3 (only_trans hg h1) (fun xs hx=>h2 xs (hs xs hx))
 lies:=h.lies
 g':=h.g'
 base':=Nat.le_trans h.base' hg.size
 size:=Nat.le_trans h.size hg.size
 keeps p hp:=(World.cell?_of_block (hg.block p.block (by have:=hS _ hp; have:=h.size; omega) (fun e=>(h.lies _ e.symm).2 hp))).trans (h.keeps p hp)

theorem still_none {base:Nat} {c:Value} {n:Nat} {w w':World} (h:w.grownBy w' none):Still base c n w w':=fun xs hx=>hx.kept h (by cases c.ownBlock <;> simp)
theorem grown_none {w w':World} (h:w.grownBy w' none) (row:Option Nat):w.grownBy w' row:=⟨h.os,h.tape,h.output,h.size,fun i hi _=>h.block i hi (by simp)⟩

/-- The list of the types of the parts, just made. -/
theorem parts_made {w W1 wm:World} {S:Nat→Prop} {base base':Nat} {c c':Value} {g g':List Ty} {t:Tm} {x5 x2:Array Value} {n m:Nat} (hS:∀ b,S b→b<w.heap.size) (k0:Blk W1 w.heap.size 42 x5) (k1:Blk W1 (w.heap.size+1) 30 x2)
   (h:Rest w W1 S base c g t base' c' g') (hmk:wm.ownsRow (w.heap.size+2) 30 2 (.slice (some ⟨m,0,none⟩) n n) n (madeCells #[.int .i64 0,.slice none 0 0] (n * 2)).toList) (hm:m=W1.heap.size) (hgm:W1.grownBy wm none) :
   TyR.Own (fun b=>(S b∨w.heap.size+2≤b)∧c'.ownBlock≠some b) (w.heap.size+2) (.slice (some ⟨m,0,none⟩) n n) (List.replicate n .zero) wm∧Rest w wm S base c g t base' c' g'∧Blk wm w.heap.size 42 x5 ∧
     Blk wm (w.heap.size+1) 30 x2∧c'.ownBlock≠some m:=by
 refine ⟨⟨_,by rw [List.length_replicate]; exact hmk,zero_cells _ _ n⟩,h.next hS (grown_none hgm _) (still_none hgm),k0.grown hgm (by simp),k1.grown hgm (by simp),fun e=>?_⟩
 have:=h.own.lt m e
 omega

theorem grown_off {a b c:World} {row:Option Nat} {k:Nat} (h:a.grownBy b row) (h2:b.grownBy c (some k)) (hk:a.heap.size≤k):a.grownBy c row:=
 ⟨h2.os.trans h.os,h2.tape.trans h.tape,h2.output.trans h.output,Nat.le_trans h.size h2.size,fun i hi hne=>(h2.block i (Nat.lt_of_lt_of_le hi h.size) (by simp; omega)).trans (h.block i hi hne)⟩
theorem typeOf_close {w w2 W:World} {S:Nat→Prop} {base:Nat} {c:Value} {g:List Ty} (_hS:∀ b,S b→b<w.heap.size) (hown:TyR.Own S base c g w) (hb:w.grownBy w2 c.ownBlock∧Still base c g.length w w2) (_hz:w.heap.size+2≤w2.heap.size)
   (hg:w2.grownBy W (some (w.heap.size+1))):w.grownBy W c.ownBlock∧Still base c g.length w W:=by
 refine ⟨grown_off hb.1 hg (by omega),fun xs hx=>(hb.2 xs hx).kept hg ?_⟩
 right
 intro e
 have:=hown.lt _ e
 omega
theorem ownsRow_det {w:World} {base:Nat} {t:TypeId} {n:Nat} {v:Value} {xs ys:List Value} (h:w.ownsRow base t 2 v n xs) (k:w.ownsRow base t 2 v n ys):xs=ys:=by
 rcases h.2 with ⟨rfl,hn⟩ | ⟨g,cap,cur,rfl,_,hg,_,_,_,ht⟩
 · subst hn
   have h1:xs=[]:=List.eq_nil_of_length_eq_zero (by simpa using h.1)
   have h2:ys=[]:=List.eq_nil_of_length_eq_zero (by simpa using k.1)
   rw [h1,h2]
 · rcases k.2 with ⟨hv,_⟩ | ⟨g',cap',cur',hv,_,hg',_,_,_,ht'⟩
   · cases hv
   · cases hv
     rw [hg] at hg'
     cases hg'
     rw [← ht,← ht']

/-- A function's body: the context grows in place. -/
theorem rest_room {w W W1:World} {S:Nat→Prop} {base gb cap:Nat} {g:List Ty} {i:Int} {T:Ty} {l:List Tm} {xs:List Value} {x y:Value} {k:Int} (hk:k=2) (hbase:base≤w.heap.size) (hS:∀ b,S b→b<w.heap.size∧(Value.slice (some ⟨gb,0,none⟩) g.length cap).ownBlock≠some b)
   (hb:Below w.heap.size w W) (hz:W.heap.size=w.heap.size+2) (hown:TyR.Own S base (.slice (some ⟨gb,0,none⟩) g.length cap) g w) (hxo:W.ownsRow base 30 2 (.slice (some ⟨gb,0,none⟩) g.length cap) g.length xs)
   (hxc:TyR.Ch (fun b=>S b∧b<W.heap.size∧(Value.slice (some ⟨gb,0,none⟩) g.length cap).ownBlock≠some b) W g xs) (hT:IsTy S W T (.agg #[x,y]))
   (hown1:W1.ownsRow base 30 2 (.slice (some ⟨gb,0,none⟩) (g.length+1) cap) (g.length+1) (xs ++ [x,y])) (hgr:(W.alloc (.cells #[x,y] 30)).grownBy W1 (some gb)) :
   Rest w W1 S base (.slice (some ⟨gb,0,none⟩) g.length cap) g (.mk k i T l) base (.slice (some ⟨gb,0,none⟩) (g.length+1) cap) (g ++ [T]):=by
 have hgb:=hown.lt gb rfl
 have hgW:W.grownBy W1 (some gb):=only_trans (World.grownBy_alloc W _ _) hgr
 have hs1:=hgW.size
 have hSg:¬ S gb:=fun h=>(hS _ h).2 rfl
 refine { own:=?_,back:=?_,lies:=?_,g':=by show g ++ [T]=if k=2 then _ else _; rw [if_pos hk]; rfl,base':=by omega,size:=by omega,keeps:=fun p hp=>?_ }
 · refine ⟨xs ++ [x,y],by rw [List.length_append]; exact hown1,((hxc.keep (S':=fun b=>((S b∨w.heap.size+2≤b)∧(Value.slice (some ⟨gb,0,none⟩) (g.length+1) cap).ownBlock≠some b)∧b<W1.heap.size∧(Value.slice (some ⟨gb,0,none⟩) (g.length+1) cap).ownBlock≠some b) (w':=W1)
     (fun b h=>⟨⟨.inl h.1,h.2.2⟩,by omega,h.2.2⟩) (fun p hp=>World.cell?_of_block (hgW.block p.block hp.2.1 (fun e=>hp.2.2 (by simpa [Value.ownBlock] using e.symm))))).append
     (ty_one (IsTy.keep (fun b h=>⟨⟨.inl h,(hS b h).2⟩,by have:=(hS b h).1; omega,(hS b h).2⟩) (fun p hp=>World.cell?_of_block (hgW.block p.block (by have:=(hS _ hp).1; omega) (fun e=>(hS _ hp).2 (by simpa [Value.ownBlock] using e.symm)))) _ hT)))⟩
 · intro W2 h1 h2
   refine ⟨only_trans (only_trans (below_only hb (Nat.le_refl _) _) hgW) h1,fun xs' hx'=>?_⟩
   have e:xs' = xs:=ownsRow_det (hx'.kept (below_only hb (Nat.le_refl _) none) (.inr (by simp [Value.ownBlock]))) hxo
   subst e
   have h3:=h2 (xs' ++ [x,y]) (by simpa using hown1)
   exact ownsRow_drop hx'.1 (by simpa using h3)
 · intro b e
   have:b=gb:=by simpa [Value.ownBlock] using e.symm
   subst this
   exact ⟨.inl (by omega),hSg⟩
 · have:=(hS _ hp).1
   exact (World.cell?_of_block (hgW.block p.block (by omega) (fun e=>(hS _ hp).2 (by simpa [Value.ownBlock] using e.symm)))).trans (hb.cell this)

theorem grow_form {W:World} {base:Nat} {t:TypeId} {n:Nat} {c:Value} {xs:List Value} (h:W.ownsRow base t 2 c n xs) (hn:¬ ∃ gb cap,c=.slice (some ⟨gb,0,none⟩) n cap∧n+1≤cap) :
   ∃ ao cap,c=.slice ao n cap∧(ao=none→n=0∧cap=0)∧cap<n+1∧(∀ b,ao=some b→∀ j u,xs[j]? = some u→W.cell? (b.add j)=some u):=by
 have hc:=fun g (hg:c.ownBlock=some g)=>h.cells hg
 rcases h.2 with ⟨rfl,rfl⟩ | ⟨g,cap,cur,rfl,_,hg,_⟩
 · exact ⟨none,0,rfl,fun _=>⟨rfl,rfl⟩,by omega,fun b e=>by cases e⟩
 · refine ⟨_,cap,rfl,(fun e=>by cases e),Nat.lt_of_not_le (fun e=>hn ⟨g,cap,rfl,e⟩),fun b e j u hu=>?_⟩
   cases e
   exact hc g rfl j u hu

/-- A function's body: the context moves. -/
theorem rest_grow {w W W1:World} {S:Nat→Prop} {base:Nat} {g:List Ty} {i:Int} {T:Ty} {l:List Tm} {xs:List Value} {x y c v1:Value} {k:Int} (hk:k=2) (hS:∀ b,S b→b<w.heap.size∧c.ownBlock≠some b)
   (hb:Below w.heap.size w W) (hz:W.heap.size=w.heap.size+2) (hown:TyR.Own S base c g w)
   (hxc:TyR.Ch (fun b=>S b∧b<W.heap.size∧c.ownBlock≠some b) W g xs) (hT:IsTy S W T (.agg #[x,y]))
   (hown1:W1.ownsRow (W.alloc (.cells #[x,y] 30)).heap.size 30 2 v1 (g.length+1) (xs ++ [x,y])) (hgr:(W.alloc (.cells #[x,y] 30)).grownBy W1 none) :
   Rest w W1 S base c g (.mk k i T l) (w.heap.size+3) v1 (g ++ [T]):=by
 have hgW:W.grownBy W1 none:=only_trans (World.grownBy_alloc W _ _) hgr
 have hs1:=hgW.size
 rw [World.size_alloc,hz] at hown1
 have hlt:=hown1.lt
 have hs2:=hgr.size
 rw [World.size_alloc] at hs2
 have hne:∀ b,S b→v1.ownBlock≠some b:=fun b h e=>by have h1:=(hlt b e).1; have h2:=(hS b h).1; omega
 refine { own:=?_,back:=?_,lies:=?_,g':=by show g ++ [T]=if k=2 then _ else _; rw [if_pos hk]; rfl,base':=by omega,size:=by omega,keeps:=fun p hp=>?_ }
 · refine ⟨xs ++ [x,y],by rw [List.length_append]; exact hown1,((hxc.keep (S':=fun b=>((S b∨w.heap.size+2≤b)∧v1.ownBlock≠some b)∧b<W1.heap.size∧v1.ownBlock≠some b) (w':=W1)
     (fun b h=>⟨⟨.inl h.1,hne b h.1⟩,by omega,hne b h.1⟩) (fun p hp=>World.cell?_of_block (hgW.block p.block hp.2.1 (by simp)))).append
     (ty_one (IsTy.keep (fun b h=>⟨⟨.inl h,hne b h⟩,by have:=(hS b h).1; omega,hne b h⟩) (fun p hp=>World.cell?_of_block (hgW.block p.block (by have:=(hS _ hp).1; omega) (by simp))) _ hT)))⟩
 · intro W2 h1 h2
   have hg01:w.grownBy W1 c.ownBlock:=only_trans (below_only hb (Nat.le_refl _) _) (grown_none hgW _)
   obtain ⟨vb,hvb⟩:∃ vb,v1.ownBlock=some vb:=by
     rcases hown1.2 with ⟨_,h0⟩ | ⟨gg,cap,cur,rfl,_⟩
     · omega
     · exact ⟨gg,rfl⟩
   rw [hvb] at h1
   have hvl:=(hlt vb hvb).1
   refine ⟨grown_off hg01 h1 (by omega),fun xs' hx'=>?_⟩
   have h3:=(hx'.kept (below_only hb (Nat.le_refl _) none) (by cases c.ownBlock <;> simp)).kept hgW (by cases c.ownBlock <;> simp)
   exact h3.kept h1 (.inr fun e=>by have:=(hown.lt vb e).2; omega)
 · intro b e
   exact ⟨.inr (by have:=(hlt b e).1; omega),fun h=>hne b h e⟩
 · have:=(hS _ hp).1
   exact (World.cell?_of_block (hgW.block p.block (by omega) (by simp))).trans (hb.cell this)

/-- A part's type is stored. -/
theorem parts_store {S:Nat→Prop} {base pm L j:Nat} {w3:World} {ps:List Ty} {U:Ty} {xs:List Value} {x y:Value} {own:Option Nat} (hj:ps.length=j) (hlt:j<L) (_hne:some pm≠own)
   (hxo:w3.ownsRow base 30 2 (.slice (some ⟨pm,0,none⟩) L L) L xs) (hxc:TyR.Ch (fun b=>S b∧b<w3.heap.size∧(Value.slice (some ⟨pm,0,none⟩) L L).ownBlock≠some b) w3 (ps ++ List.replicate (L - j) .zero) xs) (_hnl:(ps ++ List.replicate (L - j) Ty.zero).length=L)
   (hU:IsTy (fun b=>S b∧b<w3.heap.size∧pm≠b) w3 U (.agg #[x,y])) :
   TyR.Own S base (.slice (some ⟨pm,0,none⟩) L L) ((ps ++ [U]) ++ List.replicate (L - (j+1)) .zero) ((w3.setCell ⟨pm,j * 2,none⟩ x).setCell ⟨pm,j * 2+1,none⟩ y) ∧
     w3.grownBy ((w3.setCell ⟨pm,j * 2,none⟩ x).setCell ⟨pm,j * 2+1,none⟩ y) (some pm):=by
 obtain ⟨o1,g1⟩:=hxo.stored (j * 2) x
 obtain ⟨o2,g2⟩:=o1.stored (j * 2+1) y
 have hg:=only_trans g1 g2
 refine ⟨?_,hg⟩
 have hxl:xs.length=L * 2:=hxo.1
 have hc:=Rep.Ch.set_ (R:=TyR) (vs:=[x,y]) (ys:=(xs.set (j * 2) x).set (j * 2+1) y) hxc j (by rw [_hnl]; exact hlt) (show TyR.is _ w3 U [x,y] from IsTy.keep (fun b h=>⟨h.1,h.2.1,fun e=>h.2.2 (by simpa [Value.ownBlock] using e)⟩) (fun _ _=>rfl) _ hU) (by simp)
   (fun k u hu=>by
     show ((xs.set (j * 2) x).set (j * 2+1) y)[j * 2+k]? = some u
     match k,hu with
     | 0,hu=>
       simp at hu
       subst hu
       show ((xs.set (j * 2) x).set (j * 2+1) y)[j * 2]? = some x
       rw [List.getElem?_set_ne (by omega),List.getElem?_set_self (by omega)]
     | 1,hu=>
       simp at hu
       subst hu
       rw [List.getElem?_set_self (by rw [List.length_set]; omega)])
   (fun k hk=>by
     have hk':k<j * 2∨j * 2+2≤k:=hk
     rw [List.getElem?_set_ne (by omega),List.getElem?_set_ne (by omega)])
 have e:(ps ++ List.replicate (L - j) Ty.zero).set j U=(ps ++ [U]) ++ List.replicate (L - (j+1)) .zero:=by
   subst hj
   obtain ⟨m,hm⟩:∃ m,L - ps.length=m+1:=⟨L - ps.length - 1,by omega⟩
   rw [hm,show L - (ps.length+1)=m from by omega,List.replicate_succ]
   simp
 rw [e] at hc
 refine ⟨_,by rw [show ((ps ++ [U]) ++ List.replicate (L - (j+1)) Ty.zero).length=L from by simp; omega]; exact o2,hc.keep (fun b h=>⟨h.1,Nat.lt_of_lt_of_le h.2.1 hg.size,h.2.2⟩) (fun p hp=>World.cell?_of_block (hg.block p.block hp.2.1 (fun e=>hp.2.2 (by simpa [Value.ownBlock] using e.symm))))⟩

set_option maxRecDepth 100000 in
set_option maxHeartbeats 8000000 in
theorem typeOf_any (n:Nat):∀ (t:Tm) (g:List Ty) (c v:Value) (base:Nat) (S:Nat→Prop) (w:World),t.bulk≤n→t.ok=true→(∀ T ∈ g,T.err=0)→g.length+n≤400000→base≤w.heap.size →
   (∀ b,S b→b<w.heap.size∧c.ownBlock≠some b)→TyR.Own S base c g w→IsTm S w t v →
   Calls Tryz.prog 243 #[c,v] w (TypeOfR S base c g t w):=by
 induction n with
 | zero=>intro t; have:=bulk_pos t; omega
 | succ n ih=>
   rintro ⟨k,i,T,l⟩ g c v base S w hn hok hg hgn hbase hS hown hT
   have IH:=Lib.hid ih
   clear ih
   obtain ⟨B,d,A,a0,rfl,hty,hl⟩:=hT.mk_parts
   rw [Tm.ok,Bool.and_eq_true] at hok
   obtain ⟨hf,hokl⟩:=hok
   obtain ⟨f1,f2,f3,f4,f5,f6,f7⟩:=formed_kind hf
   simp only [Tm.kind,Tm.index,Tm.type,Tm.args] at f1 f2 f3 f4 f5 f6 f7
   have HF:=Lib.hid (And.intro f1 (And.intro f2 (And.intro f3 (And.intro f4 (And.intro f5 (And.intro f6 f7))))))
   clear f1 f2 f3 f5 f6 f7
   simp only [Tm.bulk] at hn
   obtain ⟨W,hW,hb,hz,k0,k1⟩:=box52_facts w (.int .i64 k) (.int .i64 i) (.int .i64 T.kind) (.slice B T.args.length d) (.slice A l.length a0)
   have hTW:IsTm S W (.mk k i T l) (.agg #[.int .i64 k,.int .i64 i,.int .i64 T.kind,.slice B T.args.length d,.slice A l.length a0]):=IsTm.keep (fun _ h=>h) (fun p hp=>hb.cell (hS _ hp).1) _ hT
   have hownW:TyR.Own S base c g W:=hown.below hb
   have HS:=Lib.hid hS
   by_cases h1:k=1
   · subst h1
     have hats:=hownW.ats
     have hSW:∀ b,S b→b<W.heap.size:=fun b h=>Nat.lt_of_lt_of_le (hS b h).1 hb.size
     obtain ⟨q0,q1,_,_,_⟩:=k0.cells5
     have HA:=Lib.hid (And.intro hats (And.intro hSW (And.intro hb hz)))
     clear hats hSW hb hz hTW hownW hown hT hty hl
     go_enter Tryz.func243,Tryz.ntmps243
     go_wp2_with fail
     rw [← hW]
     clear hW
     obtain ⟨hats,hSW,hb,hz⟩:=HA.out
     refine (variable_in S g i _ W hSW f4 (by omega) hats).mono ?_
     rintro e w1 ⟨hb1,h1⟩
     have k1:=k1.below hb1 k1.lt
     obtain ⟨r0,r1,g0,g1⟩:=k1.facts2
     have hs1:=hb1.size
     have hb01:Below w.heap.size w w1:=hb.trans (hb1.mono hb.size)
     have HB:=Lib.hid (And.intro hb01 (And.intro hb1 (And.intro hSW hz)))
     have htyp:(Tm.mk 1 i T l).typ g=if h:i.toNat<g.length then .ok (g[g.length - 1 - i.toNat]'(by omega)) else .error 6:=by unfold Tm.typ; rw [if_pos rfl]
     have HY:=Lib.hid htyp
     clear hats hb hSW hb1 hb01 q0 q1 htyp hz
     by_cases hi:i.toNat<g.length
     · rw [dif_pos hi] at h1
       obtain ⟨v1,rfl,hv1⟩:=h1
       obtain ⟨A1,c1,rfl⟩:=hv1.form
       have HV:=Lib.hid hv1
       clear hv1
       go_wp2_with fail
       obtain ⟨z0,z1,_,_⟩:=(k1.set2 (.int .i64 (g[g.length - 1 - i.toNat]'(by omega)).kind) (.slice A1 (g[g.length - 1 - i.toNat]'(by omega)).args.length c1)).facts2
       refine bodyPost_ret (v:=.tuple #[.agg #[.int .i64 (g[g.length - 1 - i.toNat]'(by omega)).kind,.slice A1 (g[g.length - 1 - i.toNat]'(by omega)).args.length c1],.int .i64 0]) (by simp [results,Tryz.results243,go_sem,z0,z1]) rfl ?_
       obtain ⟨hb01,hb1,hSW,hz⟩:=HB.out
       have hg2:=only_set2 w1 (w.heap.size+1) (.int .i64 (g[g.length - 1 - i.toNat]'(by omega)).kind) (.slice A1 (g[g.length - 1 - i.toNat]'(by omega)).args.length c1)
       have hbF:=hb01.grown hg2 hb01.size (fun k e=>by cases e; omega)
       refine ⟨below_only hbF (Nat.le_refl _) _,fun xs h=>h.kept (below_only hbF (Nat.le_refl _) none) (by cases c.ownBlock <;> simp),?_⟩
       rw [HY.out,dif_pos hi]
       refine ⟨_,rfl,IsTy.keep (fun b h=>⟨.inl h,Nat.lt_of_lt_of_le (HS.out b h).1 hbF.size⟩) (fun p hp=>?_) _ HV.out⟩
       exact World.cell?_of_block (hg2.block p.block (by have:=(HS.out _ hp).1; have:=hb01.size; omega) (fun e=>by have:=(HS.out _ hp).1; simp at e; omega))
     · rw [dif_neg hi] at h1
       subst h1
       go_wp2_with fail
       obtain ⟨z0,z1,_,_⟩:=(k1.set2 (.int .i64 0) (.slice none 0 0)).facts2
       refine bodyPost_ret (v:=.tuple #[.agg #[.int .i64 0,.slice none 0 0],.int .i64 6]) (by simp [results,Tryz.results243,go_sem,z0,z1]) rfl ?_
       obtain ⟨hb01,hb1,hSW,hz⟩:=HB.out
       have hg2:=only_set2 w1 (w.heap.size+1) (.int .i64 0) (.slice none 0 0)
       have hbF:=hb01.grown hg2 hb01.size (fun k e=>by cases e; omega)
       refine ⟨below_only hbF (Nat.le_refl _) _,fun xs h=>h.kept (below_only hbF (Nat.le_refl _) none) (by cases c.ownBlock <;> simp),?_⟩
       rw [HY.out,dif_neg hi]
   · have e1:(k == 1)=false:=by rw [beq_eq_false_iff_ne]; exact h1
     have HTW:=Lib.hid hTW
     have HBZ:=Lib.hid (And.intro hb hz)
     have HOW:=Lib.hid (And.intro hown hownW)
     have HG:=Lib.hid hg
     have HK:=Lib.hid (And.intro k0 k1)
     have HN:=Lib.hid (And.intro hn hgn)
     obtain ⟨q0,q1,q2,q3,q4⟩:=k0.cells5
     clear hTW hb hz hown hownW hty hl hg k0 k1 hn hgn f4
     obtain ⟨i0,hi,hz0,hz1,hz2⟩:=info_parts info_type
     have hll:l.length≤400000:=by have:=bulkAll_len l; have:=HN.out; omega
     have HT0:=Lib.hid hT
     clear hT
     by_cases h2:k=2
     · have e2:(k == 2)=true:=by simp [h2]
       have HK2:=Lib.hid h2
       clear h2
       obtain ⟨xs,hxo,hxc⟩:=HOW.out.2
       have hTt:=(isTm_iff.1 HTW.out).2.2.1
       have hxoA:=hxo.alloc (Obj.cells #[.int .i64 T.kind,.slice B T.args.length d] 30)
       have HXC:=Lib.hid (And.intro hxo (And.intro hxc hTt))
       have hxl:xs.length=g.length * 2:=hxo.1
       have hWs:W.heap.size=w.heap.size+2:=HBZ.out.2
       have k0A:=HK.out.1.alloc (Obj.cells #[.int .i64 T.kind,.slice B T.args.length d] 30)
       have k1A:=HK.out.2.alloc (Obj.cells #[.int .i64 T.kind,.slice B T.args.length d] 30)
       have HKA:=Lib.hid (And.intro k0A k1A)
       have hgn:g.length≤400000:=by have:=HN.out; omega
       have hnews:∀ j u,[Value.int .i64 T.kind,.slice B T.args.length d][j]? = some u→(W.alloc (Obj.cells #[.int .i64 T.kind,.slice B T.args.length d] 30)).cell? ((⟨w.heap.size+1+1,0,none⟩:Addr).add j)=some u:=by
         have h:=cells_new W #[.int .i64 T.kind,.slice B T.args.length d] 30
         rw [hWs] at h
         exact h
       have HNW:=Lib.hid (And.intro hnews hWs)
       clear hxo hxc hTt k0A k1A hnews hWs
       by_cases hroom:∃ gb cap,c=.slice (some ⟨gb,0,none⟩) g.length cap∧g.length+1≤cap
       · obtain ⟨gb,cap,rfl,hcap⟩:=hroom
         have hgb:=HOW.out.1.lt gb rfl
         have after:∀ W1:World,W1.ownsRow base 30 2 (.slice (some ⟨gb,0,none⟩) (g.length+1) cap) (g.length+1) (xs ++ [.int .i64 T.kind,.slice B T.args.length d])→(W.alloc (.cells #[.int .i64 T.kind,.slice B T.args.length d] 30)).grownBy W1 (some gb) →
             Hid (Rest w W1 S base (.slice (some ⟨gb,0,none⟩) g.length cap) g (.mk k i T l) base (.slice (some ⟨gb,0,none⟩) (g.length+1) cap) (g ++ [T]))∧Hid (Blk W1 w.heap.size 42 #[.int .i64 k,.int .i64 i,.int .i64 T.kind,.slice B T.args.length d,.slice A l.length a0]∧Blk W1 (w.heap.size+1) 30 #[.int .i64 0,.slice none 0 0]) ∧
               w.heap.size+2≤W1.heap.size∧W1.cell? ⟨w.heap.size,0,none⟩ = some (.int .i64 k)∧W1.cell? ⟨w.heap.size,1,none⟩ = some (.int .i64 i)∧W1.cell? ⟨w.heap.size,2,none⟩ = some (.int .i64 T.kind)∧W1.cell? ⟨w.heap.size,3,none⟩ = some (.slice B T.args.length d)∧W1.cell? ⟨w.heap.size,4,none⟩ = some (.slice A l.length a0):=by
           intro W1 h1 h2
           obtain ⟨k0,k1⟩:=HKA.out
           have k0:=k0.grown h2 (by simp; omega)
           have k1:=k1.grown h2 (by simp; omega)
           have hrest:=rest_room (i:=i) (l:=l) HK2.out hbase HS.out HBZ.out.1 HNW.out.2 HOW.out.1 HXC.out.1 HXC.out.2.1 HXC.out.2.2 h1 h2
           exact ⟨Lib.hid hrest,Lib.hid ⟨k0,k1⟩,hrest.size,k0.cells5⟩
         have AFTER:=Lib.hid after
         clear after HK
         subst hW
         go_enter Tryz.func243,Tryz.ntmps243
         go_wp2_with (first | (at_builtin; go_loud (refine wpList_append_own_spare _ rfl _ _ 27 rfl base 30 i0 2 Tryz.underlying27 hi hz1 gb g.length cap xs rfl hxoA _ 1 1 [_,_] rfl rfl HNW.out.1 (by simp [Value.oneCell']) hcap ?_); intro W1 hown1 hgr1; obtain ⟨HRE,HK,hrs0,q0,q1,q2,q3,q4⟩:=AFTER.out W1 hown1 hgr1) | (at_make; go_loud (refine wpList_make_full _ rfl _ _ 27 rfl (w.heap.size+2) 30 i0 _ 2 Tryz.underlying27 hi hz0 hz1 .i64 .i64 _ _ l.length rfl rfl rfl rfl (by rw [hz2]; omega) (by simp only [maxLen]; omega) (by omega) ?_); intro wm hmk hgm; obtain ⟨hpo,hre,k0,k1,hpm⟩:=parts_made (fun b h=>(HS.out b h).1) HK.out.1 HK.out.2 HRE.out hmk rfl hgm; obtain ⟨q0,q1,q2,q3,q4⟩:=k0.cells5))
         have hgr:=And.intro (grown_none hgm (Value.slice (some ⟨gb,0,none⟩) (g.length+1) cap).ownBlock) (still_none (base:=base) (c:=(Value.slice (some ⟨gb,0,none⟩) (g.length+1) cap)) (n:=(g ++ [T]).length) hgm)
         have hwp:True:=trivial
         clear hmk hgm hre
         have hpm:=And.intro hpm (Nat.le_refl W1.heap.size)
         have hgk:(g ++ [T])=if k=2 then g ++ [T] else g:=HRE.out.g'
         have hge:∀ T' ∈ (g ++ [T]),T'.err=0:=by
           intro T' hT'
           rw [hgk] at hT'
           by_cases hk2:k=2
           · rw [if_pos hk2] at hT'
             rcases List.mem_append.1 hT' with h3 | h3
             · exact HG.out _ h3
             · simp at h3; subst h3; exact HF.out.2.2.2.2.2.1 (.inl hk2)
           · rw [if_neg hk2] at hT'; exact HG.out _ hT'
         have hgl:(g ++ [T]).length+n≤400000:=by
           have:=HN.out
           rw [hgk]
           split
           · simp; omega
           · omega
         have HGE:=Lib.hid (And.intro hgk (And.intro hge hgl))
         have HPM:=Lib.hid hpm
         have hws:=HRE.out.size
         have HGR:=Lib.hid hgr
         have HWP:=Lib.hid hwp
         clear hgk hge hgl hpm hgr hwp
         go_loopw [35] (fun ix wr=>∃ (j:Nat) (ps:List Ty),j≤l.length∧ix=.int .i64 j∧typAll (l.take j) (g ++ [T])=.ok ps∧ps.length=j ∧
             TyR.Own (fun b=>(S b∨w.heap.size+2≤b)∧(Value.slice (some ⟨gb,0,none⟩) (g.length+1) cap).ownBlock≠some b) (w.heap.size+2) (.slice (some ⟨W1.heap.size,0,none⟩) l.length l.length) (ps ++ List.replicate (l.length - j) .zero) wr∧W1.grownBy wr (Value.slice (some ⟨gb,0,none⟩) (g.length+1) cap).ownBlock∧Still base (Value.slice (some ⟨gb,0,none⟩) (g.length+1) cap) (g ++ [T]).length W1 wr ∧
             Blk wr w.heap.size 42 #[.int .i64 k,.int .i64 i,.int .i64 T.kind,.slice B T.args.length d,.slice A l.length a0]∧Blk wr (w.heap.size+1) 30 #[.int .i64 0,.slice none 0 0])
           (fun ix _=>l.length - (intOf ix).toNat)
         case atStart=>exact ⟨0,[],by omega,rfl,rfl,rfl,by simpa using hpo,HGR.out.1,HGR.out.2,k0,k1⟩
         case round=>
           obtain ⟨j,ps,hj,rfl,hty,hpl,hpo,hgr,hst,k0,k1⟩:=hrel
           have hre:=HRE.out.next (fun b h=>(HS.out b h).1) hgr hst
           have hrs:=hre.size
           have hTr:IsTm S wr (.mk k i T l) (.agg #[.int .i64 k,.int .i64 i,.int .i64 T.kind,.slice B T.args.length d,.slice A l.length a0]):=IsTm.keep (fun _ h=>h) (fun p hp=>hre.keeps p hp) _ HT0.out
           by_cases hlt:j<l.length
           · have hl:=(isTm_iff.1 hTr).2.2.2
             obtain ⟨a,rfl,ha,hat⟩:=hl.get j hlt
             obtain ⟨B1,d1,A1,c1',q0,q1,q2,q3,q4,hx⟩:=at_tm hat
             change wr.cell? (a.add (j * 5))=_ at q0
             simp only [show TmR.n=5 from rfl] at q1 q2 q3 q4
             have hbj:=bulkAll_get l j hlt
             have hbn:l[j].bulk≤n:=by have:=HN.out; omega
             have hjok:=okAllT_get hokl j hlt
             have HX:=Lib.hid hx
             have HRN:=Lib.hid hre
             have HPO:=Lib.hid hpo
             have HTY:=Lib.hid (And.intro hty (And.intro hpl hst))
             clear hTr hl hat hx hre hpo hty hpl hst hbj
             go_wp2_with fail
             have hbx:=below_box wr (Obj.cells #[.int .i64 l[j].kind,.int .i64 l[j].index,.int .i64 l[j].type.kind,.slice B1 l[j].type.args.length d1,.slice A1 l[j].args.length c1'] 42)
             have hzx:=World.size_alloc wr (Obj.cells #[.int .i64 l[j].kind,.int .i64 l[j].index,.int .i64 l[j].type.kind,.slice B1 l[j].type.args.length d1,.slice A1 l[j].args.length c1'] 42)
             clear q0 q1 q2 q3 q4
             generalize wr.alloc (Obj.cells #[.int .i64 l[j].kind,.int .i64 l[j].index,.int .i64 l[j].type.kind,.slice B1 l[j].type.args.length d1,.slice A1 l[j].args.length c1'] 42)=wa at hbx hzx ⊢
             refine (IH.out l[j] (g ++ [T]) (Value.slice (some ⟨gb,0,none⟩) (g.length+1) cap) _ base (fun b=>((S b∨w.heap.size+2≤b)∧(Value.slice (some ⟨gb,0,none⟩) (g.length+1) cap).ownBlock≠some b)∧b<wa.heap.size∧b≠W1.heap.size) wa hbn hjok HGE.out.2.1 HGE.out.2.2 (by have:=HRN.out.base'; omega) (fun b h=>⟨h.2.1,h.1.2⟩)
               (((own_still (HRE.out.own.mono (fun b h h'=>And.intro h h') (Nat.le_refl _)) HTY.out.2.2 hgr).below hbx).mono (fun b h h'=>⟨h.1,h',by have h1:=h.2; have h2:=HPM.out.2; omega⟩) (Nat.le_refl _)) (IsTm.keep (S:=S) (fun b h=>⟨⟨.inl h,fun e=>(HRN.out.lies b e).2 h⟩,by have:=(HS.out b h).1; omega,by have h1:=(HS.out b h).1; have h2:=HPM.out.2; omega⟩) (fun p hp=>hbx.cell (by have:=(HS.out _ hp).1; omega)) _ HX.out)).mono ?_
             rintro e w2 ⟨hg2,hs2,h2⟩
             have hgr2:wr.grownBy w2 (Value.slice (some ⟨gb,0,none⟩) (g.length+1) cap).ownBlock:=only_trans (below_only hbx (Nat.le_refl _) _) hg2
             have hst2:Still base (Value.slice (some ⟨gb,0,none⟩) (g.length+1) cap) (g ++ [T]).length wr w2:=fun xs h=>hs2 xs (h.kept (below_only hbx (Nat.le_refl _) none) (by cases (Value.slice (some ⟨gb,0,none⟩) (g.length+1) cap).ownBlock <;> simp))
             have hz2:=hgr2.size
             have hlies:=HRN.out.lies
             have ne0:some w.heap.size≠(Value.slice (some ⟨gb,0,none⟩) (g.length+1) cap).ownBlock:=fun e=>by have:=(hlies _ e.symm).1; omega
             have ne1:some (w.heap.size+1)≠(Value.slice (some ⟨gb,0,none⟩) (g.length+1) cap).ownBlock:=fun e=>by have:=(hlies _ e.symm).1; omega
             have k0:=k0.grown hgr2 ne0
             have k1:=k1.grown hgr2 ne1
             have hpo2:=HPO.out.kept hgr2 (.inr (fun e=>HPM.out.1 e.symm)) (fun kk e h=>h.2 e)
             have HP2:=Lib.hid hpo2
             have HG2:=Lib.hid (And.intro hgr2 hst2)
             have HLI:=Lib.hid (And.intro hlies (And.intro ne0 ne1))
             clear hg2 hs2 hpo2 hst2 hlies ne0 ne1 hgr2
             cases htj:l[j].typ (g ++ [T]) with
             | error er=>
               rw [htj] at h2
               simp only at h2
               subst h2
               have hee:(er != 0)=true:=by rcases typ_code _ _ htj with h | h | h <;> subst h <;> rfl
               have HSTOP:Hid ((Tm.mk k i T l).typ g=.error er):=Lib.hid (typ_stop h1 HGE.out.1 (by
                 have:=typAll_stop (m:=l.drop (j+1)) HTY.out.1 htj
                 rwa [← List.drop_eq_getElem_cons hlt,List.take_append_drop] at this))
               have r0:=fun o=>(k1.alloc o).facts2.1
               have r1:=fun o=>(k1.alloc o).facts2.2.1
               have g0:=fun o=>(k1.alloc o).facts2.2.2.1
               have g1:=fun o=>(k1.alloc o).facts2.2.2.2
               clear htj
               go_wp2_with fail
               obtain ⟨z0,z1,_,_⟩:=((k1.alloc (Obj.cells #[.int .i64 0,.slice none 0 0] 30)).set2 (.int .i64 0) (.slice none 0 0)).facts2
               refine bodyPost_ret (v:=.tuple #[.agg #[.int .i64 0,.slice none 0 0],.int .i64 er]) (by simp [results,Tryz.results243,go_sem,z0,z1]) rfl ?_
               have hgF:w2.grownBy (((w2.alloc (Obj.cells #[.int .i64 0,.slice none 0 0] 30)).setCell ⟨w.heap.size+1,0,none⟩ (.int .i64 0)).setCell ⟨w.heap.size+1,1,none⟩ (.slice none 0 0)) (some (w.heap.size+1)):=only_trans (World.grownBy_alloc w2 _ _) (only_set2 _ (w.heap.size+1) _ _)
               obtain ⟨t1,t2⟩:=typeOf_close (fun b h=>(HS.out b h).1) HOW.out.1 ((HRN.out.next (fun b h=>(HS.out b h).1) HG2.out.1 HG2.out.2).back _ (only_refl _ _) (fun _ h=>h)) (HRN.out.next (fun b h=>(HS.out b h).1) HG2.out.1 HG2.out.2).size hgF
               refine ⟨t1,t2,?_⟩
               rw [HSTOP.out]
             | ok U=>
               rw [htj] at h2
               obtain ⟨vU,rfl,hU⟩:=h2
               obtain ⟨AU,cU,rfl⟩:=hU.form
               have HU:=Lib.hid hU
               have HTJ:=Lib.hid htj
               obtain ⟨xs,hxo,hxc⟩:=HP2.out.below (below_box w2 (Obj.cells #[.int .i64 U.kind,.slice AU U.args.length cU] 30))
               have hpl:=HTY.out.2.1
               have hnl:(ps ++ List.replicate (l.length - j) Ty.zero).length=l.length:=by simp; omega
               rw [hnl] at hxo
               have hc0:=hxo.cellAt (j * 2) (by show j * 2<l.length * 2; omega)
               have hc1:=hxo.cellAt (j * 2+1) (by show j * 2+1<l.length * 2; omega)
               have hf0:=hxo.frozenAt (j * 2)
               have hf1:=hxo.frozenAt (j * 2+1)
               have hx0:∃ x,xs[j * 2]? = some x:=⟨_,List.getElem?_eq_getElem (by have:=hxo.1; have h2:TyR.n=2:=rfl; rw [h2] at this; omega)⟩
               have hx1:∃ x,xs[j * 2+1]? = some x:=⟨_,List.getElem?_eq_getElem (by have:=hxo.1; have h2:TyR.n=2:=rfl; rw [h2] at this; omega)⟩
               obtain ⟨x0,hx0⟩:=hx0
               obtain ⟨x1,hx1⟩:=hx1
               rw [hx0] at hc0
               rw [hx1] at hc1
               have HXO:=Lib.hid (And.intro hxo (And.intro hxc (And.intro hpl (And.intro hx0 (And.intro hx1 hnl)))))
               clear hU htj hxo hxc hx0 hx1 hpl hnl
               go_wp2_with fail
               have hUK:IsTy (fun b=>(fun b=>(S b∨w.heap.size+2≤b)∧(Value.slice (some ⟨gb,0,none⟩) (g.length+1) cap).ownBlock≠some b) b∧b<(w2.alloc (Obj.cells #[.int .i64 U.kind,.slice AU U.args.length cU] 30)).heap.size∧W1.heap.size≠b) (w2.alloc (Obj.cells #[.int .i64 U.kind,.slice AU U.args.length cU] 30)) U (.agg #[.int .i64 U.kind,.slice AU U.args.length cU]):=by
                 refine IsTy.keep (fun b h=>?_) (fun p hp=>World.cell?_alloc_lt _ _ _ hp.2) _ HU.out
                 have hlt2:=h.2
                 have hpw:=(HPO.out.lt _ rfl).2
                 have h2:=HPM.out.2
                 refine ⟨?_,by simp; omega,?_⟩
                 · rcases h.1 with h3 | h3
                   · exact h3.1
                   · exact ⟨.inr (by omega),fun e=>by have:=(HRN.out.own.lt _ e).2; omega⟩
                 · rcases h.1 with h3 | h3
                   · exact fun e=>h3.2.2 e.symm
                   · have h4:W1.heap.size<wr.heap.size:=hpw
                     omega
               obtain ⟨ho3,hg3⟩:=parts_store (S:=(fun b=>(S b∨w.heap.size+2≤b)∧(Value.slice (some ⟨gb,0,none⟩) (g.length+1) cap).ownBlock≠some b)) (j:=j) HXO.out.2.2.1 (by omega) (fun e=>HPM.out.1 e.symm) HXO.out.1 HXO.out.2.1 HXO.out.2.2.2.2.2 hUK
               refine ⟨⟨j+1,ps ++ [U],by omega,by go_num,?_,by simp [HXO.out.2.2.1],ho3,?_,?_,?_,?_⟩,by simp [intOf]; omega⟩
               · rw [List.take_succ_eq_append_getElem hlt]
                 exact typAll_snoc HTY.out.1 HTJ.out
               · exact grown_off (only_trans (only_trans hgr HG2.out.1) (World.grownBy_alloc _ _ _)) hg3 HPM.out.2
               · intro ys hys
                 exact ((HG2.out.2 ys (HTY.out.2.2 ys hys)).alloc _).kept hg3 (.inr HPM.out.1)
               · exact (k0.alloc _).grown hg3 (by intro e; simp at e <;> omega)
               · exact (k1.alloc _).grown hg3 (by intro e; simp at e <;> omega)
           · have hjl:j=l.length:=by omega
             subst hjl
             have hty':typAll l (g ++ [T])=.ok ps:=by rwa [List.take_length] at hty
             have hpo':TyR.Own (fun b=>(S b∨w.heap.size+2≤b)∧(Value.slice (some ⟨gb,0,none⟩) (g.length+1) cap).ownBlock≠some b) (w.heap.size+2) (.slice (some ⟨W1.heap.size,0,none⟩) l.length l.length) ps wr:=by
               simpa using hpo
             obtain ⟨q0,q1,q2,q3,q4⟩:=k0.cells5
             have hsl:=hpo'.sl.keep (S':=fun b=>(S b∨w.heap.size+2≤b)∧b<wr.heap.size) (fun b h=>⟨h.1.elim (fun h=>h.1) .inr,h.2⟩) (fun _ _=>rfl)
             have hTr2:IsTm (fun b=>(S b∨w.heap.size+2≤b)∧b<wr.heap.size) wr (.mk k i T l) (.agg #[.int .i64 k,.int .i64 i,.int .i64 T.kind,.slice B T.args.length d,.slice A l.length a0]):=IsTm.keep (fun b h=>⟨.inl h,by have:=(HS.out b h).1; omega⟩) (fun _ _=>rfl) _ hTr
             have HNT:=Lib.hid (And.intro hsl (And.intro hTr2 (And.intro (typAll_err l (g ++ [T]) hokl HGE.out.2.1 hty') (And.intro (typ_node (i:=i) h1 HGE.out.1 hty') (And.intro hre hpl)))))
             clear hsl hTr2 hTr hpo hpo' hty hty' hre hst hpl
             go_wp2_with fail
             refine (nodeType_in (fun b=>(S b∨w.heap.size+2≤b)∧b<wr.heap.size) k i T l ps _ _ wr (fun b h=>h.2) HNT.out.2.1 HNT.out.1 hf h1 HNT.out.2.2.2.2.2 HNT.out.2.2.1).mono ?_
             rintro e w3 ⟨hb3,h3⟩
             have k1:=k1.below hb3 k1.lt
             obtain ⟨r0,r1,g0,g1⟩:=k1.facts2
             have hs3:=hb3.size
             cases hnt:nodeTy k T ps with
             | error er=>
               rw [hnt] at h3
               simp only at h3
               subst h3
               have HNE:=Lib.hid hnt
               clear hnt
               go_wp2_with fail
               obtain ⟨z0,z1,_,_⟩:=(k1.set2 (.int .i64 0) (.slice none 0 0)).facts2
               refine bodyPost_ret (v:=.tuple #[.agg #[.int .i64 0,.slice none 0 0],.int .i64 er]) (by simp [results,Tryz.results243,go_sem,z0,z1]) rfl ?_
               obtain ⟨t1,t2⟩:=typeOf_close (fun b h=>(HS.out b h).1) HOW.out.1 (HNT.out.2.2.2.2.1.back _ (only_refl _ _) (fun _ h=>h)) HNT.out.2.2.2.2.1.size (only_trans (below_only hb3 (Nat.le_refl _) _) (only_set2 w3 (w.heap.size+1) (.int .i64 0) (.slice none 0 0)))
               refine ⟨t1,t2,?_⟩
               rw [HNT.out.2.2.2.1,HNE.out]
             | ok U=>
               rw [hnt] at h3
               obtain ⟨vU,rfl,hU⟩:=h3
               obtain ⟨AU,cU,rfl⟩:=hU.form
               have HNE:=Lib.hid hnt
               have HU:=Lib.hid hU
               clear hnt hU
               go_wp2_with fail
               obtain ⟨z0,z1,_,_⟩:=(k1.set2 (.int .i64 U.kind) (.slice AU U.args.length cU)).facts2
               refine bodyPost_ret (v:=.tuple #[.agg #[.int .i64 U.kind,.slice AU U.args.length cU],.int .i64 0]) (by simp [results,Tryz.results243,go_sem,z0,z1]) rfl ?_
               have hg4:=only_set2 w3 (w.heap.size+1) (.int .i64 U.kind) (.slice AU U.args.length cU)
               obtain ⟨t1,t2⟩:=typeOf_close (fun b h=>(HS.out b h).1) HOW.out.1 (HNT.out.2.2.2.2.1.back _ (only_refl _ _) (fun _ h=>h)) HNT.out.2.2.2.2.1.size (only_trans (below_only hb3 (Nat.le_refl _) _) hg4)
               refine ⟨t1,t2,?_⟩
               rw [HNT.out.2.2.2.1,HNE.out]
               have hrs:=HNT.out.2.2.2.2.1.size
               have hset:∀ b,(((S b∨w.heap.size+2≤b)∧b<wr.heap.size)∨wr.heap.size≤b)→(S b∨w.heap.size≤b)∧b≠w.heap.size+1:=by
                 intro b h
                 rcases h with ⟨h | h,_⟩ | h
                 · exact ⟨.inl h,by have:=(HS.out _ h).1; omega⟩
                 · exact ⟨.inr (by omega),by omega⟩
                 · exact ⟨.inr (by omega),by omega⟩
               exact ⟨_,rfl,IsTy.keep (fun b h=>⟨(hset b h.1).1,Nat.lt_of_lt_of_le h.2 hg4.size⟩) (fun p hp=>World.cell?_of_block (hg4.block p.block hp.2 (fun e=>(hset _ hp.1).2 (by simpa using e)))) _ HU.out⟩
       · have hform:=grow_form HXC.out.1 hroom
         obtain ⟨ao,cap,rfl,hnone,hfull,hholds⟩:=hform
         have after:∀ (v1:Value) (W1:World),W1.ownsRow (W.alloc (.cells #[.int .i64 T.kind,.slice B T.args.length d] 30)).heap.size 30 2 v1 (g.length+1) (xs ++ [.int .i64 T.kind,.slice B T.args.length d]) →
             (W.alloc (.cells #[.int .i64 T.kind,.slice B T.args.length d] 30)).grownBy W1 none →
             Hid (Rest w W1 S base (.slice ao g.length cap) g (.mk k i T l) (w.heap.size+3) v1 (g ++ [T]))∧Hid (Blk W1 w.heap.size 42 #[.int .i64 k,.int .i64 i,.int .i64 T.kind,.slice B T.args.length d,.slice A l.length a0]∧Blk W1 (w.heap.size+1) 30 #[.int .i64 0,.slice none 0 0]) ∧
               w.heap.size+2≤W1.heap.size∧W1.cell? ⟨w.heap.size,0,none⟩ = some (.int .i64 k)∧W1.cell? ⟨w.heap.size,1,none⟩ = some (.int .i64 i)∧W1.cell? ⟨w.heap.size,2,none⟩ = some (.int .i64 T.kind)∧W1.cell? ⟨w.heap.size,3,none⟩ = some (.slice B T.args.length d)∧W1.cell? ⟨w.heap.size,4,none⟩ = some (.slice A l.length a0):=by
           intro v1 W1 h1 h2
           obtain ⟨k0,k1⟩:=HKA.out
           have k0:=k0.grown h2 (by simp)
           have k1:=k1.grown h2 (by simp)
           have hrest:=rest_grow (i:=i) (l:=l) HK2.out HS.out HBZ.out.1 HNW.out.2 HOW.out.1 HXC.out.2.1 HXC.out.2.2 h1 h2
           exact ⟨Lib.hid hrest,Lib.hid ⟨k0,k1⟩,hrest.size,k0.cells5⟩
         have hholds':∀ b,ao=some b→∀ j u,xs[j]? = some u→(W.alloc (.cells #[.int .i64 T.kind,.slice B T.args.length d] 30)).cell? (b.add j)=some u:=fun b hb j u hu=>
           (World.cell?_alloc_lt _ _ _ (World.block_lt_of_cell? _ _ (hholds b hb j u hu))).trans (hholds b hb j u hu)
         have AFTER:=Lib.hid after
         have HHO:=Lib.hid (And.intro hnone (And.intro hfull (And.intro hxl hholds')))
         clear after HK hholds hholds' hnone hfull
         subst hW
         go_enter Tryz.func243,Tryz.ntmps243
         go_wp2_with (first | (at_builtin; go_loud (refine wpList_append_grows _ rfl _ _ 27 rfl 30 i0 _ 2 32 Tryz.underlying27 hi hz0 hz1 hz2 rfl (by decide) ao g.length cap xs rfl HHO.out.1 HHO.out.2.2.1 HHO.out.2.2.2 _ 1 1 [_,_] rfl rfl HNW.out.1 (by simp [Value.oneCell']) HHO.out.2.1 (by simp only [maxLen]; omega) (by omega) ?_); intro v1 W1 hown1 hgr1; obtain ⟨HRE,HK,hrs0,q0,q1,q2,q3,q4⟩:=AFTER.out v1 W1 hown1 hgr1) | (at_make; go_loud (refine wpList_make_full _ rfl _ _ 27 rfl (w.heap.size+2) 30 i0 _ 2 Tryz.underlying27 hi hz0 hz1 .i64 .i64 _ _ l.length rfl rfl rfl rfl (by rw [hz2]; omega) (by simp only [maxLen]; omega) (by omega) ?_); intro wm hmk hgm; obtain ⟨hpo,hre,k0,k1,hpm⟩:=parts_made (fun b h=>(HS.out b h).1) HK.out.1 HK.out.2 HRE.out hmk rfl hgm; obtain ⟨q0,q1,q2,q3,q4⟩:=k0.cells5))
         have hgr:=And.intro (grown_none hgm v1.ownBlock) (still_none (base:=(w.heap.size+3)) (c:=v1) (n:=(g ++ [T]).length) hgm)
         have hwp:True:=trivial
         clear hmk hgm hre
         have hpm:=And.intro hpm (Nat.le_refl W1.heap.size)
         have hgk:(g ++ [T])=if k=2 then g ++ [T] else g:=HRE.out.g'
         have hge:∀ T' ∈ (g ++ [T]),T'.err=0:=by
           intro T' hT'
           rw [hgk] at hT'
           by_cases hk2:k=2
           · rw [if_pos hk2] at hT'
             rcases List.mem_append.1 hT' with h3 | h3
             · exact HG.out _ h3
             · simp at h3; subst h3; exact HF.out.2.2.2.2.2.1 (.inl hk2)
           · rw [if_neg hk2] at hT'; exact HG.out _ hT'
         have hgl:(g ++ [T]).length+n≤400000:=by
           have:=HN.out
           rw [hgk]
           split
           · simp; omega
           · omega
         have HGE:=Lib.hid (And.intro hgk (And.intro hge hgl))
         have HPM:=Lib.hid hpm
         have hws:=HRE.out.size
         have HGR:=Lib.hid hgr
         have HWP:=Lib.hid hwp
         clear hgk hge hgl hpm hgr hwp
         go_loopw [35] (fun ix wr=>∃ (j:Nat) (ps:List Ty),j≤l.length∧ix=.int .i64 j∧typAll (l.take j) (g ++ [T])=.ok ps∧ps.length=j ∧
             TyR.Own (fun b=>(S b∨w.heap.size+2≤b)∧v1.ownBlock≠some b) (w.heap.size+2) (.slice (some ⟨W1.heap.size,0,none⟩) l.length l.length) (ps ++ List.replicate (l.length - j) .zero) wr∧W1.grownBy wr v1.ownBlock∧Still (w.heap.size+3) v1 (g ++ [T]).length W1 wr ∧
             Blk wr w.heap.size 42 #[.int .i64 k,.int .i64 i,.int .i64 T.kind,.slice B T.args.length d,.slice A l.length a0]∧Blk wr (w.heap.size+1) 30 #[.int .i64 0,.slice none 0 0])
           (fun ix _=>l.length - (intOf ix).toNat)
         case atStart=>exact ⟨0,[],by omega,rfl,rfl,rfl,by simpa using hpo,HGR.out.1,HGR.out.2,k0,k1⟩
         case round=>
           obtain ⟨j,ps,hj,rfl,hty,hpl,hpo,hgr,hst,k0,k1⟩:=hrel
           have hre:=HRE.out.next (fun b h=>(HS.out b h).1) hgr hst
           have hrs:=hre.size
           have hTr:IsTm S wr (.mk k i T l) (.agg #[.int .i64 k,.int .i64 i,.int .i64 T.kind,.slice B T.args.length d,.slice A l.length a0]):=IsTm.keep (fun _ h=>h) (fun p hp=>hre.keeps p hp) _ HT0.out
           by_cases hlt:j<l.length
           · have hl:=(isTm_iff.1 hTr).2.2.2
             obtain ⟨a,rfl,ha,hat⟩:=hl.get j hlt
             obtain ⟨B1,d1,A1,c1',q0,q1,q2,q3,q4,hx⟩:=at_tm hat
             change wr.cell? (a.add (j * 5))=_ at q0
             simp only [show TmR.n=5 from rfl] at q1 q2 q3 q4
             have hbj:=bulkAll_get l j hlt
             have hbn:l[j].bulk≤n:=by have:=HN.out; omega
             have hjok:=okAllT_get hokl j hlt
             have HX:=Lib.hid hx
             have HRN:=Lib.hid hre
             have HPO:=Lib.hid hpo
             have HTY:=Lib.hid (And.intro hty (And.intro hpl hst))
             clear hTr hl hat hx hre hpo hty hpl hst hbj
             go_wp2_with fail
             have hbx:=below_box wr (Obj.cells #[.int .i64 l[j].kind,.int .i64 l[j].index,.int .i64 l[j].type.kind,.slice B1 l[j].type.args.length d1,.slice A1 l[j].args.length c1'] 42)
             have hzx:=World.size_alloc wr (Obj.cells #[.int .i64 l[j].kind,.int .i64 l[j].index,.int .i64 l[j].type.kind,.slice B1 l[j].type.args.length d1,.slice A1 l[j].args.length c1'] 42)
             clear q0 q1 q2 q3 q4
             generalize wr.alloc (Obj.cells #[.int .i64 l[j].kind,.int .i64 l[j].index,.int .i64 l[j].type.kind,.slice B1 l[j].type.args.length d1,.slice A1 l[j].args.length c1'] 42)=wa at hbx hzx ⊢
             refine (IH.out l[j] (g ++ [T]) v1 _ (w.heap.size+3) (fun b=>((S b∨w.heap.size+2≤b)∧v1.ownBlock≠some b)∧b<wa.heap.size∧b≠W1.heap.size) wa hbn hjok HGE.out.2.1 HGE.out.2.2 (by have:=HRN.out.base'; omega) (fun b h=>⟨h.2.1,h.1.2⟩)
               (((own_still (HRE.out.own.mono (fun b h h'=>And.intro h h') (Nat.le_refl _)) HTY.out.2.2 hgr).below hbx).mono (fun b h h'=>⟨h.1,h',by have h1:=h.2; have h2:=HPM.out.2; omega⟩) (Nat.le_refl _)) (IsTm.keep (S:=S) (fun b h=>⟨⟨.inl h,fun e=>(HRN.out.lies b e).2 h⟩,by have:=(HS.out b h).1; omega,by have h1:=(HS.out b h).1; have h2:=HPM.out.2; omega⟩) (fun p hp=>hbx.cell (by have:=(HS.out _ hp).1; omega)) _ HX.out)).mono ?_
             rintro e w2 ⟨hg2,hs2,h2⟩
             have hgr2:wr.grownBy w2 v1.ownBlock:=only_trans (below_only hbx (Nat.le_refl _) _) hg2
             have hst2:Still (w.heap.size+3) v1 (g ++ [T]).length wr w2:=fun xs h=>hs2 xs (h.kept (below_only hbx (Nat.le_refl _) none) (by cases v1.ownBlock <;> simp))
             have hz2:=hgr2.size
             have hlies:=HRN.out.lies
             have ne0:some w.heap.size≠v1.ownBlock:=fun e=>by have:=(hlies _ e.symm).1; omega
             have ne1:some (w.heap.size+1)≠v1.ownBlock:=fun e=>by have:=(hlies _ e.symm).1; omega
             have k0:=k0.grown hgr2 ne0
             have k1:=k1.grown hgr2 ne1
             have hpo2:=HPO.out.kept hgr2 (.inr (fun e=>HPM.out.1 e.symm)) (fun kk e h=>h.2 e)
             have HP2:=Lib.hid hpo2
             have HG2:=Lib.hid (And.intro hgr2 hst2)
             have HLI:=Lib.hid (And.intro hlies (And.intro ne0 ne1))
             clear hg2 hs2 hpo2 hst2 hlies ne0 ne1 hgr2
             cases htj:l[j].typ (g ++ [T]) with
             | error er=>
               rw [htj] at h2
               simp only at h2
               subst h2
               have hee:(er != 0)=true:=by rcases typ_code _ _ htj with h | h | h <;> subst h <;> rfl
               have HSTOP:Hid ((Tm.mk k i T l).typ g=.error er):=Lib.hid (typ_stop h1 HGE.out.1 (by
                 have:=typAll_stop (m:=l.drop (j+1)) HTY.out.1 htj
                 rwa [← List.drop_eq_getElem_cons hlt,List.take_append_drop] at this))
               have r0:=fun o=>(k1.alloc o).facts2.1
               have r1:=fun o=>(k1.alloc o).facts2.2.1
               have g0:=fun o=>(k1.alloc o).facts2.2.2.1
               have g1:=fun o=>(k1.alloc o).facts2.2.2.2
               clear htj
               go_wp2_with fail
               obtain ⟨z0,z1,_,_⟩:=((k1.alloc (Obj.cells #[.int .i64 0,.slice none 0 0] 30)).set2 (.int .i64 0) (.slice none 0 0)).facts2
               refine bodyPost_ret (v:=.tuple #[.agg #[.int .i64 0,.slice none 0 0],.int .i64 er]) (by simp [results,Tryz.results243,go_sem,z0,z1]) rfl ?_
               have hgF:w2.grownBy (((w2.alloc (Obj.cells #[.int .i64 0,.slice none 0 0] 30)).setCell ⟨w.heap.size+1,0,none⟩ (.int .i64 0)).setCell ⟨w.heap.size+1,1,none⟩ (.slice none 0 0)) (some (w.heap.size+1)):=only_trans (World.grownBy_alloc w2 _ _) (only_set2 _ (w.heap.size+1) _ _)
               obtain ⟨t1,t2⟩:=typeOf_close (fun b h=>(HS.out b h).1) HOW.out.1 ((HRN.out.next (fun b h=>(HS.out b h).1) HG2.out.1 HG2.out.2).back _ (only_refl _ _) (fun _ h=>h)) (HRN.out.next (fun b h=>(HS.out b h).1) HG2.out.1 HG2.out.2).size hgF
               refine ⟨t1,t2,?_⟩
               rw [HSTOP.out]
             | ok U=>
               rw [htj] at h2
               obtain ⟨vU,rfl,hU⟩:=h2
               obtain ⟨AU,cU,rfl⟩:=hU.form
               have HU:=Lib.hid hU
               have HTJ:=Lib.hid htj
               obtain ⟨xs,hxo,hxc⟩:=HP2.out.below (below_box w2 (Obj.cells #[.int .i64 U.kind,.slice AU U.args.length cU] 30))
               have hpl:=HTY.out.2.1
               have hnl:(ps ++ List.replicate (l.length - j) Ty.zero).length=l.length:=by simp; omega
               rw [hnl] at hxo
               have hc0:=hxo.cellAt (j * 2) (by show j * 2<l.length * 2; omega)
               have hc1:=hxo.cellAt (j * 2+1) (by show j * 2+1<l.length * 2; omega)
               have hf0:=hxo.frozenAt (j * 2)
               have hf1:=hxo.frozenAt (j * 2+1)
               have hx0:∃ x,xs[j * 2]? = some x:=⟨_,List.getElem?_eq_getElem (by have:=hxo.1; have h2:TyR.n=2:=rfl; rw [h2] at this; omega)⟩
               have hx1:∃ x,xs[j * 2+1]? = some x:=⟨_,List.getElem?_eq_getElem (by have:=hxo.1; have h2:TyR.n=2:=rfl; rw [h2] at this; omega)⟩
               obtain ⟨x0,hx0⟩:=hx0
               obtain ⟨x1,hx1⟩:=hx1
               rw [hx0] at hc0
               rw [hx1] at hc1
               have HXO:=Lib.hid (And.intro hxo (And.intro hxc (And.intro hpl (And.intro hx0 (And.intro hx1 hnl)))))
               clear hU htj hxo hxc hx0 hx1 hpl hnl
               go_wp2_with fail
               have hUK:IsTy (fun b=>(fun b=>(S b∨w.heap.size+2≤b)∧v1.ownBlock≠some b) b∧b<(w2.alloc (Obj.cells #[.int .i64 U.kind,.slice AU U.args.length cU] 30)).heap.size∧W1.heap.size≠b) (w2.alloc (Obj.cells #[.int .i64 U.kind,.slice AU U.args.length cU] 30)) U (.agg #[.int .i64 U.kind,.slice AU U.args.length cU]):=by
                 refine IsTy.keep (fun b h=>?_) (fun p hp=>World.cell?_alloc_lt _ _ _ hp.2) _ HU.out
                 have hlt2:=h.2
                 have hpw:=(HPO.out.lt _ rfl).2
                 have h2:=HPM.out.2
                 refine ⟨?_,by simp; omega,?_⟩
                 · rcases h.1 with h3 | h3
                   · exact h3.1
                   · exact ⟨.inr (by omega),fun e=>by have:=(HRN.out.own.lt _ e).2; omega⟩
                 · rcases h.1 with h3 | h3
                   · exact fun e=>h3.2.2 e.symm
                   · have h4:W1.heap.size<wr.heap.size:=hpw
                     omega
               obtain ⟨ho3,hg3⟩:=parts_store (S:=(fun b=>(S b∨w.heap.size+2≤b)∧v1.ownBlock≠some b)) (j:=j) HXO.out.2.2.1 (by omega) (fun e=>HPM.out.1 e.symm) HXO.out.1 HXO.out.2.1 HXO.out.2.2.2.2.2 hUK
               refine ⟨⟨j+1,ps ++ [U],by omega,by go_num,?_,by simp [HXO.out.2.2.1],ho3,?_,?_,?_,?_⟩,by simp [intOf]; omega⟩
               · rw [List.take_succ_eq_append_getElem hlt]
                 exact typAll_snoc HTY.out.1 HTJ.out
               · exact grown_off (only_trans (only_trans hgr HG2.out.1) (World.grownBy_alloc _ _ _)) hg3 HPM.out.2
               · intro ys hys
                 exact ((HG2.out.2 ys (HTY.out.2.2 ys hys)).alloc _).kept hg3 (.inr HPM.out.1)
               · exact (k0.alloc _).grown hg3 (by intro e; simp at e <;> omega)
               · exact (k1.alloc _).grown hg3 (by intro e; simp at e <;> omega)
           · have hjl:j=l.length:=by omega
             subst hjl
             have hty':typAll l (g ++ [T])=.ok ps:=by rwa [List.take_length] at hty
             have hpo':TyR.Own (fun b=>(S b∨w.heap.size+2≤b)∧v1.ownBlock≠some b) (w.heap.size+2) (.slice (some ⟨W1.heap.size,0,none⟩) l.length l.length) ps wr:=by
               simpa using hpo
             obtain ⟨q0,q1,q2,q3,q4⟩:=k0.cells5
             have hsl:=hpo'.sl.keep (S':=fun b=>(S b∨w.heap.size+2≤b)∧b<wr.heap.size) (fun b h=>⟨h.1.elim (fun h=>h.1) .inr,h.2⟩) (fun _ _=>rfl)
             have hTr2:IsTm (fun b=>(S b∨w.heap.size+2≤b)∧b<wr.heap.size) wr (.mk k i T l) (.agg #[.int .i64 k,.int .i64 i,.int .i64 T.kind,.slice B T.args.length d,.slice A l.length a0]):=IsTm.keep (fun b h=>⟨.inl h,by have:=(HS.out b h).1; omega⟩) (fun _ _=>rfl) _ hTr
             have HNT:=Lib.hid (And.intro hsl (And.intro hTr2 (And.intro (typAll_err l (g ++ [T]) hokl HGE.out.2.1 hty') (And.intro (typ_node (i:=i) h1 HGE.out.1 hty') (And.intro hre hpl)))))
             clear hsl hTr2 hTr hpo hpo' hty hty' hre hst hpl
             go_wp2_with fail
             refine (nodeType_in (fun b=>(S b∨w.heap.size+2≤b)∧b<wr.heap.size) k i T l ps _ _ wr (fun b h=>h.2) HNT.out.2.1 HNT.out.1 hf h1 HNT.out.2.2.2.2.2 HNT.out.2.2.1).mono ?_
             rintro e w3 ⟨hb3,h3⟩
             have k1:=k1.below hb3 k1.lt
             obtain ⟨r0,r1,g0,g1⟩:=k1.facts2
             have hs3:=hb3.size
             cases hnt:nodeTy k T ps with
             | error er=>
               rw [hnt] at h3
               simp only at h3
               subst h3
               have HNE:=Lib.hid hnt
               clear hnt
               go_wp2_with fail
               obtain ⟨z0,z1,_,_⟩:=(k1.set2 (.int .i64 0) (.slice none 0 0)).facts2
               refine bodyPost_ret (v:=.tuple #[.agg #[.int .i64 0,.slice none 0 0],.int .i64 er]) (by simp [results,Tryz.results243,go_sem,z0,z1]) rfl ?_
               obtain ⟨t1,t2⟩:=typeOf_close (fun b h=>(HS.out b h).1) HOW.out.1 (HNT.out.2.2.2.2.1.back _ (only_refl _ _) (fun _ h=>h)) HNT.out.2.2.2.2.1.size (only_trans (below_only hb3 (Nat.le_refl _) _) (only_set2 w3 (w.heap.size+1) (.int .i64 0) (.slice none 0 0)))
               refine ⟨t1,t2,?_⟩
               rw [HNT.out.2.2.2.1,HNE.out]
             | ok U=>
               rw [hnt] at h3
               obtain ⟨vU,rfl,hU⟩:=h3
               obtain ⟨AU,cU,rfl⟩:=hU.form
               have HNE:=Lib.hid hnt
               have HU:=Lib.hid hU
               clear hnt hU
               go_wp2_with fail
               obtain ⟨z0,z1,_,_⟩:=(k1.set2 (.int .i64 U.kind) (.slice AU U.args.length cU)).facts2
               refine bodyPost_ret (v:=.tuple #[.agg #[.int .i64 U.kind,.slice AU U.args.length cU],.int .i64 0]) (by simp [results,Tryz.results243,go_sem,z0,z1]) rfl ?_
               have hg4:=only_set2 w3 (w.heap.size+1) (.int .i64 U.kind) (.slice AU U.args.length cU)
               obtain ⟨t1,t2⟩:=typeOf_close (fun b h=>(HS.out b h).1) HOW.out.1 (HNT.out.2.2.2.2.1.back _ (only_refl _ _) (fun _ h=>h)) HNT.out.2.2.2.2.1.size (only_trans (below_only hb3 (Nat.le_refl _) _) hg4)
               refine ⟨t1,t2,?_⟩
               rw [HNT.out.2.2.2.1,HNE.out]
               have hrs:=HNT.out.2.2.2.2.1.size
               have hset:∀ b,(((S b∨w.heap.size+2≤b)∧b<wr.heap.size)∨wr.heap.size≤b)→(S b∨w.heap.size≤b)∧b≠w.heap.size+1:=by
                 intro b h
                 rcases h with ⟨h | h,_⟩ | h
                 · exact ⟨.inl h,by have:=(HS.out _ h).1; omega⟩
                 · exact ⟨.inr (by omega),by omega⟩
                 · exact ⟨.inr (by omega),by omega⟩
               exact ⟨_,rfl,IsTy.keep (fun b h=>⟨(hset b h.1).1,Nat.lt_of_lt_of_le h.2 hg4.size⟩) (fun p hp=>World.cell?_of_block (hg4.block p.block hp.2 (fun e=>(hset _ hp.1).2 (by simpa using e)))) _ HU.out⟩
     · have e2:(k == 2)=false:=by rw [beq_eq_false_iff_ne]; exact h2
       have hrest:Rest w W S base c g (.mk k i T l) base c g:=
         { own:=HOW.out.2.mono (fun b h _=>⟨.inl h,(HS.out b h).2⟩) (Nat.le_refl _)
           back:=fun W2 h1 h3=>⟨only_trans (below_only HBZ.out.1 (Nat.le_refl _) _) h1,fun xs hx=>h3 xs (hx.kept (below_only HBZ.out.1 (Nat.le_refl _) none) (by cases c.ownBlock <;> simp))⟩
           lies:=fun b e=>⟨.inl (HOW.out.1.lt b e).2,fun h=>(HS.out b h).2 e⟩
           g':=by show g=if k=2 then _ else _; rw [if_neg h2]
           base':=Nat.le_trans hbase HBZ.out.1.size
           size:=by have:=HBZ.out.2; omega
           keeps:=fun p hp=>HBZ.out.1.cell (HS.out _ hp).1 }
       have HRE:=Lib.hid hrest
       clear hrest
       obtain ⟨W1,hW1⟩:∃ W1,W1=W:=⟨_,rfl⟩
       subst hW
       go_enter Tryz.func243,Tryz.ntmps243
       go_wp2_with (at_make; go_loud (refine wpList_make_full _ rfl _ _ 27 rfl (w.heap.size+2) 30 i0 _ 2 Tryz.underlying27 hi hz0 hz1 .i64 .i64 _ _ l.length rfl rfl rfl rfl (by rw [hz2]; omega) (by simp only [maxLen]; omega) (by simp) ?_); intro wm hmk hgm
                    obtain ⟨hpo,hre,k0,k1,hpm⟩:=parts_made (fun b h=>(HS.out b h).1) HK.out.1 HK.out.2 HRE.out hmk rfl hgm
                    obtain ⟨q0,q1,q2,q3,q4⟩:=k0.cells5)
       have hwp:W1.heap.size=w.heap.size+1+1:=by rw [hW1]; simp
       rw [← hW1] at hpo hpm hgm HRE HBZ
       rw [hwp] at hpo hpm
       have hgr:=And.intro (grown_none hgm c.ownBlock) (still_none (base:=base) (c:=c) (n:=g.length) hgm)
       clear hmk hW1 hgm hre
       have hpm:=And.intro hpm (Nat.le_of_eq hwp)
       have hgk:g=if k=2 then g ++ [T] else g:=HRE.out.g'
       have hge:∀ T' ∈ g,T'.err=0:=by
         intro T' hT'
         rw [hgk] at hT'
         by_cases hk2:k=2
         · rw [if_pos hk2] at hT'
           rcases List.mem_append.1 hT' with h3 | h3
           · exact HG.out _ h3
           · simp at h3; subst h3; exact HF.out.2.2.2.2.2.1 (.inl hk2)
         · rw [if_neg hk2] at hT'; exact HG.out _ hT'
       have hgl:g.length+n≤400000:=by
         have:=HN.out
         rw [hgk]
         split
         · simp; omega
         · omega
       have HGE:=Lib.hid (And.intro hgk (And.intro hge hgl))
       have HPM:=Lib.hid hpm
       have hws:=HRE.out.size
       have HGR:=Lib.hid hgr
       have HWP:=Lib.hid hwp
       clear hgk hge hgl hpm hgr hwp
       go_loopw [35] (fun ix wr=>∃ (j:Nat) (ps:List Ty),j≤l.length∧ix=.int .i64 j∧typAll (l.take j) g=.ok ps∧ps.length=j ∧
           TyR.Own (fun b=>(S b∨w.heap.size+2≤b)∧c.ownBlock≠some b) (w.heap.size+2) (.slice (some ⟨w.heap.size+1+1,0,none⟩) l.length l.length) (ps ++ List.replicate (l.length - j) .zero) wr∧W1.grownBy wr c.ownBlock∧Still base c g.length W1 wr ∧
           Blk wr w.heap.size 42 #[.int .i64 k,.int .i64 i,.int .i64 T.kind,.slice B T.args.length d,.slice A l.length a0]∧Blk wr (w.heap.size+1) 30 #[.int .i64 0,.slice none 0 0])
         (fun ix _=>l.length - (intOf ix).toNat)
       case atStart=>exact ⟨0,[],by omega,rfl,rfl,rfl,by simpa using hpo,HGR.out.1,HGR.out.2,k0,k1⟩
       case round=>
         obtain ⟨j,ps,hj,rfl,hty,hpl,hpo,hgr,hst,k0,k1⟩:=hrel
         have hre:=HRE.out.next (fun b h=>(HS.out b h).1) hgr hst
         have hrs:=hre.size
         have hTr:IsTm S wr (.mk k i T l) (.agg #[.int .i64 k,.int .i64 i,.int .i64 T.kind,.slice B T.args.length d,.slice A l.length a0]):=IsTm.keep (fun _ h=>h) (fun p hp=>hre.keeps p hp) _ HT0.out
         by_cases hlt:j<l.length
         · have hl:=(isTm_iff.1 hTr).2.2.2
           obtain ⟨a,rfl,ha,hat⟩:=hl.get j hlt
           obtain ⟨B1,d1,A1,c1',q0,q1,q2,q3,q4,hx⟩:=at_tm hat
           change wr.cell? (a.add (j * 5))=_ at q0
           simp only [show TmR.n=5 from rfl] at q1 q2 q3 q4
           have hbj:=bulkAll_get l j hlt
           have hbn:l[j].bulk≤n:=by have:=HN.out; omega
           have hjok:=okAllT_get hokl j hlt
           have HX:=Lib.hid hx
           have HRN:=Lib.hid hre
           have HPO:=Lib.hid hpo
           have HTY:=Lib.hid (And.intro hty (And.intro hpl hst))
           clear hTr hl hat hx hre hpo hty hpl hst hbj
           go_wp2_with fail
           have hbx:=below_box wr (Obj.cells #[.int .i64 l[j].kind,.int .i64 l[j].index,.int .i64 l[j].type.kind,.slice B1 l[j].type.args.length d1,.slice A1 l[j].args.length c1'] 42)
           have hzx:=World.size_alloc wr (Obj.cells #[.int .i64 l[j].kind,.int .i64 l[j].index,.int .i64 l[j].type.kind,.slice B1 l[j].type.args.length d1,.slice A1 l[j].args.length c1'] 42)
           clear q0 q1 q2 q3 q4
           generalize wr.alloc (Obj.cells #[.int .i64 l[j].kind,.int .i64 l[j].index,.int .i64 l[j].type.kind,.slice B1 l[j].type.args.length d1,.slice A1 l[j].args.length c1'] 42)=wa at hbx hzx ⊢
           refine (IH.out l[j] g c _ base (fun b=>((S b∨w.heap.size+2≤b)∧c.ownBlock≠some b)∧b<wa.heap.size∧b≠w.heap.size+1+1) wa hbn hjok HGE.out.2.1 HGE.out.2.2 (by have:=HRN.out.base'; omega) (fun b h=>⟨h.2.1,h.1.2⟩)
             (((own_still (HRE.out.own.mono (fun b h h'=>And.intro h h') (Nat.le_refl _)) HTY.out.2.2 hgr).below hbx).mono (fun b h h'=>⟨h.1,h',by have h1:=h.2; have h2:=HPM.out.2; omega⟩) (Nat.le_refl _)) (IsTm.keep (S:=S) (fun b h=>⟨⟨.inl h,fun e=>(HRN.out.lies b e).2 h⟩,by have:=(HS.out b h).1; omega,by have h1:=(HS.out b h).1; have h2:=HPM.out.2; omega⟩) (fun p hp=>hbx.cell (by have:=(HS.out _ hp).1; omega)) _ HX.out)).mono ?_
           rintro e w2 ⟨hg2,hs2,h2⟩
           have hgr2:wr.grownBy w2 c.ownBlock:=only_trans (below_only hbx (Nat.le_refl _) _) hg2
           have hst2:Still base c g.length wr w2:=fun xs h=>hs2 xs (h.kept (below_only hbx (Nat.le_refl _) none) (by cases c.ownBlock <;> simp))
           have hz2:=hgr2.size
           have hlies:=HRN.out.lies
           have ne0:some w.heap.size≠c.ownBlock:=fun e=>by have:=(hlies _ e.symm).1; omega
           have ne1:some (w.heap.size+1)≠c.ownBlock:=fun e=>by have:=(hlies _ e.symm).1; omega
           have k0:=k0.grown hgr2 ne0
           have k1:=k1.grown hgr2 ne1
           have hpo2:=HPO.out.kept hgr2 (.inr (fun e=>HPM.out.1 e.symm)) (fun kk e h=>h.2 e)
           have HP2:=Lib.hid hpo2
           have HG2:=Lib.hid (And.intro hgr2 hst2)
           have HLI:=Lib.hid (And.intro hlies (And.intro ne0 ne1))
           clear hg2 hs2 hpo2 hst2 hlies ne0 ne1 hgr2
           cases htj:l[j].typ g with
           | error er=>
             rw [htj] at h2
             simp only at h2
             subst h2
             have hee:(er != 0)=true:=by rcases typ_code _ _ htj with h | h | h <;> subst h <;> rfl
             have HSTOP:Hid ((Tm.mk k i T l).typ g=.error er):=Lib.hid (typ_stop h1 HGE.out.1 (by
               have:=typAll_stop (m:=l.drop (j+1)) HTY.out.1 htj
               rwa [← List.drop_eq_getElem_cons hlt,List.take_append_drop] at this))
             have r0:=fun o=>(k1.alloc o).facts2.1
             have r1:=fun o=>(k1.alloc o).facts2.2.1
             have g0:=fun o=>(k1.alloc o).facts2.2.2.1
             have g1:=fun o=>(k1.alloc o).facts2.2.2.2
             clear htj
             go_wp2_with fail
             obtain ⟨z0,z1,_,_⟩:=((k1.alloc (Obj.cells #[.int .i64 0,.slice none 0 0] 30)).set2 (.int .i64 0) (.slice none 0 0)).facts2
             refine bodyPost_ret (v:=.tuple #[.agg #[.int .i64 0,.slice none 0 0],.int .i64 er]) (by simp [results,Tryz.results243,go_sem,z0,z1]) rfl ?_
             have hgF:w2.grownBy (((w2.alloc (Obj.cells #[.int .i64 0,.slice none 0 0] 30)).setCell ⟨w.heap.size+1,0,none⟩ (.int .i64 0)).setCell ⟨w.heap.size+1,1,none⟩ (.slice none 0 0)) (some (w.heap.size+1)):=only_trans (World.grownBy_alloc w2 _ _) (only_set2 _ (w.heap.size+1) _ _)
             obtain ⟨t1,t2⟩:=typeOf_close (fun b h=>(HS.out b h).1) HOW.out.1 ((HRN.out.next (fun b h=>(HS.out b h).1) HG2.out.1 HG2.out.2).back _ (only_refl _ _) (fun _ h=>h)) (HRN.out.next (fun b h=>(HS.out b h).1) HG2.out.1 HG2.out.2).size hgF
             refine ⟨t1,t2,?_⟩
             rw [HSTOP.out]
           | ok U=>
             rw [htj] at h2
             obtain ⟨vU,rfl,hU⟩:=h2
             obtain ⟨AU,cU,rfl⟩:=hU.form
             have HU:=Lib.hid hU
             have HTJ:=Lib.hid htj
             obtain ⟨xs,hxo,hxc⟩:=HP2.out.below (below_box w2 (Obj.cells #[.int .i64 U.kind,.slice AU U.args.length cU] 30))
             have hpl:=HTY.out.2.1
             have hnl:(ps ++ List.replicate (l.length - j) Ty.zero).length=l.length:=by simp; omega
             rw [hnl] at hxo
             have hc0:=hxo.cellAt (j * 2) (by show j * 2<l.length * 2; omega)
             have hc1:=hxo.cellAt (j * 2+1) (by show j * 2+1<l.length * 2; omega)
             have hf0:=hxo.frozenAt (j * 2)
             have hf1:=hxo.frozenAt (j * 2+1)
             have hx0:∃ x,xs[j * 2]? = some x:=⟨_,List.getElem?_eq_getElem (by have:=hxo.1; have h2:TyR.n=2:=rfl; rw [h2] at this; omega)⟩
             have hx1:∃ x,xs[j * 2+1]? = some x:=⟨_,List.getElem?_eq_getElem (by have:=hxo.1; have h2:TyR.n=2:=rfl; rw [h2] at this; omega)⟩
             obtain ⟨x0,hx0⟩:=hx0
             obtain ⟨x1,hx1⟩:=hx1
             rw [hx0] at hc0
             rw [hx1] at hc1
             have HXO:=Lib.hid (And.intro hxo (And.intro hxc (And.intro hpl (And.intro hx0 (And.intro hx1 hnl)))))
             clear hU htj hxo hxc hx0 hx1 hpl hnl
             go_wp2_with fail
             have hUK:IsTy (fun b=>(fun b=>(S b∨w.heap.size+2≤b)∧c.ownBlock≠some b) b∧b<(w2.alloc (Obj.cells #[.int .i64 U.kind,.slice AU U.args.length cU] 30)).heap.size∧w.heap.size+1+1≠b) (w2.alloc (Obj.cells #[.int .i64 U.kind,.slice AU U.args.length cU] 30)) U (.agg #[.int .i64 U.kind,.slice AU U.args.length cU]):=by
               refine IsTy.keep (fun b h=>?_) (fun p hp=>World.cell?_alloc_lt _ _ _ hp.2) _ HU.out
               have hlt2:=h.2
               have hpw:=(HPO.out.lt _ rfl).2
               have h2:=HPM.out.2
               refine ⟨?_,by simp; omega,?_⟩
               · rcases h.1 with h3 | h3
                 · exact h3.1
                 · exact ⟨.inr (by omega),fun e=>by have:=(HRN.out.own.lt _ e).2; omega⟩
               · rcases h.1 with h3 | h3
                 · exact fun e=>h3.2.2 e.symm
                 · have h4:w.heap.size+1+1<wr.heap.size:=hpw
                   omega
             obtain ⟨ho3,hg3⟩:=parts_store (S:=(fun b=>(S b∨w.heap.size+2≤b)∧c.ownBlock≠some b)) (j:=j) HXO.out.2.2.1 (by omega) (fun e=>HPM.out.1 e.symm) HXO.out.1 HXO.out.2.1 HXO.out.2.2.2.2.2 hUK
             refine ⟨⟨j+1,ps ++ [U],by omega,by go_num,?_,by simp [HXO.out.2.2.1],ho3,?_,?_,?_,?_⟩,by simp [intOf]; omega⟩
             · rw [List.take_succ_eq_append_getElem hlt]
               exact typAll_snoc HTY.out.1 HTJ.out
             · exact grown_off (only_trans (only_trans hgr HG2.out.1) (World.grownBy_alloc _ _ _)) hg3 HPM.out.2
             · intro ys hys
               exact ((HG2.out.2 ys (HTY.out.2.2 ys hys)).alloc _).kept hg3 (.inr HPM.out.1)
             · exact (k0.alloc _).grown hg3 (by intro e; simp at e <;> omega)
             · exact (k1.alloc _).grown hg3 (by intro e; simp at e <;> omega)
         · have hjl:j=l.length:=by omega
           subst hjl
           have hty':typAll l g=.ok ps:=by rwa [List.take_length] at hty
           have hpo':TyR.Own (fun b=>(S b∨w.heap.size+2≤b)∧c.ownBlock≠some b) (w.heap.size+2) (.slice (some ⟨w.heap.size+1+1,0,none⟩) l.length l.length) ps wr:=by
             simpa using hpo
           obtain ⟨q0,q1,q2,q3,q4⟩:=k0.cells5
           have hsl:=hpo'.sl.keep (S':=fun b=>(S b∨w.heap.size+2≤b)∧b<wr.heap.size) (fun b h=>⟨h.1.elim (fun h=>h.1) .inr,h.2⟩) (fun _ _=>rfl)
           have hTr2:IsTm (fun b=>(S b∨w.heap.size+2≤b)∧b<wr.heap.size) wr (.mk k i T l) (.agg #[.int .i64 k,.int .i64 i,.int .i64 T.kind,.slice B T.args.length d,.slice A l.length a0]):=IsTm.keep (fun b h=>⟨.inl h,by have:=(HS.out b h).1; omega⟩) (fun _ _=>rfl) _ hTr
           have HNT:=Lib.hid (And.intro hsl (And.intro hTr2 (And.intro (typAll_err l g hokl HGE.out.2.1 hty') (And.intro (typ_node (i:=i) h1 HGE.out.1 hty') (And.intro hre hpl)))))
           clear hsl hTr2 hTr hpo hpo' hty hty' hre hst hpl
           go_wp2_with fail
           refine (nodeType_in (fun b=>(S b∨w.heap.size+2≤b)∧b<wr.heap.size) k i T l ps _ _ wr (fun b h=>h.2) HNT.out.2.1 HNT.out.1 hf h1 HNT.out.2.2.2.2.2 HNT.out.2.2.1).mono ?_
           rintro e w3 ⟨hb3,h3⟩
           have k1:=k1.below hb3 k1.lt
           obtain ⟨r0,r1,g0,g1⟩:=k1.facts2
           have hs3:=hb3.size
           cases hnt:nodeTy k T ps with
           | error er=>
             rw [hnt] at h3
             simp only at h3
             subst h3
             have HNE:=Lib.hid hnt
             clear hnt
             go_wp2_with fail
             obtain ⟨z0,z1,_,_⟩:=(k1.set2 (.int .i64 0) (.slice none 0 0)).facts2
             refine bodyPost_ret (v:=.tuple #[.agg #[.int .i64 0,.slice none 0 0],.int .i64 er]) (by simp [results,Tryz.results243,go_sem,z0,z1]) rfl ?_
             obtain ⟨t1,t2⟩:=typeOf_close (fun b h=>(HS.out b h).1) HOW.out.1 (HNT.out.2.2.2.2.1.back _ (only_refl _ _) (fun _ h=>h)) HNT.out.2.2.2.2.1.size (only_trans (below_only hb3 (Nat.le_refl _) _) (only_set2 w3 (w.heap.size+1) (.int .i64 0) (.slice none 0 0)))
             refine ⟨t1,t2,?_⟩
             rw [HNT.out.2.2.2.1,HNE.out]
           | ok U=>
             rw [hnt] at h3
             obtain ⟨vU,rfl,hU⟩:=h3
             obtain ⟨AU,cU,rfl⟩:=hU.form
             have HNE:=Lib.hid hnt
             have HU:=Lib.hid hU
             clear hnt hU
             go_wp2_with fail
             obtain ⟨z0,z1,_,_⟩:=(k1.set2 (.int .i64 U.kind) (.slice AU U.args.length cU)).facts2
             refine bodyPost_ret (v:=.tuple #[.agg #[.int .i64 U.kind,.slice AU U.args.length cU],.int .i64 0]) (by simp [results,Tryz.results243,go_sem,z0,z1]) rfl ?_
             have hg4:=only_set2 w3 (w.heap.size+1) (.int .i64 U.kind) (.slice AU U.args.length cU)
             obtain ⟨t1,t2⟩:=typeOf_close (fun b h=>(HS.out b h).1) HOW.out.1 (HNT.out.2.2.2.2.1.back _ (only_refl _ _) (fun _ h=>h)) HNT.out.2.2.2.2.1.size (only_trans (below_only hb3 (Nat.le_refl _) _) hg4)
             refine ⟨t1,t2,?_⟩
             rw [HNT.out.2.2.2.1,HNE.out]
             have hrs:=HNT.out.2.2.2.2.1.size
             have hset:∀ b,(((S b∨w.heap.size+2≤b)∧b<wr.heap.size)∨wr.heap.size≤b)→(S b∨w.heap.size≤b)∧b≠w.heap.size+1:=by
               intro b h
               rcases h with ⟨h | h,_⟩ | h
               · exact ⟨.inl h,by have:=(HS.out _ h).1; omega⟩
               · exact ⟨.inr (by omega),by omega⟩
               · exact ⟨.inr (by omega),by omega⟩
             exact ⟨_,rfl,IsTy.keep (fun b h=>⟨(hset b h.1).1,Nat.lt_of_lt_of_le h.2 hg4.size⟩) (fun p hp=>World.cell?_of_block (hg4.block p.block hp.2 (fun e=>(hset _ hp.1).2 (by simpa using e)))) _ HU.out⟩
end Go.Proofs.YtipfnkajdooiiaaGreatDoor
namespace Go.Proofs.YtipfnkajdooiiaaGreatDoor
open Go.RowKit

theorem check_is {T:Ty} {v:Value} {w:World} (e0:Int) (he:T.err=e0) (hsz:T.nodes≤400000) (hT:IsTy (· < w.heap.size) w T v) :
   Calls Tryz.prog 156 #[v] w fun e w'=>e=.returned (.int .i64 e0)∧Below w.heap.size w w':=by
 subst he
 exact check_any T v w hsz hT

/-- The error of a context. -/
def ctxErr (g:List Ty):Int:=if 16<g.length then 3 else errs g

set_option maxRecDepth 100000 in
set_option maxHeartbeats 2000000 in
theorem context_any (l:List Ty) (s:Value) (w:World) (hsz:nodesAll l≤400000) (hlen:l.length≤1000000) (hl:TyR.Sl (· < w.heap.size) w l s) :
   Calls Tryz.prog 82 #[s] w fun e w'=>e=.returned (.int .i64 (ctxErr l))∧Below w.heap.size w w':=by
 obtain ⟨A,c,rfl⟩:=hl.form
 have HL:=Lib.hid hl
 clear hl
 by_cases h16:16<l.length
 · have e1:decide ((16:Int)<(l.length:Int))=true:=by simp; omega
   have hr:ctxErr l=3:=by unfold ctxErr; rw [if_pos h16]
   rw [hr]
   go_enter Tryz.func82,Tryz.ntmps82
   go_wp2_with fail
   go_ret
   exact ⟨rfl,Below.refl _ _⟩
 · have e1:decide ((16:Int)<(l.length:Int))=false:=by simp; omega
   have hr:ctxErr l=errs l:=by unfold ctxErr; rw [if_neg h16]
   have HR:=Lib.hid hr
   clear hr
   go_enter Tryz.func82,Tryz.ntmps82
   go_wp2_with fail
   go_loopw [11] (fun ix wr=>∃ j:Nat,j≤l.length∧ix=.int .i64 j∧errs (l.take j)=0∧Below w.heap.size w wr) (fun ix _=>l.length - (intOf ix).toNat)
   case atStart=>exact ⟨0,by omega,rfl,rfl,Below.refl _ _⟩
   case round=>
     obtain ⟨j,hj,rfl,herr,hbel⟩:=hrel
     have HE:=Lib.hid herr
     clear herr
     by_cases hlt:j<l.length
     · have hl1:TyR.Sl (· < w.heap.size) wr l (.slice A l.length c):=HL.out.keep (fun _ h=>h) (fun p hp=>hbel.cell hp)
       obtain ⟨a,rfl,ha,hat⟩:=hl1.get j hlt
       obtain ⟨A1,c1,q0,q1,hx⟩:=at_ty hat
       simp only [show TyR.n=2 from rfl] at q0 q1
       have hnj:=nodesAll_get l j hlt
       have hbx:=below_box wr (Obj.cells #[.int .i64 l[j].kind,.slice A1 l[j].args.length c1] 30)
       have hx1:=(IsTy.keep (S':=(· < wr.heap.size)) (fun b h=>Nat.lt_of_lt_of_le h hbel.size) (fun _ _=>rfl) _ hx).boxed hbx
       have HX:=Lib.hid (And.intro hx1 hbx)
       clear hl1 hat hx hx1 hbx
       by_cases hej:l[j].err=0
       · have HJ:=Lib.hid hej
         clear hej
         go_wp2_with fail
         refine (check_is 0 HJ.out (by omega) HX.out.1).mono ?_
         rintro e w1 ⟨rfl,hb1⟩
         go_wp2_with fail
         exact ⟨⟨j+1,by omega,by go_num,errs_take hlt HE.out HJ.out,hbel.trans ((HX.out.2.trans (hb1.mono HX.out.2.size)).mono hbel.size)⟩,by simp [intOf]; omega⟩
       · have e2:(l[j].err != 0)=true:=by simp [hej]
         have HS:=Lib.hid (errs_stop hlt HE.out hej)
         clear hej
         go_wp2_with fail
         refine (check_is l[j].err rfl (by omega) HX.out.1).mono ?_
         rintro e w1 ⟨rfl,hb1⟩
         go_wp2_with fail
         go_ret
         exact ⟨by rw [HR.out,HS.out]; rfl,hbel.trans ((HX.out.2.trans (hb1.mono HX.out.2.size)).mono hbel.size)⟩
     · have hjl:j=l.length:=by omega
       subst hjl
       rw [List.take_length] at HE
       go_wp2_with fail
       go_ret
       exact ⟨by rw [HR.out,HE.out]; rfl,hbel⟩

/-- A copy of a list of types: the call's own. -/
def CloneR (S:Nat→Prop) (g:List Ty) (w:World) (e:Ending) (w':World):Prop:=∃ c,e=.returned c∧TyR.Own S w.heap.size c g w'∧Below w.heap.size w w'

set_option maxRecDepth 100000 in
set_option maxHeartbeats 2000000 in
theorem clone_in (S:Nat→Prop) (g:List Ty) (s:Value) (w:World) (hS:∀ b,S b→b<w.heap.size) (hlen:g.length≤1000000) (hl:TyR.Sl S w g s) (hnil:g=[]→s=.slice none 0 0) :
   Calls Tryz.prog 85 #[s] w (CloneR S g w):=by
 by_cases hg:g=[]
 · subst hg
   obtain rfl:=hnil rfl
   have heq:=fun (w:World) (a:Option Addr) (n c:Nat)=>Lib.run_eql_slice_nil (P:=Tryz.prog) w 27 _ a n c 0 0 Tryz.underlying27
   go_enter Tryz.func85,Tryz.ntmps85
   go_wp2_with fail
   go_ret
   exact ⟨_,rfl,Rep.Own.nil _ _ _,Below.refl _ _⟩
 · obtain ⟨A,c,rfl,h⟩:=hl
   obtain ⟨a,rfl,ha,harr⟩:=h hg
   obtain ⟨news,hch,hnc⟩:=harr.cells
   obtain ⟨i0,hi,hz0,hz1,hz2⟩:=info_parts info_type
   have hno:=hch.oneCells
   have hnl:news.length=g.length * 2:=hch.1
   have hpos:0<g.length:=List.length_pos_iff.2 hg
   have hnc':∀ j u,news[j]? = some u→(w.alloc (.cells #[] 30)).cell? (a.add j)=some u:=fun j u hu=>(World.cell?_alloc_lt _ _ _ (by rw [add_block]; exact hS _ ha)).trans (hnc j u hu)
   have HN:=Lib.hid (And.intro hnc hnc')
   have HC:=Lib.hid hch
   have HS:=Lib.hid hS
   clear hnc hnc' hch h harr hnil
   have heq:=fun (w:World) (a:Option Addr) (n c:Nat)=>Lib.run_eql_slice_nil (P:=Tryz.prog) w 27 _ a n c 0 0 Tryz.underlying27
   go_enter Tryz.func85,Tryz.ntmps85
   go_wp2_with (at_builtin; go_loud (refine wpList_append_grows _ rfl _ _ 27 rfl 30 i0 _ 2 32 Tryz.underlying27 hi hz0 hz1 hz2 rfl (by decide) (some ⟨w.heap.size,0,none⟩) 0 0 [] rfl (fun e=>by cases e) rfl (fun b e j u hu=>by simp at hu) a g.length c news rfl hnl HN.out.2 hno (by omega) (by simp only [maxLen]; omega) (by omega) ?_); intro v1 w1 hown1 hgr1)
   go_ret
   have hgF:w.grownBy w1 none:=only_trans (World.grownBy_alloc _ _ _) hgr1
   have hbF:=(Below.refl w.heap.size w).grown hgF (Nat.le_refl _) (fun k e=>by cases e)
   have hlt:=hown1.lt
   refine ⟨_,rfl,?_,hbF⟩
   have h2:TyR.Own S (w.heap.size+1) v1 g w1:=⟨news,by have h:=hown1; simp at h; exact h,HC.out.keep (fun b h=>⟨h,Nat.lt_of_lt_of_le (HS.out b h) hbF.size,fun e=>by have h1:=(hlt b e).1; have h2:=HS.out b h; simp at h1; omega⟩) (fun p hp=>hbF.cell (HS.out _ hp))⟩
   exact h2.mono (fun b h _=>h) (by omega)

/-- What TypeOf returns. -/
def Tm.typeOf (t:Tm) (g:List Ty):Except Int Ty:=if ctxErr g=0 then if t.err=0 then t.typ g else .error t.err else .error (ctxErr g)

def TypeTopR (t:Tm) (g:List Ty) (w:World) (e:Ending) (w':World):Prop:=
 Below w.heap.size w w'∧match t.typeOf g with
   | .ok U=>∃ v,e=.returned (.tuple #[v,.int .i64 0])∧IsTy (· < w'.heap.size) w' U v
   | .error k=>e=.returned (.tuple #[.agg #[.int .i64 0,.slice none 0 0],.int .i64 k])

theorem errs_zero:∀ {l:List Ty},errs l=0→∀ T ∈ l,T.err=0
 | [],_,T,h=>by simp at h
 | t :: r,he,T,h=>by
   simp only [errs] at he
   split at he
   · rename_i h0
     simp at h
     rcases h with rfl | h
     · exact h0
     · exact errs_zero he T h
   · rename_i h0; exact absurd he h0
theorem ctxErr_zero {g:List Ty} (h:ctxErr g=0):g.length≤16∧∀ T ∈ g,T.err=0:=by
 unfold ctxErr at h
 split at h
 · cases h
 · exact ⟨by omega,errs_zero h⟩

theorem top_err {t:Tm} {g:List Ty} {w w3:World} {c:Int} (hr:t.typeOf g=.error c) (hb:Below w.heap.size w w3) :
   TypeTopR t g w (.returned (.tuple #[.agg #[.int .i64 0,.slice none 0 0],.int .i64 c])) ((w3.setCell ⟨w.heap.size+1,0,none⟩ (.int .i64 0)).setCell ⟨w.heap.size+1,1,none⟩ (.slice none 0 0)):=by
 have hg:=only_set2 w3 (w.heap.size+1) (.int .i64 0) (.slice none 0 0)
 unfold TypeTopR
 rw [hr]
 exact ⟨hb.grown hg hb.size (fun k e=>by cases e; omega),rfl⟩

set_option maxRecDepth 100000 in
set_option maxHeartbeats 4000000 in
theorem typeTop_any (t:Tm) (g:List Ty) (s v:Value) (w:World) (htab:Tab w) (hsz:t.bulk≤390000) (hgs:nodesAll g≤400000) (hlen:g.length≤1000000) (hnil:g=[]→s=.slice none 0 0) (hg:TyR.Sl (· < w.heap.size) w g s) (hT:IsTm (· < w.heap.size) w t v) :
   Calls Tryz.prog 209 #[s,v] w (TypeTopR t g w):=by
 obtain ⟨B,d,A,c,rfl,_,_⟩:=hT.parts
 obtain ⟨W,hW,hb,hz,k0,k1⟩:=box52_facts w (.int .i64 t.kind) (.int .i64 t.index) (.int .i64 t.type.kind) (.slice B t.type.args.length d) (.slice A t.args.length c)
 have hTW:=hT.keep (S':=(· < w.heap.size)) (fun _ h=>h) (fun p hp=>hb.cell hp)
 have hgW:=hg.keep (S':=(· < w.heap.size)) (fun _ h=>h) (fun p hp=>hb.cell hp)
 have HT:=Lib.hid hTW
 have HG:=Lib.hid hgW
 have HB:=Lib.hid (And.intro hb hz)
 have HTab:=Lib.hid (htab.after hb)
 have HNIL:=Lib.hid hnil
 have hup:∀ b,b<w.heap.size→b<W.heap.size:=fun b h=>Nat.lt_of_lt_of_le h hb.size
 clear hT hg hTW hgW hb hz htab hnil
 go_enter Tryz.func209,Tryz.ntmps209
 go_wp2_with fail
 rw [← hW]
 refine (context_any g s W hgs hlen (HG.out.keep hup (fun _ _=>rfl))).mono ?_
 rintro e w1 ⟨rfl,hb1⟩
 have k0:=k0.below hb1 k0.lt
 have k1:=k1.below hb1 k1.lt
 have hs1:=hb1.size
 by_cases hc:ctxErr g=0
 · have HC:=Lib.hid hc
   rw [hc]
   clear hc
   obtain ⟨q0,q1,q2,q3,q4⟩:=k0.cells5
   go_wp2_with fail
   refine (checkT_any t _ w1 (by omega) (HTab.out.after hb1) (HT.out.keep (fun b h=>Nat.lt_of_lt_of_le (hup b h) hs1) (fun p hp=>hb1.cell (hup _ hp)))).mono ?_
   rintro e w2 ⟨rfl,hb2⟩
   have hb02:Below W.heap.size W w2:=hb1.trans (hb2.mono hs1)
   have k0:=k0.below hb2 k0.lt
   have k1:=k1.below hb2 k1.lt
   have hs2:=hb02.size
   clear q0 q1 q2 q3 q4
   by_cases he:t.err=0
   · have HE:=Lib.hid he
     rw [he]
     clear he
     have hc0:=ctxErr_zero HC.out
     have hok:=(errT_zero.1 HE.out).1
     have hlow:∀ b,b<w.heap.size→b<w2.heap.size:=fun b h=>Nat.lt_of_lt_of_le (hup b h) hs2
     have hg2:TyR.Sl (· < w.heap.size) w2.drew g s:=HG.out.keep (fun _ h=>h) (fun p hp=>(World.cell?_drew _ p).trans (hb02.cell (hup _ hp)))
     have hcl:Calls Tryz.prog 85 #[s] w2.drew fun e w'=>∃ c',e=.returned c'∧TyR.Own (· < w.heap.size) w2.heap.size c' g w'∧Below w2.heap.size w2 w':=by
       refine (clone_in (· < w.heap.size) g s w2.drew (fun b h=>hlow b h) (by omega) hg2 HNIL.out).mono ?_
       rintro e w' ⟨c',h1,h2,h3⟩
       exact ⟨c',h1,h2,((Below.refl _ w2).drew).trans h3⟩
     have hto:∀ (c':Value) (w3:World),TyR.Own (· < w.heap.size) w2.heap.size c' g w3→Below w2.heap.size w2 w3→Calls Tryz.prog 243 #[c',.agg #[.int .i64 t.kind,.int .i64 t.index,.int .i64 t.type.kind,.slice B t.type.args.length d,.slice A t.args.length c]] w3
         fun e w'=>Below w2.heap.size w2 w'∧match t.typ g with
           | .ok U=>∃ v,e=.returned (.tuple #[v,.int .i64 0])∧IsTy (fun b=>(b<w.heap.size∨w2.heap.size≤b)∧b<w'.heap.size) w' U v
           | .error k=>e=.returned (.tuple #[.agg #[.int .i64 0,.slice none 0 0],.int .i64 k]):=by
       intro c' w3 ho hb3
       have hlt:=ho.lt
       refine (typeOf_any 390000 t g c' _ w2.heap.size (· < w.heap.size) w3 hsz hok hc0.2 (by omega) hb3.size (fun b h=>⟨Nat.lt_of_lt_of_le (hlow b h) hb3.size,fun e=>by have h1:=(hlt b e).1; have h2:=hlow b h; omega⟩) ho
         (HT.out.keep (fun _ h=>h) (fun p hp=>(hb3.cell (hlow _ hp)).trans (hb02.cell (hup _ hp))))).mono ?_
       rintro e w' ⟨h1,_,h2⟩
       refine ⟨hb3.grown h1 hb3.size (fun k e=>(hlt k e).1),?_⟩
       have hs3:=hb3.size
       cases hty:t.typ g with
       | error k=>rw [hty] at h2; exact h2
       | ok U=>
         rw [hty] at h2
         obtain ⟨v,h3,h4⟩:=h2
         exact ⟨v,h3,IsTy.keep (fun b h=>⟨h.1.imp id (fun h=>Nat.le_trans hs3 h),h.2⟩) (fun _ _=>rfl) _ h4⟩
     have CL:=Lib.hid hcl
     have HK1:=Lib.hid k1
     have HZ2:Hid (w.heap.size+2≤w2.heap.size):=Lib.hid (by have:=HB.out.2; omega)
     have HSK:=Lib.hid fun (w1:World) (h:Below (w.heap.size+1) w2 w1)=>And.intro h (k0.below h (Nat.lt_succ_self _)).cells5
     obtain ⟨_,q0,q1,q2,q3,q4⟩:=HSK.out w2 (Below.refl _ _)
     have hr0:t.typeOf g=t.typ g:=by unfold Tm.typeOf; rw [if_pos HC.out,if_pos HE.out]
     have HR0:=Lib.hid hr0
     clear hcl hg2 k0 k1 hr0 hlow
     cases hty:t.typ g with
     | ok U=>
       rw [hty] at hto HR0
       have TO:=Lib.hid hto
       clear hto hty
       go_wp2_with fail
       go_region_held3 (fun w'=>Below (w.heap.size+1) w2 w'∧w'.cell? ⟨w.heap.size,0,none⟩ = some (.int .i64 t.kind)∧w'.cell? ⟨w.heap.size,1,none⟩ = some (.int .i64 t.index)∧w'.cell? ⟨w.heap.size,2,none⟩ = some (.int .i64 t.type.kind)∧w'.cell? ⟨w.heap.size,3,none⟩ = some (.slice B t.type.args.length d)∧w'.cell? ⟨w.heap.size,4,none⟩ = some (.slice A t.args.length c))
         (first | exact HSK.out _ (Below.refl _ _).drew | exact HSK.out _ hb3' | exact HSK.out _ hb4' | exact HSK.out _ ((hb4'.setCell (p:=⟨w.heap.size+1,0,none⟩) (Nat.le_refl _) _).setCell (p:=⟨w.heap.size+1,1,none⟩) (Nat.le_refl _) _) | go_keep)
         (first
           | (go_at_call 243
              (with_reducible refine (TO.out c3 w3 ho3 hb3).mono ?_)
              rintro e w4 ⟨hb4,h4⟩
              obtain ⟨v4,rfl,hv4⟩:=h4
              obtain ⟨A4,c4,rfl⟩:=hv4.form
              have hb4':Below (w.heap.size+1) w2 w4:=hb4.mono (by have:=HZ2.out; omega)
              obtain ⟨r0,r1,f0,f1⟩:=(HK1.out.below hb4 HK1.out.lt).facts2)
           | (go_at_call 85
              (with_reducible refine CL.out.mono ?_)
              rintro e w3 ⟨c3,rfl,ho3,hb3⟩
              have hb3':Below (w.heap.size+1) w2 w3:=hb3.mono (by have:=HZ2.out; omega)))
       go_wp2_with fail
       have k1:=HK1.out.below hb4 HK1.out.lt
       obtain ⟨z0,z1,_,_⟩:=(k1.set2 (.int .i64 U.kind) (.slice A4 U.args.length c4)).facts2
       refine bodyPost_ret (v:=.tuple #[.agg #[.int .i64 U.kind,.slice A4 U.args.length c4],.int .i64 0]) (by simp [results,Tryz.results209,go_sem,z0,z1]) rfl ?_
       have hbF:Below w.heap.size w w4:=(HB.out.1.trans (hb02.mono HB.out.1.size)).trans (hb4.mono (by have:=HZ2.out; omega))
       have hgF:=only_set2 w4 (w.heap.size+1) (.int .i64 U.kind) (.slice A4 U.args.length c4)
       unfold TypeTopR
       rw [HR0.out]
       have hz2:=HZ2.out
       have hne:∀ b,(b<w.heap.size∨w2.heap.size≤b)→b≠w.heap.size+1:=fun b h=>by omega
       exact ⟨hbF.grown hgF hbF.size (fun k e=>by cases e; omega),_,rfl,IsTy.keep (fun b h=>Nat.lt_of_lt_of_le h.2 hgF.size) (fun p hp=>World.cell?_of_block (hgF.block p.block hp.2 (fun e=>hne _ hp.1 (by simpa using e)))) _ hv4⟩
     | error er=>
       rw [hty] at hto HR0
       have TO:=Lib.hid hto
       clear hto hty
       go_wp2_with fail
       go_region_held3 (fun w'=>Below (w.heap.size+1) w2 w'∧w'.cell? ⟨w.heap.size,0,none⟩ = some (.int .i64 t.kind)∧w'.cell? ⟨w.heap.size,1,none⟩ = some (.int .i64 t.index)∧w'.cell? ⟨w.heap.size,2,none⟩ = some (.int .i64 t.type.kind)∧w'.cell? ⟨w.heap.size,3,none⟩ = some (.slice B t.type.args.length d)∧w'.cell? ⟨w.heap.size,4,none⟩ = some (.slice A t.args.length c))
         (first | exact HSK.out _ (Below.refl _ _).drew | exact HSK.out _ hb3' | exact HSK.out _ hb4' | exact HSK.out _ ((hb4'.setCell (p:=⟨w.heap.size+1,0,none⟩) (Nat.le_refl _) _).setCell (p:=⟨w.heap.size+1,1,none⟩) (Nat.le_refl _) _) | go_keep)
         (first
           | (go_at_call 243
              (with_reducible refine (TO.out c3 w3 ho3 hb3).mono ?_)
              rintro e w4 ⟨hb4,h4⟩
              subst h4
              have hb4':Below (w.heap.size+1) w2 w4:=hb4.mono (by have:=HZ2.out; omega)
              obtain ⟨r0,r1,f0,f1⟩:=(HK1.out.below hb4 HK1.out.lt).facts2)
           | (go_at_call 85
              (with_reducible refine CL.out.mono ?_)
              rintro e w3 ⟨c3,rfl,ho3,hb3⟩
              have hb3':Below (w.heap.size+1) w2 w3:=hb3.mono (by have:=HZ2.out; omega)))
       go_wp2_with fail
       have k1:=HK1.out.below hb4 HK1.out.lt
       obtain ⟨z0,z1,_,_⟩:=(k1.set2 (.int .i64 0) (.slice none 0 0)).facts2
       refine bodyPost_ret (v:=.tuple #[.agg #[.int .i64 0,.slice none 0 0],.int .i64 er]) (by simp [results,Tryz.results209,go_sem,z0,z1]) rfl ?_
       have hbF:Below w.heap.size w w4:=(HB.out.1.trans (hb02.mono HB.out.1.size)).trans (hb4.mono (by have:=HZ2.out; omega))
       exact top_err HR0.out hbF
   · have e2:(t.err != 0)=true:=by simp [he]
     have hr:t.typeOf g=.error t.err:=by unfold Tm.typeOf; rw [if_pos HC.out,if_neg he]
     have HR:=Lib.hid hr
     clear hr he
     obtain ⟨r0,r1,f0,f1⟩:=k1.facts2
     go_wp2_with fail
     obtain ⟨z0,z1,_,_⟩:=(k1.set2 (.int .i64 0) (.slice none 0 0)).facts2
     refine bodyPost_ret (v:=.tuple #[.agg #[.int .i64 0,.slice none 0 0],.int .i64 t.err]) (by simp [results,Tryz.results209,go_sem,z0,z1]) rfl ?_
     exact top_err HR.out (HB.out.1.trans (hb02.mono HB.out.1.size))
 · have e2:(ctxErr g != 0)=true:=by simp [hc]
   have hr:t.typeOf g=.error (ctxErr g):=by unfold Tm.typeOf; rw [if_neg hc]
   have HR:=Lib.hid hr
   clear hr hc
   obtain ⟨r0,r1,f0,f1⟩:=k1.facts2
   go_wp2_with fail
   obtain ⟨z0,z1,_,_⟩:=(k1.set2 (.int .i64 0) (.slice none 0 0)).facts2
   refine bodyPost_ret (v:=.tuple #[.agg #[.int .i64 0,.slice none 0 0],.int .i64 (ctxErr g)]) (by simp [results,Tryz.results209,go_sem,z0,z1]) rfl ?_
   exact top_err HR.out (HB.out.1.trans (hb1.mono HB.out.1.size))
end Go.Proofs.YtipfnkajdooiiaaGreatDoor
