/- Formulas that are typed in a context. -/
import Derived.Test.YtipfnkajdooiiaaGreatDoorQPackFml
import Derived.Test.YtipfnkajdooiiaaGreatDoorQPackTyp
import Derived.Test.YtipfnkajdooiiaaGreatDoorQMakeT
import Derived.Test.YtipfnkajdooiiaaGreatDoorQPackF3
import Derived.Test.YtipfnkajdooiiaaGreatDoorQPackF4
import Derived.Test.YtipfnkajdooiiaaGreatDoorQMkForm
import Derived.Deep.RegionHeld3
import Derived.Test.YtipfnkajdooiiaaGreatDoorQPackSubst
import Derived.Test.YtipfnkajdooiiaaGreatDoorQMade
namespace Go.Proofs.YtipfnkajdooiiaaGreatDoor
open Go.RowKit

/-- Both sides of all equations are numbers, below at most so many quantifiers. -/
inductive TyF:Nat→List Ty→Fm→Prop
 | eq (n:Nat) (G:List Ty) (s t:Tm) (hs:s.typ G=.ok tyNat) (ht:t.typ G=.ok tyNat):TyF n G (.mk 1 .zero [s,t] [])
 | two (n:Nat) (G:List Ty) (k:Int) (a b:Fm) (hk:k=2∨k=3) (ha:TyF n G a) (hb:TyF n G b):TyF n G (.mk k .zero [] [a,b])
 | quant (n:Nat) (G:List Ty) (k:Int) (T:Ty) (b:Fm) (hk:k=4∨k=5∨k=6∨k=7) (hT:T.err=0) (hb:TyF n (G ++ [T]) b):TyF (n+1) G (.mk k T [] [b])
theorem TyF.mono {n:Nat} {G:List Ty} {f:Fm} (h:TyF n G f):∀ {m:Nat},n≤m→TyF m G f:=by
 induction h with
 | eq n G s t hs ht=>exact fun _=>.eq _ G s t hs ht
 | two n G k a b hk _ _ iha ihb=>exact fun hm=>.two _ G k a b hk (iha hm) (ihb hm)
 | quant n G k T b hk hT _ ih=>
   intro m hm
   obtain ⟨m',rfl⟩:∃ m',m=m' + 1:=⟨m - 1,by omega⟩
   exact .quant m' G k T b hk hT (ih (by omega))
end Go.Proofs.YtipfnkajdooiiaaGreatDoor
namespace Go.Proofs.YtipfnkajdooiiaaGreatDoor
open Go.RowKit

theorem MadeF.tyF {d:Nat} {G:List Ty} {f:Fm} (h:MadeF d G f):TyF d G f:=by
 induction h with
 | eq d G s t hs ht=>exact .eq d G s t hs.typ ht.typ
 | two d G k a b hk _ _ iha ihb=>exact .two _ G k a b hk (iha.mono (by omega)) (ihb.mono (by omega))
 | quant d G k T b hk hT hn _ ih=>exact .quant d G k T b hk (err_zero.2 ⟨hT,by omega⟩) ih
/-- Lifted formulas are typed in longer contexts. -/
theorem TyF.lift {f:Fm} (hf:GoodF f) (P I:List Ty):∀ (n:Nat) (Q:List Ty) (r:Fm),TyF n (P ++ Q) f→ReadF f (f.asTm.lift Q.length I.length) r→TyF n (P ++ I ++ Q) r:=by
 induction hf with
 | eq s t hs ht=>
   intro n Q r h hr
   rw [Fm.asTm,if_pos rfl,lift_node (by decide)] at hr
   have hr':ReadF (.mk 1 .zero [s,t] []) (.mk 10 0 .zero [s.lift Q.length I.length,t.lift Q.length I.length]) r:=hr
   cases h with
   | eq _ _ _ _ h1 h2=>
     cases hr' with
     | eq=>exact .eq _ _ _ _ (lift_typ P I s Q (errT_zero.1 hs).1 h1) (lift_typ P I t Q (errT_zero.1 ht).1 h2)
 | two k a b hk _ _ iha ihb=>
   intro n Q r h hr
   rw [Fm.asTm,if_neg (by omega),if_pos hk,lift_node (by decide)] at hr
   have hr':ReadF (.mk k .zero [] [a,b]) (.mk 10 0 .zero [a.asTm.lift Q.length I.length,b.asTm.lift Q.length I.length]) r:=hr
   cases h with
   | two _ _ _ _ _ _ h1 h2=>
     cases hr' with
     | two _ _ _ _ _ r q _ h3 h4=>exact .two _ _ k r q hk (iha n Q r h1 h3) (ihb n Q q h2 h4)
 | quant k T b hk hT _ ih=>
   intro n Q r h hr
   rw [Fm.asTm,if_neg (by omega),if_neg (by omega),lift_node (by decide)] at hr
   have hr':ReadF (.mk k T [] [b]) (.mk 2 0 T [b.asTm.lift (Q.length+1) I.length]) r:=hr
   cases h with
   | quant n _ _ _ _ _ _ h1=>
     cases hr' with
     | quant _ _ _ _ r _ h3=>
       refine .quant _ _ k T r hk hT ?_
       rw [List.append_assoc]
       exact ih n (Q ++ [T]) r (by rw [← List.append_assoc]; exact h1) (by rw [List.length_append]; exact h3)
/-- What is read again is valid. -/
theorem readF_good {f:Fm} {t:Tm} {r:Fm} (h:ReadF f t r) (hf:GoodF f) (ht:t.ok=true) (hs:t.size≤4096):GoodF r:=by
 induction h with
 | eq s t x y=>
   rw [okT_eq,Bool.and_eq_true] at ht
   have h2:=ht.2
   simp only [Tm.args,okAllT,Bool.and_eq_true] at h2
   simp only [Tm.size,sizeAllT] at hs
   exact .eq x y (errT_zero.2 ⟨h2.1,by omega⟩) (errT_zero.2 ⟨h2.2.1,by omega⟩)
 | two k f g s t r q hk _ _ ihf ihg=>
   rw [okT_eq,Bool.and_eq_true] at ht
   have h2:=ht.2
   simp only [Tm.args,okAllT,Bool.and_eq_true] at h2
   simp only [Tm.size,sizeAllT] at hs
   cases hf with
   | two _ _ _ _ h3 h4=>exact .two k r q hk (ihf h3 h2.1 (by omega)) (ihg h4 h2.2.1 (by omega))
 | quant k T f s r hk _ ih=>
   rw [okT_eq,Bool.and_eq_true] at ht
   have h2:=ht.2
   simp only [Tm.args,okAllT,Bool.and_eq_true] at h2
   simp only [Tm.size,sizeAllT] at hs
   cases hf with
   | quant _ _ _ _ hT h3=>exact .quant k T r hk hT (ih h3 h2.1 (by omega))
theorem readF_lift1 {f r:Fm} (hf:FineF f) (hs:f.size≤4096) (h:ReadF f (f.asTm.lift 0 1) r):GoodF r:=
 readF_good h hf.good (lift_ok _ _ _ (asTm_facts hf).2.2.1) (by rw [lift_size,(asTm_facts hf).1]; exact hs)
/-- What formula.Or makes. -/
def firstFm:Fm:=.mk 1 .zero [.mk 1 0 .zero [],zeroTm] []
def orFm (a b:Fm):Fm:=.mk 5 tyNat [] [.mk 2 .zero [] [.mk 3 .zero [] [firstFm,a],.mk 3 .zero [] [.mk 3 .zero [] [firstFm,falseFm],b]]]
theorem zero_made (G:List Ty):Made G tyNat 1 0 zeroTm:=made_leaf (.inl ⟨rfl,rfl⟩)
theorem first_ty (n:Nat) (G:List Ty):TyF n (G ++ [tyNat]) firstFm:=.eq _ _ _ _ (made_var (G:=G ++ [tyNat]) (i:=0) (by simp)).typ (zero_made _).typ
theorem false_ty (n:Nat) (G:List Ty):TyF n G falseFm:=.eq _ _ _ _ (zero_made G).typ (made_succ (zero_made G)).typ
theorem or_ty {n:Nat} {G:List Ty} {a b:Fm} (ha:TyF n (G ++ [tyNat]) a) (hb:TyF n (G ++ [tyNat]) b):TyF (n+1) G (orFm a b):=
 .quant n G 5 tyNat _ (by decide) (by decide) (.two _ _ 2 _ _ (by decide) (.two _ _ 3 _ _ (by decide) (first_ty _ _) ha) (.two _ _ 3 _ _ (by decide) (.two _ _ 3 _ _ (by decide) (first_ty _ _) (false_ty _ _)) hb))
theorem not_ty {n:Nat} {G:List Ty} {a:Fm} (ha:TyF n G a):TyF n G (.mk 3 .zero [] [a,falseFm]):=.two _ _ 3 _ _ (by decide) ha (false_ty _ _)
end Go.Proofs.YtipfnkajdooiiaaGreatDoor
namespace Go.Proofs.YtipfnkajdooiiaaGreatDoor
open Go.RowKit

theorem errs_all:∀ {l:List Ty},(∀ T ∈ l,T.err=0)→errs l=0
 | [],_=>rfl
 | t :: r,h=>by
   simp only [errs]
   rw [if_pos (h t (by simp))]
   exact errs_all fun T hT=>h T (by simp [hT])
theorem nodes_all:∀ {l:List Ty},(∀ T ∈ l,T.err=0)→nodesAll l≤64 * l.length
 | [],_=>by simp [nodesAll]
 | t :: r,h=>by
   have h1:=nodes_all (l:=r) fun T hT=>h T (by simp [hT])
   have h2:=(err_zero.1 (h t (by simp))).2
   simp only [nodesAll,List.length_cons]
   omega
set_option maxRecDepth 100000 in
set_option maxHeartbeats 4000000 in
theorem fTypeOf_any (t:Tm) (g:List Ty) (s v:Value) (w:World) (htab:Tab w) (hsz:t.bulk≤390000) (he:t.err=0) (hgv:∀ T ∈ g,T.err=0) (hlen:g.length≤16) (hnil:g=[]→s=.slice none 0 0) (htyp:t.typ g=.ok tyNat) (hg:TyR.Sl (· < w.heap.size) w g s) (hT:IsTm (· < w.heap.size) w t v) :
   Calls Tryz.prog 158 #[s,v] w fun e w'=>Below w.heap.size w w'∧∃ A c,e=.returned (.tuple #[.agg #[.int .i64 1,.slice A 0 c],.int .i64 0]):=by
 obtain ⟨B,d,A,c,rfl,_,_⟩:=hT.parts
 obtain ⟨As,cs,rfl⟩:=hg.form
 obtain ⟨W,hW,hb,hz,k0,k1⟩:=box52_facts w (.int .i64 t.kind) (.int .i64 t.index) (.int .i64 t.type.kind) (.slice B t.type.args.length d) (.slice A t.args.length c)
 have hup:∀ b,b<w.heap.size→b<W.heap.size:=fun b h=>Nat.lt_of_lt_of_le h hb.size
 have HT:=Lib.hid (IsTm.keep (S':=(· < W.heap.size)) (w':=W) hup (fun q hq=>hb.cell hq) _ hT)
 have HG:=Lib.hid (hg.keep (S':=(· < W.heap.size)) (w':=W) hup (fun q hq=>hb.cell hq))
 have HTab:=Lib.hid (htab.after hb)
 have HB:=Lib.hid (And.intro hb (And.intro hz k1))
 have e1:decide ((g.length:Int)≤16)=true:=by simp; omega
 have HR:=Lib.hid (show t.typeOf g=.ok tyNat by unfold Tm.typeOf; rw [if_pos (by unfold ctxErr; rw [if_neg (by omega)]; exact errs_all hgv),if_pos he]; exact htyp)
 have HN:=Lib.hid (show nodesAll g≤400000 by have:=nodes_all hgv; omega)
 have HNIL:=Lib.hid hnil
 obtain ⟨q0,q1,q2,q3,q4⟩:=k0.cells5
 clear hT hg htab hb hz k0 k1 hgv htyp he hnil hup
 go_enter Tryz.func158,Tryz.ntmps158
 go_upto_region 1 with fail
 rw [← hW]
 clear hW
 go_wp2_with fail
 refine (typeTop_any t g _ _ W HTab.out hsz HN.out (by omega) HNIL.out HG.out HT.out).mono ?_
 unfold TypeTopR
 rw [HR.out]
 rintro e w1 ⟨hb1,v1,rfl,hv1⟩
 obtain ⟨A1,c1,rfl⟩:∃ A c,v1=.agg #[.int .i64 1,.slice A 0 c]:=hv1.form
 have k1':=HB.out.2.2.below hb1 HB.out.2.2.lt
 obtain ⟨_,_,f0,f1⟩:=k1'.facts2
 have HE:=Lib.hid (And.intro k1' hb1)
 clear k1' hv1 hb1 q0 q1 q2 q3 q4
 go_wp2_with fail
 obtain ⟨z0,z1,_,_⟩:=(HE.out.1.set2 (.int .i64 1) (.slice A1 0 c1)).facts2
 have hg2:=only_set2 w1 (w.heap.size+1) (.int .i64 1) (.slice A1 0 c1)
 have hz:=HB.out.2.1
 have hb2:=HB.out.1.trans (HE.out.2.mono HB.out.1.size)
 refine bodyPost_ret (v:=.tuple #[.agg #[.int .i64 1,.slice A1 0 c1],.int .i64 0]) (by simp [results,Tryz.results158,go_sem,z0,z1]) rfl ⟨hb2.grown hg2 hb2.size (fun k e=>by cases e; omega),_,_,rfl⟩
end Go.Proofs.YtipfnkajdooiiaaGreatDoor
namespace Go.Proofs.YtipfnkajdooiiaaGreatDoor
open Go.RowKit

/-- What holds when the parts of a node are gone through: the context is c', its types g'. -/
structure RestF (w W1:World) (S:Nat→Prop) (base:Nat) (c:Value) (g:List Ty) (t:Tm) (base':Nat) (c':Value) (g':List Ty):Prop where
 own:TyR.Own (fun b=>(S b∨w.heap.size+1≤b)∧c'.ownBlock≠some b) base' c' g' W1
 back:∀ W2,W1.grownBy W2 c'.ownBlock→Still base' c' g'.length W1 W2→w.grownBy W2 c.ownBlock∧Still base c g.length w W2
 lies:∀ b,c'.ownBlock=some b→(b<w.heap.size∨w.heap.size+1≤b)∧¬ S b
 g':g' = if t.kind=2 then g ++ [t.type] else g
 base':base'≤W1.heap.size
 size:w.heap.size+1≤W1.heap.size
 keeps:∀ p:Addr,S p.block→W1.cell? p=w.cell? p

theorem RestF.next {w W1 W2:World} {S:Nat→Prop} {base base':Nat} {c c':Value} {g g':List Ty} {t:Tm} (h:RestF w W1 S base c g t base' c' g') (hS:∀ b,S b→b<w.heap.size) (hg:W1.grownBy W2 c'.ownBlock) (hs:Still base' c' g'.length W1 W2):RestF w W2 S base c g t base' c' g' where
 own:=own_still h.own hs hg
 back W3 h1 h2:=h.back W3 (only_trans hg h1) (fun xs hx=>h2 xs (hs xs hx))
 lies:=h.lies
 g':=h.g'
 base':=Nat.le_trans h.base' hg.size
 size:=Nat.le_trans h.size hg.size
 keeps p hp:=(World.cell?_of_block (hg.block p.block (by have:=hS _ hp; have:=h.size; omega) (fun e=>(h.lies _ e.symm).2 hp))).trans (h.keeps p hp)

/-- A function's body: the context grows in place. -/
theorem restF_room {w W W1:World} {S:Nat→Prop} {base gb cap:Nat} {g:List Ty} {i:Int} {T:Ty} {l:List Tm} {xs:List Value} {x y:Value} {k:Int} (hk:k=2) (hbase:base≤w.heap.size) (hS:∀ b,S b→b<w.heap.size∧(Value.slice (some ⟨gb,0,none⟩) g.length cap).ownBlock≠some b)
   (hb:Below w.heap.size w W) (hz:W.heap.size=w.heap.size+1) (hown:TyR.Own S base (.slice (some ⟨gb,0,none⟩) g.length cap) g w) (hxo:W.ownsRow base 30 2 (.slice (some ⟨gb,0,none⟩) g.length cap) g.length xs)
   (hxc:TyR.Ch (fun b=>S b∧b<W.heap.size∧(Value.slice (some ⟨gb,0,none⟩) g.length cap).ownBlock≠some b) W g xs) (hT:IsTy S W T (.agg #[x,y]))
   (hown1:W1.ownsRow base 30 2 (.slice (some ⟨gb,0,none⟩) (g.length+1) cap) (g.length+1) (xs ++ [x,y])) (hgr:(W.alloc (.cells #[x,y] 30)).grownBy W1 (some gb)) :
   RestF w W1 S base (.slice (some ⟨gb,0,none⟩) g.length cap) g (.mk k i T l) base (.slice (some ⟨gb,0,none⟩) (g.length+1) cap) (g ++ [T]):=by
 have hgb:=hown.lt gb rfl
 have hgW:W.grownBy W1 (some gb):=only_trans (World.grownBy_alloc W _ _) hgr
 have hs1:=hgW.size
 have hSg:¬ S gb:=fun h=>(hS _ h).2 rfl
 refine { own:=?_,back:=?_,lies:=?_,g':=by show g ++ [T]=if k=2 then _ else _; rw [if_pos hk]; rfl,base':=by omega,size:=by omega,keeps:=fun p hp=>?_ }
 · refine ⟨xs ++ [x,y],by rw [List.length_append]; exact hown1,((hxc.keep (S':=fun b=>((S b∨w.heap.size+1≤b)∧(Value.slice (some ⟨gb,0,none⟩) (g.length+1) cap).ownBlock≠some b)∧b<W1.heap.size∧(Value.slice (some ⟨gb,0,none⟩) (g.length+1) cap).ownBlock≠some b) (w':=W1)
     (fun b h=>⟨⟨.inl h.1,h.2.2⟩,by omega,h.2.2⟩) (fun p hp=>World.cell?_of_block (hgW.block p.block hp.2.1 (fun e=>hp.2.2 (by simpa [Value.ownBlock] using e.symm))))).append
     (ty_one (IsTy.keep (fun b h=>⟨⟨.inl h,(hS b h).2⟩,by have:=(hS b h).1; omega,(hS b h).2⟩) (fun p hp=>World.cell?_of_block (hgW.block p.block (by have:=(hS _ hp).1; omega) (fun e=>(hS _ hp).2 (by simpa [Value.ownBlock] using e.symm)))) _ hT)))⟩
 · intro W2 h1 h2
   refine ⟨only_trans (only_trans (below_only hb (Nat.le_refl _) _) hgW) h1,fun xs' hx'=>?_⟩
   have e:xs' = xs:=ownsRow_det (hx'.kept (below_only hb (Nat.le_refl _) none) (.inr (by simp [Value.ownBlock]))) hxo
   subst e
   have h3:=h2 (xs' ++ [x,y]) (by simpa using hown1)
   exact ownsRow_drop hx'.1 (by simpa using h3)
 · intro b e
   have:b=gb:=by simpa [Value.ownBlock] using e.symm
   subst this
   exact ⟨.inl (by omega),hSg⟩
 · have:=(hS _ hp).1
   exact (World.cell?_of_block (hgW.block p.block (by omega) (fun e=>(hS _ hp).2 (by simpa [Value.ownBlock] using e.symm)))).trans (hb.cell this)

/-- A function's body: the context moves. -/
theorem restF_grow {w W W1:World} {S:Nat→Prop} {base:Nat} {g:List Ty} {i:Int} {T:Ty} {l:List Tm} {xs:List Value} {x y c v1:Value} {k:Int} (hk:k=2) (hS:∀ b,S b→b<w.heap.size∧c.ownBlock≠some b)
   (hb:Below w.heap.size w W) (hz:W.heap.size=w.heap.size+1) (hown:TyR.Own S base c g w)
   (hxc:TyR.Ch (fun b=>S b∧b<W.heap.size∧c.ownBlock≠some b) W g xs) (hT:IsTy S W T (.agg #[x,y]))
   (hown1:W1.ownsRow (W.alloc (.cells #[x,y] 30)).heap.size 30 2 v1 (g.length+1) (xs ++ [x,y])) (hgr:(W.alloc (.cells #[x,y] 30)).grownBy W1 none) :
   RestF w W1 S base c g (.mk k i T l) (w.heap.size+2) v1 (g ++ [T]):=by
 have hgW:W.grownBy W1 none:=only_trans (World.grownBy_alloc W _ _) hgr
 have hs1:=hgW.size
 rw [World.size_alloc,hz] at hown1
 have hlt:=hown1.lt
 have hs2:=hgr.size
 rw [World.size_alloc] at hs2
 have hne:∀ b,S b→v1.ownBlock≠some b:=fun b h e=>by have h1:=(hlt b e).1; have h2:=(hS b h).1; omega
 refine { own:=?_,back:=?_,lies:=?_,g':=by show g ++ [T]=if k=2 then _ else _; rw [if_pos hk]; rfl,base':=by omega,size:=by omega,keeps:=fun p hp=>?_ }
 · refine ⟨xs ++ [x,y],by rw [List.length_append]; exact hown1,((hxc.keep (S':=fun b=>((S b∨w.heap.size+1≤b)∧v1.ownBlock≠some b)∧b<W1.heap.size∧v1.ownBlock≠some b) (w':=W1)
     (fun b h=>⟨⟨.inl h.1,hne b h.1⟩,by omega,hne b h.1⟩) (fun p hp=>World.cell?_of_block (hgW.block p.block hp.2.1 (by simp)))).append
     (ty_one (IsTy.keep (fun b h=>⟨⟨.inl h,hne b h⟩,by have:=(hS b h).1; omega,hne b h⟩) (fun p hp=>World.cell?_of_block (hgW.block p.block (by have:=(hS _ hp).1; omega) (by simp))) _ hT)))⟩
 · intro W2 h1 h2
   have hg01:w.grownBy W1 c.ownBlock:=only_trans (below_only hb (Nat.le_refl _) _) (grown_none hgW _)
   obtain ⟨vb,hvb⟩:∃ vb,v1.ownBlock=some vb:=by
     rcases hown1.2 with ⟨_,h0⟩ | ⟨gg,cap,cur,rfl,_⟩
     · omega
     · exact ⟨gg,rfl⟩
   rw [hvb] at h1
   have hvl:=(hlt vb hvb).1
   refine ⟨grown_off hg01 h1 (by omega),fun xs' hx'=>?_⟩
   have h3:=(hx'.kept (below_only hb (Nat.le_refl _) none) (by cases c.ownBlock <;> simp)).kept hgW (by cases c.ownBlock <;> simp)
   exact h3.kept h1 (.inr fun e=>by have:=(hown.lt vb e).2; omega)
 · intro b e
   exact ⟨.inr (by have:=(hlt b e).1; omega),fun h=>hne b h e⟩
 · have:=(hS _ hp).1
   exact (World.cell?_of_block (hgW.block p.block (by omega) (by simp))).trans (hb.cell this)


theorem Tab.grown {w w':World} {row:Option Nat} (h:Tab w) (hg:w.grownBy w' row) (hr:row≠some 1):Tab w':=fun i u hu=>(World.cell?_of_block (hg.block _ h.lt (fun e=>hr e.symm))).trans (h i u hu)
/-- What is said of formula.typed. -/
def FTy (f:Fm):Prop:=∀ (n:Nat) (g:List Ty) (c v:Value) (base:Nat) (S:Nat→Prop) (w:World),f.bulk≤390000→TyF n g f→(∀ T ∈ g,T.err=0)→g.length+n≤16→1 < base→base≤w.heap.size→Tab w→(g=[]→c=.slice none 0 0) →
 (∀ b,S b→b<w.heap.size∧c.ownBlock≠some b)→TyR.Own S base c g w→IsFm S w f v →
 Calls Tryz.prog 84 #[c,v] w fun e w'=>e=.returned (.int .i64 0)∧w.grownBy w' c.ownBlock∧Still base c g.length w w'
theorem boxF (w:World) (xs:Array Value):∃ W,W=w.alloc (.cells xs 34)∧Below w.heap.size w W∧W.heap.size=w.heap.size+1∧Blk W w.heap.size 34 xs:=⟨_,rfl,(Below.refl _ _).alloc (Nat.le_refl _) _,by simp,Blk.new _ _ _⟩
set_option maxRecDepth 100000 in
set_option maxHeartbeats 8000000 in
theorem ftyped_eq (s t:Tm) (hse:s.err=0) (hte:t.err=0):FTy (.mk 1 .zero [s,t] []):=by
 intro n g c v base S w hbk hty hg hgn hbt hbase htab hnil hS hown hF
 obtain ⟨B,d,C,e0,A,a0,rfl,_,hl,_⟩:=hF.parts
 simp only [Fm.kind,Fm.type,Fm.terms,Fm.args,List.length_cons,List.length_nil,Nat.zero_add,Nat.reduceAdd] at hl ⊢
 obtain ⟨l,hll⟩:∃ l,l=[s,t]:=⟨_,rfl⟩
 rw [← hll] at hl
 have hlen:l.length=2:=by rw [hll]; rfl
 have hle:∀ x ∈ l,x.err=0∧x.typ g=.ok tyNat∧x.bulk≤390000:=by
   cases hty with
   | eq _ _ _ _ h1 h2=>
     simp only [Fm.bulk,bulkAll] at hbk
     intro x hx
     rw [hll] at hx
     rcases List.mem_cons.1 hx with rfl | hx
     · exact ⟨hse,h1,by omega⟩
     · obtain rfl:=List.mem_singleton.1 hx
       exact ⟨hte,h2,by omega⟩
 obtain ⟨W,hW,hb,hz,k0⟩:=boxF w #[.int .i64 1,.int .i64 Ty.zero.kind,.slice B Ty.zero.args.length d,.slice C 2 e0,.slice A 0 a0]
 obtain ⟨q0,q1,q2,q3,q4,_⟩:=k0.facts5
 have HS:=Lib.hid hS
 have HOW:=Lib.hid hown
 have HL:=Lib.hid hl
 have HLE:=Lib.hid hle
 have HB:=Lib.hid (And.intro hb (And.intro hz htab))
 have HG:=Lib.hid (And.intro hg hnil)
 have hg16:g.length≤16:=by omega
 clear hF hbk hty hg hbt htab hnil hown hl hle k0 hS hll
 go_enter Tryz.func84,Tryz.ntmps84
 go_upto_region 1 with fail
 rw [← hW]
 clear hW
 go_wp2_with fail
 go_loopw [46] (fun ix wr=>∃ j:Nat,j≤2∧ix=.int .i64 j∧Below w.heap.size w wr) (fun ix _=>2 - (intOf ix).toNat)
 case atStart=>exact ⟨0,by omega,rfl,HB.out.1⟩
 case round=>
   obtain ⟨j,hj,rfl,hbel⟩:=hrel
   by_cases hlt:j<2
   · have hlt':j<l.length:=by omega
     have hlr:TmR.Sl S wr l (.slice C l.length e0):=(hlen ▸ HL.out.keep (fun _ h=>h) (fun q hq=>hbel.cell (HS.out _ hq).1))
     obtain ⟨a,rfl,ha,hat⟩:=hlr.get j hlt'
     obtain ⟨B1,d1,A1,c1,p0,p1,p2,p3,p4,hx⟩:=at_tm hat
     change wr.cell? (a.add (j * 5))=_ at p0
     simp only [show TmR.n=5 from rfl] at p1 p2 p3 p4
     obtain ⟨x,hxe⟩:∃ x,x=l[j]:=⟨_,rfl⟩
     have hxm:=HLE.out l[j] (List.getElem_mem hlt')
     rw [← hxe] at p0 p1 p2 p3 p4 hx hxm
     obtain ⟨X,hX,bX,zX,kX⟩:∃ X,X=wr.alloc (Obj.cells #[.int .i64 x.kind,.int .i64 x.index,.int .i64 x.type.kind,.slice B1 x.type.args.length d1,.slice A1 x.args.length c1] 42)∧Below wr.heap.size wr X∧X.heap.size=wr.heap.size+1∧Blk X wr.heap.size 42 #[.int .i64 x.kind,.int .i64 x.index,.int .i64 x.type.kind,.slice B1 x.type.args.length d1,.slice A1 x.args.length c1]:=⟨_,rfl,(Below.refl _ _).alloc (Nat.le_refl _) _,by simp,Blk.new _ _ _⟩
     have hbX:=hbel.trans (bX.mono hbel.size)
     have hlow:∀ b,S b→b<X.heap.size:=fun b h=>Nat.lt_of_lt_of_le (HS.out b h).1 hbX.size
     have HX:=Lib.hid (show IsTm (· < X.heap.size) X x _ from IsTm.keep hlow (fun q hq=>bX.cell (Nat.lt_of_lt_of_le (HS.out _ hq).1 hbel.size)) _ hx)
     have hsl:=((HOW.out.below hbX).sl).keep (S':=(· < X.heap.size)) (fun b h=>h.2) (fun _ _=>rfl)
     have HC:=Lib.hid (And.intro hsl (And.intro (HB.out.2.2.after hbX) (And.intro hbX hxm)))
     have HXX:=Lib.hid hX
     clear hlr hat hx hxe hxm hsl hX bX zX kX hbX hlow hbel
     go_wp2_with fail
     rw [← HXX.out]
     refine (fTypeOf_any x g c _ X HC.out.2.1 HC.out.2.2.2.2.2 HC.out.2.2.2.1 HG.out.1 hg16 HG.out.2 HC.out.2.2.2.2.1 HC.out.1 HX.out).mono ?_
     rintro e w2 ⟨hb2,A2,c2,rfl⟩
     have HB2:=Lib.hid (HC.out.2.2.1.trans (hb2.mono HC.out.2.2.1.size))
     clear hb2
     go_wp2_with fail
     refine ⟨⟨j+1,by omega,by go_num,?_⟩,by simp [intOf]; omega⟩
     exact HB2.out.alloc HB2.out.size _
   · obtain rfl:j=2:=by omega
     go_wp2_with fail
     go_ret
     exact ⟨rfl,below_only hbel (Nat.le_refl _) _,fun xs hx=>hx.kept (below_only hbel (Nat.le_refl _) none) (by cases c.ownBlock <;> simp)⟩
set_option maxRecDepth 100000 in
set_option maxHeartbeats 16000000 in
theorem ftyped_two (k:Int) (x y:Fm) (hk:k=2∨k=3) (ihx:FTy x) (ihy:FTy y):FTy (.mk k .zero [] [x,y]):=by
 intro n g c v base S w hbk hty hg hgn hbt hbase htab hnil hS hown hF
 obtain ⟨B,d,C,e0,A,a0,rfl,_,_,hl⟩:=hF.parts
 simp only [Fm.kind,Fm.type,Fm.terms,Fm.args,List.length_cons,List.length_nil,Nat.zero_add,Nat.reduceAdd] at hl ⊢
 obtain ⟨l,hll⟩:∃ l,l=[x,y]:=⟨_,rfl⟩
 rw [← hll] at hl
 have hlen:l.length=2:=by rw [hll]; rfl
 have HIH:=Lib.hid (show ∀ j (h:j<l.length),FTy l[j]∧l[j].bulk≤390000∧TyF n g l[j] from by
   subst hll
   cases hty with
   | two _ _ _ _ _ _ h1 h2=>
     simp only [Fm.bulk,bulkAllF] at hbk
     intro j hj
     match j,hj with
     | 0,_=>exact ⟨ihx,by show x.bulk≤_; omega,h1⟩
     | 1,_=>exact ⟨ihy,by show y.bulk≤_; omega,h2⟩)
 clear hty hbk ihx ihy hll
 obtain ⟨W,hW,hb,hz,k0⟩:=boxF w #[.int .i64 k,.int .i64 Ty.zero.kind,.slice B Ty.zero.args.length d,.slice C 0 e0,.slice A 2 a0]
 rcases hk with rfl | rfl
 all_goals
   obtain ⟨q0,q1,q2,q3,q4,_⟩:=k0.facts5
   have HL:=Lib.hid (show FmR.Sl S W l (.slice A l.length a0) from by rw [hlen]; exact hl.keep (fun _ h=>h) (fun q hq=>hb.cell (hS _ hq).1))
   have HSL:=Lib.hid (show ∀ b,S b→b<W.heap.size∧c.ownBlock≠some b from fun b h=>⟨Nat.lt_of_lt_of_le (hS b h).1 hb.size,(hS b h).2⟩)
   have HSS:=Lib.hid (show ∀ b,S b→S b from fun _ h=>h)
   have HSN:=Lib.hid (show ∀ b,S b→c.ownBlock≠some b from fun b h=>(hS b h).2)
   have HOWN:=Lib.hid (hown.below hb)
   have HBB:=Lib.hid (show 1 < base∧base≤W.heap.size∧Tab W from ⟨hbt,Nat.le_trans hbase hb.size,htab.after hb⟩)
   have HGG:=Lib.hid (show (∀ T ∈ g,T.err=0)∧g.length+n≤16∧(g=[]→c=.slice none 0 0) from ⟨hg,hgn,hnil⟩)
   have HBACK:=Lib.hid (show ∀ W2,W.grownBy W2 c.ownBlock→Still base c g.length W W2→w.grownBy W2 c.ownBlock∧Still base c g.length w W2 from fun W2 h1 h2=>⟨only_trans (below_only hb (Nat.le_refl _) _) h1,fun xs hx=>h2 xs (hx.kept (below_only hb (Nat.le_refl _) none) (by cases c.ownBlock <;> simp))⟩)
   clear hF hg hgn hbt hbase htab hnil hown hl k0 hS hb hz
   go_enter Tryz.func84,Tryz.ntmps84
   go_upto_region 1 with fail
   rw [← hW]
   clear hW
   go_wp2_with fail
   go_loopw [32] (fun ix wr=>∃ j:Nat,j≤2∧ix=.int .i64 j∧W.grownBy wr c.ownBlock∧Still base c g.length W wr) (fun ix _=>2 - (intOf ix).toNat)
   case atStart=>exact ⟨0,by omega,rfl,only_refl _ _,fun _ h=>h⟩
   case round=>
     obtain ⟨j,hj,rfl,hgr,hst⟩:=hrel
     by_cases hlt:j<2
     · have hlt':j<l.length:=by omega
       have hlr:FmR.Sl S wr l (.slice A l.length a0):=HL.out.keep (fun _ h=>h) (fun q hq=>World.cell?_of_block (hgr.block q.block (HSL.out _ hq).1 (fun e=>(HSL.out _ hq).2 e.symm)))
       rw [hlen] at hlr
       obtain ⟨a,rfl,ha,hat⟩:=hlr.get j hlt'
       obtain ⟨B1,d1,C1,e1,A1,c1,p0,p1,p2,p3,p4,hx⟩:=at_fm hat
       change wr.cell? (a.add (j * 5))=_ at p0
       simp only [show FmR.n=5 from rfl] at p1 p2 p3 p4
       obtain ⟨y,hye⟩:∃ y,y=l[j]:=⟨_,rfl⟩
       have hih:=HIH.out j hlt'
       rw [← hye] at p0 p1 p2 p3 p4 hx hih
       obtain ⟨X,hX,bX,zX,kX⟩:=boxF wr #[.int .i64 y.kind,.int .i64 y.type.kind,.slice B1 y.type.args.length d1,.slice C1 y.terms.length e1,.slice A1 y.args.length c1]
       have hsz:=hgr.size
       have hnb:∀ b,S b→b<wr.heap.size:=fun b h=>Nat.lt_of_lt_of_le (HSL.out b h).1 hsz
       have HX:=Lib.hid (show IsFm (fun b=>S b∧b<X.heap.size) X y _ from IsFm.keep (fun b h=>⟨HSS.out b h,by have:=hnb b h; omega⟩) (fun q hq=>bX.cell (hnb _ hq)) _ hx)
       have HO:=Lib.hid (show TyR.Own (fun b=>S b∧b<X.heap.size) base c g X from ((own_still HOWN.out hst hgr).below bX).mono (fun b h hb=>⟨h,hb⟩) (Nat.le_refl _))
       have HT:=Lib.hid (show Tab X from (HBB.out.2.2.grown hgr (fun e=>by have:=(HOWN.out.lt _ e).1; have:=HBB.out.1; omega)).after bX)
       have HC:=Lib.hid (And.intro hih (And.intro hgr (And.intro hst (And.intro bX zX))))
       have HXX:=Lib.hid hX
       have hbs:=HBB.out.2.1
       have HLE:=Lib.hid (show base≤X.heap.size by omega)
       clear hlr hat hx hye hih hX bX zX kX hgr hst hnb
       go_wp2_with fail
       rw [← HXX.out]
       refine (HC.out.1.1 n g c _ base (fun b=>S b∧b<X.heap.size) X HC.out.1.2.1 HC.out.1.2.2 HGG.out.1 HGG.out.2.1 HBB.out.1 HLE.out HT.out HGG.out.2.2 (fun b h=>⟨h.2,HSN.out b h.1⟩) HO.out HX.out).mono ?_
       rintro e w2 ⟨rfl,hg2,hs2⟩
       have HR:=Lib.hid (show W.grownBy w2 c.ownBlock∧Still base c g.length W w2 from ⟨only_trans (only_trans HC.out.2.1 (below_only HC.out.2.2.2.1 (Nat.le_refl _) _)) hg2,fun xs hx=>hs2 xs ((HC.out.2.2.1 xs hx).kept (below_only HC.out.2.2.2.1 (Nat.le_refl _) none) (by cases c.ownBlock <;> simp))⟩)
       clear hg2 hs2
       go_wp2_with fail
       exact ⟨⟨j+1,by omega,by go_num,HR.out⟩,by simp [intOf]; omega⟩
     · obtain rfl:j=2:=by omega
       have HR:=Lib.hid (HBACK.out wr hgr hst)
       clear hgr hst
       go_wp2_with fail
       go_ret
       exact ⟨rfl,HR.out⟩
set_option maxRecDepth 100000 in
set_option maxHeartbeats 16000000 in
theorem ftyped_quant (k:Int) (T:Ty) (x:Fm) (hk:k=4∨k=5∨k=6∨k=7) (ihx:FTy x):FTy (.mk k T [] [x]):=by
 intro n0 g c v base S w hbk hty hg hgn hbt hbase htab hnil hS hown hF
 obtain ⟨B,d,C,e0,A,a0,rfl,hTy,_,hl⟩:=hF.parts
 simp only [Fm.kind,Fm.type,Fm.terms,Fm.args,List.length_cons,List.length_nil,Nat.zero_add] at hTy hl ⊢
 obtain ⟨l,hll⟩:∃ l,l=[x]:=⟨_,rfl⟩
 rw [← hll] at hl
 have hlen:l.length=1:=by rw [hll]; rfl
 obtain ⟨n,hn,hT,hty'⟩:∃ n,n0=n+1∧T.err=0∧TyF n (g ++ [T]) x:=by
   cases hty with
   | quant n _ _ _ _ _ h1 h2=>exact ⟨n,rfl,h1,h2⟩
 have HIH:=Lib.hid (show ∀ j (h:j<l.length),FTy l[j]∧l[j].bulk≤390000∧TyF n (g ++ [T]) l[j] from by
   subst hll
   simp only [Fm.bulk,bulkAllF] at hbk
   intro j hj
   match j,hj with
   | 0,_=>exact ⟨ihx,by show x.bulk≤_; omega,hty'⟩)
 have HG:=Lib.hid (show (∀ U ∈ g ++ [T],U.err=0)∧(g ++ [T]).length+n≤16 from ⟨fun U hU=>(List.mem_append.1 hU).elim (hg U) (fun h=>by rw [List.mem_singleton.1 h]; exact hT),by simp only [List.length_append,List.length_cons,List.length_nil]; omega⟩)
 have hgl:g.length≤16:=by omega
 obtain ⟨i0,hi,hz0,hz1,hz2⟩:=info_parts info_type
 obtain ⟨W,hW,hb,hz,k0⟩:=boxF w #[.int .i64 k,.int .i64 T.kind,.slice B T.args.length d,.slice C 0 e0,.slice A 1 a0]
 have HBZ:=Lib.hid (And.intro hb hz)
 have HS:=Lib.hid hS
 have HOW:=Lib.hid hown
 have HBS:=Lib.hid hbase
 have HTB:=Lib.hid (And.intro hbt (htab.after hb))
 have hTW:IsTy S W T (.agg #[.int .i64 T.kind,.slice B T.args.length d]):=IsTy.keep (fun _ h=>h) (fun q hq=>hb.cell (hS _ hq).1) _ hTy
 obtain ⟨xs,hxo,hxc⟩:=hown.below hb
 have HXC:=Lib.hid (And.intro hxo (And.intro hxc hTW))
 have HXA:=Lib.hid (hxo.alloc (Obj.cells #[.int .i64 T.kind,.slice B T.args.length d] 30))
 have HKA:=Lib.hid (k0.alloc (Obj.cells #[.int .i64 T.kind,.slice B T.args.length d] 30))
 have HLW:=Lib.hid (show FmR.Sl S w l (.slice A 1 a0) from hl)
 have HNW:=Lib.hid (show ∀ j u,[Value.int .i64 T.kind,.slice B T.args.length d][j]? = some u→(W.alloc (Obj.cells #[.int .i64 T.kind,.slice B T.args.length d] 30)).cell? ((⟨w.heap.size+1,0,none⟩:Addr).add j)=some u from by
   have h:=cells_new W #[.int .i64 T.kind,.slice B T.args.length d] 30
   rw [hz] at h
   exact h)
 have hWz:=hz
 obtain ⟨q0,q1,q2,q3,q4,_⟩:=k0.facts5
 clear hF hbk hty hg hgn hbt hbase htab hnil hS hown hl hTy hb hz k0 hTW hxo hxc hll ihx hT hty' hn
 by_cases hroom:∃ gb cap,c=.slice (some ⟨gb,0,none⟩) g.length cap∧g.length+1≤cap
 · rcases hk with rfl | rfl | rfl | rfl
   all_goals
     obtain ⟨gb,cap,rfl,hcap⟩:=hroom
     have HFO:=Lib.hid hcap
     have AFTER:=Lib.hid (fun (W1:World) (h1:W1.ownsRow base 30 2 (Value.slice (some ⟨gb,0,none⟩) (g.length+1) cap) (g.length+1) (xs ++ [.int .i64 T.kind,.slice B T.args.length d])) (h2:(W.alloc (.cells #[.int .i64 T.kind,.slice B T.args.length d] 30)).grownBy W1 (some gb))=>
       And.intro (Lib.hid (restF_room (i:=0) (l:=[]) rfl HBS.out HS.out HBZ.out.1 HBZ.out.2 HOW.out HXC.out.1 HXC.out.2.1 HXC.out.2.2 h1 h2)) (And.intro (Lib.hid ((HTB.out.2.alloc _).grown h2 (fun e=>by have h3:=(HOW.out.lt gb rfl).1; have h4:=HTB.out.1; have h5:gb = 1:=(by simpa using e); omega))) (HKA.out.grown h2 (fun e=>by have h3:=(HOW.out.lt gb rfl).2; have h5:w.heap.size=gb:=(by simpa using e); omega))))
     have HBT2:=Lib.hid (show 1 < base from by have h4:=HTB.out.1; have h5:=HBS.out; omega)
     go_enter Tryz.func84,Tryz.ntmps84
     go_upto_region 1 with fail
     rw [← hW]
     clear hW
     go_wp2_with (at_builtin; go_loud (refine wpList_append_own_spare _ rfl _ _ 27 rfl base 30 i0 2 Tryz.underlying27 hi hz1 gb g.length cap xs rfl HXA.out _ 1 1 [_,_] rfl rfl HNW.out (by simp [Value.oneCell']) HFO.out ?_); intro W1 hown1 hgr1; obtain ⟨HRE,HTW,HK1⟩:=AFTER.out W1 hown1 hgr1; obtain ⟨q0,q1,q2,q3,q4,_⟩:=HK1.facts5)
     clear hown1 hgr1
     have HL:=Lib.hid (show FmR.Sl S W1 l (.slice A l.length a0) from by rw [hlen]; exact HLW.out.keep (fun _ h=>h) (fun q hq=>HRE.out.keeps q hq))
     have HSL:=Lib.hid (show ∀ b,S b→b<W1.heap.size∧(Value.slice (some ⟨gb,0,none⟩) (g.length+1) cap).ownBlock≠some b from fun b h=>⟨by have:=(HS.out b h).1; have:=HRE.out.size; omega,fun e=>(HRE.out.lies b e).2 h⟩)
     have HSS:=Lib.hid (show ∀ b,S b→(fun b=>(S b∨w.heap.size+1≤b)∧(Value.slice (some ⟨gb,0,none⟩) (g.length+1) cap).ownBlock≠some b) b from fun b h=>⟨.inl h,fun e=>(HRE.out.lies b e).2 h⟩)
     have HSN:=Lib.hid (show ∀ b,(fun b=>(S b∨w.heap.size+1≤b)∧(Value.slice (some ⟨gb,0,none⟩) (g.length+1) cap).ownBlock≠some b) b→(Value.slice (some ⟨gb,0,none⟩) (g.length+1) cap).ownBlock≠some b from fun _ h=>h.2)
     have HOWN:=Lib.hid HRE.out.own
     have HBB:=Lib.hid (show 1 < base∧base≤W1.heap.size∧Tab W1 from ⟨HBT2.out,HRE.out.base',HTW.out⟩)
     have HBACK:=Lib.hid HRE.out.back
     have HGG:=Lib.hid (show (∀ U ∈ g ++ [T],U.err=0)∧(g ++ [T]).length+n≤16∧(g ++ [T]=[]→(Value.slice (some ⟨gb,0,none⟩) (g.length+1) cap)=.slice none 0 0) from ⟨HG.out.1,HG.out.2,fun e=>by simp at e⟩)
     clear q0 q1 q2 q3 q4 HRE HTW HK1
     go_loopw [32] (fun ix wr=>∃ j:Nat,j≤1∧ix=.int .i64 j∧W1.grownBy wr (Value.slice (some ⟨gb,0,none⟩) (g.length+1) cap).ownBlock∧Still base (Value.slice (some ⟨gb,0,none⟩) (g.length+1) cap) (g ++ [T]).length W1 wr) (fun ix _=>1 - (intOf ix).toNat)
     case atStart=>exact ⟨0,by omega,rfl,only_refl _ _,fun _ h=>h⟩
     case round=>
       obtain ⟨j,hj,rfl,hgr,hst⟩:=hrel
       by_cases hlt:j<1
       · have hlt':j<l.length:=by omega
         have hlr:FmR.Sl S wr l (.slice A l.length a0):=HL.out.keep (fun _ h=>h) (fun q hq=>World.cell?_of_block (hgr.block q.block (HSL.out _ hq).1 (fun e=>(HSL.out _ hq).2 e.symm)))
         rw [hlen] at hlr
         obtain ⟨a,rfl,ha,hat⟩:=hlr.get j hlt'
         obtain ⟨B1,d1,C1,e1,A1,c1,p0,p1,p2,p3,p4,hx⟩:=at_fm hat
         change wr.cell? (a.add (j * 5))=_ at p0
         simp only [show FmR.n=5 from rfl] at p1 p2 p3 p4
         obtain ⟨y,hye⟩:∃ y,y=l[j]:=⟨_,rfl⟩
         have hih:=HIH.out j hlt'
         rw [← hye] at p0 p1 p2 p3 p4 hx hih
         obtain ⟨X,hX,bX,zX,kX⟩:=boxF wr #[.int .i64 y.kind,.int .i64 y.type.kind,.slice B1 y.type.args.length d1,.slice C1 y.terms.length e1,.slice A1 y.args.length c1]
         have hsz:=hgr.size
         have hnb:∀ b,S b→b<wr.heap.size:=fun b h=>Nat.lt_of_lt_of_le (HSL.out b h).1 hsz
         have HX:=Lib.hid (show IsFm (fun b=>(fun b=>(S b∨w.heap.size+1≤b)∧(Value.slice (some ⟨gb,0,none⟩) (g.length+1) cap).ownBlock≠some b) b∧b<X.heap.size) X y _ from IsFm.keep (fun b h=>⟨HSS.out b h,by have:=hnb b h; omega⟩) (fun q hq=>bX.cell (hnb _ hq)) _ hx)
         have HO:=Lib.hid (show TyR.Own (fun b=>(fun b=>(S b∨w.heap.size+1≤b)∧(Value.slice (some ⟨gb,0,none⟩) (g.length+1) cap).ownBlock≠some b) b∧b<X.heap.size) base (Value.slice (some ⟨gb,0,none⟩) (g.length+1) cap) (g ++ [T]) X from ((own_still HOWN.out hst hgr).below bX).mono (fun b h hb=>⟨h,hb⟩) (Nat.le_refl _))
         have HT:=Lib.hid (show Tab X from (HBB.out.2.2.grown hgr (fun e=>by have:=(HOWN.out.lt _ e).1; have:=HBB.out.1; omega)).after bX)
         have HC:=Lib.hid (And.intro hih (And.intro hgr (And.intro hst (And.intro bX zX))))
         have HXX:=Lib.hid hX
         have hbs:=HBB.out.2.1
         have HLE:=Lib.hid (show base≤X.heap.size by omega)
         clear hlr hat hx hye hih hX bX zX kX hgr hst hnb
         go_wp2_with fail
         rw [← HXX.out]
         refine (HC.out.1.1 n (g ++ [T]) (Value.slice (some ⟨gb,0,none⟩) (g.length+1) cap) _ base (fun b=>(fun b=>(S b∨w.heap.size+1≤b)∧(Value.slice (some ⟨gb,0,none⟩) (g.length+1) cap).ownBlock≠some b) b∧b<X.heap.size) X HC.out.1.2.1 HC.out.1.2.2 HGG.out.1 HGG.out.2.1 HBB.out.1 HLE.out HT.out HGG.out.2.2 (fun b h=>⟨h.2,HSN.out b h.1⟩) HO.out HX.out).mono ?_
         rintro e w2 ⟨rfl,hg2,hs2⟩
         have HR:=Lib.hid (show W1.grownBy w2 (Value.slice (some ⟨gb,0,none⟩) (g.length+1) cap).ownBlock∧Still base (Value.slice (some ⟨gb,0,none⟩) (g.length+1) cap) (g ++ [T]).length W1 w2 from ⟨only_trans (only_trans HC.out.2.1 (below_only HC.out.2.2.2.1 (Nat.le_refl _) _)) hg2,fun xs hx=>hs2 xs ((HC.out.2.2.1 xs hx).kept (below_only HC.out.2.2.2.1 (Nat.le_refl _) none) (by cases (Value.slice (some ⟨gb,0,none⟩) (g.length+1) cap).ownBlock <;> simp))⟩)
         clear hg2 hs2
         go_wp2_with fail
         exact ⟨⟨j+1,by omega,by go_num,HR.out⟩,by simp [intOf]; omega⟩
       · obtain rfl:j=1:=by omega
         have HR:=Lib.hid (HBACK.out wr hgr hst)
         clear hgr hst
         go_wp2_with fail
         go_ret
         exact ⟨rfl,HR.out⟩
 · rcases hk with rfl | rfl | rfl | rfl
   all_goals
     obtain ⟨ao,cap,rfl,hnone,hfull,hholds⟩:=grow_form HXC.out.1 hroom
     have HFO:=Lib.hid (show (ao=none→g.length=0∧cap=0)∧cap<g.length+1∧xs.length=g.length * 2∧∀ b,ao=some b→∀ j u,xs[j]? = some u→(W.alloc (.cells #[.int .i64 T.kind,.slice B T.args.length d] 30)).cell? (b.add j)=some u from ⟨hnone,hfull,HXC.out.1.1,fun b hb j u hu=>(World.cell?_alloc_lt _ _ _ (World.block_lt_of_cell? _ _ (hholds b hb j u hu))).trans (hholds b hb j u hu)⟩)
     clear hnone hfull hholds hroom
     have AFTER:=Lib.hid (fun (cN:Value) (W1:World) (h1:W1.ownsRow (W.alloc (.cells #[.int .i64 T.kind,.slice B T.args.length d] 30)).heap.size 30 2 cN (g.length+1) (xs ++ [.int .i64 T.kind,.slice B T.args.length d])) (h2:(W.alloc (.cells #[.int .i64 T.kind,.slice B T.args.length d] 30)).grownBy W1 none)=>
       And.intro (Lib.hid (restF_grow (i:=0) (l:=[]) rfl HS.out HBZ.out.1 HBZ.out.2 HOW.out HXC.out.2.1 HXC.out.2.2 h1 h2)) (And.intro (Lib.hid ((HTB.out.2.alloc _).grown h2 (by simp))) (HKA.out.grown h2 (by simp))))
     have HBT2:=Lib.hid (show 1 < (w.heap.size+2) from by have h4:=HTB.out.1; have h5:=HBS.out; omega)
     go_enter Tryz.func84,Tryz.ntmps84
     go_upto_region 1 with fail
     rw [← hW]
     clear hW
     go_wp2_with (at_builtin; go_loud (refine wpList_append_grows _ rfl _ _ 27 rfl 30 i0 _ 2 32 Tryz.underlying27 hi hz0 hz1 hz2 rfl (by decide) ao g.length cap xs rfl HFO.out.1 HFO.out.2.2.1 HFO.out.2.2.2 _ 1 1 [_,_] rfl rfl HNW.out (by simp [Value.oneCell']) HFO.out.2.1 (by simp only [maxLen]; omega) (by omega) ?_); intro cN W1 hown1 hgr1; obtain ⟨HRE,HTW,HK1⟩:=AFTER.out cN W1 hown1 hgr1; obtain ⟨q0,q1,q2,q3,q4,_⟩:=HK1.facts5)
     clear hown1 hgr1
     have HL:=Lib.hid (show FmR.Sl S W1 l (.slice A l.length a0) from by rw [hlen]; exact HLW.out.keep (fun _ h=>h) (fun q hq=>HRE.out.keeps q hq))
     have HSL:=Lib.hid (show ∀ b,S b→b<W1.heap.size∧cN.ownBlock≠some b from fun b h=>⟨by have:=(HS.out b h).1; have:=HRE.out.size; omega,fun e=>(HRE.out.lies b e).2 h⟩)
     have HSS:=Lib.hid (show ∀ b,S b→(fun b=>(S b∨w.heap.size+1≤b)∧cN.ownBlock≠some b) b from fun b h=>⟨.inl h,fun e=>(HRE.out.lies b e).2 h⟩)
     have HSN:=Lib.hid (show ∀ b,(fun b=>(S b∨w.heap.size+1≤b)∧cN.ownBlock≠some b) b→cN.ownBlock≠some b from fun _ h=>h.2)
     have HOWN:=Lib.hid HRE.out.own
     have HBB:=Lib.hid (show 1 < (w.heap.size+2)∧(w.heap.size+2)≤W1.heap.size∧Tab W1 from ⟨HBT2.out,HRE.out.base',HTW.out⟩)
     have HBACK:=Lib.hid HRE.out.back
     have HGG:=Lib.hid (show (∀ U ∈ g ++ [T],U.err=0)∧(g ++ [T]).length+n≤16∧(g ++ [T]=[]→cN=.slice none 0 0) from ⟨HG.out.1,HG.out.2,fun e=>by simp at e⟩)
     clear q0 q1 q2 q3 q4 HRE HTW HK1
     go_loopw [32] (fun ix wr=>∃ j:Nat,j≤1∧ix=.int .i64 j∧W1.grownBy wr cN.ownBlock∧Still (w.heap.size+2) cN (g ++ [T]).length W1 wr) (fun ix _=>1 - (intOf ix).toNat)
     case atStart=>exact ⟨0,by omega,rfl,only_refl _ _,fun _ h=>h⟩
     case round=>
       obtain ⟨j,hj,rfl,hgr,hst⟩:=hrel
       by_cases hlt:j<1
       · have hlt':j<l.length:=by omega
         have hlr:FmR.Sl S wr l (.slice A l.length a0):=HL.out.keep (fun _ h=>h) (fun q hq=>World.cell?_of_block (hgr.block q.block (HSL.out _ hq).1 (fun e=>(HSL.out _ hq).2 e.symm)))
         rw [hlen] at hlr
         obtain ⟨a,rfl,ha,hat⟩:=hlr.get j hlt'
         obtain ⟨B1,d1,C1,e1,A1,c1,p0,p1,p2,p3,p4,hx⟩:=at_fm hat
         change wr.cell? (a.add (j * 5))=_ at p0
         simp only [show FmR.n=5 from rfl] at p1 p2 p3 p4
         obtain ⟨y,hye⟩:∃ y,y=l[j]:=⟨_,rfl⟩
         have hih:=HIH.out j hlt'
         rw [← hye] at p0 p1 p2 p3 p4 hx hih
         obtain ⟨X,hX,bX,zX,kX⟩:=boxF wr #[.int .i64 y.kind,.int .i64 y.type.kind,.slice B1 y.type.args.length d1,.slice C1 y.terms.length e1,.slice A1 y.args.length c1]
         have hsz:=hgr.size
         have hnb:∀ b,S b→b<wr.heap.size:=fun b h=>Nat.lt_of_lt_of_le (HSL.out b h).1 hsz
         have HX:=Lib.hid (show IsFm (fun b=>(fun b=>(S b∨w.heap.size+1≤b)∧cN.ownBlock≠some b) b∧b<X.heap.size) X y _ from IsFm.keep (fun b h=>⟨HSS.out b h,by have:=hnb b h; omega⟩) (fun q hq=>bX.cell (hnb _ hq)) _ hx)
         have HO:=Lib.hid (show TyR.Own (fun b=>(fun b=>(S b∨w.heap.size+1≤b)∧cN.ownBlock≠some b) b∧b<X.heap.size) (w.heap.size+2) cN (g ++ [T]) X from ((own_still HOWN.out hst hgr).below bX).mono (fun b h hb=>⟨h,hb⟩) (Nat.le_refl _))
         have HT:=Lib.hid (show Tab X from (HBB.out.2.2.grown hgr (fun e=>by have:=(HOWN.out.lt _ e).1; have:=HBB.out.1; omega)).after bX)
         have HC:=Lib.hid (And.intro hih (And.intro hgr (And.intro hst (And.intro bX zX))))
         have HXX:=Lib.hid hX
         have hbs:=HBB.out.2.1
         have HLE:=Lib.hid (show (w.heap.size+2)≤X.heap.size by omega)
         clear hlr hat hx hye hih hX bX zX kX hgr hst hnb
         go_wp2_with fail
         rw [← HXX.out]
         refine (HC.out.1.1 n (g ++ [T]) cN _ (w.heap.size+2) (fun b=>(fun b=>(S b∨w.heap.size+1≤b)∧cN.ownBlock≠some b) b∧b<X.heap.size) X HC.out.1.2.1 HC.out.1.2.2 HGG.out.1 HGG.out.2.1 HBB.out.1 HLE.out HT.out HGG.out.2.2 (fun b h=>⟨h.2,HSN.out b h.1⟩) HO.out HX.out).mono ?_
         rintro e w2 ⟨rfl,hg2,hs2⟩
         have HR:=Lib.hid (show W1.grownBy w2 cN.ownBlock∧Still (w.heap.size+2) cN (g ++ [T]).length W1 w2 from ⟨only_trans (only_trans HC.out.2.1 (below_only HC.out.2.2.2.1 (Nat.le_refl _) _)) hg2,fun xs hx=>hs2 xs ((HC.out.2.2.1 xs hx).kept (below_only HC.out.2.2.2.1 (Nat.le_refl _) none) (by cases cN.ownBlock <;> simp))⟩)
         clear hg2 hs2
         go_wp2_with fail
         exact ⟨⟨j+1,by omega,by go_num,HR.out⟩,by simp [intOf]; omega⟩
       · obtain rfl:j=1:=by omega
         have HR:=Lib.hid (HBACK.out wr hgr hst)
         clear hgr hst
         go_wp2_with fail
         go_ret
         exact ⟨rfl,HR.out⟩
/-- The contract of formula.typed. -/
theorem ftyped_any {f:Fm} (hf:GoodF f):FTy f:=by
 induction hf with
 | eq s t hs ht=>exact ftyped_eq s t hs ht
 | two k a b hk _ _ iha ihb=>exact ftyped_two k a b hk iha ihb
 | quant k T b hk _ _ ih=>exact ftyped_quant k T b hk ih
end Go.Proofs.YtipfnkajdooiiaaGreatDoor
namespace Go.Proofs.YtipfnkajdooiiaaGreatDoor
open Go.RowKit

set_option maxRecDepth 100000 in
set_option maxHeartbeats 2000000 in
theorem clone_nil (w:World):Calls Tryz.prog 85 #[.slice none 0 0] w fun e w'=>e=.returned (.slice none 0 0)∧Below w.heap.size w w':=by
 have heq:=fun (w:World) (a:Option Addr) (n c:Nat)=>Lib.run_eql_slice_nil (P:=Tryz.prog) w 27 _ a n c 0 0 Tryz.underlying27
 go_enter Tryz.func85,Tryz.ntmps85
 go_wp2_with fail
 go_ret
 exact ⟨rfl,Below.refl _ _⟩
theorem clone_both (S:Nat→Prop) (g:List Ty) (s:Value) (w:World) (hS:∀ b,S b→b<w.heap.size) (hlen:g.length≤1000000) (hl:TyR.Sl S w g s) (hnil:g=[]→s=.slice none 0 0) :
   Calls Tryz.prog 85 #[s] w fun e w'=>∃ c,e=.returned c∧TyR.Own S w.heap.size c g w'∧(g=[]→c=.slice none 0 0)∧Below w.heap.size w w':=by
 by_cases hg:g=[]
 · subst hg
   obtain rfl:=hnil rfl
   exact (clone_nil w).mono fun e w' ⟨h,hb⟩=>⟨_,h,Rep.Own.nil _ _ _,fun _=>rfl,hb⟩
 · exact (clone_in S g s w hS hlen hl hnil).mono fun e w' ⟨c,h,ho,hb⟩=>⟨c,h,ho,fun e=>absurd e hg,hb⟩
set_option maxRecDepth 100000 in
set_option maxHeartbeats 4000000 in
theorem fTypedTop_any (n:Nat) (f:Fm) (g:List Ty) (s v:Value) (w:World) (hf:GoodF f) (hsz:f.size≤4096) (hbk:f.bulk≤390000) (hty:TyF n g f) (hgv:∀ T ∈ g,T.err=0) (hgn:g.length+n≤16) (htab:Tab w) (hnil:g=[]→s=.slice none 0 0)
   (hs:TyR.Sl (· < w.heap.size) w g s) (hF:IsFm (· < w.heap.size) w f v) :
   Calls Tryz.prog 21 #[s,v] w fun e w'=>e=.returned (.int .i64 0)∧Below w.heap.size w w':=by
 obtain ⟨B,d,C,e0,A,a0,rfl,_⟩:=IsFm.form hF
 obtain ⟨As,cs,rfl⟩:=hs.form
 obtain ⟨W,hW,hb,hz,k0⟩:=boxF w #[.int .i64 f.kind,.int .i64 f.type.kind,.slice B f.type.args.length d,.slice C f.terms.length e0,.slice A f.args.length a0]
 have hup:∀ b,b<w.heap.size→b<W.heap.size:=fun b h=>Nat.lt_of_lt_of_le h hb.size
 have HF:=Lib.hid fun (w':World) (h:Below W.heap.size W w')=>show IsFm (· < w.heap.size) w' f _ from IsFm.keep (fun _ h=>h) (fun q hq=>(h.cell (hup _ hq)).trans (hb.cell hq)) _ hF
 have HG:=Lib.hid fun (w':World) (h:Below W.heap.size W w')=>show TyR.Sl (· < w.heap.size) w' g _ from hs.keep (fun _ h=>h) (fun q hq=>(h.cell (hup _ hq)).trans (hb.cell hq))
 have HK:=Lib.hid fun (w':World) (h:Below W.heap.size W w')=>And.intro h (k0.below h k0.lt).cells5
 have HB:=Lib.hid (And.intro hb (And.intro hz (htab.after hb)))
 have HO:=Lib.hid (And.intro hf (And.intro hsz (And.intro hty (And.intro hgv hnil))))
 have HN:=Lib.hid (show nodesAll g≤400000∧ctxErr g=0 from ⟨by have:=nodes_all hgv; omega,by unfold ctxErr; rw [if_neg (by omega)]; exact errs_all hgv⟩)
 have HUP:=Lib.hid hup
 have hlt:1 < w.heap.size:=htab.lt
 clear hF hs hf hsz hty hgv hnil htab hb hz k0 hup
 go_enter Tryz.func21,Tryz.ntmps21
 go_upto_region 1 with fail
 rw [← hW]
 clear hW
 go_wp2_with fail
 refine (context_any g _ W HN.out.1 (by omega) ((HG.out W (Below.refl _ _)).keep HUP.out (fun _ _=>rfl))).mono ?_
 rw [HN.out.2]
 rintro e w1 ⟨rfl,hb1⟩
 obtain ⟨_,q0,q1,q2,q3,q4⟩:=HK.out w1 hb1
 have HB1:=Lib.hid hb1
 clear hb1
 go_wp2_with fail
 refine (checkF_ok HO.out.1 HO.out.2.1 _ w1 (by omega) (HB.out.2.2.after HB1.out) ((HF.out w1 HB1.out).keep (fun b h=>Nat.lt_of_lt_of_le (HUP.out b h) HB1.out.size) (fun _ _=>rfl))).mono ?_
 rintro e w2 ⟨rfl,hb2⟩
 have HB2:=Lib.hid (HB1.out.trans (hb2.mono HB1.out.size))
 clear hb2 q0 q1 q2 q3 q4
 have hs2:=HB2.out.size
 have hs0:=HB.out.1.size
 have CL:=Lib.hid (clone_both (· < w.heap.size) g (.slice As g.length cs) w2.drew (fun b h=>by have h':b<w.heap.size:=h; show b<w2.heap.size; omega) (by omega) (HG.out w2.drew HB2.out.drew) HO.out.2.2.2.2)
 have TO:=Lib.hid (show ∀ (c':Value) (w3:World),TyR.Own (· < w.heap.size) w2.drew.heap.size c' g w3→(g=[]→c' = .slice none 0 0)→Below w2.drew.heap.size w2.drew w3→Calls Tryz.prog 84 #[c',.agg #[.int .i64 f.kind,.int .i64 f.type.kind,.slice B f.type.args.length d,.slice C f.terms.length e0,.slice A f.args.length a0]] w3 (fun e w'=>e=.returned (.int .i64 0)∧Below w2.heap.size w2 w') from by
   intro c' w3 ho hn3 hb3
   have hb23:Below W.heap.size W w3:=(HB2.out.drew).trans (hb3.mono hs2)
   have hs3:=hb3.size
   have hlo:=ho.lt
   refine (ftyped_any HO.out.1 n g c' _ w2.drew.heap.size (· < w.heap.size) w3 hbk HO.out.2.2.1 HO.out.2.2.2.1 hgn (by show _<w2.heap.size; omega) hb3.size (HB.out.2.2.after hb23) hn3 (fun b h=>⟨by have h':b<w.heap.size:=h; have h2:w2.heap.size≤w3.heap.size:=hs3; omega,fun e=>by have h1:w2.heap.size≤b:=(hlo b e).1; have h':b<w.heap.size:=h; omega⟩) ho (HF.out w3 hb23)).mono ?_
   rintro e w' ⟨rfl,hg,_⟩
   exact ⟨rfl,((Below.refl _ w2).drew).trans (hb3.grown hg hb3.size (fun k e=>(hlo k e).1))⟩)
 go_wp2_with fail
 obtain ⟨_,q0,q1,q2,q3,q4⟩:=HK.out w2 HB2.out
 go_region_held3 (fun w'=>Below W.heap.size W w'∧w'.cell? ⟨w.heap.size,0,none⟩ = some (.int .i64 f.kind)∧w'.cell? ⟨w.heap.size,1,none⟩ = some (.int .i64 f.type.kind)∧w'.cell? ⟨w.heap.size,2,none⟩ = some (.slice B f.type.args.length d)∧w'.cell? ⟨w.heap.size,3,none⟩ = some (.slice C f.terms.length e0)∧w'.cell? ⟨w.heap.size,4,none⟩ = some (.slice A f.args.length a0))
   (first | exact HK.out _ HB2.out.drew | exact HK.out _ HB3.out | exact HK.out _ HB4.out | go_keep)
   (first
     | (go_at_call 84
        (with_reducible refine (TO.out c3 w3 ho3 hn3 hb3).mono ?_)
        rintro e w4 ⟨rfl,hb4⟩
        have HB4:=Lib.hid (HB2.out.trans (hb4.mono HB2.out.size)))
     | (go_at_call 85
        (with_reducible refine CL.out.mono ?_)
        rintro e w3 ⟨c3,rfl,ho3,hn3,hb3⟩
        have HB3:=Lib.hid (show Below W.heap.size W w3 from (HB2.out.drew).trans (hb3.mono HB2.out.size))))
 go_wp2_with fail
 go_ret
 exact ⟨rfl,HB.out.1.trans (HB4.out.mono HB.out.1.size)⟩
end Go.Proofs.YtipfnkajdooiiaaGreatDoor
namespace Go.Proofs.YtipfnkajdooiiaaGreatDoor
open Go.RowKit

theorem made_low6 {G:List Ty} {t:Ty} {a p:Nat} {T:Tm} (h:Made G t a p T) (hG:G.length≤1000) (ha:a≤4096):T.low 1000000=true:=
 low_mono (by have:=h.size; omega) T (typ_low T G h.ok h.typ)
theorem made_err6 {G:List Ty} {t:Ty} {a p:Nat} {T:Tm} (h:Made G t a p T) (ha:a≤4096):T.err=0:=errT_zero.2 ⟨h.ok,by have:=h.size; omega⟩
end Go.Proofs.YtipfnkajdooiiaaGreatDoor
namespace Go.Proofs.YtipfnkajdooiiaaGreatDoor
open Go.RowKit

theorem MadeF.fine {d:Nat} {G:List Ty} {f:Fm} (h:MadeF d G f) (hG:G.length+d≤900):FineF f:=by
 induction h with
 | eq d G s t hs ht=>exact .eq s t ⟨made_err6 hs (by omega),low_mono (by omega) s (made_low6 hs (by omega) (by omega))⟩ ⟨made_err6 ht (by omega),low_mono (by omega) t (made_low6 ht (by omega) (by omega))⟩
 | two d G k a b hk _ _ iha ihb=>exact .two k a b hk (iha (by omega)) (ihb (by omega))
 | quant d G k T b hk hT hn _ ih=>exact .quant k T b hk (err_zero.2 ⟨hT,by omega⟩) (ih (by simp only [List.length_append,List.length_cons,List.length_nil]; omega))
mutual
theorem size_le_bulkT:∀ t:Tm,t.size≤t.bulk
 | .mk k i T l=>by
   have h1:=sizeAllT_le_bulk l
   simp only [Tm.size,Tm.bulk]
   omega
theorem sizeAllT_le_bulk:∀ l:List Tm,sizeAllT l≤bulkAll l
 | []=>Nat.le_refl _
 | f :: r=>by
   have h1:=size_le_bulkT f
   have h2:=sizeAllT_le_bulk r
   simp only [sizeAllT,bulkAll]
   omega
end
mutual
theorem size_le_bulkF:∀ f:Fm,f.size≤f.bulk
 | .mk k T ts l=>by
   have h1:=sizeAllT_le_bulk ts
   have h2:=sizeAllF_le_bulk l
   simp only [Fm.size,Fm.bulk]
   omega
theorem sizeAllF_le_bulk:∀ l:List Fm,sizeAllF l≤bulkAllF l
 | []=>Nat.le_refl _
 | f :: r=>by
   have h1:=size_le_bulkF f
   have h2:=sizeAllF_le_bulk r
   simp only [sizeAllF,bulkAllF]
   omega
end
end Go.Proofs.YtipfnkajdooiiaaGreatDoor
namespace Go.Proofs.YtipfnkajdooiiaaGreatDoor
open Go.RowKit

mutual
theorem lift_lowN {n:Int}:∀ (t:Tm) (m b:Nat),t.low n=true→(t.lift m b).low (n+b)=true
 | .mk k i T l,m,b,h=>by
   simp only [Tm.low,Bool.and_eq_true,decide_eq_true_eq] at h
   rw [lift_mk]
   simp only [Tm.low,Bool.and_eq_true,decide_eq_true_eq]
   exact ⟨by split <;> omega,liftAll_lowN l _ b h.2⟩
theorem liftAll_lowN {n:Int}:∀ (l:List Tm) (m b:Nat),lowAll l n=true→lowAll (liftAll l m b) (n+b)=true
 | [],_,_,_=>by simp [liftAll,lowAll]
 | t :: r,m,b,h=>by
   simp only [lowAll,Bool.and_eq_true] at h
   simp only [liftAll,lowAll,Bool.and_eq_true]
   exact ⟨lift_lowN t m b h.1,liftAll_lowN r m b h.2⟩
end
end Go.Proofs.YtipfnkajdooiiaaGreatDoor
