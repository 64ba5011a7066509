/- Contexts, types and terms of a call's own; slices that were just built. -/
import Derived.Test.YtipfnkajdooiiaaGreatDoorQMkContext
import Derived.Laws.AppendOwnNone
import Derived.Test.YtipfnkajdooiiaaGreatDoorQMakeT
namespace Go.Proofs.YtipfnkajdooiiaaGreatDoor
open Go.RowKit

/-- A context, and a type, of which nothing lies in the deck's block. -/
structure Ctx (g:Nat) (w:World) (G:List Ty) (s:Value):Prop where
 sl:TyR.Sl (Good (· = g) w) w G s
 formed:Formed s
 ok:∀ U ∈ G,U.ok=true∧U.nodes≤3
theorem Ctx.turn {g:Nat} {w w':World} {G:List Ty} {s:Value} (h:Ctx g w G s) (ht:Turn (· = g) w w'):Ctx g w' G s:=⟨h.sl.turn ht,h.formed,h.ok⟩
def Typ (g:Nat) (w:World) (t:Ty) (v:Value):Prop:=IsTy (Good (· = g) w) w t v
theorem Typ.turn {g:Nat} {w w':World} {t:Ty} {v:Value} (h:Typ g w t v) (ht:Turn (· = g) w w'):Typ g w' t v:=
 IsTy.keep (fun _ hb=>⟨hb.1,Nat.lt_of_lt_of_le hb.2 ht.size⟩) (fun p hp=>World.cell?_of_block (ht.block p.block hp.2 hp.1)) _ h
theorem Typ.below {g:Nat} {w:World} {t:Ty} {v:Value} (h:Typ g w t v):IsTy (· < w.heap.size) w t v:=IsTy.keep (fun _ hb=>hb.2) (fun _ _=>rfl) _ h
theorem Typ.leaf (g:Nat) (w:World) (k:Int):Typ g w (.mk k []) (.agg #[.int .i64 k,.slice none 0 0]):=IsTy.leaf _ _ _
theorem Typ.of {g lo:Nat} {w:World} {t:Ty} {v:Value} (h:IsTy (fun b=>lo≤b∧b<w.heap.size) w t v) (hg:g<lo):Typ g w t v:=
 IsTy.keep (fun b hb=>⟨by omega,hb.2⟩) (fun _ _=>rfl) _ h

/-- A term of the call's own. -/
def Trm (lo:Nat) (w:World) (T:Tm) (v:Value):Prop:=IsTm (fun b=>lo≤b∧b<w.heap.size) w T v
theorem Trm.turn {g lo:Nat} {w w':World} {T:Tm} {v:Value} (h:Trm lo w T v) (ht:Turn (· = g) w w') (hg:g<lo):Trm lo w' T v:=
 IsTm.keep (fun _ hb=>⟨hb.1,Nat.lt_of_lt_of_le hb.2 ht.size⟩) (fun p hp=>World.cell?_of_block (ht.block p.block hp.2 (by omega))) _ h
theorem Trm.mono {lo lo':Nat} {w:World} {T:Tm} {v:Value} (h:Trm lo w T v) (hl:lo'≤lo):Trm lo' w T v:=IsTm.keep (fun _ hb=>⟨Nat.le_trans hl hb.1,hb.2⟩) (fun _ _=>rfl) _ h
theorem Trm.below {lo:Nat} {w:World} {T:Tm} {v:Value} (h:Trm lo w T v):IsTm (· < w.heap.size) w T v:=IsTm.keep (fun _ hb=>hb.2) (fun _ _=>rfl) _ h

/-! Slices that were just built. -/
theorem tm_sl1 {w:World} {x:Tm} {a0 a1 a2 a3 a4:Value} (h:IsTm (· < w.heap.size) w x (.agg #[a0,a1,a2,a3,a4])) :
   TmR.Sl (· < (w.alloc (.cells #[a0,a1,a2,a3,a4] 42)).heap.size) (w.alloc (.cells #[a0,a1,a2,a3,a4] 42)) [x] (.slice (some ⟨w.heap.size,0,none⟩) 1 1):=
 Rep.Sl.built (R:=TmR) (Rep.Ch.one (R:=TmR) (vs:=[a0,a1,a2,a3,a4]) h) (fun _ h=>h) (· < (w.alloc (.cells #[a0,a1,a2,a3,a4] 42)).heap.size) (fun b hb=>by have hb:b<w.heap.size:=hb; simp; omega) (by simp)
theorem tm_sl2 {w:World} {x y:Tm} {a0 a1 a2 a3 a4 b0 b1 b2 b3 b4:Value} (h:IsTm (· < w.heap.size) w x (.agg #[a0,a1,a2,a3,a4])) (k:IsTm (· < w.heap.size) w y (.agg #[b0,b1,b2,b3,b4])) :
   TmR.Sl (· < (w.alloc (.cells #[a0,a1,a2,a3,a4,b0,b1,b2,b3,b4] 42)).heap.size) (w.alloc (.cells #[a0,a1,a2,a3,a4,b0,b1,b2,b3,b4] 42)) [x,y] (.slice (some ⟨w.heap.size,0,none⟩) 2 2):=
 Rep.Sl.built (R:=TmR) (Rep.Ch.append (R:=TmR) (l:=[x]) (Rep.Ch.one (R:=TmR) (vs:=[a0,a1,a2,a3,a4]) h) (Rep.Ch.one (R:=TmR) (vs:=[b0,b1,b2,b3,b4]) k)) (fun _ h=>h)
   (· < (w.alloc (.cells #[a0,a1,a2,a3,a4,b0,b1,b2,b3,b4] 42)).heap.size) (fun b hb=>by have hb:b<w.heap.size:=hb; simp; omega) (by simp)
theorem tm_sl3 {w:World} {x y z:Tm} {a0 a1 a2 a3 a4 b0 b1 b2 b3 b4 c0 c1 c2 c3 c4:Value} (h:IsTm (· < w.heap.size) w x (.agg #[a0,a1,a2,a3,a4])) (k:IsTm (· < w.heap.size) w y (.agg #[b0,b1,b2,b3,b4])) (m:IsTm (· < w.heap.size) w z (.agg #[c0,c1,c2,c3,c4])) :
   TmR.Sl (· < (w.alloc (.cells #[a0,a1,a2,a3,a4,b0,b1,b2,b3,b4,c0,c1,c2,c3,c4] 42)).heap.size) (w.alloc (.cells #[a0,a1,a2,a3,a4,b0,b1,b2,b3,b4,c0,c1,c2,c3,c4] 42)) [x,y,z] (.slice (some ⟨w.heap.size,0,none⟩) 3 3):=
 Rep.Sl.built (R:=TmR) (Rep.Ch.append (R:=TmR) (l:=[x]) (Rep.Ch.one (R:=TmR) (vs:=[a0,a1,a2,a3,a4]) h) (Rep.Ch.append (R:=TmR) (l:=[y]) (Rep.Ch.one (R:=TmR) (vs:=[b0,b1,b2,b3,b4]) k) (Rep.Ch.one (R:=TmR) (vs:=[c0,c1,c2,c3,c4]) m))) (fun _ h=>h)
   (· < (w.alloc (.cells #[a0,a1,a2,a3,a4,b0,b1,b2,b3,b4,c0,c1,c2,c3,c4] 42)).heap.size) (fun b hb=>by have hb:b<w.heap.size:=hb; simp; omega) (by simp)
theorem ty_sl1 {g:Nat} {w:World} {x:Ty} {a0 a1:Value} (hg:g<w.heap.size) (h:Typ g w x (.agg #[a0,a1])) :
   TyR.Sl (Good (· = g) (w.alloc (.cells #[a0,a1] 30))) (w.alloc (.cells #[a0,a1] 30)) [x] (.slice (some ⟨w.heap.size,0,none⟩) 1 1):=
 Rep.Sl.built (R:=TyR) (Rep.Ch.one (R:=TyR) (vs:=[a0,a1]) h) (fun _ h=>h.2) (Good (· = g) (w.alloc (.cells #[a0,a1] 30))) (fun b hb=>⟨hb.1,by have:=hb.2; simp; omega⟩) ⟨by omega,by simp⟩
theorem ty_sl2 {g:Nat} {w:World} {x y:Ty} {a0 a1 b0 b1:Value} (hg:g<w.heap.size) (h:Typ g w x (.agg #[a0,a1])) (k:Typ g w y (.agg #[b0,b1])) :
   TyR.Sl (Good (· = g) (w.alloc (.cells #[a0,a1,b0,b1] 30))) (w.alloc (.cells #[a0,a1,b0,b1] 30)) [x,y] (.slice (some ⟨w.heap.size,0,none⟩) 2 2):=
 Rep.Sl.built (R:=TyR) (Rep.Ch.append (R:=TyR) (l:=[x]) (Rep.Ch.one (R:=TyR) (vs:=[a0,a1]) h) (Rep.Ch.one (R:=TyR) (vs:=[b0,b1]) k)) (fun _ h=>h.2)
   (Good (· = g) (w.alloc (.cells #[a0,a1,b0,b1] 30))) (fun b hb=>⟨hb.1,by have:=hb.2; simp; omega⟩) ⟨by omega,by simp⟩
theorem ty_sl3 {g:Nat} {w:World} {x y z:Ty} {a0 a1 b0 b1 c0 c1:Value} (hg:g<w.heap.size) (h:Typ g w x (.agg #[a0,a1])) (k:Typ g w y (.agg #[b0,b1])) (m:Typ g w z (.agg #[c0,c1])) :
   TyR.Sl (Good (· = g) (w.alloc (.cells #[a0,a1,b0,b1,c0,c1] 30))) (w.alloc (.cells #[a0,a1,b0,b1,c0,c1] 30)) [x,y,z] (.slice (some ⟨w.heap.size,0,none⟩) 3 3):=
 Rep.Sl.built (R:=TyR) (Rep.Ch.append (R:=TyR) (l:=[x]) (Rep.Ch.one (R:=TyR) (vs:=[a0,a1]) h) (Rep.Ch.append (R:=TyR) (l:=[y]) (Rep.Ch.one (R:=TyR) (vs:=[b0,b1]) k) (Rep.Ch.one (R:=TyR) (vs:=[c0,c1]) m))) (fun _ h=>h.2)
   (Good (· = g) (w.alloc (.cells #[a0,a1,b0,b1,c0,c1] 30))) (fun b hb=>⟨hb.1,by have:=hb.2; simp; omega⟩) ⟨by omega,by simp⟩

/-- The deck's block and another one. -/
def Pair2 (g q b:Nat):Prop:=b=g∨b=q
theorem Turn.pair {g q:Nat} {a b:World} (h:Turn (· = g) a b):Turn (Pair2 g q) a b:=h.mono fun _ _ e=>.inl e
theorem turn_set5 {g:Nat} (w:World) (q:Nat) (a b c d e:Value):Turn (Pair2 g q) w (((((w.setCell ⟨q,0,none⟩ a).setCell ⟨q,1,none⟩ b).setCell ⟨q,2,none⟩ c).setCell ⟨q,3,none⟩ d).setCell ⟨q,4,none⟩ e):=
 Turn.grown (only_set5 w q a b c d e) (fun _ e=>by cases e; exact .inr rfl)
theorem Turn.cell {X:Nat→Prop} {a b:World} (h:Turn X a b) {q i:Nat} (hx:¬ X q) (hq:q<a.heap.size):b.cell? ⟨q,i,none⟩ = a.cell? ⟨q,i,none⟩:=World.cell?_of_block (h.block q hq hx)

theorem deck_cells {w:World} {g:Nat} (h:Deck w g) (o:Nat) (k:Int) (v:Value) (h0:w.cell? ⟨g,o,none⟩ = some (.int .i64 k)) (h1:w.cell? ⟨g,o+1,none⟩ = some v):False:=by
 obtain ⟨A,len,cap,pos,hb,_⟩:=h
 have c0:=hb.cell o
 have c1:=hb.cell (o+1)
 rw [h0] at c0
 rw [h1] at c1
 match o with
 | 0=>simp at c0
 | o+1=>simp at c1
mutual
/-- A type in memory lies outside of a deck's block. -/
theorem IsTy.good {S:Nat→Prop} {w:World} {g:Nat} (hd:Deck w g) (hS:∀ b,S b→b<w.heap.size):∀ (t:Ty) {v:Value},IsTy S w t v→IsTy (Good (· = g) w) w t v
 | .mk k l,v,h=>by
   unfold IsTy at h ⊢
   obtain ⟨A,c,rfl,h⟩:=h
   refine ⟨A,c,rfl,fun hl=>?_⟩
   obtain ⟨a,rfl,hs,h⟩:=h hl
   refine ⟨a,rfl,⟨fun e=>?_,hS _ hs⟩,AreTys.good hd hS l h⟩
   match l,hl,h with
   | t :: r,_,h=>
     unfold AreTys at h
     obtain ⟨⟨v0,v1,h0,h1,ht⟩,_⟩:=h
     obtain ⟨A',c',e'⟩:=ht.form
     simp at e'
     obtain ⟨rfl,rfl⟩:=e'
     have hs:a.spot=none:=by
       cases hsp:a.spot with
       | none=>rfl
       | some x=>
         unfold World.cell? at h0
         rw [hsp] at h0
         split at h0
         · simp at h0
         · cases h0
     have ea:a=⟨g,a.off,none⟩:=by rw [← hs,← e]
     have e0:w.cell? ⟨g,a.off,none⟩ = w.cell? a:=by rw [← ea]
     have e1:w.cell? ⟨g,a.off+1,none⟩ = w.cell? (a.add 1):=by rw [add_succ',add_zero',← e]
     exact deck_cells hd a.off _ _ (e0.trans h0) (e1.trans h1)
theorem AreTys.good {S:Nat→Prop} {w:World} {g:Nat} (hd:Deck w g) (hS:∀ b,S b→b<w.heap.size):∀ (l:List Ty) {a:Addr},AreTys S w l a→AreTys (Good (· = g) w) w l a
 | [],a,_=>by unfold AreTys; trivial
 | t :: r,a,h=>by
   unfold AreTys at h ⊢
   obtain ⟨⟨v0,v1,h0,h1,ht⟩,hr⟩:=h
   exact ⟨⟨v0,v1,h0,h1,IsTy.good hd hS t ht⟩,AreTys.good hd hS r hr⟩
end
end Go.Proofs.YtipfnkajdooiiaaGreatDoor
namespace Go.Proofs.YtipfnkajdooiiaaGreatDoor
open Go.RowKit

set_option maxRecDepth 100000 in
set_option maxHeartbeats 1000000 in
theorem longer_any (S:Nat→Prop) (G L:List Ty) (s t:Value) (w:World) (hS:∀ b,S b→b<w.heap.size) (hG:G.length≤1000) (hL:L.length≤1000) (hs:TyR.Sl S w G s) (ht:TyR.Sl S w L t) (hf:Formed s) (hne:L≠[]) :
   Calls Tryz.prog 57 #[s,t] w fun e w'=>
     ∃ x,e=.returned x∧TyR.Sl (fun b=>(S b∨w.heap.size≤b)∧b<w'.heap.size) w' (G ++ L) x∧Formed x∧Below w.heap.size w w':=by
 obtain ⟨B',d,rfl,hB⟩:=ht
 obtain ⟨b,rfl,hSb,hab⟩:=hB hne
 obtain ⟨ys,hyc,hyl⟩:=hab.cells
 obtain ⟨i0,hi,hz0,hz1,hz2⟩:=info_parts info_type
 have HYL:=Lib.hid hyl
 have hyn:ys.length=L.length * 2:=hyc.1
 have HYC:=Lib.hid hyc
 clear hB hab hyl hyc
 rcases hf with rfl | ⟨a,n,c,rfl,_⟩
 · have hG0:G=[]:=by
     obtain ⟨A,c,e,h⟩:=hs
     simp only [Value.slice.injEq] at e
     exact List.eq_nil_of_length_eq_zero (by omega)
   subst hG0
   clear hs
   go_enter Tryz.func57,Tryz.ntmps57
   have hown0:w.ownsRow w.heap.size 30 2 (.slice none 0 0) 0 []:=World.ownsRow_nil w _ _ _
   go_wp2_with (first | (at_builtin; (refine wpList_append_own_none rfl _ _ 27 rfl w.heap.size 30 i0 2 Tryz.underlying27 hi (.slice none 0 0) 0 [] rfl hown0 rfl ?_)) | (at_builtin; (refine wpList_append_own_at _ rfl _ _ 27 rfl w.heap.size 30 i0 _ 2 32 Tryz.underlying27 hi hz0 hz1 hz2 rfl (by decide) (.slice none 0 0) 0 [] rfl hown0 b L.length d ys rfl hyn HYL.out HYC.out.oneCells (by simp only [maxLen]; omega) (by omega) (Nat.le_refl _) ?_); intro v2 w2 hown2 hg2 hnil2 hat2))
   have hg2':Below w.heap.size w w2:=⟨hg2.os,hg2.tape,hg2.output,hg2.size,fun i hi=>hg2.block i hi (by simp [Value.ownBlock])⟩
   have ho:TyR.Own S w.heap.size v2 ([] ++ L) w2:=Rep.Own.more (R:=TyR) (xs:=[]) hown0 (Rep.Ch.nil _ _) (HYC.out.keep (fun b hb=>⟨hb,hS b hb,by simp [Value.ownBlock]⟩) (fun _ _=>rfl)) hown2 hg2 hat2
   exact bodyPost_ret (v:=v2) (by simp [results,Tryz.results57,go_sem]) rfl ⟨_,rfl,ho.sl,own_formed ho,hg2'⟩
 · obtain ⟨A,c',e,h⟩:=hs
   simp only [Value.slice.injEq] at e
   obtain ⟨rfl,rfl,rfl⟩:=e
   have hg:∃ xs:List Value,TyR.Ch S w G xs∧∀ j u,xs[j]? = some u→w.cell? (a.add j)=some u:=by
     by_cases hn:G=[]
     · subst hn; exact ⟨[],Rep.Ch.nil _ _,fun j u h=>by simp at h⟩
     · obtain ⟨a',e,_,ha⟩:=h hn
       cases e
       exact ha.cells
   obtain ⟨xs,hxc,hxl⟩:=hg
   have hxn:xs.length=G.length * 2:=hxc.1
   have HXL:=Lib.hid hxl
   have HXC:=Lib.hid hxc
   clear h hxl hxc
   go_enter Tryz.func57,Tryz.ntmps57
   have hown0:w.ownsRow w.heap.size 30 2 (.slice none 0 0) 0 []:=World.ownsRow_nil w _ _ _
   go_wp2_with (first | (at_builtin; (refine wpList_append_own_at _ rfl _ _ 27 rfl w.heap.size 30 i0 _ 2 32 Tryz.underlying27 hi hz0 hz1 hz2 rfl (by decide) (.slice none 0 0) 0 [] rfl hown0 a G.length _ xs rfl hxn HXL.out HXC.out.oneCells (by simp only [maxLen]; omega) (by omega) (Nat.le_refl _) ?_); intro v2 w2 hown2 hg2 hnil2 hat2
                         have hg2':Below w.heap.size w w2:=⟨hg2.os,hg2.tape,hg2.output,hg2.size,fun i hi=>hg2.block i hi (by simp [Value.ownBlock])⟩
                         have HO:=Lib.hid (Rep.Own.more (R:=TyR) (S:=S) (base:=w.heap.size) (xs:=[]) (l:=[]) (m:=G) hown0 (Rep.Ch.nil _ _) (HXC.out.keep (fun b hb=>⟨hb,hS b hb,by simp [Value.ownBlock]⟩) (fun _ _=>rfl)) hown2 hg2 hat2)
                         clear hown2 hg2 hnil2 hat2
                         have hoo:=HO.out
                         rw [List.nil_append] at hoo
                         obtain ⟨zs,hzo,hzc⟩:=hoo
                         have HZC:=Lib.hid hzc
                         have HYL2:=Lib.hid (show ∀ j u,ys[j]? = some u→w2.cell? (b.add j)=some u from fun j u hu=>(hg2'.cell (by rw [add_block]; exact hS _ hSb)).trans (HYL.out j u hu)))
                      | (at_builtin; go_loud (refine wpList_append_own_at _ rfl _ _ 27 rfl w.heap.size 30 i0 _ 2 32 Tryz.underlying27 hi hz0 hz1 hz2 rfl (by decide) v2 G.length zs rfl hzo b L.length d ys rfl hyn HYL2.out HYC.out.oneCells (by simp only [maxLen]; omega) (by omega) hg2'.size ?_); intro v3 w3 hown3 hg3 hnil3 hat3))
   have hlt:=HO.out.lt
   have hg3':Below w.heap.size w w3:=hg2'.grown hg3 hg2'.size (fun k e=>(hlt k e).1)
   have ho:TyR.Own S w.heap.size v3 (G ++ L) w3:=Rep.Own.more (R:=TyR) hzo HZC.out
     (HYC.out.keep (fun b hb=>⟨hb,Nat.lt_of_lt_of_le (hS b hb) hg2'.size,fun e=>by have h1:=hlt _ e; have h2:=hS b hb; omega⟩) (fun p hp=>hg2'.cell (hS _ hp))) hown3 hg3 hat3
   exact bodyPost_ret (v:=v3) (by simp [results,Tryz.results57,go_sem]) rfl ⟨_,rfl,ho.sl,own_formed ho,hg3'⟩
end Go.Proofs.YtipfnkajdooiiaaGreatDoor
namespace Go.Proofs.YtipfnkajdooiiaaGreatDoor
open Go.RowKit

/-- A function applied to arguments. -/
def appMk (f:Tm) (l:List Tm):Tm:=l.foldl (fun f a=>.mk 3 0 .zero [f,a]) f
theorem appMk_take {f:Tm} {l:List Tm} {j:Nat} (hj:j<l.length):appMk f (l.take (j+1))=.mk 3 0 .zero [appMk f (l.take j),l[j]]:=by
 unfold appMk
 rw [List.take_succ_eq_append_getElem hj,List.foldl_append]
 rfl
theorem appMk_bulk (f:Tm) (l:List Tm):(appMk f l).bulk=f.bulk+bulkAll l+2 * l.length:=by
 induction l generalizing f with
 | nil=>simp [appMk,bulkAll]
 | cons x r ih=>
   have:=ih (.mk 3 0 .zero [f,x])
   simp only [appMk,List.foldl_cons] at this ⊢
   rw [this]
   simp only [Tm.bulk,bulkAll,Ty.zero,Ty.nodes,nodesAll,List.length_cons]
   omega

/-- What lies in the two blocks of App, after j arguments. -/
def AppMkRel (w:World) (f:Tm) (l:List Tm) (j:Nat) (wr:World):Prop:=
 ∃ B d A c,Blk wr w.heap.size 42 #[.int .i64 (appMk f (l.take j)).kind,.int .i64 (appMk f (l.take j)).index,.int .i64 (appMk f (l.take j)).type.kind,.slice B (appMk f (l.take j)).type.args.length d,.slice A (appMk f (l.take j)).args.length c] ∧
   IsTm (fun b=>((j=0∧b<w.heap.size)∨w.heap.size+2≤b)∧b<wr.heap.size) wr (appMk f (l.take j)) (.agg #[.int .i64 (appMk f (l.take j)).kind,.int .i64 (appMk f (l.take j)).index,.int .i64 (appMk f (l.take j)).type.kind,.slice B (appMk f (l.take j)).type.args.length d,.slice A (appMk f (l.take j)).args.length c]) ∧
   Blk wr (w.heap.size+1) 42 #[.int .i64 0,.int .i64 0,.int .i64 0,.slice none 0 0,.slice none 0 0]∧Below w.heap.size w wr

/-- The slice that N is called with. -/
theorem appMk_arg {S:Nat→Prop} {wr:World} {F X:Tm} {g0 g1 g2 g3 g4 a0 a1 a2 a3 a4:Value} (hS:∀ b,S b→b<wr.heap.size)
   (hf:IsTm S wr F (.agg #[g0,g1,g2,g3,g4])) (ha:IsTm S wr X (.agg #[a0,a1,a2,a3,a4])) (m:Nat) (hm:m=wr.heap.size+1) :
   TmR.Sl (· < ((wr.alloc (.cells #[a0,a1,a2,a3,a4] 42)).alloc (.cells #[g0,g1,g2,g3,g4,a0,a1,a2,a3,a4] 42)).heap.size)
     ((wr.alloc (.cells #[a0,a1,a2,a3,a4] 42)).alloc (.cells #[g0,g1,g2,g3,g4,a0,a1,a2,a3,a4] 42)) [F,X] (.slice (some ⟨m,0,none⟩) 2 2) ∧
   Below wr.heap.size wr ((wr.alloc (.cells #[a0,a1,a2,a3,a4] 42)).alloc (.cells #[g0,g1,g2,g3,g4,a0,a1,a2,a3,a4] 42)):=by
 subst hm
 have s1:=World.size_alloc wr (.cells #[a0,a1,a2,a3,a4] 42)
 have b1:Below wr.heap.size wr (wr.alloc (.cells #[a0,a1,a2,a3,a4] 42)):=(Below.refl _ _).alloc (Nat.le_refl _) _
 have k1:∀ {Y:Tm} {v:Value},IsTm S wr Y v→IsTm S (wr.alloc (.cells #[a0,a1,a2,a3,a4] 42)) Y v:=fun h=>IsTm.keep (fun _ h=>h) (fun p hp=>World.cell?_alloc_lt _ _ _ (hS _ hp)) _ h
 have hf1:=k1 hf
 have ha1:=k1 ha
 clear k1
 generalize wr.alloc (.cells #[a0,a1,a2,a3,a4] 42)=W1 at s1 b1 hf1 ha1 ⊢
 have hc:TmR.Ch S W1 [F,X] ([g0,g1,g2,g3,g4] ++ [a0,a1,a2,a3,a4]):=Rep.Ch.append (R:=TmR) (l:=[F]) (Rep.Ch.one (R:=TmR) (vs:=[g0,g1,g2,g3,g4]) hf1) (Rep.Ch.one (R:=TmR) (vs:=[a0,a1,a2,a3,a4]) ha1)
 have hsl:=Rep.Sl.built (R:=TmR) hc (fun b hb=>by have:=hS b hb; omega) (· < (W1.alloc (.cells #[g0,g1,g2,g3,g4,a0,a1,a2,a3,a4] 42)).heap.size) (fun b hb=>by have:=hS b hb; simp; omega) (by simp)
 rw [s1] at hsl
 exact ⟨hsl,b1.alloc b1.size _⟩

theorem appMk_after {w wr W w3:World} {f:Tm} {l:List Tm} {j:Nat} {g0 g1 g2 g3 g4:Value} {B A:Option Addr} {d c nb na:Nat} (hj:j<l.length) (hb:Blk wr w.heap.size 42 #[g0,g1,g2,g3,g4])
   (k1:Blk wr (w.heap.size+1) 42 #[.int .i64 0,.int .i64 0,.int .i64 0,.slice none 0 0,.slice none 0 0]) (hbel:Below w.heap.size w wr) (hW:Below wr.heap.size wr W) (h3:Below W.heap.size W w3)
   (ht:IsTm (fun b=>W.heap.size≤b∧b<w3.heap.size) w3 (.mk 3 0 .zero [appMk f (l.take j),l[j]]) (.agg #[.int .i64 3,.int .i64 0,.int .i64 0,.slice B nb d,.slice A na c])) (hnb:nb=0) (hna:na=2) :
   AppMkRel w f l (j+1) (((((w3.setCell ⟨w.heap.size,0,none⟩ (.int .i64 3)).setCell ⟨w.heap.size,1,none⟩ (.int .i64 0)).setCell ⟨w.heap.size,2,none⟩ (.int .i64 0)).setCell ⟨w.heap.size,3,none⟩ (.slice B nb d)).setCell ⟨w.heap.size,4,none⟩ (.slice A na c)):=by
 subst hnb hna
 have hz:=hbel.size
 have hz1:=k1.lt
 have hz2:=hW.size
 have hz3:=h3.size
 have hb3:Below wr.heap.size wr w3:=hW.trans (h3.mono hz2)
 have hg:=only_set5 w3 w.heap.size (.int .i64 3) (.int .i64 0) (.int .i64 0) (.slice B 0 d) (.slice A 2 c)
 have kx:=(hb.below hb3 hb.lt).set5 (.int .i64 3) (.int .i64 0) (.int .i64 0) (.slice B 0 d) (.slice A 2 c)
 have hs:=hg.size
 unfold AppMkRel
 rw [appMk_take hj]
 refine ⟨B,d,A,c,kx,IsTm.keep (fun b h=>by omega) (fun p hp=>World.cell?_of_block (hg.block p.block (by omega) (by simp; omega))) _ ht,(k1.below hb3 hz1).grown hg (by simp),
   (hbel.trans (hb3.mono hz)).grown hg (by omega) (fun k e=>by cases e; exact Nat.le_refl _)⟩

set_option maxRecDepth 100000 in
set_option maxHeartbeats 1000000 in
theorem app_mk (f:Tm) (l:List Tm) (v s:Value) (w:World) (hb:f.bulk+bulkAll l+2 * l.length≤400000) (hf:IsTm (· < w.heap.size) w f v) (hl:TmR.Sl (· < w.heap.size) w l s) :
   Calls Tryz.prog 72 #[v,s] w fun e w'=>∃ x,e=.returned x∧IsTm (fun b=>((l.length=0∧b<w.heap.size)∨w.heap.size+2≤b)∧b<w'.heap.size) w' (appMk f l) x∧Below w.heap.size w w':=by
 obtain ⟨A,c,rfl⟩:=hl.form
 obtain ⟨B,d,A1,c1,rfl,_⟩:=hf.form
 have HL:=Lib.hid hl
 have HF:=Lib.hid hf
 clear hl hf
 go_enter Tryz.func72,Tryz.ntmps72
 go_wp2_with fail
 go_loopw [9] (fun ix wq=>∃ j:Nat,j≤l.length∧ix=.int .i64 j∧AppMkRel w f l j wq) (fun ix _=>l.length - (intOf ix).toNat)
 case atStart=>
   have b2:=((Below.refl w.heap.size w).alloc (Nat.le_refl _) (Obj.cells #[.int .i64 f.kind,.int .i64 f.index,.int .i64 f.type.kind,.slice B f.type.args.length d,.slice A1 f.args.length c1] 42)).alloc (by simp) (Obj.cells #[.int .i64 0,.int .i64 0,.int .i64 0,.slice none 0 0,.slice none 0 0] 42)
   have k1:=Blk.new (w.alloc (Obj.cells #[.int .i64 f.kind,.int .i64 f.index,.int .i64 f.type.kind,.slice B f.type.args.length d,.slice A1 f.args.length c1] 42)) 42 #[.int .i64 0,.int .i64 0,.int .i64 0,.slice none 0 0,.slice none 0 0]
   rw [World.size_alloc] at k1
   exact ⟨0,by omega,rfl,B,d,A1,c1,(Blk.new w _ _).alloc _,IsTm.keep (fun b h=>⟨.inl ⟨rfl,h⟩,by have h:b<w.heap.size:=h; simp; omega⟩) (fun p hp=>b2.cell hp) _ HF.out,k1,b2⟩
 case round=>
   obtain ⟨j,hj,rfl,B2,d2,A2,c2,kx,hx,ky,hBq⟩:=hrel
   have hqs:=hBq.size
   have hql:=ky.lt
   have HX:=Lib.hid hx
   clear hx
   by_cases hlt:j<l.length
   · have hl1:TmR.Sl (· < w.heap.size) wr l (.slice A l.length c):=HL.out.keep (fun _ h=>h) (fun p hp=>hBq.cell hp)
     obtain ⟨a,rfl,ha,hat⟩:=hl1.get j hlt
     obtain ⟨B3,d3,A3,c3,q0,q1,q2,q3,q4,hy⟩:=at_tm hat
     simp only [show TmR.n=5 from rfl] at q0 q1 q2 q3 q4
     have a0:=fun o=>(kx.alloc o).facts5.1
     have a1:=fun o=>(kx.alloc o).facts5.2.1
     have a2:=fun o=>(kx.alloc o).facts5.2.2.1
     have a3:=fun o=>(kx.alloc o).facts5.2.2.2.1
     have a4:=fun o=>(kx.alloc o).facts5.2.2.2.2.1
     have HY:=Lib.hid hy
     clear hl1 hat hy
     go_wp2_with fail
     clear a0 a1 a2 a3 a4
     obtain ⟨harg,hbw⟩:=appMk_arg (S:=fun b=>(b<w.heap.size∨w.heap.size+2≤b)∧b<wr.heap.size) (fun b h=>h.2) (IsTm.keep (fun b h=>⟨h.1.imp And.right id,h.2⟩) (fun _ _=>rfl) _ HX.out) (IsTm.keep (fun b h=>by have h:b<w.heap.size:=h; omega) (fun _ _=>rfl) _ HY.out) (wr.heap.size+1) rfl
     have hbk:bulkAll [appMk f (l.take j),l[j]]≤400000:=by
       have h1:=appMk_bulk f (l.take (j+1))
       rw [appMk_take hlt] at h1
       have h2:=bulkAll_append (l.take (j+1)) (l.drop (j+1))
       rw [List.take_append_drop] at h2
       have h3:(l.take (j+1)).length≤l.length:=by simp; omega
       simp only [Tm.bulk,Ty.zero,Ty.nodes,nodesAll] at h1
       omega
     refine (n_any 3 [appMk f (l.take j),l[j]] _ _ hbk harg).mono ?_
     rintro e w3 ⟨v',rfl,ht3,hb3⟩
     obtain ⟨B4,d4,A4,c4,rfl,_⟩:=ht3.zero_parts
     have AFTER:=Lib.hid (appMk_after hlt kx ky hBq hbw hb3 ht3 rfl rfl)
     have hb13:Below wr.heap.size wr w3:=hbw.trans (hb3.mono hbw.size)
     obtain ⟨r0,r1,r2,r3,r4,f0,f1,f2,f3,f4⟩:=(kx.below hb13 kx.lt).facts5
     clear harg hbw ht3 hb3
     go_wp2_with fail
     exact ⟨⟨j+1,by omega,by go_num,AFTER.out⟩,by simp [intOf]; omega⟩
   · have hjl:j=l.length:=by omega
     subst hjl
     rw [List.take_length] at HX kx
     obtain ⟨r0,r1,r2,r3,r4,_,_,_,_,_⟩:=kx.facts5
     obtain ⟨_,_,_,_,_,f0,f1,f2,f3,f4⟩:=ky.facts5
     go_wp2_with fail
     obtain ⟨z0,z1,z2,z3,z4⟩:=(ky.set5 (.int .i64 (appMk f l).kind) (.int .i64 (appMk f l).index) (.int .i64 (appMk f l).type.kind) (.slice B2 (appMk f l).type.args.length d2) (.slice A2 (appMk f l).args.length c2)).cells5
     have hg:=only_set5 wr (w.heap.size+1) (.int .i64 (appMk f l).kind) (.int .i64 (appMk f l).index) (.int .i64 (appMk f l).type.kind) (.slice B2 (appMk f l).type.args.length d2) (.slice A2 (appMk f l).args.length c2)
     refine bodyPost_ret (v:=.agg #[.int .i64 (appMk f l).kind,.int .i64 (appMk f l).index,.int .i64 (appMk f l).type.kind,.slice B2 (appMk f l).type.args.length d2,.slice A2 (appMk f l).args.length c2]) (by simp [results,Tryz.results72,go_sem,z0,z1,z2,z3,z4]) rfl ⟨_,rfl,?_,hBq.grown hg hqs (fun k e=>by cases e; omega)⟩
     exact IsTm.keep (fun b h=>⟨h.1,Nat.lt_of_lt_of_le h.2 hg.size⟩) (fun p hp=>World.cell?_of_block (hg.block p.block hp.2 (by simp; omega))) _ HX.out
end Go.Proofs.YtipfnkajdooiiaaGreatDoor
