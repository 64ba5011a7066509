/- mk.vars: the variables of a type in a context. -/
import Derived.Test.YtipfnkajdooiiaaGreatDoorQMkContext
import Derived.Test.YtipfnkajdooiiaaGreatDoorQRefSame
import Derived.IntWalk
import Derived.Test.YtipfnkajdooiiaaGreatDoorQPackMk
import Derived.Test.YtipfnkajdooiiaaGreatDoorQPackNum
import Derived.Test.YtipfnkajdooiiaaGreatDoorQMade
namespace Go.Proofs.YtipfnkajdooiiaaGreatDoor
open Go.RowKit

theorem info_int:(Tryz.prog.info? 3).map (fun i=>(i.zero,i.size,i.bytes))=some (some (.int .i64 0),1,8):=by kernel_rfl

/-- Ints in cells. -/
def IntR:Rep Nat where
 n:=1
 t:=3
 is _ _ x vs:=vs=[.int .i64 x]
 pos:=by decide
 len h:=by rw [h]; rfl
 one h:=by rw [h]; intro u hu; simp at hu; subst hu; rfl
 keep _ _ h:=h

/-- The variables below j that have the type. -/
def varsOf (G:List Ty) (T:Ty) (j:Nat):List Nat:=(List.range j).filter fun i=>match G.reverse[i]? with | some U=>U.eqb T | none=>false
theorem varsOf_succ (G:List Ty) (T:Ty) {j:Nat} (h:j<G.length):varsOf G T (j+1)=varsOf G T j ++ if (G[G.length - 1 - j]).eqb T then [j] else []:=by
 unfold varsOf
 rw [List.range_succ,List.filter_append]
 congr 1
 have e:G.reverse[j]? = some G[G.length - 1 - j]:=by rw [List.getElem?_reverse h,List.getElem?_eq_getElem (by omega)]
 simp only [List.filter_cons,List.filter_nil,e]
theorem varsOf_len (G:List Ty) (T:Ty) (j:Nat):(varsOf G T j).length≤j:=by
 have:=List.length_filter_le (fun i=>match G.reverse[i]? with | some U=>U.eqb T | none=>false) (List.range j)
 rw [List.length_range] at this
 exact this
theorem varsOf_mem {G:List Ty} {T:Ty} {j i:Nat} (h:i ∈ varsOf G T j):i<j∧G.reverse[i]? = some T:=by
 unfold varsOf at h
 rw [List.mem_filter,List.mem_range] at h
 refine ⟨h.1,?_⟩
 cases e:G.reverse[i]? with
 | none=>rw [e] at h; simp at h
 | some U=>rw [e] at h; rw [(eqb_iff U T).1 h.2]

set_option maxRecDepth 100000 in
set_option maxHeartbeats 1000000 in
theorem vars_any (G:List Ty) (T:Ty) (s v:Value) (w:World) (hG:G.length≤1000) (hGn:∀ U ∈ G,U.nodes≤1000) (hTn:T.nodes≤1000) (hs:TyR.Sl (· < w.heap.size) w G s) (hT:IsTy (· < w.heap.size) w T v) :
   Calls Tryz.prog 66 #[s,v] w fun e w'=>
     ∃ x,e=.returned x∧IntR.Sl (fun b=>w.heap.size≤b∧b<w'.heap.size) w' (varsOf G T G.length) x∧Below w.heap.size w w':=by
 obtain ⟨A,c,rfl⟩:=hs.form
 obtain ⟨B,d,rfl⟩:=hT.form
 have HS:=Lib.hid hs
 have HT:=Lib.hid hT
 have HN:=Lib.hid hGn
 clear hs hT hGn
 go_enter Tryz.func66,Tryz.ntmps66
 go_wp2_with fail
 go_loopw [5,9] (fun s ix wr=>∃ j:Nat,j≤G.length∧ix=.int .i64 j∧IntR.Own (w.heap.size≤·) (w.heap.size+1) s (varsOf G T j) wr∧Below w.heap.size w wr∧Blk wr w.heap.size 30 #[.int .i64 T.kind,.slice B T.args.length d])
   (fun _ ix _=>G.length - (intOf ix).toNat)
 case atStart=>exact ⟨0,by omega,rfl,Rep.Own.nil _ _ _,(Below.refl _ _).alloc (Nat.le_refl _) _,Blk.new _ _ _⟩
 case round=>
   obtain ⟨j,hj,rfl,hown,hbel,hb1⟩:=hrel
   have hrs:=hb1.lt
   have HO:=Lib.hid hown
   have HB:=Lib.hid hb1
   have HBel:=Lib.hid hbel
   clear hown hb1 hbel
   by_cases hlt:j<G.length
   · have hls:TyR.Sl (· < w.heap.size) wr G (.slice A G.length c):=HS.out.keep (fun _ h=>h) (fun p hp=>HBel.out.cell hp)
     obtain ⟨a,rfl,ha,hat⟩:=hls.get (G.length - 1 - j) (by omega)
     obtain ⟨A1,c1,q0,q1,hx⟩:=at_ty hat
     simp only [show TyR.n=2 from rfl] at q0 q1
     obtain ⟨k0,k1,_,_⟩:=HB.out.facts2
     have hty:IsTy (· < w.heap.size) wr T (.agg #[.int .i64 T.kind,.slice B T.args.length d]):=IsTy.keep (fun _ h=>h) (fun p hp=>HBel.out.cell hp) _ HT.out
     have hU:=HN.out _ (List.getElem_mem (show G.length - 1 - j<G.length by omega))
     have HX:=Lib.hid (And.intro hx (And.intro hty hU))
     have HSK:=Lib.hid fun (w':World) (h:Below wr.heap.size wr w')=>And.intro ((h.cell (p:=a.add ((G.length - 1 - j) * 2)) (by rw [add_block]; omega)).trans q0) (And.intro ((h.cell (p:=⟨(a.add ((G.length - 1 - j) * 2)).block,(a.add ((G.length - 1 - j) * 2)).off+1,none⟩) (by show (a.add ((G.length - 1 - j) * 2)).block<_; rw [add_block]; omega)).trans q1)
       (And.intro ((h.cell (p:=⟨w.heap.size,0,none⟩) hrs).trans k0) ((h.cell (p:=⟨w.heap.size,1,none⟩) hrs).trans k1)))
     have hidx:G.length - 1 - j<G.length:=by omega
     have HIDX:=Lib.hid hidx
     clear hls hat hx hty hU k0 k1 q0 q1
     have hw1:IntKind.i64.wrap ((G.length:Int) - 1)=(G.length:Int) - 1:=IntWalk.i64_in _ (by omega)
     have hw2:IntKind.i64.wrap ((G.length:Int) - 1 - (j:Int))=((G.length - 1 - j:Nat):Int):=by rw [IntWalk.i64_in _ (by omega)]; omega
     go_wp2_with fail
     go_region_held3 (fun w'=>w'.cell? (a.add ((G.length - 1 - j) * 2))=some (.int .i64 G[G.length - 1 - j].kind)∧w'.cell? ⟨(a.add ((G.length - 1 - j) * 2)).block,(a.add ((G.length - 1 - j) * 2)).off+1,none⟩ = some (.slice A1 G[G.length - 1 - j].args.length c1) ∧
         w'.cell? ⟨w.heap.size,0,none⟩ = some (.int .i64 T.kind)∧w'.cell? ⟨w.heap.size,1,none⟩ = some (.slice B T.args.length d))
       (first | exact HSK.out _ (Below.refl _ _).drew | exact HSK.out _ hb1')
       ((go_at_call 71
         (with_reducible refine (refSame_any 1000 G[G.length - 1 - j] T _ _ _ HX.out.2.2 (by omega) (IsTy.keep (w':=wr.drew) (fun b h=>Nat.lt_of_lt_of_le h (Nat.le_of_lt hrs)) (fun p _=>World.cell?_drew wr p) _ HX.out.1) (IsTy.keep (w':=wr.drew) (fun b h=>Nat.lt_of_lt_of_le h (Nat.le_of_lt hrs)) (fun p _=>World.cell?_drew wr p) _ HX.out.2.1) (by omega)).mono ?_)
         rintro e w1 ⟨rfl,hb1⟩
         have hb1':Below wr.heap.size wr w1:=((Below.refl _ wr).drew).trans hb1))
     have hlen:(varsOf G T j).length≤j:=varsOf_len G T j
     have hsucc:=Lib.hid (varsOf_succ G T hlt)
     cases hq:(G[G.length - 1 - j]).eqb T with
     | true=>
       have HQ:=Lib.hid hq
       clear hq
       obtain ⟨i0,hi,hz0,hz1,hz2⟩:=info_parts info_int
       obtain ⟨xs,hxo,hxc⟩:=HO.out.below hb1'
       have hxo1:=hxo.alloc (Obj.cells #[.int .i64 j] 3)
       have HXC:=Lib.hid hxc
       have hs1:=hb1'.size
       clear hxo hxc hw1 hw2
       go_wp2_with (at_builtin; go_loud (refine wpList_append_own_at _ rfl _ _ 22 rfl (w.heap.size+1) 3 i0 _ 1 8 Tryz.underlying22 hi hz0 hz1 hz2 rfl (by decide) u5 (varsOf G T j).length xs rfl hxo1 ⟨w1.heap.size,0,none⟩ 1 1 [_] rfl rfl (cells_new _ _ _) (by simp [Value.oneCell']) (by simp only [maxLen]; omega) (by omega) (by simp; omega) ?_); intro v2 w2 hown2 hg2 hnil2 hat2)
       have hgw:Below w.heap.size w w1:=HBel.out.trans (hb1'.mono HBel.out.size)
       have hlt5:=HO.out.lt
       refine ⟨⟨j+1,by omega,by go_num,?_,?_,?_⟩,by simp [intOf]; omega⟩
       · have e:varsOf G T (j+1)=varsOf G T j ++ [j]:=hsucc.out.trans (congrArg _ (if_pos HQ.out))
         rw [e]
         exact Rep.Own.more (R:=IntR) (m:=[j]) hxo1 (HXC.out.keep (fun b hb=>⟨hb.1,by have:=hb.2.1; simp; omega,hb.2.2⟩) (fun p hp=>World.cell?_alloc_lt _ _ _ hp.2.1)) (Rep.Ch.one (R:=IntR) (vs:=[.int .i64 j]) rfl) hown2 hg2 hat2
       · exact (hgw.alloc hgw.size _).grown hg2 (by have:=hgw.size; simp; omega) (fun k e=>by have:=(hlt5 k e).1; omega)
       · exact ((HB.out.below hb1' hrs).alloc _).grown hg2 (fun e=>by have:=(hlt5 _ e.symm).1; omega)
     | false=>
       have HQ:=Lib.hid hq
       clear hq hw1 hw2
       go_wp2_with fail
       refine ⟨⟨j+1,by omega,by go_num,?_,HBel.out.trans (hb1'.mono HBel.out.size),HB.out.below hb1' hrs⟩,by simp [intOf]; omega⟩
       have e:varsOf G T (j+1)=varsOf G T j:=(hsucc.out.trans (congrArg _ (if_neg (fun h=>Bool.noConfusion (HQ.out.symm.trans h))))).trans (List.append_nil _)
       rw [e]
       exact HO.out.below hb1'
   · have hjl:j=G.length:=by omega
     subst hjl
     obtain ⟨A3,c3,rfl⟩:=HO.out.form
     go_wp2_with fail
     refine bodyPost_ret (v:=.slice A3 (varsOf G T G.length).length c3) (by simp [results,Tryz.results66,go_sem]) rfl ⟨_,rfl,HO.out.sl.keep (fun b hb=>⟨by have h1:w.heap.size≤b∨w.heap.size+1≤b:=hb.1; omega,hb.2⟩) (fun _ _=>rfl),HBel.out⟩
end Go.Proofs.YtipfnkajdooiiaaGreatDoor
namespace Go.Proofs.YtipfnkajdooiiaaGreatDoor
open Go.RowKit

/-! How many nodes, and how many places of one variable: types of one node (A, P), larger ones (B, Q). -/
def bdA:Nat→Nat | 0=>3 | d+1=>3 * bdA d+15
def bdB:Nat→Nat | 0=>7 | d+1=>2 * bdB d+bdA d+4
def bdP:Nat→Nat | 0=>1 | d+1=>3 * bdP d
def bdQ:Nat→Nat | 0=>2 | d+1=>2 * bdQ d+bdP d
def bdN (d:Nat) (t:Ty):Nat:=if t.nodes≤1 then bdA d else bdB d
def bdO (d:Nat) (t:Ty):Nat:=if t.nodes≤1 then bdP d else bdQ d
theorem bd_facts:∀ d,3≤bdA d∧7≤bdB d∧1≤bdP d∧2≤bdQ d∧bdA d≤2 * bdB d+3∧bdP d≤2 * bdQ d
 | 0=>by decide
 | d+1=>by have:=bd_facts d; simp only [bdA,bdB,bdP,bdQ]; omega
theorem bd_one {d:Nat} {t:Ty} (h:t.nodes≤1):bdN d t=bdA d∧bdO d t=bdP d:=by simp [bdN,bdO,h]
theorem bd_more {d:Nat} {t:Ty} (h:¬ t.nodes≤1):bdN d t=bdB d∧bdO d t=bdQ d:=by simp [bdN,bdO,h]
theorem bd_le {d:Nat} (h:d≤5):bdA d≤3000∧bdB d≤3000:=by
 have:d=0∨d=1∨d=2∨d=3∨d=4∨d=5:=by omega
 rcases this with rfl | rfl | rfl | rfl | rfl | rfl <;> decide
theorem bdN_le {d:Nat} (t:Ty) (h:d≤5):bdN d t≤3000:=by
 have:=bd_le h
 unfold bdN; split <;> omega
theorem Made.bulk_le {G:List Ty} {t:Ty} {a p:Nat} {T:Tm} (h:Made G t a p T) (ha:a≤3000):T.bulk≤12000:=by have:=h.size; have:=h.thin; omega

/-- What mk.Term answers. -/
def TermR (g:Nat) (G:List Ty) (t:Ty) (a p:Nat) (w:World) (e:Ending) (w':World):Prop:=
 ∃ T v,e=.returned v∧Made G t a p T∧IsTm (fun b=>w.heap.size≤b∧b<w'.heap.size) w' T v∧Deck w' g∧Turn (· = g) w w'

theorem Deck.call {g:Nat} {w w':World} (h:Deck w g) (hb:Below w.heap.size w w'):Deck w' g:=h.grown (only_of_below hb none) (by simp)
theorem Deck.box {g:Nat} {w:World} (h:Deck w g) (o:Obj):Deck (w.alloc o) g:=h.grown (World.grownBy_alloc w o none) (by simp)
theorem turn_of {g:Nat} {w w':World} (h:w.grownBy w' (some g)):Turn (· = g) w w':=Turn.grown h fun _ e=>by cases e; rfl

/-- What is said of mk.Term for smaller calls. -/
def IHT (g M:Nat):Prop:=∀ (G:List Ty) (t:Ty) (d:Int) (s v:Value) (w:World),4 * d.toNat+t.nodes<M→d≤5→(t.nodes:Int) - 20≤d→G.length+4 * d.toNat+t.nodes≤60→t.ok=true→t.nodes≤3 →
 Ctx g w G s→Typ g w t v→Deck w g→Calls Tryz.prog 16 #[.pointer (some ⟨g,0,none⟩),s,v,.int .i64 d] w (TermR g G t (bdN d.toNat t) (bdO d.toNat t) w)

/-- The two blocks of a call of mk.Term: the type, and the result. -/
structure Boxes (g:Nat) (w W:World) (t:Ty) (B:Option Addr) (e:Nat):Prop where
 size:W.heap.size=w.heap.size+2
 below:Below w.heap.size w W
 k0:Blk W w.heap.size 30 #[.int .i64 t.kind,.slice B t.args.length e]
 k1:Blk W (w.heap.size+1) 42 #[.int .i64 0,.int .i64 0,.int .i64 0,.slice none 0 0,.slice none 0 0]
 lt:g<w.heap.size
theorem boxes_made {g:Nat} {w:World} (hg:g<w.heap.size) (t:Ty) (B:Option Addr) (e:Nat):Boxes g w ((w.alloc (Obj.cells #[.int .i64 t.kind,.slice B t.args.length e] 30)).alloc (Obj.cells #[.int .i64 0,.int .i64 0,.int .i64 0,.slice none 0 0,.slice none 0 0] 42)) t B e:=by
 obtain ⟨b1,z1,k0⟩:=new_blk (Below.refl w.heap.size w) (Nat.le_refl _) #[.int .i64 t.kind,.slice B t.args.length e] 30
 generalize w.alloc (Obj.cells #[.int .i64 t.kind,.slice B t.args.length e] 30)=W1 at b1 z1 k0 ⊢
 obtain ⟨b2,z2,k1⟩:=new_blk b1 b1.size #[.int .i64 0,.int .i64 0,.int .i64 0,.slice none 0 0,.slice none 0 0] 42
 have k0:=k0.alloc (Obj.cells #[.int .i64 0,.int .i64 0,.int .i64 0,.slice none 0 0,.slice none 0 0] 42)
 rw [z1] at k1
 exact ⟨by omega,b2,k0,k1,hg⟩
namespace Boxes
variable {g : Nat} {w W w' : World} {t : Ty} {B : Option Addr} {e : Nat}
theorem turn (h:Boxes g w W t B e):Turn (· = g) w W:=Turn.call h.below
/-- The type's cells stand while the deck and the result turn. -/
theorem held (h:Boxes g w W t B e) (ht:Turn (Pair2 g (w.heap.size+1)) W w'):w'.cell? ⟨w.heap.size,0,none⟩ = some (.int .i64 t.kind)∧w'.cell? ⟨w.heap.size,1,none⟩ = some (.slice B t.args.length e):=by
 have hz:=h.size
 have hg:=h.lt
 have k:=ht.blk h.k0 (by unfold Pair2; omega)
 exact ⟨k.facts2.1,k.facts2.2.1⟩
/-- The result's cells can be written. -/
theorem result (h:Boxes g w W t B e) (ht:Turn (· = g) W w'):Blk w' (w.heap.size+1) 42 #[.int .i64 0,.int .i64 0,.int .i64 0,.slice none 0 0,.slice none 0 0]:=
 ht.blk h.k1 (by have:=h.lt; omega)
end Boxes

/-- The end of a way: the term is in the result's block. -/
theorem term_end {g:Nat} {w W w2:World} {t:Ty} {B:Option Addr} {e:Nat} {G:List Ty} {a p lo:Nat} {T:Tm} {x0 x1 x2 x3 x4:Value} (hB:Boxes g w W t B e) (ht:Turn (· = g) W w2) (hd:Deck w2 g) (hm:Made G t a p T) (hT:Trm lo w2 T (.agg #[x0,x1,x2,x3,x4])) (hlo:W.heap.size≤lo) :
   TermR g G t a p w (.returned (.agg #[x0,x1,x2,x3,x4])) (((((w2.setCell ⟨w.heap.size+1,0,none⟩ x0).setCell ⟨w.heap.size+1,1,none⟩ x1).setCell ⟨w.heap.size+1,2,none⟩ x2).setCell ⟨w.heap.size+1,3,none⟩ x3).setCell ⟨w.heap.size+1,4,none⟩ x4):=by
 have hz:=hB.size
 have hg:=only_set5 w2 (w.heap.size+1) x0 x1 x2 x3 x4
 have hw2:=ht.size
 have hlt:=hB.lt
 refine ⟨T,_,rfl,hm,IsTm.keep (fun b h=>⟨by omega,Nat.lt_of_lt_of_le h.2 hg.size⟩) (fun p hp=>World.cell?_of_block (hg.block p.block hp.2 (by simp; omega))) _ hT,hd.grown hg (fun k e=>by cases e; omega),?_⟩
 have h1:=hB.turn.trans ht
 exact ⟨hg.os.trans h1.os,hg.tape.trans h1.tape,hg.output.trans h1.output,Nat.le_trans h1.size hg.size,fun k hk hx=>(hg.block k (Nat.lt_of_lt_of_le hk h1.size) (by simp; omega)).trans (h1.block k hk hx)⟩
end Go.Proofs.YtipfnkajdooiiaaGreatDoor
