/- class.number, class.below, class.apply. -/
import Derived.Test.YthlknhkemmdocaaGreatDoorQPackVal
import Derived.Test.YthlknhkemmdocaaGreatDoorQPackReg
import Derived.Test.YthlknhkemmdocaaGreatDoorQMakeT
import Derived.Test.YthlknhkemmdocaaGreatDoorQPackTyp
import Derived.Test.YthlknhkemmdocaaGreatDoorQPackPlaces
import Derived.Test.YthlknhkemmdocaaGreatDoorQMade
import Derived.Sort.LoopGhostIn
import Derived.RegionTactic
import Derived.Laws.OwnMore
import Derived.Deep.AppendLies
import Derived.Deep.RegionLaw
import Derived.Test.YthlknhkemmdocaaGreatDoorQPackFml
import Derived.Test.YthlknhkemmdocaaGreatDoorQPackReg2
import Derived.Test.YthlknhkemmdocaaGreatDoorQPackSubst
import Derived.Test.YthlknhkemmdocaaGreatDoorQPackSizeT
namespace Go.Proofs.YthlknhkemmdocaaGreatDoor
open Go.RowKit

theorem cnum_any (w:World):Calls Tryz.prog 76 #[] w fun e w'=>e=.returned (.agg #[.int .i64 1,.int .i64 0,.int .i64 0,.slice none 0 0,.slice none 0 0])∧Below w.heap.size w w':=by
  go_enter Tryz.func76,Tryz.ntmps76
  go_wp2_with fail
  exact bodyPost_ret (v:=.agg #[.int .i64 1,.int .i64 0,.int .i64 0,.slice none 0 0,.slice none 0 0]) (by simp [results,Tryz.results76,go_sem]) rfl ⟨rfl,(Below.refl _ _).alloc (Nat.le_refl _) _⟩
def belowOf (k:Int):Int:=if k=4 then 3 else if k=5 then 2 else 0
theorem cbelow_any (k:Int) (w:World) (hk:0≤k∧k≤7):Calls Tryz.prog 74 #[.int .i64 k] w fun e w'=>e=.returned (.int .i64 (belowOf k))∧Below w.heap.size w w':=by
  have h:k=0∨k=1∨k=2∨k=3∨k=4∨k=5∨k=6∨k=7:=by omega
  rcases h with rfl | rfl | rfl | rfl | rfl | rfl | rfl | rfl <;>
  (go_enter Tryz.func74,Tryz.ntmps74
   go_wp2_with fail
   refine bodyPost_ret (v:=.int .i64 (belowOf _)) ?_ rfl ⟨rfl,Below.refl _ _⟩
   simp [results,Tryz.results74,go_sem,belowOf])

/-- As MakesTm, with the memory that the result may share. -/
def MakesIn (S:Nat→Prop) (t:Tm) (w:World) (e:Ending) (w':World):Prop:=∃ T v,T=t∧e=.returned v∧IsTm (fun b=>(S b∨w.heap.size≤b)∧b<w'.heap.size) w' T v∧Below w.heap.size w w'
set_option maxRecDepth 100000 in
set_option maxHeartbeats 4000000 in
theorem capply_in (S:Nat→Prop) (f a:Tm) (u v:Value) (w:World) (hS:∀ b,S b→b<w.heap.size) (hu:IsTm S w f u) (hv:IsTm S w a v) :
    Calls Tryz.prog 114 #[u,v] w (MakesIn S (.mk 3 0 .zero [f,a]) w):=by
  obtain ⟨B0,d0,A0,c0,rfl,_⟩:=IsTm.form hu
  obtain ⟨B1,d1,A1,c1,rfl,_⟩:=IsTm.form hv
  obtain ⟨W,hW,hbW,hzz,k0,k1,k2⟩:=three_blks w #[.int .i64 f.kind,.int .i64 f.index,.int .i64 f.type.kind,.slice B0 f.type.args.length d0,.slice A0 f.args.length c0] #[.int .i64 a.kind,.int .i64 a.index,.int .i64 a.type.kind,.slice B1 a.type.args.length d1,.slice A1 a.args.length c1] #[.int .i64 0,.int .i64 0,.int .i64 0,.slice none 0 0,.slice none 0 0] 42 42 42
  have HT0:=Lib.hid (show IsTm S W f _ from IsTm.keep (fun _ h=>h) (fun q hq=>hbW.cell (hS _ hq)) _ hu)
  have HT1:=Lib.hid (show IsTm S W a _ from IsTm.keep (fun _ h=>h) (fun q hq=>hbW.cell (hS _ hq)) _ hv)
  have HB:=Lib.hid hbW
  have hzW:w.heap.size+1+1<W.heap.size:=by omega
  have HSK:=Lib.hid fun (w':World) (h:Below (w.heap.size+1+1) W w')=>(show w'.cell? ⟨w.heap.size,0,none⟩ = some (.int .i64 f.kind)∧w'.cell? ⟨w.heap.size,1,none⟩ = some (.int .i64 f.index)∧w'.cell? ⟨w.heap.size,2,none⟩ = some (.int .i64 f.type.kind)∧w'.cell? ⟨w.heap.size,3,none⟩ = some (.slice B0 f.type.args.length d0)∧w'.cell? ⟨w.heap.size,4,none⟩ = some (.slice A0 f.args.length c0)∧w'.cell? ⟨w.heap.size+1,0,none⟩ = some (.int .i64 a.kind)∧w'.cell? ⟨w.heap.size+1,1,none⟩ = some (.int .i64 a.index)∧w'.cell? ⟨w.heap.size+1,2,none⟩ = some (.int .i64 a.type.kind)∧w'.cell? ⟨w.heap.size+1,3,none⟩ = some (.slice B1 a.type.args.length d1)∧w'.cell? ⟨w.heap.size+1,4,none⟩ = some (.slice A1 a.args.length c1) from by
    obtain ⟨y0,y1,y2,y3,y4⟩:=(k0.below h (by omega)).cells5
    obtain ⟨y5,y6,y7,y8,y9⟩:=(k1.below h (by omega)).cells5
    exact ⟨y0,y1,y2,y3,y4,y5,y6,y7,y8,y9⟩)
  obtain ⟨y0,y1,y2,y3,y4,y5,y6,y7,y8,y9⟩:=HSK.out W (Below.refl _ _)
  obtain ⟨m0,m1,m2,m3,m4,x0,x1,x2,x3,x4⟩:=k2.facts5
  obtain ⟨W5,hW5,z5,g5,q5⟩:∃ W5,W5=((((W.setCell ⟨w.heap.size+1+1,0,none⟩ (.int .i64 3)).setCell ⟨w.heap.size+1+1,1,none⟩ (.int .i64 0)).setCell ⟨w.heap.size+1+1,2,none⟩ (.int .i64 0)).setCell ⟨w.heap.size+1+1,3,none⟩ (.slice none 0 0)).setCell ⟨w.heap.size+1+1,4,none⟩ (.slice (some ⟨W.heap.size,0,none⟩) 2 2)∧W5.heap.size=W.heap.size∧W.grownBy W5 (some (w.heap.size+1+1))∧Blk W5 (w.heap.size+1+1) 42 #[.int .i64 3,.int .i64 0,.int .i64 0,.slice none 0 0,.slice (some ⟨W.heap.size,0,none⟩) 2 2]:=⟨_,rfl,by simp,only_set5 W (w.heap.size+1+1) (.int .i64 3) (.int .i64 0) (.int .i64 0) (.slice none 0 0) (.slice (some ⟨W.heap.size,0,none⟩) 2 2),k2.set5 (.int .i64 3) (.int .i64 0) (.int .i64 0) (.slice none 0 0) (.slice (some ⟨W.heap.size,0,none⟩) 2 2)⟩
  have HW5:=Lib.hid hW5
  have HSS:=Lib.hid hS
  have HWZ:=Lib.hid (show w.heap.size+3≤W.heap.size by omega)
  have HZ5:=Lib.hid z5
  have K5:=Lib.hid (q5.alloc (Obj.cells #[.int .i64 f.kind,.int .i64 f.index,.int .i64 f.type.kind,.slice B0 f.type.args.length d0,.slice A0 f.args.length c0,.int .i64 a.kind,.int .i64 a.index,.int .i64 a.type.kind,.slice B1 a.type.args.length d1,.slice A1 a.args.length c1] 42))
  have B5:=Lib.hid ((hbW.grown g5 hbW.size (fun g e=>by cases e; omega)).alloc (by omega) (Obj.cells #[.int .i64 f.kind,.int .i64 f.index,.int .i64 f.type.kind,.slice B0 f.type.args.length d0,.slice A0 f.args.length c0,.int .i64 a.kind,.int .i64 a.index,.int .i64 a.type.kind,.slice B1 a.type.args.length d1,.slice A1 a.args.length c1] 42))
  have SL1:=Lib.hid (show TmR.Sl (fun b=>S b∨b=W.heap.size) (W5.alloc (Obj.cells #[.int .i64 f.kind,.int .i64 f.index,.int .i64 f.type.kind,.slice B0 f.type.args.length d0,.slice A0 f.args.length c0,.int .i64 a.kind,.int .i64 a.index,.int .i64 a.type.kind,.slice B1 a.type.args.length d1,.slice A1 a.args.length c1] 42)) [f,a] (.slice (some ⟨W.heap.size,0,none⟩) 2 2) from z5 ▸ Rep.Sl.built (R:=TmR) (l:=[f,a]) (Rep.Ch.append (R:=TmR) (l:=[f]) (Rep.Ch.one (R:=TmR) (vs:=[.int .i64 f.kind,.int .i64 f.index,.int .i64 f.type.kind,.slice B0 f.type.args.length d0,.slice A0 f.args.length c0]) (IsTm.keep (fun _ h=>h) (fun q hq=>World.cell?_of_block (g5.block q.block (by have:=hS _ hq; omega) (by have:=hS _ hq; simp; omega))) _ HT0.out)) (Rep.Ch.one (R:=TmR) (vs:=[.int .i64 a.kind,.int .i64 a.index,.int .i64 a.type.kind,.slice B1 a.type.args.length d1,.slice A1 a.args.length c1]) (IsTm.keep (fun _ h=>h) (fun q hq=>World.cell?_of_block (g5.block q.block (by have:=hS _ hq; omega) (by have:=hS _ hq; simp; omega))) _ HT1.out))) (fun b h=>by have:=hS b h; omega) (fun b=>S b∨b=W5.heap.size) (fun b h=>.inl h) (.inr rfl))
  clear hu hv hzz k0 k1 k2 hbW hW5 z5 g5 q5
  go_enter Tryz.func114,Tryz.ntmps114
  go_upto_region 1 with fail
  rw [← hW]
  clear hW
  go_wp2_with fail
  rw [← HW5.out]
  obtain ⟨z0,z1,z2,z3,z4⟩:=K5.out.cells5
  refine bodyPost_ret (v:=.agg #[.int .i64 3,.int .i64 0,.int .i64 0,.slice none 0 0,.slice (some ⟨W.heap.size,0,none⟩) 2 2]) (by simp [results,Tryz.results114,go_sem,z0,z1,z2,z3,z4]) rfl ?_
  exact ⟨_,_,rfl,rfl,isTm_iff.2 ⟨rfl,rfl,IsTy.leaf _ _ _,SL1.out.keep (fun b h=>by have h1:=HZ5.out; have h2:=HWZ.out; simp only [World.size_alloc]; exact h.elim (fun h=>⟨.inl h,by have:=HSS.out b h; omega⟩) (fun h=>⟨.inr (by omega),by omega⟩)) (fun _ _=>rfl)⟩,B5.out⟩
end Go.Proofs.YthlknhkemmdocaaGreatDoor
namespace Go.Proofs.YthlknhkemmdocaaGreatDoor
open Go.RowKit

def lessFm (s t:Tm):Fm:=.mk 1 .zero [.mk 3 0 .zero [.mk 3 0 .zero [subTm,.mk 5 0 .zero [s]],t],.mk 4 0 .zero []] []
/-- What a call that makes a formula out of S comes to. -/
def MakesFm (S:Nat→Prop) (f:Fm) (w:World) (e:Ending) (w':World):Prop:=∃ v,e=.returned v∧IsFm (fun b=>(S b∨w.heap.size≤b)∧b<w'.heap.size) w' f v∧Below w.heap.size w w'
def lessA (i j:Nat):Bool:=([0,0,3,0,15,0,63].getD i 0).testBit j
def lessC (i:Nat):Option Nat:=if i=5 then some 6 else none
def lessF (s t:Tm) (N T:Value) (i:Nat) (V:Nat→Value) (_:Nat→Unit):RFact:=
  match i with
  | 0=>.tm subTm (V 0) True
  | 1=>.pure (V 1=N)
  | 2=>.tm (.mk 3 0 .zero [subTm,.mk 5 0 .zero [s]]) (V 2) True
  | 3=>.pure (V 3=T)
  | 4=>.tm (.mk 3 0 .zero [.mk 3 0 .zero [subTm,.mk 5 0 .zero [s]],t]) (V 4) True
  | 5=>.box 42 #[.int .i64 0,.int .i64 0,.int .i64 0,.slice none 0 0,.slice none 0 0] (V 5)
  | _=>.boxv 42 (V 4) (V 5)
set_option maxRecDepth 100000 in
set_option maxHeartbeats 8000000 in
theorem cless_any (S:Nat→Prop) (s t:Tm) (u v:Value) (w:World) (hS:∀ b,S b→b<w.heap.size) (hu:IsTm S w s u) (hv:IsTm S w t v) :
    Calls Tryz.prog 75 #[u,v] w (MakesFm S (lessFm s t) w):=by
  obtain ⟨B0,d0,A0,c0,rfl,_⟩:=IsTm.form hu
  obtain ⟨B1,d1,A1,c1,rfl,_⟩:=IsTm.form hv
  obtain ⟨W,hW,hbW,hzz,k0,k1,k2⟩:=three_blks w #[.int .i64 s.kind,.int .i64 s.index,.int .i64 s.type.kind,.slice B0 s.type.args.length d0,.slice A0 s.args.length c0] #[.int .i64 t.kind,.int .i64 t.index,.int .i64 t.type.kind,.slice B1 t.type.args.length d1,.slice A1 t.args.length c1] #[.int .i64 0,.int .i64 0,.slice none 0 0,.slice none 0 0,.slice none 0 0] 42 42 34
  obtain ⟨X,hX,hbX,zX,a0,a1⟩:=two_blks W #[.int .i64 s.kind,.int .i64 s.index,.int .i64 s.type.kind,.slice B0 s.type.args.length d0,.slice A0 s.args.length c0] #[.int .i64 5,.int .i64 0,.int .i64 0,.slice none 0 0,.slice (some ⟨W.heap.size,0,none⟩) 1 1] 42 42
  have HB:=Lib.hid (hbW.trans (hbX.mono hbW.size))
  have T0:=show IsTm S X s _ from IsTm.keep (fun _ h=>h) (fun q hq=>HB.out.cell (hS _ hq)) _ hu
  have TT:=Lib.hid (show IsTm S X t _ from IsTm.keep (fun _ h=>h) (fun q hq=>HB.out.cell (hS _ hq)) _ hv)
  have TN:=Lib.hid (show IsTm (fun b=>S b∨b=W.heap.size) X (.mk 5 0 .zero [s]) (.agg #[.int .i64 5,.int .i64 0,.int .i64 0,.slice none 0 0,.slice (some ⟨W.heap.size,0,none⟩) 1 1]) from isTm_iff.2 ⟨rfl,rfl,IsTy.leaf _ _ _,Rep.Sl.of_blk (R:=TmR) (S:=S) a0 (tm_one T0) (fun b h=>.inl h) (.inr rfl) rfl⟩)
  have HZ:=Lib.hid (And.intro hzz (And.intro zX hS))
  have K0:=Lib.hid (k0.below hbX (by omega))
  have K1:=Lib.hid (k1.below hbX (by omega))
  have K2:=Lib.hid (k2.below hbX (by omega))
  have KN:=Lib.hid a1
  obtain ⟨n0,n1,n2,n3,n4⟩:=k0.cells5
  have HXX:=Lib.hid hX
  clear zX hu hv hzz k0 k1 k2 hbW hX hbX a0 a1 T0 hS
  go_enter Tryz.func75,Tryz.ntmps75
  go_upto_region 1 with fail
  rw [← hW]
  clear hW
  go_upto_region 2 with fail
  rw [← HXX.out]
  clear n0 n1 n2 n3 n4
  refine wp_region_any (by kernel_rfl) ?_
  change wpAny _ _ _ _ _ _ _ (World.drew _)
  obtain ⟨L0,hL0⟩:∃ L0:Nat→Prop,L0=fun b=>b<X.heap.size∧¬ ((S b∨w.heap.size≤b)∧b≠w.heap.size+1+1):=⟨_,rfl⟩
  have hG:∀ b,(S b∨w.heap.size≤b)→b≠w.heap.size+1+1→b<X.heap.size→Good L0 X.drew b:=fun b h1 h2 h3=>⟨by rw [hL0]; exact fun e=>e.2 ⟨h1,h2⟩,h3⟩
  have hz:=HZ.out
  have TT0:=Lib.hid (show IsTm (Good L0 X.drew) X.drew t _ from IsTm.keep (w:=X) (w':=X.drew) (fun b h=>hG b (.inl h) (by have:=hz.2.2 b h; omega) (by have:=hz.2.2 b h; omega)) (fun _ _=>rfl) _ TT.out)
  have TN0:=Lib.hid (show IsTm (Good L0 X.drew) X.drew (.mk 5 0 .zero [s]) _ from IsTm.keep (w:=X) (w':=X.drew) (fun b h=>h.elim (fun h=>hG b (.inl h) (by have:=hz.2.2 b h; omega) (by have:=hz.2.2 b h; omega)) (fun h=>hG b (.inr (by omega)) (by omega) (by omega))) (fun _ _=>rfl) _ TN.out)
  refine wpAny_facts (by kernel_rfl) (by kernel_rfl) () lessA (by kernel_rfl) lessC (by kernel_rfl) (lessF s t (.agg #[.int .i64 5,.int .i64 0,.int .i64 0,.slice none 0 0,.slice (some ⟨W.heap.size,0,none⟩) 1 1]) (.agg #[.int .i64 t.kind,.int .i64 t.index,.int .i64 t.type.kind,.slice B1 t.type.args.length d1,.slice A1 t.args.length c1])) L0 (fun _=>False) (fun _=>True) _ _ (fun b h=>by rw [hL0] at h; exact h.1) (fun _ h=>h.elim) trivial ⟨?_,?_,?_,?_,?_,?_,?_,trivial⟩ ?_
  · intro V G L a w1 hp K hK
    refine step_call rfl _ _ _ rfl #[] (by simp) (enters_of Tryz.func115 (by kernel_rfl) rfl) (vsub_any w1) ?_
    rintro e w' ⟨T,v,rfl,rfl,ht,hb⟩
    exact ⟨_,rfl,hK _ () _ (Post.of rfl (Turn.call hb) trivial hp.lt fun L' _ hn=>⟨IsTm.keep (fun b h=>hn b h.1 h.2) (fun _ _=>rfl) _ ht,trivial⟩)⟩
  · intro V G L a w1 hp K hK
    refine step_run rfl (run_load5 rfl (hp.slot0 5 _ rfl rfl) (hp.blk0 KN.out.drew id)) ?_
    exact hK _ () _ (Post.still rfl trivial hp.lt fun L' _=>rfl)
  · intro V G L a w1 hp K hK
    have f0:IsTm (Good L w1) w1 subTm (V 0)∧True:=hp.fact 0 rfl
    have f1:V 1=_:=hp.fact 1 rfl
    have e0:=hp.slot 0 10 rfl rfl rfl
    have e1:=hp.slot 1 11 rfl rfl rfl
    rw [f1] at e1
    refine step_call rfl _ _ _ rfl _ (by simp only [List.map_toArray,List.map_cons,List.map_nil,e0,e1]) (enters_of Tryz.func114 (by kernel_rfl) rfl) (capply_in (Good L w1) subTm (.mk 5 0 .zero [s]) _ _ w1 (fun b h=>h.2) f0.1 (hp.tm0 TN0.out)) ?_
    rintro e w' ⟨T,v,rfl,rfl,ht,hb⟩
    exact ⟨_,rfl,hK _ () _ (Post.of rfl (Turn.call hb) trivial hp.lt fun L' hg hn=>⟨IsTm.keep (fun b h=>h.1.elim (hg b) (fun h'=>hn b h' h.2)) (fun _ _=>rfl) _ ht,trivial⟩)⟩
  · intro V G L a w1 hp K hK
    refine step_run rfl (run_load5 rfl (hp.slot0 3 _ rfl rfl) (hp.blk0 K1.out.drew id)) ?_
    exact hK _ () _ (Post.still rfl trivial hp.lt fun L' _=>rfl)
  · intro V G L a w1 hp K hK
    have f2:IsTm (Good L w1) w1 _ (V 2)∧True:=hp.fact 2 rfl
    have f3:V 3=_:=hp.fact 3 rfl
    have e0:=hp.slot 2 12 rfl rfl rfl
    have e1:=hp.slot 3 13 rfl rfl rfl
    rw [f3] at e1
    refine step_call rfl _ _ _ rfl _ (by simp only [List.map_toArray,List.map_cons,List.map_nil,e0,e1]) (enters_of Tryz.func114 (by kernel_rfl) rfl) (capply_in (Good L w1) _ t _ _ w1 (fun b h=>h.2) f2.1 (hp.tm0 TT0.out)) ?_
    rintro e w' ⟨T,v,rfl,rfl,ht,hb⟩
    exact ⟨_,rfl,hK _ () _ (Post.of rfl (Turn.call hb) trivial hp.lt fun L' hg hn=>⟨IsTm.keep (fun b h=>h.1.elim (hg b) (fun h'=>hn b h' h.2)) (fun _ _=>rfl) _ ht,trivial⟩)⟩
  · intro V G L a w1 hp K hK
    exact step_run rfl (run_alloc5 rfl) (hK _ () _ (Post.made rfl trivial))
  · intro V G L a w1 hp K hK
    have f4:IsTm (Good L w1) w1 _ (V 4)∧True:=hp.fact 4 rfl
    obtain ⟨b,hv,hk⟩:∃ b,V 5=.pointer (some ⟨b,0,none⟩)∧Blk w1 b _ _:=hp.fact 5 rfl
    have e0:=hp.slot 5 6 rfl rfl rfl
    have e1:=hp.slot 4 14 rfl rfl rfl
    obtain ⟨B9,d9,A9,c9,h9,_⟩:=f4.1.form
    rw [hv] at e0
    rw [h9] at e1
    refine step_skip' rfl (run_store5 rfl e0 e1 rfl rfl rfl rfl rfl hk) (hK _ () _ (Post.filled (j:=5) rfl rfl (by show ptrBlk (V 5)=_; rw [hv]; rfl) ?_ hk trivial))
    show RFact.boxv _ (V 4) (V 5)=_
    rw [hv,h9]
  · intro V G w1 L hg _ hf hL hd
    obtain ⟨f4,_⟩:=hf 4 (by decide) rfl
    obtain ⟨⟨D,c,hc,hv,hk⟩,h6⟩:=hf 6 (by decide) rfl
    replace f4:IsTm (Good L w1) w1 _ (V 4)∧True:=f4
    replace hc:V 4=.agg c:=hc
    replace hv:V 5=.pointer (some ⟨D,0,none⟩):=hv
    obtain ⟨U,hU⟩:∃ U:Tm,U=.mk 3 0 .zero [.mk 3 0 .zero [subTm,.mk 5 0 .zero [s]],t]:=⟨_,rfl⟩
    rw [← hU] at f4
    obtain ⟨B9,d9,A9,c9,h9,_⟩:=f4.1.form
    rw [h9] at hc f4
    cases hc
    have HU:=Lib.hid hU
    have T4:=Lib.hid f4.1
    have KD:=Lib.hid hk
    have BX:=Lib.hid (show Below X.heap.size X w1 from ⟨hg.os,hg.tape,hg.output,hg.size,fun k hk=>hg.block k hk id⟩)
    have HL:=Lib.hid (show ∀ b,Good L w1 b→S b∨w.heap.size≤b∧b≠w.heap.size+1+1 from fun b hb=>by
      by_cases hx:b<X.heap.size
      · have h1:¬ L0 b:=fun e=>hb.1 ((hL b).2 (.inl e))
        rw [hL0] at h1
        have h2:(S b∨w.heap.size≤b)∧b≠w.heap.size+1+1:=Classical.byContradiction fun h=>h1 ⟨hx,h⟩
        exact h2.1.imp id fun h=>⟨h,h2.2⟩
      · exact .inr ⟨by omega,by omega⟩)
    simp only [putFrom,dstOf,Act.put,List.size_toArray,List.length_cons,List.length_nil,Nat.zero_add,Nat.reduceAdd,List.getElem?_toArray,List.getElem?_cons_zero,List.getElem?_cons_succ,List.setIfInBounds_toArray,List.set_cons_zero,List.set_cons_succ,hv,h9]
    have hz2:=hz
    clear f4 hk hg hf hL hd h6 hL0 hG hz hU hv h9 TT0 TN0
    generalize V 0=v0
    generalize V 1=v1
    generalize V 2=v2
    generalize V 3=v3
    obtain ⟨n0,n1,n2,n3,n4⟩:=KD.out.cells5
    obtain ⟨g0,g1,g2,g3,g4,r0,r1,r2,r3,r4⟩:=(K2.out.below BX.out K2.out.lt).facts5
    have hlt:w.heap.size+1+1<w1.heap.size:=(K2.out.below BX.out K2.out.lt).lt
    have hS:=hz2.2.2
    have hX:w.heap.size+5≤w1.heap.size:=by have:=BX.out.size; omega
    clear hz2
    obtain ⟨W5,hW5,z5,g5,q5⟩:∃ W5,W5=(((((w1.setCell ⟨w.heap.size+1+1,0,none⟩ (.int .i64 1)).setCell ⟨w.heap.size+1+1,1,none⟩ (.int .i64 0)).setCell ⟨w.heap.size+1+1,2,none⟩ (.slice none 0 0)).setCell ⟨w.heap.size+1+1,3,none⟩ (.slice (some ⟨w1.heap.size,0,none⟩) 2 2)).setCell ⟨w.heap.size+1+1,4,none⟩ (.slice none 0 0))∧W5.heap.size=w1.heap.size∧w1.grownBy W5 (some (w.heap.size+1+1))∧Blk W5 (w.heap.size+1+1) 34 #[.int .i64 1,.int .i64 0,.slice none 0 0,.slice (some ⟨w1.heap.size,0,none⟩) 2 2,.slice none 0 0]:=⟨_,rfl,by simp,only_set5 w1 (w.heap.size+1+1) _ _ _ _ _,(K2.out.below BX.out K2.out.lt).set5 _ _ _ _ _⟩
    have HW5:=Lib.hid hW5
    have HE:=Lib.hid (And.intro z5 (And.intro g5 q5))
    have HHS:=Lib.hid hS
    have HHX:=Lib.hid hX
    clear hS hX hW5 z5 g5 q5
    go_wp2_with fail
    rw [← HW5.out]
    have z5:=HE.out.1
    have g5:=HE.out.2.1
    have q5:=HE.out.2.2.alloc (Obj.cells #[.int .i64 U.kind,.int .i64 U.index,.int .i64 U.type.kind,.slice B9 U.type.args.length d9,.slice A9 U.args.length c9,.int .i64 4,.int .i64 0,.int .i64 0,.slice none 0 0,.slice none 0 0] 42)
    have hX:=HHX.out
    obtain ⟨z0,z1,z2,z3,z4⟩:=q5.cells5
    refine bodyPost_ret (v:=.agg #[.int .i64 1,.int .i64 0,.slice none 0 0,.slice (some ⟨w1.heap.size,0,none⟩) 2 2,.slice none 0 0]) (by simp [results,Tryz.results75,go_sem,z0,z1,z2,z3,z4]) rfl ?_
    refine ⟨_,rfl,isFm_iff.2 ⟨rfl,IsTy.leaf _ _ _,?_,Rep.Sl.nil _ _⟩,(((HB.out.trans (BX.out.mono HB.out.size)).grown g5 (by omega) (fun g e=>by cases e; omega)).alloc (by omega) _)⟩
    have hne:∀ b,Good L w1 b→b≠w.heap.size+1+1:=fun b hb=>(HL.out b hb).elim (fun h=>by have:=HHS.out b h; omega) And.right
    have hU5:IsTm (fun b=>(S b∨w.heap.size≤b)∧b<w1.heap.size) W5 U _:=IsTm.keep (fun b h=>⟨(HL.out b h).imp id And.left,h.2⟩) (fun q hq=>World.cell?_of_block (g5.block q.block hq.2 (by simp; exact hne _ hq))) _ T4.out
    have h2:=Rep.Sl.built (R:=TmR) (l:=[U,.mk 4 0 .zero []]) (w:=W5) (Rep.Ch.append (R:=TmR) (l:=[U]) (Rep.Ch.one (R:=TmR) (vs:=[.int .i64 U.kind,.int .i64 U.index,.int .i64 U.type.kind,.slice B9 U.type.args.length d9,.slice A9 U.args.length c9]) hU5) (Rep.Ch.one (R:=TmR) (vs:=[.int .i64 4,.int .i64 0,.int .i64 0,.slice none 0 0,.slice none 0 0]) (isTm_iff.2 ⟨rfl,rfl,IsTy.leaf _ _ _,Rep.Sl.nil _ _⟩))) (fun b h=>by rw [z5]; exact h.2) (fun b=>(S b∨w.heap.size≤b)∧b<w1.heap.size+1) (fun b h=>⟨h.1,by have:=h.2; omega⟩) ⟨.inr (by omega),by omega⟩
    rw [z5] at h2
    rw [← HU.out]
    exact h2.keep (fun b h=>⟨h.1,by simp only [World.size_alloc,z5]; exact h.2⟩) (fun _ _=>rfl)
end Go.Proofs.YthlknhkemmdocaaGreatDoor
namespace Go.Proofs.YthlknhkemmdocaaGreatDoor
open Go.RowKit

theorem ret_boolD {a b:Bool} (h:a=b):Ending.returned (.bool a)=.returned (.bool b):=by rw [h]

/-- A part of a node: its address, and its cells. -/
theorem sl_child {S:Nat→Prop} {w:World} {l:List Tm} {A:Option Addr} {n c:Nat} (h:TmR.Sl S w l (.slice A n c)) (j:Nat) (hj:j<l.length):∃ a B d A' c',A=some a∧S a.block ∧
    w.cell? (a.add (j * 5))=some (.int .i64 l[j].kind)∧w.cell? ⟨(a.add (j * 5)).block,(a.add (j * 5)).off+1,none⟩ = some (.int .i64 l[j].index) ∧
    w.cell? ⟨(a.add (j * 5)).block,(a.add (j * 5)).off+2,none⟩ = some (.int .i64 l[j].type.kind)∧w.cell? ⟨(a.add (j * 5)).block,(a.add (j * 5)).off+3,none⟩ = some (.slice B l[j].type.args.length d) ∧
    w.cell? ⟨(a.add (j * 5)).block,(a.add (j * 5)).off+4,none⟩ = some (.slice A' l[j].args.length c') ∧
    IsTm S w l[j] (.agg #[.int .i64 l[j].kind,.int .i64 l[j].index,.int .i64 l[j].type.kind,.slice B l[j].type.args.length d,.slice A' l[j].args.length c']):=by
  obtain ⟨a,rfl,ha,hat⟩:=h.get j hj
  obtain ⟨B1,d1,A1,c1,q0,q1,q2,q3,q4,hx⟩:=at_tm hat
  exact ⟨a,B1,d1,A1,c1,rfl,ha,q0,q1,q2,q3,q4,hx⟩
theorem alloc2_facts (w:World) (c1 c2:Array Value) (t1 t2:TypeId):∃ W,W=(w.alloc (.cells c1 t1)).alloc (.cells c2 t2) ∧
    Below w.heap.size w W∧W.heap.size=w.heap.size+2∧Blk W w.heap.size t1 c1∧Blk W (w.heap.size+1) t2 c2:=by
  obtain ⟨b1,z1,k1⟩:=new_blk (Below.refl w.heap.size w) (Nat.le_refl _) c1 t1
  generalize w.alloc (.cells c1 t1)=W1 at b1 z1 k1 ⊢
  obtain ⟨b2,z2,k2⟩:=new_blk b1 b1.size c2 t2
  rw [z1] at k2
  exact ⟨_,rfl,b2,by omega,k1.alloc _,k2⟩
end Go.Proofs.YthlknhkemmdocaaGreatDoor
namespace Go.Proofs.YthlknhkemmdocaaGreatDoor
open Go.RowKit

theorem alike_eq:∀ (n:Nat) (S T:Ty),S.nodes≤n→(S.order2 T).all alike=true→S=T:=by
  intro n
  induction n with
  | zero=>intro S T h; have:=nodes_pos S; omega
  | succ n ih=>
    rintro ⟨k,l⟩ ⟨k',m⟩ hn h
    rw [order2_eq,List.all_cons,Bool.and_eq_true] at h
    have h1:=h.1
    simp only [alike,Ty.kind,Ty.args,Bool.and_eq_true,beq_iff_eq] at h1
    obtain ⟨rfl,hlen⟩:=h1
    have h2:=h.2
    simp only [Ty.args] at h2
    simp only [Ty.nodes] at hn
    congr 1
    clear h
    induction l generalizing m with
    | nil=>cases m with
      | nil=>rfl
      | cons b s=>simp at hlen
    | cons a r ihl=>
      cases m with
      | nil=>simp at hlen
      | cons b s=>
        simp only [List.zip_cons_cons,orderSt,List.all_append,Bool.and_eq_true] at h2
        simp only [nodesAll] at hn
        rw [ih a b (by omega) h2.2,ihl s (by omega) (by simpa using hlen) h2.1]
theorem same_eq {S T:Ty} (h:S.same T=true):S=T:=alike_eq S.nodes S T (Nat.le_refl _) h
end Go.Proofs.YthlknhkemmdocaaGreatDoor
namespace Go.Proofs.YthlknhkemmdocaaGreatDoor
open Go.RowKit

/-- Two nodes are alike. -/
def alikeTm (x y:Tm):Bool:=x.kind == y.kind && x.index == y.index && decide (x.args.length=y.args.length) && x.type.same y.type

theorem alike_args {x y:Tm} (h:alikeTm x y=true):x=.mk y.kind y.index y.type x.args∧x.args.length=y.args.length:=by
  simp only [alikeTm,Bool.and_eq_true,beq_iff_eq,decide_eq_true_eq] at h
  obtain ⟨⟨⟨h1,h2⟩,h3⟩,h4⟩:=h
  obtain ⟨k,i,T,l⟩:=x
  obtain ⟨k',i',T',l'⟩:=y
  simp only [Tm.kind,Tm.index,Tm.type,Tm.args] at h1 h2 h3 h4 ⊢
  subst h1 h2
  rw [same_eq h4]
  exact ⟨rfl,h3⟩
theorem alike_self (x:Tm):alikeTm x x=true:=by simp [alikeTm,same_rfl]

set_option maxRecDepth 100000 in
set_option maxHeartbeats 4000000 in
theorem alikeT_any (x y:Tm) (u v:Value) (w:World) (hsz:x.type.nodes≤400000) (hX:IsTm (· < w.heap.size) w x u) (hY:IsTm (· < w.heap.size) w y v) :
    Calls Tryz.prog 194 #[u,v] w fun e w'=>e=.returned (.bool (alikeTm x y))∧Below w.heap.size w w':=by
  obtain ⟨B1,d1,A1,c1,rfl,ty1,_⟩:=hX.parts
  obtain ⟨B2,d2,A2,c2,rfl,ty2,_⟩:=hY.parts
  have HT:=Lib.hid (And.intro ty1 ty2)
  clear hX hY ty1 ty2
  go_enter Tryz.func194,Tryz.ntmps194
  go_upto_region 1 with fail
  obtain ⟨W,hW,b2,z2,k0,k1⟩:=alloc2_facts w #[.int .i64 x.kind,.int .i64 x.index,.int .i64 x.type.kind,.slice B1 x.type.args.length d1,.slice A1 x.args.length c1] #[.int .i64 y.kind,.int .i64 y.index,.int .i64 y.type.kind,.slice B2 y.type.args.length d2,.slice A2 y.args.length c2] 42 42
  rw [← hW]
  obtain ⟨r0,r1,r2,r3,r4,_,_,_,_,_⟩:=k0.facts5
  obtain ⟨s0,s1,s2,s3,s4,_,_,_,_,_⟩:=k1.facts5
  have HB:=Lib.hid b2
  clear hW b2 k0 k1
  by_cases h1:x.kind=y.kind
  · have e1:(x.kind == y.kind)=true:=by simpa using h1
    clear h1
    by_cases h2:x.index=y.index
    · have e2:(x.index == y.index)=true:=by simpa using h2
      clear h2
      by_cases h3:x.args.length=y.args.length
      · have e3:((x.args.length:Int) == (y.args.length:Int))=true:=by simp; omega
        have h3':=Lib.hid h3
        clear h3
        go_wp2_with fail
        refine (same_any x.type y.type _ _ W hsz (HT.out.1.keep (fun b h=>Nat.lt_of_lt_of_le h HB.out.size) (fun p h=>HB.out.cell h)) (HT.out.2.keep (fun b h=>Nat.lt_of_lt_of_le h HB.out.size) (fun p h=>HB.out.cell h))).mono ?_
        rintro e w1 ⟨rfl,hb1⟩
        go_wp2_with fail
        go_ret
        exact ⟨ret_boolD (by simp [alikeTm,e1,e2,h3'.out]),HB.out.trans (hb1.mono HB.out.size)⟩
      · have e3:((x.args.length:Int) == (y.args.length:Int))=false:=by simp; omega
        have h3':=Lib.hid h3
        clear h3
        go_wp2_with fail
        go_ret
        exact ⟨ret_boolD (by simp [alikeTm,h3'.out]),HB.out⟩
    · have e2:(x.index == y.index)=false:=by simpa using h2
      clear h2
      go_wp2_with fail
      go_ret
      exact ⟨ret_boolD (by simp [alikeTm,e2]),HB.out⟩
  · have e1:(x.kind == y.kind)=false:=by simpa using h1
    clear h1
    go_wp2_with fail
    go_ret
    exact ⟨ret_boolD (by simp [alikeTm,e1]),HB.out⟩
end Go.Proofs.YthlknhkemmdocaaGreatDoor
namespace Go.Proofs.YthlknhkemmdocaaGreatDoor
open Go.RowKit

/-- Pairs of terms. -/
def TmsR:Rep (Tm × Tm) where
  n:=10
  t:=181
  is S w p vs:=∃ xs ys,vs=xs ++ ys∧TmR.is S w p.1 xs∧TmR.is S w p.2 ys
  pos:=by decide
  len h:=by
    obtain ⟨xs,ys,rfl,h1,h2⟩:=h
    have e1:xs.length=5:=TmR.len h1
    have e2:ys.length=5:=TmR.len h2
    simp [e1,e2]
  one h:=by
    obtain ⟨xs,ys,rfl,h1,h2⟩:=h
    intro u hu
    rcases List.mem_append.1 hu with h | h
    · exact TmR.one h1 u h
    · exact TmR.one h2 u h
  keep hS hc h:=by
    obtain ⟨xs,ys,rfl,h1,h2⟩:=h
    exact ⟨xs,ys,rfl,TmR.keep hS hc h1,TmR.keep hS hc h2⟩
theorem info_pair:(Tryz.prog.info? 181).map (fun i=>(i.zero,i.size,i.bytes))=some (some (.agg #[.int .i64 0,.int .i64 0,.int .i64 0,.slice none 0 0,.slice none 0 0,.int .i64 0,.int .i64 0,.int .i64 0,.slice none 0 0,.slice none 0 0]),10,144):=by kernel_rfl

def pairsSize:List (Tm × Tm)→Nat
  | []=>0
  | p :: r=>p.1.size+pairsSize r
def pairsBulk:List (Tm × Tm)→Nat
  | []=>0
  | p :: r=>p.1.bulk+pairsBulk r
theorem pairsSize_append:∀ l m:List (Tm × Tm),pairsSize (l ++ m)=pairsSize l+pairsSize m
  | [],m=>by simp [pairsSize]
  | p :: l,m=>by simp only [List.cons_append,pairsSize,pairsSize_append l m]; omega
theorem pairsBulk_append:∀ l m:List (Tm × Tm),pairsBulk (l ++ m)=pairsBulk l+pairsBulk m
  | [],m=>by simp [pairsBulk]
  | p :: l,m=>by simp only [List.cons_append,pairsBulk,pairsBulk_append l m]; omega
theorem pairsBulk_len:∀ l:List (Tm × Tm),l.length≤pairsBulk l
  | []=>by simp [pairsBulk]
  | p :: l=>by have:=bulk_pos p.1; have:=pairsBulk_len l; simp only [List.length_cons,pairsBulk]; omega
theorem pairs_zip:∀ (l m:List Tm),l.length=m.length→pairsSize (l.zip m)=sizeAllT l∧pairsBulk (l.zip m)=bulkAll l∧((∀ p ∈ l.zip m,p.1=p.2)↔l=m)
  | [],[],_=>by simp [pairsSize,pairsBulk,sizeAllT,bulkAll]
  | [],b :: m,h=>by simp at h
  | a :: l,[],h=>by simp at h
  | a :: l,b :: m,h=>by
    obtain ⟨h1,h2,h3⟩:=pairs_zip l m (by simpa using h)
    refine ⟨by simp only [List.zip_cons_cons,pairsSize,sizeAllT,h1],by simp only [List.zip_cons_cons,pairsBulk,bulkAll,h2],?_⟩
    simp only [List.zip_cons_cons,List.mem_cons,forall_eq_or_imp,List.cons.injEq,h3]

def SameRel (w:World) (a b:Tm) (k:Nat) (s:Value) (wr:World):Prop:=
  ∃ st:List (Tm × Tm),TmsR.Own (· < w.heap.size) (w.heap.size+2) s st wr∧((∀ p ∈ st,p.1=p.2)↔a=b)∧pairsSize st=k∧pairsBulk st≤400000∧Below w.heap.size w wr∧w.heap.size+2≤wr.heap.size

/-- The last pair of a slice of the call's own. -/
theorem own_last_tms {S:Nat→Prop} {base:Nat} {v:Value} {ts:List (Tm × Tm)} {x y:Tm} {w:World} (h:TmsR.Own S base v (ts ++ [(x,y)]) w):∃ (g cap:Nat) (B B':Option Addr) (d d':Nat) (A A':Option Addr) (c c':Nat),
    v=.slice (some ⟨g,0,none⟩) (ts.length+1) cap∧base≤g∧g<w.heap.size∧ts.length+1≤cap ∧
    (∀ j u,[Value.int .i64 x.kind,.int .i64 x.index,.int .i64 x.type.kind,.slice B x.type.args.length d,.slice A x.args.length c,.int .i64 y.kind,.int .i64 y.index,.int .i64 y.type.kind,.slice B' y.type.args.length d',.slice A' y.args.length c'][j]? = some u→w.cell? ⟨g,ts.length * 10+j,none⟩ = some u) ∧
    IsTm (fun b=>S b∧b<w.heap.size) w x (.agg #[.int .i64 x.kind,.int .i64 x.index,.int .i64 x.type.kind,.slice B x.type.args.length d,.slice A x.args.length c]) ∧
    IsTm (fun b=>S b∧b<w.heap.size) w y (.agg #[.int .i64 y.kind,.int .i64 y.index,.int .i64 y.type.kind,.slice B' y.type.args.length d',.slice A' y.args.length c']) ∧
    TmsR.Own S base (.slice (some ⟨g,0,none⟩) ts.length cap) ts w:=by
  obtain ⟨g,cap,vs,rfl,hg0,hg1,hcap,hcell,⟨xs,ys,rfl,hx,hy⟩,ho⟩:=h.last
  have hx':IsTm (fun b=>S b∧b<w.heap.size∧g≠b) w x (.agg xs.toArray):=hx
  have hy':IsTm (fun b=>S b∧b<w.heap.size∧g≠b) w y (.agg ys.toArray):=hy
  obtain ⟨B,d,A,c,e,_⟩:=hx'.form
  obtain ⟨B',d',A',c',e',_⟩:=hy'.form
  simp only [Value.agg.injEq] at e e'
  have e1:=congrArg Array.toList e
  have e2:=congrArg Array.toList e'
  simp only at e1 e2
  subst e1 e2
  exact ⟨g,cap,B,B',d,d',A,A',c,c',rfl,hg0,hg1,hcap,fun j u hj=>hcell j u hj,IsTm.keep (fun b hb=>⟨hb.1,hb.2.1⟩) (fun _ _=>rfl) _ hx',IsTm.keep (fun b hb=>⟨hb.1,hb.2.1⟩) (fun _ _=>rfl) _ hy',ho⟩

theorem two_newT (w:World) (cs ds:Array Value):Blk ((w.alloc (.cells cs 42)).alloc (.cells ds 42)).drew w.heap.size 42 cs∧Blk ((w.alloc (.cells cs 42)).alloc (.cells ds 42)).drew (w.heap.size+1) 42 ds ∧
    w.heap.size≤w.heap.size∧w.heap.size≤w.heap.size+1∧Below w.heap.size w ((w.alloc (.cells cs 42)).alloc (.cells ds 42)).drew:=by
  have h:=Blk.new (w.alloc (.cells cs 42)) 42 ds
  rw [World.size_alloc] at h
  exact ⟨((Blk.new w 42 cs).alloc _).drew,h.drew,Nat.le_refl _,by omega,(((Below.refl _ _).alloc (Nat.le_refl _) _).alloc (by simp) _).drew⟩
theorem two_newT' (w:World) (cs ds:Array Value):Blk ((w.alloc (.cells ds 42)).alloc (.cells cs 42)).drew (w.heap.size+1) 42 cs∧Blk ((w.alloc (.cells ds 42)).alloc (.cells cs 42)).drew w.heap.size 42 ds ∧
    w.heap.size≤w.heap.size+1∧w.heap.size≤w.heap.size∧Below w.heap.size w ((w.alloc (.cells ds 42)).alloc (.cells cs 42)).drew:=by
  obtain ⟨h1,h2,h3,h4,h5⟩:=two_newT w ds cs
  exact ⟨h2,h1,h4,h3,h5⟩
/-- One pair more. -/
theorem tms_more {S:Nat→Prop} {base g2 cap2:Nat} {s:Value} {l:List (Tm × Tm)} {x y:Tm} {wx W1 w2:World} {xs vx vy:List Value} (hown:W1.ownsRow base 181 10 s l.length xs)
    (hc:TmsR.Ch (fun b=>S b∧b<wx.heap.size∧s.ownBlock≠some b) wx l xs) (hW:Below wx.heap.size wx W1) (hx:TmR.is S wx x vx) (hy:TmR.is S wx y vy) (hS:∀ b,S b→b<wx.heap.size∧s.ownBlock≠some b)
    (hown2:w2.ownsRow base 181 10 (.slice (some ⟨g2,0,none⟩) (l.length+1) cap2) (l.length+1) (xs ++ (vx ++ vy))) (hg:W1.grownBy w2 s.ownBlock) (hat:s.ownBlock=some g2∨g2=W1.heap.size) :
    TmsR.Own S base (.slice (some ⟨g2,0,none⟩) (l.length+1) cap2) (l ++ [(x,y)]) w2:=
  Rep.Own.more (R:=TmsR) (l:=l) (m:=[(x,y)]) (w:=W1) hown (hc.keep (fun b h=>⟨h.1,Nat.lt_of_lt_of_le h.2.1 hW.size,h.2.2⟩) (fun p h=>hW.cell h.2.1))
    (Rep.Ch.one (R:=TmsR) ⟨vx,vy,rfl,TmR.keep (fun b h=>⟨h,Nat.lt_of_lt_of_le (hS b h).1 hW.size,(hS b h).2⟩) (fun p h=>hW.cell (hS _ h).1) hx,TmR.keep (fun b h=>⟨h,Nat.lt_of_lt_of_le (hS b h).1 hW.size,(hS b h).2⟩) (fun p h=>hW.cell (hS _ h).1) hy⟩)
    hown2 hg (hat.imp (fun e=>e.symm) (fun e=>by rw [e]; rfl))

/-- Between two rounds of the inner loop. -/
def InnerT (w:World) (ts:List (Tm × Tm)) (x y:Tm) (b7 b8:Nat) (B3 A3 B4 A4:Option Addr) (d3 c3 d4 c4 j:Nat) (s:Value) (wx:World):Prop:=
  TmsR.Own (· < w.heap.size) (w.heap.size+2) s (ts ++ (x.args.zip y.args).take j) wx ∧
    Blk wx b7 42 #[.int .i64 x.kind,.int .i64 x.index,.int .i64 x.type.kind,.slice B3 x.type.args.length d3,.slice A3 x.args.length c3] ∧
    Blk wx b8 42 #[.int .i64 y.kind,.int .i64 y.index,.int .i64 y.type.kind,.slice B4 y.type.args.length d4,.slice A4 y.args.length c4] ∧
    s.ownBlock≠some b7∧s.ownBlock≠some b8∧Below w.heap.size w wx∧w.heap.size+2≤wx.heap.size∧TmR.Sl (· < w.heap.size) wx x.args (.slice A3 x.args.length c3)∧TmR.Sl (· < w.heap.size) wx y.args (.slice A4 y.args.length c4)

theorem innerT_step {w wr w2:World} {ts:List (Tm × Tm)} {x y:Tm} {b7 b8 g2 cap2 j d3 c3 d4 c4:Nat} {B3 A3 B4 A4:Option Addr} {s:Value} {xs vx vy:List Value} (h1:j<x.args.length) (h2:j<y.args.length)
    (hown:wr.ownsRow (w.heap.size+2) 181 10 s (ts ++ (x.args.zip y.args).take j).length xs) (hxc:TmsR.Ch (fun b=>b<w.heap.size∧b<wr.heap.size∧s.ownBlock≠some b) wr (ts ++ (x.args.zip y.args).take j) xs)
    (k7:Blk wr b7 42 #[.int .i64 x.kind,.int .i64 x.index,.int .i64 x.type.kind,.slice B3 x.type.args.length d3,.slice A3 x.args.length c3])
    (k8:Blk wr b8 42 #[.int .i64 y.kind,.int .i64 y.index,.int .i64 y.type.kind,.slice B4 y.type.args.length d4,.slice A4 y.args.length c4]) (n7:s.ownBlock≠some b7) (n8:s.ownBlock≠some b8) (hbl:Below w.heap.size w wr) (hz:w.heap.size+2≤wr.heap.size)
    (hla:TmR.Sl (· < w.heap.size) wr x.args (.slice A3 x.args.length c3)) (hlb:TmR.Sl (· < w.heap.size) wr y.args (.slice A4 y.args.length c4)) (hxj:TmR.is (· < w.heap.size) wr x.args[j] vx) (hyj:TmR.is (· < w.heap.size) wr y.args[j] vy)
    (hown2:w2.ownsRow (w.heap.size+2) 181 10 (.slice (some ⟨g2,0,none⟩) ((ts ++ (x.args.zip y.args).take j).length+1) cap2) ((ts ++ (x.args.zip y.args).take j).length+1) (xs ++ (vx ++ vy)))
    (hg:(wr.alloc (.cells (vx ++ vy).toArray 181)).drew.grownBy w2 s.ownBlock) (hat:s.ownBlock=some g2∨g2=(wr.alloc (.cells (vx ++ vy).toArray 181)).drew.heap.size) :
    InnerT w ts x y b7 b8 B3 A3 B4 A4 d3 c3 d4 c4 (j+1) (.slice (some ⟨g2,0,none⟩) ((ts ++ (x.args.zip y.args).take j).length+1) cap2) w2:=by
  have hlow:=hown.lt
  have hW:Below wr.heap.size wr (wr.alloc (.cells (vx ++ vy).toArray 181)).drew:=((Below.refl _ _).alloc (Nat.le_refl _) _).drew
  have hownW:=(hown.alloc (.cells (vx ++ vy).toArray 181)).drew
  generalize (wr.alloc (.cells (vx ++ vy).toArray 181)).drew=W1 at hW hownW hg hat
  have hs1:=hW.size
  have hs2:=hg.size
  have l7:=k7.lt
  have l8:=k8.lt
  have hzip:j<(x.args.zip y.args).length:=by simp; omega
  have hfar:∀ p:Addr,p.block<w.heap.size→w2.cell? p=wr.cell? p:=fun p hp=>
    (World.cell?_of_block (hg.block p.block (by omega) (fun e=>by have:=(hlow _ e.symm).1; omega))).trans (hW.cell (by omega))
  refine ⟨?_,(k7.below hW l7).grown hg n7.symm,(k8.below hW l8).grown hg n8.symm,?_,?_,?_,by omega,hla.keep (fun _ h=>h) hfar,hlb.keep (fun _ h=>h) hfar⟩
  · rw [List.take_succ_eq_append_getElem hzip,← List.append_assoc,show (x.args.zip y.args)[j]=(x.args[j],y.args[j]) from by simp]
    exact tms_more hownW hxc hW hxj hyj (fun b hb=>⟨by omega,fun e=>by have:=(hlow _ e).1; omega⟩) hown2 hg hat
  · intro e
    simp only [Value.ownBlock,Option.some.injEq] at e
    rcases hat with h | h
    · exact n7 (by rw [h,e])
    · omega
  · intro e
    simp only [Value.ownBlock,Option.some.injEq] at e
    rcases hat with h | h
    · exact n8 (by rw [h,e])
    · omega
  · exact (hbl.trans (hW.mono (by omega))).grown hg (by omega) (fun k e=>by have:=(hlow k e).1; omega)

open Classical in
/-- Whether two terms are the same. -/
noncomputable def Tm.same (a b:Tm):Bool:=decide (a=b)
theorem same_iff {a b:Tm}:a.same b=true↔a=b:=by unfold Tm.same; simp
theorem same_not {a b:Tm} (h:a≠b):a.same b=false:=by unfold Tm.same; simpa using h

set_option maxRecDepth 100000 in
set_option maxHeartbeats 4000000 in
theorem sameTm_any (a b:Tm) (u v:Value) (w:World) (hsz:a.bulk≤400000) (hA:IsTm (· < w.heap.size) w a u) (hB:IsTm (· < w.heap.size) w b v) :
    Calls Tryz.prog 175 #[u,v] w fun e w'=>e=.returned (.bool (a.same b))∧Below w.heap.size w w':=by
  obtain ⟨B1,d1,A1,c1,rfl,_,_⟩:=hA.parts
  obtain ⟨B2,d2,A2,c2,rfl,_,_⟩:=hB.parts
  have HT:=Lib.hid (And.intro hA hB)
  clear hA hB
  go_enter Tryz.func175,Tryz.ntmps175
  go_wp2_with fail
  go_loopg [5] a.size (fun k s wr=>SameRel w a b k s wr)
  case atStart=>
    have b0:=below_box w (Obj.cells #[.int .i64 a.kind,.int .i64 a.index,.int .i64 a.type.kind,.slice B1 a.type.args.length d1,.slice A1 a.args.length c1] 42)
    obtain ⟨b2,z2,_⟩:=new_blk b0 b0.size #[.int .i64 b.kind,.int .i64 b.index,.int .i64 b.type.kind,.slice B2 b.type.args.length d2,.slice A2 b.args.length c2] 42
    have z2':(((w.alloc (Obj.cells #[.int .i64 a.kind,.int .i64 a.index,.int .i64 a.type.kind,.slice B1 a.type.args.length d1,.slice A1 a.args.length c1] 42)).alloc (Obj.cells #[.int .i64 b.kind,.int .i64 b.index,.int .i64 b.type.kind,.slice B2 b.type.args.length d2,.slice A2 b.args.length c2] 42))).heap.size=w.heap.size+2:=by simp
    refine ⟨[(a,b)],?_,by simp,by simp [pairsSize],by simpa [pairsBulk] using hsz,b2.alloc b2.size _,by simp⟩
    have h0:TmsR.is (· < w.heap.size) _ (a,b) ([.int .i64 a.kind,.int .i64 a.index,.int .i64 a.type.kind,.slice B1 a.type.args.length d1,.slice A1 a.args.length c1] ++ [.int .i64 b.kind,.int .i64 b.index,.int .i64 b.type.kind,.slice B2 b.type.args.length d2,.slice A2 b.args.length c2]):=⟨_,_,rfl,TmR.keep (fun b h=>h) (fun p hp=>b2.cell hp) HT.out.1,TmR.keep (fun b h=>h) (fun p hp=>b2.cell hp) HT.out.2⟩
    have h1:=Rep.Own.built (R:=TmsR) (base:=w.heap.size+2) (Rep.Ch.one (R:=TmsR) h0) (fun b hb=>by have:b<w.heap.size:=hb; omega) (by omega) (by simp [maxLen]) (by simp)
    rw [z2'] at h1
    exact h1
  case round=>
    obtain ⟨st,hown,heq,hk,hbk,hbel,hz⟩:=hrel
    rcases List.eq_nil_or_concat st with rfl | ⟨ts,⟨x,y⟩,rfl⟩
    · obtain ⟨A3,c3,rfl⟩:=hown.form
      have hab:a=b:=heq.1 (by simp)
      go_wp2_with fail
      go_ret
      exact ⟨ret_boolD (same_iff.2 hab).symm,hbel⟩
    · simp only [List.concat_eq_append] at hown heq hk hbk
      obtain ⟨g,cap,B3,B4,d3,d4,A3,A4,c3,c4,rfl,hg0,hg1,hcap,hcell,hx,hy,hown2⟩:=own_last_tms hown
      have q0:wr.cell? ⟨g,ts.length * 10,none⟩ = some (.int .i64 x.kind):=hcell 0 _ rfl
      have q1:wr.cell? ⟨g,ts.length * 10+1,none⟩ = some (.int .i64 x.index):=hcell 1 _ rfl
      have q2:wr.cell? ⟨g,ts.length * 10+2,none⟩ = some (.int .i64 x.type.kind):=hcell 2 _ rfl
      have q3:wr.cell? ⟨g,ts.length * 10+3,none⟩ = some (.slice B3 x.type.args.length d3):=hcell 3 _ rfl
      have q4:wr.cell? ⟨g,ts.length * 10+4,none⟩ = some (.slice A3 x.args.length c3):=hcell 4 _ rfl
      have q5:wr.cell? ⟨g,ts.length * 10+5,none⟩ = some (.int .i64 y.kind):=hcell 5 _ rfl
      have q6:wr.cell? ⟨g,ts.length * 10+5+1,none⟩ = some (.int .i64 y.index):=hcell 6 _ rfl
      have q7:wr.cell? ⟨g,ts.length * 10+5+2,none⟩ = some (.int .i64 y.type.kind):=hcell 7 _ rfl
      have q8:wr.cell? ⟨g,ts.length * 10+5+3,none⟩ = some (.slice B4 y.type.args.length d4):=hcell 8 _ rfl
      have q9:wr.cell? ⟨g,ts.length * 10+5+4,none⟩ = some (.slice A4 y.args.length c4):=hcell 9 _ rfl
      have hxb:pairsBulk ts+x.bulk≤400000:=by rw [pairsBulk_append] at hbk; simpa [pairsBulk] using hbk
      have hll:=pairsBulk_len ts
      have hxp:=bulk_pos x
      have HX:=Lib.hid (And.intro hx hy)
      have HO:=Lib.hid hown2
      have HF:=Lib.hid (And.intro heq (And.intro hk hbk))
      clear hx hy hown2 heq hk hbk hown hcell
      have hxa:=bulkAll_len x.args
      have hxe:=bulk_eq x
      have hxal:x.args.length≤400000:=by omega
      have hxtn:x.type.nodes≤400000:=by omega
      have hlen:ts.length+1≤400000:=by omega
      go_upto_region 4 with fail
      go_cut [7,8] from 20 to 29 (fun s7 s8 wx=>∃ b7 b8:Nat,s7=.pointer (some ⟨b7,0,none⟩)∧s8=.pointer (some ⟨b8,0,none⟩)∧Blk wx b7 42 #[.int .i64 x.kind,.int .i64 x.index,.int .i64 x.type.kind,.slice B3 x.type.args.length d3,.slice A3 x.args.length c3] ∧
        Blk wx b8 42 #[.int .i64 y.kind,.int .i64 y.index,.int .i64 y.type.kind,.slice B4 y.type.args.length d4,.slice A4 y.args.length c4]∧wr.heap.size≤b7∧wr.heap.size≤b8∧Below wr.heap.size wr wx)
      case first=>
        go_region
        all_goals (go_wp2_with fail; go_meet)
        all_goals first
          | exact ⟨wr.heap.size,wr.heap.size+1,rfl,rfl,two_newT wr _ _⟩
          | exact ⟨wr.heap.size+1,wr.heap.size,rfl,rfl,two_newT' wr _ _⟩
      case rest=>
        obtain ⟨b7,b8,rfl,rfl,hx7,hx8,h7,h8,hbc⟩:=hcut
        have hbw:=hbc.size
        have HXC:=Lib.hid (show IsTm (· < w.heap.size) wc x _ from IsTm.keep (fun b hb=>hb.1) (fun p hp=>hbc.cell hp.2) _ HX.out.1)
        have HYC:=Lib.hid (show IsTm (· < w.heap.size) wc y _ from IsTm.keep (fun b hb=>hb.1) (fun p hp=>hbc.cell hp.2) _ HX.out.2)
        have HOC:=Lib.hid (HO.out.below hbc)
        have HBC:=Lib.hid (show Below w.heap.size w wc from hbel.trans (hbc.mono (by omega)))
        have HK:=Lib.hid (And.intro hx7 hx8)
        obtain ⟨x0,x1,x2,x3,x4,_,_,_,_,_⟩:=hx7.facts5
        obtain ⟨y0,y1,y2,y3,y4,_,_,_,_,_⟩:=hx8.facts5
        clear hx7 hx8 HX HO q0 q1 q2 q3 q4 q5 q6 q7 q8 q9 hbc hbel
        go_wp2_with fail
        refine (alikeT_any x y _ _ wc hxtn (HXC.out.keep (fun b h=>by have h':b<w.heap.size:=h; show b<wc.heap.size; omega) (fun _ _=>rfl)) (HYC.out.keep (fun b h=>by have h':b<w.heap.size:=h; show b<wc.heap.size; omega) (fun _ _=>rfl))).mono ?_
        rintro e w5 ⟨rfl,hb5⟩
        have B5:=Lib.hid (HBC.out.trans (hb5.mono (by omega)))
        have C5:=Lib.hid hb5
        have hz5:=hb5.size
        clear hb5 x0 x1 x2 x3 x4 y0 y1 y2 y3 y4
        cases hal:alikeTm x y with
        | false=>
          have hne:a≠b:=fun e=>by
            have:=HF.out.1.2 e (x,y) (by simp)
            have hxy:x=y:=this
            rw [hxy,alike_self] at hal
            cases hal
          clear hal
          go_wp2_with fail
          go_ret
          exact ⟨ret_boolD (same_not hne).symm,B5.out⟩
        | true=>
          obtain ⟨hxy,hlen2⟩:=alike_args hal
          have HXY:=Lib.hid (And.intro hal hxy)
          have hla:TmR.Sl (· < w.heap.size) w5 x.args (.slice A3 x.args.length c3):=by
            have h:=IsTm.keep (S':=(· < w.heap.size)) (w':=w5) (fun _ h=>h) (fun p hp=>C5.out.cell (by have h':p.block<w.heap.size:=hp; omega)) _ HXC.out
            cases x; exact (isTm_iff.1 h).2.2.2
          have hlb:TmR.Sl (· < w.heap.size) w5 y.args (.slice A4 y.args.length c4):=by
            have h:=IsTm.keep (S':=(· < w.heap.size)) (w':=w5) (fun _ h=>h) (fun p hp=>C5.out.cell (by have h':p.block<w.heap.size:=hp; omega)) _ HYC.out
            cases y; exact (isTm_iff.1 h).2.2.2
          have H0:=Lib.hid (show InnerT w ts x y b7 b8 B3 A3 B4 A4 d3 c3 d4 c4 0 (.slice (some ⟨g,0,none⟩) ts.length cap) w5 from
            ⟨by simpa using HOC.out.below C5.out,HK.out.1.below C5.out HK.out.1.lt,HK.out.2.below C5.out HK.out.2.lt,by simp [Value.ownBlock]; omega,by simp [Value.ownBlock]; omega,B5.out,by omega,hla,hlb⟩)
          obtain ⟨_,_,_,_,x4,_,_,_,_,_⟩:=(HK.out.1.below C5.out HK.out.1.lt).facts5
          have HL2:=Lib.hid hlen2
          clear hal hxy hla hlb hlen2
          go_wp2_with fail
          go_loopw [5,40] (fun s i wx=>∃ j:Nat,j≤x.args.length∧i=.int .i64 j∧InnerT w ts x y b7 b8 B3 A3 B4 A4 d3 c3 d4 c4 j s wx)
            (fun _ i _=>x.args.length - (intOf i).toNat)
          case atStart=>exact ⟨0,by omega,rfl,H0.out⟩
          case round=>
            obtain ⟨j,hj,rfl,hP⟩:=hrel
            by_cases hlt:j<x.args.length
            · have hjy':j<y.args.length:=by have:=HL2.out; omega
              have hjy:(j:Int)<(y.args.length:Int):=by omega
              have hjx:(j:Int)<(x.args.length:Int):=by omega
              have hpl:(ts ++ (x.args.zip y.args).take j).length≤900000:=by simp only [List.length_append,List.length_take,List.length_zip]; omega
              obtain ⟨hown,k7,k8,n7,n8,hbl,hz2,hla,hlb⟩:=hP
              obtain ⟨ax,B5',e5,A5,f5,rfl,hax,q0,q1,q2,q3,q4,hxj⟩:=sl_child hla j hlt
              obtain ⟨ay,B6,e6,A6,f6,rfl,hay,s0,s1,s2,s3,s4,hyj⟩:=sl_child hlb j hjy'
              obtain ⟨_,_,_,_,x4,_⟩:=k7.facts5
              obtain ⟨_,_,_,_,y4,_⟩:=k8.facts5
              obtain ⟨xs,hown,hxc⟩:=hown
              have hown:wr.ownsRow (w.heap.size+2) 181 10 u5 (ts ++ (x.args.zip y.args).take j).length xs:=hown
              obtain ⟨i0,hi,hz0,hz1,hz2'⟩:=info_parts info_pair
              have HIN:=Lib.hid (And.intro hxc (And.intro k7 (And.intro k8 (And.intro n7 (And.intro n8 (And.intro hbl (And.intro hz2 (And.intro hla (And.intro hlb (And.intro hxj hyj))))))))))
              clear hxc k7 k8 n7 n8 hbl hla hlb hxj hyj
              go_upto_region 11 with fail
              go_region_law (refine step_append_lies _ rfl (.tmp 43) (.tmp 55) 182 rfl (w.heap.size+2) 181 i0 _ 10 144 Tryz.underlying182 hi hz0 hz1 hz2' rfl (by decide) u5 (ts ++ (x.args.zip y.args).take j).length xs rfl (hown.alloc _).drew ⟨wr.heap.size,0,none⟩ 1 1 [.int .i64 x.args[j].kind,.int .i64 x.args[j].index,.int .i64 x.args[j].type.kind,.slice B5' x.args[j].type.args.length e5,.slice A5 x.args[j].args.length f5,.int .i64 y.args[j].kind,.int .i64 y.args[j].index,.int .i64 y.args[j].type.kind,.slice B6 y.args[j].type.args.length e6,.slice A6 y.args[j].args.length f6] rfl rfl (cells_new _ _ _) (by simp [Value.oneCell']) (by decide) (by simp only [maxLen]; omega) (by omega) (by simp; omega) _ rfl ?_; intro g2 cap2 w2 hown2 hg2 hat2 hlt3)
              all_goals (go_wp2_with fail)
              all_goals
                obtain ⟨hxc,k7,k8,n7,n8,hbl,hz2,hla,hlb,hxj,hyj⟩:=HIN.out
                have hst:=innerT_step (vx:=[.int .i64 x.args[j].kind,.int .i64 x.args[j].index,.int .i64 x.args[j].type.kind,.slice B5' x.args[j].type.args.length e5,.slice A5 x.args[j].args.length f5]) (vy:=[.int .i64 y.args[j].kind,.int .i64 y.args[j].index,.int .i64 y.args[j].type.kind,.slice B6 y.args[j].type.args.length e6,.slice A6 y.args[j].args.length f6]) hlt hjy' hown hxc k7 k8 n7 n8 hbl hz2 hla hlb hxj hyj hown2 hg2 hat2
                exact ⟨⟨j+1,by omega,by go_num,by simpa using hst⟩,by simp [intOf]; omega⟩
            · have hjl:(x.args.zip y.args).length≤j:=by simp; have:=HL2.out; omega
              obtain ⟨hown,_,_,_,_,hbl,hz2,_,_⟩:=hP
              rw [List.take_of_length_le hjl] at hown
              have HBL:=Lib.hid (And.intro hown hbl)
              clear hown hbl hjl
              go_wp2_with fail
              go_roundg (pairsSize (ts ++ x.args.zip y.args))
              case rel=>
                obtain ⟨z1,z2,z3⟩:=pairs_zip x.args y.args HL2.out
                obtain ⟨f1,f2,f3⟩:=HF.out
                refine ⟨_,HBL.out.1,?_,rfl,?_,HBL.out.2,hz2⟩
                · rw [← f1]
                  constructor
                  · intro h p hp
                    rcases List.mem_append.1 hp with hp | hp
                    · exact h p (List.mem_append_left _ hp)
                    · simp only [List.mem_singleton] at hp
                      subst hp
                      have hl:=z3.1 (fun q hq=>h q (List.mem_append_right _ hq))
                      show x=y
                      rw [HXY.out.2,hl]
                      cases y; rfl
                  · intro h p hp
                    have hxy:x=y:=h (x,y) (by simp)
                    rcases List.mem_append.1 hp with hp | hp
                    · exact h p (List.mem_append_left _ hp)
                    · exact z3.2 (by rw [hxy]) p hp
                · rw [pairsBulk_append] at f3 ⊢
                  simp only [pairsBulk] at f3
                  have:=bulk_eq x
                  omega
              case measure=>
                obtain ⟨z1,_,_⟩:=pairs_zip x.args y.args HL2.out
                obtain ⟨f1,f2,f3⟩:=HF.out
                rw [pairsSize_append] at f2 ⊢
                simp only [pairsSize] at f2
                have:=sizeT_eq x
                omega
end Go.Proofs.YthlknhkemmdocaaGreatDoor
namespace Go.Proofs.YthlknhkemmdocaaGreatDoor
open Go.RowKit

open Classical in
/-- Whether two lists of terms are the same. -/
noncomputable def sameTms (l m:List Tm):Bool:=decide (l=m)
theorem sameTms_iff {l m:List Tm}:sameTms l m=true↔l=m:=by unfold sameTms; simp
theorem sameTms_not {l m:List Tm} (h:l≠m):sameTms l m=false:=by unfold sameTms; simpa using h
theorem take_more {l m:List Tm} {j:Nat} (hj:j<l.length) (hm:j<m.length) (h:l.take j=m.take j) (he:l[j]=m[j]):l.take (j+1)=m.take (j+1):=by
  rw [List.take_succ_eq_append_getElem hj,List.take_succ_eq_append_getElem hm,h,he]

set_option maxRecDepth 100000 in
set_option maxHeartbeats 4000000 in
theorem equalT_any (l m:List Tm) (s t:Value) (w:World) (hb:bulkAll l≤400000) (hl:TmR.Sl (· < w.heap.size) w l s) (hm:TmR.Sl (· < w.heap.size) w m t) :
    Calls Tryz.prog 174 #[s,t,.func (.func 175) #[] #[]] w fun e w'=>e=.returned (.bool (sameTms l m))∧Below w.heap.size w w':=by
  obtain ⟨A,c,rfl⟩:=hl.form
  obtain ⟨B,d,rfl⟩:=hm.form
  have hll:=bulkAll_len l
  have HL:=Lib.hid (And.intro hl hm)
  clear hl hm
  by_cases hlen:l.length=m.length
  · have e1:((l.length:Int) != (m.length:Int))=false:=by simp; omega
    have HLEN:=Lib.hid hlen
    clear hlen
    go_enter Tryz.func174,Tryz.ntmps174
    go_wp2_with fail
    go_loopw [17] (fun ix wr=>∃ j:Nat,j≤l.length∧ix=.int .i64 j∧l.take j=m.take j∧Below w.heap.size w wr) (fun ix _=>l.length - (intOf ix).toNat)
    case atStart=>exact ⟨0,by omega,rfl,by simp,Below.refl _ _⟩
    case round=>
      obtain ⟨j,hj,rfl,htk,hbel⟩:=hrel
      have HTK:=Lib.hid htk
      clear htk
      by_cases hlt:j<l.length
      · have hjm':j<m.length:=by have:=HLEN.out; omega
        have hjm:(j:Int)<(m.length:Int):=by omega
        have hjl:(j:Int)<(l.length:Int):=by omega
        obtain ⟨ax,B1,d1,A1,c1,rfl,hax,q0,q1,q2,q3,q4,hxj⟩:=sl_child (HL.out.1.keep (S':=(· < w.heap.size)) (w':=wr) (fun _ h=>h) (fun p hp=>hbel.cell hp)) j hlt
        obtain ⟨ay,B2,d2,A2,c2,rfl,hay,s0,s1,s2,s3,s4,hyj⟩:=sl_child (HL.out.2.keep (S':=(· < w.heap.size)) (w':=wr) (fun _ h=>h) (fun p hp=>hbel.cell hp)) j hjm'
        have hnj:=bulkAll_get l j hlt
        have HX:=Lib.hid (And.intro hxj hyj)
        have hzr:=hbel.size
        clear hxj hyj
        go_upto_region 6 with fail
        obtain ⟨b1,z1,k0⟩:=new_blk (Below.refl wr.heap.size wr) (Nat.le_refl _) #[.int .i64 l[j].kind,.int .i64 l[j].index,.int .i64 l[j].type.kind,.slice B1 l[j].type.args.length d1,.slice A1 l[j].args.length c1] 42
        generalize wr.alloc (Obj.cells #[.int .i64 l[j].kind,.int .i64 l[j].index,.int .i64 l[j].type.kind,.slice B1 l[j].type.args.length d1,.slice A1 l[j].args.length c1] 42)=W1 at b1 z1 k0 ⊢
        have hay':ay.block<wr.heap.size:=by have hay:ay.block<w.heap.size:=hay; omega
        have hblk:W1.heap[(ay.add (j * 5)).block]? = wr.heap[(ay.add (j * 5)).block]?:=b1.block _ (by rw [add_block]; exact hay')
        have s0':=(World.cell?_of_block (a:=ay.add (j * 5)) hblk).trans s0
        have s1':=(World.cell?_of_block (a:=⟨(ay.add (j * 5)).block,(ay.add (j * 5)).off+1,none⟩) hblk).trans s1
        have s2':=(World.cell?_of_block (a:=⟨(ay.add (j * 5)).block,(ay.add (j * 5)).off+2,none⟩) hblk).trans s2
        have s3':=(World.cell?_of_block (a:=⟨(ay.add (j * 5)).block,(ay.add (j * 5)).off+3,none⟩) hblk).trans s3
        have s4':=(World.cell?_of_block (a:=⟨(ay.add (j * 5)).block,(ay.add (j * 5)).off+4,none⟩) hblk).trans s4
        have HB1:=Lib.hid (And.intro b1 z1)
        have K0:=Lib.hid k0
        have hz1:=b1.size
        clear q0 q1 q2 q3 q4 s0 s1 s2 s3 s4 b1 z1 k0 hblk
        go_upto_region 7 with fail
        obtain ⟨b2,z2,k1⟩:=new_blk (Below.refl W1.heap.size W1) (Nat.le_refl _) #[.int .i64 m[j].kind,.int .i64 m[j].index,.int .i64 m[j].type.kind,.slice B2 m[j].type.args.length d2,.slice A2 m[j].args.length c2] 42
        have k0:=K0.out.below b2 K0.out.lt
        generalize W1.alloc (Obj.cells #[.int .i64 m[j].kind,.int .i64 m[j].index,.int .i64 m[j].type.kind,.slice B2 m[j].type.args.length d2,.slice A2 m[j].args.length c2] 42)=W2 at b2 z2 k1 k0 ⊢
        obtain ⟨r0,r1,r2,r3,r4,_⟩:=k0.facts5
        obtain ⟨t0,t1,t2,t3,t4,_⟩:=k1.facts5
        have HB2:=Lib.hid (show Below wr.heap.size wr W2 from HB1.out.1.trans (b2.mono hz1))
        have hz2:=b2.size
        clear b2 z2 k0 k1 s0' s1' s2' s3' s4'
        go_wp2_with fail
        refine (sameTm_any l[j] m[j] _ _ W2 (by omega) (IsTm.keep (fun b h=>by have h:b<w.heap.size:=h; show b<W2.heap.size; omega) (fun p hp=>HB2.out.cell (by have hp:p.block<w.heap.size:=hp; omega)) _ HX.out.1) (IsTm.keep (fun b h=>by have h:b<w.heap.size:=h; show b<W2.heap.size; omega) (fun p hp=>HB2.out.cell (by have hp:p.block<w.heap.size:=hp; omega)) _ HX.out.2)).mono ?_
        rintro e w3 ⟨rfl,b3⟩
        have HB3:=Lib.hid (show Below w.heap.size w w3 from hbel.trans ((HB2.out.trans (b3.mono HB2.out.size)).mono hbel.size))
        clear b3 r0 r1 r2 r3 r4 t0 t1 t2 t3 t4
        cases hs:(l[j]).same m[j] with
        | true=>
          have HE:=Lib.hid (same_iff.1 hs)
          clear hs
          go_wp2_with fail
          exact ⟨⟨j+1,by omega,by go_num,take_more hlt hjm' HTK.out HE.out,HB3.out⟩,by simp [intOf]; omega⟩
        | false=>
          have HE:=Lib.hid hs
          clear hs
          go_wp2_with fail
          go_ret
          refine ⟨ret_boolD (sameTms_not (fun h=>?_)).symm,HB3.out⟩
          subst h
          have:=HE.out
          rw [same_iff.2 rfl] at this
          cases this
      · obtain rfl:j=l.length:=by omega
        go_wp2_with fail
        go_ret
        refine ⟨ret_boolD (sameTms_iff.2 ?_).symm,hbel⟩
        have h:=HTK.out
        rw [List.take_length,HLEN.out,List.take_length] at h
        exact h
  · have e1:((l.length:Int) != (m.length:Int))=true:=by simp; omega
    go_enter Tryz.func174,Tryz.ntmps174
    go_wp2_with fail
    go_ret
    exact ⟨ret_boolD (sameTms_not (fun h=>hlen (by rw [h]))).symm,Below.refl _ _⟩
end Go.Proofs.YthlknhkemmdocaaGreatDoor
namespace Go.Proofs.YthlknhkemmdocaaGreatDoor
open Go.RowKit

/-- Two nodes are alike but for what their Args are. -/
noncomputable def alikeFm (x y:Fm):Bool:=x.kind == y.kind && decide (x.args.length=y.args.length) && x.type.same y.type && sameTms x.terms y.terms
theorem alikeF_args {x y:Fm} (h:alikeFm x y=true):x=.mk y.kind y.type y.terms x.args∧x.args.length=y.args.length:=by
  simp only [alikeFm,Bool.and_eq_true,beq_iff_eq,decide_eq_true_eq] at h
  obtain ⟨⟨⟨h1,h2⟩,h3⟩,h4⟩:=h
  obtain ⟨k,T,ts,l⟩:=x
  obtain ⟨k',T',ts',l'⟩:=y
  simp only [Fm.kind,Fm.type,Fm.args,Fm.terms] at h1 h2 h3 h4 ⊢
  subst h1
  rw [same_eq h3,sameTms_iff.1 h4]
  exact ⟨rfl,h2⟩
theorem alikeF_self (x:Fm):alikeFm x x=true:=by simp [alikeFm,same_rfl,sameTms_iff]

set_option maxRecDepth 100000 in
set_option maxHeartbeats 4000000 in
theorem alikeF_any (x y:Fm) (u v:Value) (w:World) (hsz:x.type.nodes≤400000) (hts:bulkAll x.terms≤400000) (hX:IsFm (· < w.heap.size) w x u) (hY:IsFm (· < w.heap.size) w y v) :
    Calls Tryz.prog 165 #[u,v] w fun e w'=>e=.returned (.bool (alikeFm x y))∧Below w.heap.size w w':=by
  obtain ⟨B1,d1,P1,p1,A1,c1,rfl,ty1,tm1,_⟩:=hX.parts
  obtain ⟨B2,d2,P2,p2,A2,c2,rfl,ty2,tm2,_⟩:=hY.parts
  have HT:=Lib.hid (And.intro ty1 ty2)
  have HM:=Lib.hid (And.intro tm1 tm2)
  clear hX hY ty1 ty2 tm1 tm2
  go_enter Tryz.func165,Tryz.ntmps165
  go_upto_region 1 with fail
  obtain ⟨W,hW,b2,z2,k0,k1⟩:=alloc2_facts w #[.int .i64 x.kind,.int .i64 x.type.kind,.slice B1 x.type.args.length d1,.slice P1 x.terms.length p1,.slice A1 x.args.length c1] #[.int .i64 y.kind,.int .i64 y.type.kind,.slice B2 y.type.args.length d2,.slice P2 y.terms.length p2,.slice A2 y.args.length c2] 34 34
  rw [← hW]
  obtain ⟨r0,r1,r2,r3,r4,_,_,_,_,_⟩:=k0.facts5
  obtain ⟨s0,s1,s2,s3,s4,_,_,_,_,_⟩:=k1.facts5
  have HB:=Lib.hid b2
  have HK:=Lib.hid (And.intro k0 k1)
  clear hW b2 k0 k1
  by_cases h1:x.kind=y.kind
  · have e1:(x.kind == y.kind)=true:=by simpa using h1
    clear h1
    by_cases h3:x.args.length=y.args.length
    · have e3:((x.args.length:Int) == (y.args.length:Int))=true:=by simp; omega
      have h3':=Lib.hid h3
      clear h3
      go_wp2_with fail
      refine (same_any x.type y.type _ _ W hsz (HT.out.1.keep (fun b h=>Nat.lt_of_lt_of_le h HB.out.size) (fun p h=>HB.out.cell h)) (HT.out.2.keep (fun b h=>Nat.lt_of_lt_of_le h HB.out.size) (fun p h=>HB.out.cell h))).mono ?_
      rintro e w1 ⟨rfl,hb1⟩
      have HB1:=Lib.hid (HB.out.trans (hb1.mono HB.out.size))
      have hk0:=HK.out.1.below hb1 HK.out.1.lt
      have hk1:=HK.out.2.below hb1 HK.out.2.lt
      clear r0 r1 r2 r3 r4 s0 s1 s2 s3 s4 hb1
      obtain ⟨r0,r1,r2,r3,r4,_⟩:=hk0.facts5
      obtain ⟨s0,s1,s2,s3,s4,_⟩:=hk1.facts5
      clear hk0 hk1
      cases hts:x.type.same y.type with
      | true=>
        have h4':=Lib.hid hts
        clear hts
        go_wp2_with fail
        refine (equalT_any x.terms y.terms _ _ w1 (by assumption) (HM.out.1.keep (fun b h=>Nat.lt_of_lt_of_le h HB1.out.size) (fun p h=>HB1.out.cell h)) (HM.out.2.keep (fun b h=>Nat.lt_of_lt_of_le h HB1.out.size) (fun p h=>HB1.out.cell h))).mono ?_
        rintro e w2 ⟨rfl,hb2⟩
        go_wp2_with fail
        go_ret
        exact ⟨ret_boolD (by simp [alikeFm,e1,h3'.out,h4'.out]),HB1.out.trans (hb2.mono HB1.out.size)⟩
      | false=>
        have h4':=Lib.hid hts
        clear hts
        go_wp2_with fail
        go_ret
        exact ⟨ret_boolD (by simp [alikeFm,h4'.out]),HB1.out⟩
    · have e3:((x.args.length:Int) == (y.args.length:Int))=false:=by simp; omega
      have h3':=Lib.hid h3
      clear h3
      go_wp2_with fail
      go_ret
      exact ⟨ret_boolD (by simp [alikeFm,h3'.out]),HB.out⟩
  · have e1:(x.kind == y.kind)=false:=by simpa using h1
    have h1':=Lib.hid h1
    clear h1
    go_wp2_with fail
    go_ret
    exact ⟨ret_boolD (by simp [alikeFm,h1'.out]),HB.out⟩

/-- A part of a node: its address, and its cells. -/
theorem sl_childF {S:Nat→Prop} {w:World} {l:List Fm} {A:Option Addr} {n c:Nat} (h:FmR.Sl S w l (.slice A n c)) (j:Nat) (hj:j<l.length):∃ a B d P p A' c',A=some a∧S a.block ∧
    w.cell? (a.add (j * 5))=some (.int .i64 l[j].kind)∧w.cell? ⟨(a.add (j * 5)).block,(a.add (j * 5)).off+1,none⟩ = some (.int .i64 l[j].type.kind) ∧
    w.cell? ⟨(a.add (j * 5)).block,(a.add (j * 5)).off+2,none⟩ = some (.slice B l[j].type.args.length d)∧w.cell? ⟨(a.add (j * 5)).block,(a.add (j * 5)).off+3,none⟩ = some (.slice P l[j].terms.length p) ∧
    w.cell? ⟨(a.add (j * 5)).block,(a.add (j * 5)).off+4,none⟩ = some (.slice A' l[j].args.length c') ∧
    IsFm S w l[j] (.agg #[.int .i64 l[j].kind,.int .i64 l[j].type.kind,.slice B l[j].type.args.length d,.slice P l[j].terms.length p,.slice A' l[j].args.length c']):=by
  obtain ⟨a,rfl,ha,hat⟩:=h.get j hj
  obtain ⟨B1,d1,P1,p1,A1,c1,q0,q1,q2,q3,q4,hx⟩:=at_fm hat
  exact ⟨a,B1,d1,P1,p1,A1,c1,rfl,ha,q0,q1,q2,q3,q4,hx⟩

/-- Pairs of formulas. -/
def FmsR:Rep (Fm × Fm) where
  n:=10
  t:=151
  is S w p vs:=∃ xs ys,vs=xs ++ ys∧FmR.is S w p.1 xs∧FmR.is S w p.2 ys
  pos:=by decide
  len h:=by
    obtain ⟨xs,ys,rfl,h1,h2⟩:=h
    have e1:xs.length=5:=FmR.len h1
    have e2:ys.length=5:=FmR.len h2
    simp [e1,e2]
  one h:=by
    obtain ⟨xs,ys,rfl,h1,h2⟩:=h
    intro u hu
    rcases List.mem_append.1 hu with h | h
    · exact FmR.one h1 u h
    · exact FmR.one h2 u h
  keep hS hc h:=by
    obtain ⟨xs,ys,rfl,h1,h2⟩:=h
    exact ⟨xs,ys,rfl,FmR.keep hS hc h1,FmR.keep hS hc h2⟩
theorem info_pairF:(Tryz.prog.info? 151).map (fun i=>(i.zero,i.size,i.bytes))=some (some (.agg #[.int .i64 0,.int .i64 0,.slice none 0 0,.slice none 0 0,.slice none 0 0,.int .i64 0,.int .i64 0,.slice none 0 0,.slice none 0 0,.slice none 0 0]),10,176):=by kernel_rfl

def pairsSizeF:List (Fm × Fm)→Nat
  | []=>0
  | p :: r=>p.1.size+pairsSizeF r
def pairsBulkF:List (Fm × Fm)→Nat
  | []=>0
  | p :: r=>p.1.bulk+pairsBulkF r
theorem pairsSizeF_append:∀ l m:List (Fm × Fm),pairsSizeF (l ++ m)=pairsSizeF l+pairsSizeF m
  | [],m=>by simp [pairsSizeF]
  | p :: l,m=>by simp only [List.cons_append,pairsSizeF,pairsSizeF_append l m]; omega
theorem pairsBulkF_append:∀ l m:List (Fm × Fm),pairsBulkF (l ++ m)=pairsBulkF l+pairsBulkF m
  | [],m=>by simp [pairsBulkF]
  | p :: l,m=>by simp only [List.cons_append,pairsBulkF,pairsBulkF_append l m]; omega
theorem pairsBulkF_len:∀ l:List (Fm × Fm),l.length≤pairsBulkF l
  | []=>by simp [pairsBulkF]
  | p :: l=>by have:=bulkF_pos p.1; have:=pairsBulkF_len l; simp only [List.length_cons,pairsBulkF]; omega
theorem pairsF_zip:∀ (l m:List Fm),l.length=m.length→pairsSizeF (l.zip m)=sizeAllF l∧pairsBulkF (l.zip m)=bulkAllF l∧((∀ p ∈ l.zip m,p.1=p.2)↔l=m)
  | [],[],_=>by simp [pairsSizeF,pairsBulkF,sizeAllF,bulkAllF]
  | [],b :: m,h=>by simp at h
  | a :: l,[],h=>by simp at h
  | a :: l,b :: m,h=>by
    obtain ⟨h1,h2,h3⟩:=pairsF_zip l m (by simpa using h)
    refine ⟨by simp only [List.zip_cons_cons,pairsSizeF,sizeAllF,h1],by simp only [List.zip_cons_cons,pairsBulkF,bulkAllF,h2],?_⟩
    simp only [List.zip_cons_cons,List.mem_cons,forall_eq_or_imp,List.cons.injEq,h3]

def SameRelF (w:World) (a b:Fm) (k:Nat) (s:Value) (wr:World):Prop:=
  ∃ st:List (Fm × Fm),FmsR.Own (· < w.heap.size) (w.heap.size+2) s st wr∧((∀ p ∈ st,p.1=p.2)↔a=b)∧pairsSizeF st=k∧pairsBulkF st≤400000∧Below w.heap.size w wr∧w.heap.size+2≤wr.heap.size

/-- The last pair of a slice of the call's own. -/
theorem own_last_fms {S:Nat→Prop} {base:Nat} {v:Value} {ts:List (Fm × Fm)} {x y:Fm} {w:World} (h:FmsR.Own S base v (ts ++ [(x,y)]) w):∃ (g cap:Nat) (B B':Option Addr) (d d':Nat) (P P':Option Addr) (p p':Nat) (A A':Option Addr) (c c':Nat),
    v=.slice (some ⟨g,0,none⟩) (ts.length+1) cap∧base≤g∧g<w.heap.size∧ts.length+1≤cap ∧
    (∀ j u,[Value.int .i64 x.kind,.int .i64 x.type.kind,.slice B x.type.args.length d,.slice P x.terms.length p,.slice A x.args.length c,.int .i64 y.kind,.int .i64 y.type.kind,.slice B' y.type.args.length d',.slice P' y.terms.length p',.slice A' y.args.length c'][j]? = some u→w.cell? ⟨g,ts.length * 10+j,none⟩ = some u) ∧
    IsFm (fun b=>S b∧b<w.heap.size) w x (.agg #[.int .i64 x.kind,.int .i64 x.type.kind,.slice B x.type.args.length d,.slice P x.terms.length p,.slice A x.args.length c]) ∧
    IsFm (fun b=>S b∧b<w.heap.size) w y (.agg #[.int .i64 y.kind,.int .i64 y.type.kind,.slice B' y.type.args.length d',.slice P' y.terms.length p',.slice A' y.args.length c']) ∧
    FmsR.Own S base (.slice (some ⟨g,0,none⟩) ts.length cap) ts w:=by
  obtain ⟨g,cap,vs,rfl,hg0,hg1,hcap,hcell,⟨xs,ys,rfl,hx,hy⟩,ho⟩:=h.last
  have hx':IsFm (fun b=>S b∧b<w.heap.size∧g≠b) w x (.agg xs.toArray):=hx
  have hy':IsFm (fun b=>S b∧b<w.heap.size∧g≠b) w y (.agg ys.toArray):=hy
  obtain ⟨B,d,P,p,A,c,e,_⟩:=hx'.form
  obtain ⟨B',d',P',p',A',c',e',_⟩:=hy'.form
  simp only [Value.agg.injEq] at e e'
  have e1:=congrArg Array.toList e
  have e2:=congrArg Array.toList e'
  simp only at e1 e2
  subst e1 e2
  exact ⟨g,cap,B,B',d,d',P,P',p,p',A,A',c,c',rfl,hg0,hg1,hcap,fun j u hj=>hcell j u hj,IsFm.keep (fun b hb=>⟨hb.1,hb.2.1⟩) (fun _ _=>rfl) _ hx',IsFm.keep (fun b hb=>⟨hb.1,hb.2.1⟩) (fun _ _=>rfl) _ hy',ho⟩

theorem two_newF (w:World) (cs ds:Array Value):Blk ((w.alloc (.cells cs 34)).alloc (.cells ds 34)).drew w.heap.size 34 cs∧Blk ((w.alloc (.cells cs 34)).alloc (.cells ds 34)).drew (w.heap.size+1) 34 ds ∧
    w.heap.size≤w.heap.size∧w.heap.size≤w.heap.size+1∧Below w.heap.size w ((w.alloc (.cells cs 34)).alloc (.cells ds 34)).drew:=by
  have h:=Blk.new (w.alloc (.cells cs 34)) 34 ds
  rw [World.size_alloc] at h
  exact ⟨((Blk.new w 34 cs).alloc _).drew,h.drew,Nat.le_refl _,by omega,(((Below.refl _ _).alloc (Nat.le_refl _) _).alloc (by simp) _).drew⟩
theorem two_newF' (w:World) (cs ds:Array Value):Blk ((w.alloc (.cells ds 34)).alloc (.cells cs 34)).drew (w.heap.size+1) 34 cs∧Blk ((w.alloc (.cells ds 34)).alloc (.cells cs 34)).drew w.heap.size 34 ds ∧
    w.heap.size≤w.heap.size+1∧w.heap.size≤w.heap.size∧Below w.heap.size w ((w.alloc (.cells ds 34)).alloc (.cells cs 34)).drew:=by
  obtain ⟨h1,h2,h3,h4,h5⟩:=two_newF w ds cs
  exact ⟨h2,h1,h4,h3,h5⟩
/-- One pair more. -/
theorem fms_more {S:Nat→Prop} {base g2 cap2:Nat} {s:Value} {l:List (Fm × Fm)} {x y:Fm} {wx W1 w2:World} {xs vx vy:List Value} (hown:W1.ownsRow base 151 10 s l.length xs)
    (hc:FmsR.Ch (fun b=>S b∧b<wx.heap.size∧s.ownBlock≠some b) wx l xs) (hW:Below wx.heap.size wx W1) (hx:FmR.is S wx x vx) (hy:FmR.is S wx y vy) (hS:∀ b,S b→b<wx.heap.size∧s.ownBlock≠some b)
    (hown2:w2.ownsRow base 151 10 (.slice (some ⟨g2,0,none⟩) (l.length+1) cap2) (l.length+1) (xs ++ (vx ++ vy))) (hg:W1.grownBy w2 s.ownBlock) (hat:s.ownBlock=some g2∨g2=W1.heap.size) :
    FmsR.Own S base (.slice (some ⟨g2,0,none⟩) (l.length+1) cap2) (l ++ [(x,y)]) w2:=
  Rep.Own.more (R:=FmsR) (l:=l) (m:=[(x,y)]) (w:=W1) hown (hc.keep (fun b h=>⟨h.1,Nat.lt_of_lt_of_le h.2.1 hW.size,h.2.2⟩) (fun p h=>hW.cell h.2.1))
    (Rep.Ch.one (R:=FmsR) ⟨vx,vy,rfl,FmR.keep (fun b h=>⟨h,Nat.lt_of_lt_of_le (hS b h).1 hW.size,(hS b h).2⟩) (fun p h=>hW.cell (hS _ h).1) hx,FmR.keep (fun b h=>⟨h,Nat.lt_of_lt_of_le (hS b h).1 hW.size,(hS b h).2⟩) (fun p h=>hW.cell (hS _ h).1) hy⟩)
    hown2 hg (hat.imp (fun e=>e.symm) (fun e=>by rw [e]; rfl))

/-- Between two rounds of the inner loop. -/
def InnerF (w:World) (ts:List (Fm × Fm)) (x y:Fm) (b7 b8:Nat) (B3 P3 A3 B4 P4 A4:Option Addr) (d3 p3 c3 d4 p4 c4 j:Nat) (s:Value) (wx:World):Prop:=
  FmsR.Own (· < w.heap.size) (w.heap.size+2) s (ts ++ (x.args.zip y.args).take j) wx ∧
    Blk wx b7 34 #[.int .i64 x.kind,.int .i64 x.type.kind,.slice B3 x.type.args.length d3,.slice P3 x.terms.length p3,.slice A3 x.args.length c3] ∧
    Blk wx b8 34 #[.int .i64 y.kind,.int .i64 y.type.kind,.slice B4 y.type.args.length d4,.slice P4 y.terms.length p4,.slice A4 y.args.length c4] ∧
    s.ownBlock≠some b7∧s.ownBlock≠some b8∧Below w.heap.size w wx∧w.heap.size+2≤wx.heap.size∧FmR.Sl (· < w.heap.size) wx x.args (.slice A3 x.args.length c3)∧FmR.Sl (· < w.heap.size) wx y.args (.slice A4 y.args.length c4)

theorem innerF_step {w wr w2:World} {ts:List (Fm × Fm)} {x y:Fm} {b7 b8 g2 cap2 j d3 p3 c3 d4 p4 c4:Nat} {B3 P3 A3 B4 P4 A4:Option Addr} {s:Value} {xs vx vy:List Value} (h1:j<x.args.length) (h2:j<y.args.length)
    (hown:wr.ownsRow (w.heap.size+2) 151 10 s (ts ++ (x.args.zip y.args).take j).length xs) (hxc:FmsR.Ch (fun b=>b<w.heap.size∧b<wr.heap.size∧s.ownBlock≠some b) wr (ts ++ (x.args.zip y.args).take j) xs)
    (k7:Blk wr b7 34 #[.int .i64 x.kind,.int .i64 x.type.kind,.slice B3 x.type.args.length d3,.slice P3 x.terms.length p3,.slice A3 x.args.length c3])
    (k8:Blk wr b8 34 #[.int .i64 y.kind,.int .i64 y.type.kind,.slice B4 y.type.args.length d4,.slice P4 y.terms.length p4,.slice A4 y.args.length c4]) (n7:s.ownBlock≠some b7) (n8:s.ownBlock≠some b8) (hbl:Below w.heap.size w wr) (hz:w.heap.size+2≤wr.heap.size)
    (hla:FmR.Sl (· < w.heap.size) wr x.args (.slice A3 x.args.length c3)) (hlb:FmR.Sl (· < w.heap.size) wr y.args (.slice A4 y.args.length c4)) (hxj:FmR.is (· < w.heap.size) wr x.args[j] vx) (hyj:FmR.is (· < w.heap.size) wr y.args[j] vy)
    (hown2:w2.ownsRow (w.heap.size+2) 151 10 (.slice (some ⟨g2,0,none⟩) ((ts ++ (x.args.zip y.args).take j).length+1) cap2) ((ts ++ (x.args.zip y.args).take j).length+1) (xs ++ (vx ++ vy)))
    (hg:(wr.alloc (.cells (vx ++ vy).toArray 151)).drew.grownBy w2 s.ownBlock) (hat:s.ownBlock=some g2∨g2=(wr.alloc (.cells (vx ++ vy).toArray 151)).drew.heap.size) :
    InnerF w ts x y b7 b8 B3 P3 A3 B4 P4 A4 d3 p3 c3 d4 p4 c4 (j+1) (.slice (some ⟨g2,0,none⟩) ((ts ++ (x.args.zip y.args).take j).length+1) cap2) w2:=by
  have hlow:=hown.lt
  have hW:Below wr.heap.size wr (wr.alloc (.cells (vx ++ vy).toArray 151)).drew:=((Below.refl _ _).alloc (Nat.le_refl _) _).drew
  have hownW:=(hown.alloc (.cells (vx ++ vy).toArray 151)).drew
  generalize (wr.alloc (.cells (vx ++ vy).toArray 151)).drew=W1 at hW hownW hg hat
  have hs1:=hW.size
  have hs2:=hg.size
  have l7:=k7.lt
  have l8:=k8.lt
  have hzip:j<(x.args.zip y.args).length:=by simp; omega
  have hfar:∀ p:Addr,p.block<w.heap.size→w2.cell? p=wr.cell? p:=fun p hp=>
    (World.cell?_of_block (hg.block p.block (by omega) (fun e=>by have:=(hlow _ e.symm).1; omega))).trans (hW.cell (by omega))
  refine ⟨?_,(k7.below hW l7).grown hg n7.symm,(k8.below hW l8).grown hg n8.symm,?_,?_,?_,by omega,hla.keep (fun _ h=>h) hfar,hlb.keep (fun _ h=>h) hfar⟩
  · rw [List.take_succ_eq_append_getElem hzip,← List.append_assoc,show (x.args.zip y.args)[j]=(x.args[j],y.args[j]) from by simp]
    exact fms_more hownW hxc hW hxj hyj (fun b hb=>⟨by omega,fun e=>by have:=(hlow _ e).1; omega⟩) hown2 hg hat
  · intro e
    simp only [Value.ownBlock,Option.some.injEq] at e
    rcases hat with h | h
    · exact n7 (by rw [h,e])
    · omega
  · intro e
    simp only [Value.ownBlock,Option.some.injEq] at e
    rcases hat with h | h
    · exact n8 (by rw [h,e])
    · omega
  · exact (hbl.trans (hW.mono (by omega))).grown hg (by omega) (fun k e=>by have:=(hlow k e).1; omega)

open Classical in
/-- Whether two formulas are the same. -/
noncomputable def Fm.same (a b:Fm):Bool:=decide (a=b)
theorem sameF_iff {a b:Fm}:a.same b=true↔a=b:=by unfold Fm.same; simp
theorem sameF_not {a b:Fm} (h:a≠b):a.same b=false:=by unfold Fm.same; simpa using h

set_option maxRecDepth 100000 in
set_option maxHeartbeats 4000000 in
theorem sameFm_any (a b:Fm) (u v:Value) (w:World) (hsz:a.bulk≤400000) (hA:IsFm (· < w.heap.size) w a u) (hB:IsFm (· < w.heap.size) w b v) :
    Calls Tryz.prog 144 #[u,v] w fun e w'=>e=.returned (.bool (a.same b))∧Below w.heap.size w w':=by
  obtain ⟨B1,d1,P1,p1,A1,c1,rfl,_,_,_⟩:=hA.parts
  obtain ⟨B2,d2,P2,p2,A2,c2,rfl,_,_,_⟩:=hB.parts
  have HT:=Lib.hid (And.intro hA hB)
  clear hA hB
  go_enter Tryz.func144,Tryz.ntmps144
  go_wp2_with fail
  go_loopg [5] a.size (fun k s wr=>SameRelF w a b k s wr)
  case atStart=>
    have b0:=below_box w (Obj.cells #[.int .i64 a.kind,.int .i64 a.type.kind,.slice B1 a.type.args.length d1,.slice P1 a.terms.length p1,.slice A1 a.args.length c1] 34)
    obtain ⟨b2,z2,_⟩:=new_blk b0 b0.size #[.int .i64 b.kind,.int .i64 b.type.kind,.slice B2 b.type.args.length d2,.slice P2 b.terms.length p2,.slice A2 b.args.length c2] 34
    have z2':(((w.alloc (Obj.cells #[.int .i64 a.kind,.int .i64 a.type.kind,.slice B1 a.type.args.length d1,.slice P1 a.terms.length p1,.slice A1 a.args.length c1] 34)).alloc (Obj.cells #[.int .i64 b.kind,.int .i64 b.type.kind,.slice B2 b.type.args.length d2,.slice P2 b.terms.length p2,.slice A2 b.args.length c2] 34))).heap.size=w.heap.size+2:=by simp
    refine ⟨[(a,b)],?_,by simp,by simp [pairsSizeF],by simpa [pairsBulkF] using hsz,b2.alloc b2.size _,by simp⟩
    have h0:FmsR.is (· < w.heap.size) _ (a,b) ([.int .i64 a.kind,.int .i64 a.type.kind,.slice B1 a.type.args.length d1,.slice P1 a.terms.length p1,.slice A1 a.args.length c1] ++ [.int .i64 b.kind,.int .i64 b.type.kind,.slice B2 b.type.args.length d2,.slice P2 b.terms.length p2,.slice A2 b.args.length c2]):=⟨_,_,rfl,FmR.keep (fun b h=>h) (fun p hp=>b2.cell hp) HT.out.1,FmR.keep (fun b h=>h) (fun p hp=>b2.cell hp) HT.out.2⟩
    have h1:=Rep.Own.built (R:=FmsR) (base:=w.heap.size+2) (Rep.Ch.one (R:=FmsR) h0) (fun b hb=>by have:b<w.heap.size:=hb; omega) (by omega) (by simp [maxLen]) (by simp)
    rw [z2'] at h1
    exact h1
  case round=>
    obtain ⟨st,hown,heq,hk,hbk,hbel,hz⟩:=hrel
    rcases List.eq_nil_or_concat st with rfl | ⟨ts,⟨x,y⟩,rfl⟩
    · obtain ⟨A3,c3,rfl⟩:=hown.form
      have hab:a=b:=heq.1 (by simp)
      go_wp2_with fail
      go_ret
      exact ⟨ret_boolD (sameF_iff.2 hab).symm,hbel⟩
    · simp only [List.concat_eq_append] at hown heq hk hbk
      obtain ⟨g,cap,B3,B4,d3,d4,P3,P4,p3,p4,A3,A4,c3,c4,rfl,hg0,hg1,hcap,hcell,hx,hy,hown2⟩:=own_last_fms hown
      have q0:wr.cell? ⟨g,ts.length * 10,none⟩ = some (.int .i64 x.kind):=hcell 0 _ rfl
      have q1:wr.cell? ⟨g,ts.length * 10+1,none⟩ = some (.int .i64 x.type.kind):=hcell 1 _ rfl
      have q2:wr.cell? ⟨g,ts.length * 10+2,none⟩ = some (.slice B3 x.type.args.length d3):=hcell 2 _ rfl
      have q3:wr.cell? ⟨g,ts.length * 10+3,none⟩ = some (.slice P3 x.terms.length p3):=hcell 3 _ rfl
      have q4:wr.cell? ⟨g,ts.length * 10+4,none⟩ = some (.slice A3 x.args.length c3):=hcell 4 _ rfl
      have q5:wr.cell? ⟨g,ts.length * 10+5,none⟩ = some (.int .i64 y.kind):=hcell 5 _ rfl
      have q6:wr.cell? ⟨g,ts.length * 10+5+1,none⟩ = some (.int .i64 y.type.kind):=hcell 6 _ rfl
      have q7:wr.cell? ⟨g,ts.length * 10+5+2,none⟩ = some (.slice B4 y.type.args.length d4):=hcell 7 _ rfl
      have q8:wr.cell? ⟨g,ts.length * 10+5+3,none⟩ = some (.slice P4 y.terms.length p4):=hcell 8 _ rfl
      have q9:wr.cell? ⟨g,ts.length * 10+5+4,none⟩ = some (.slice A4 y.args.length c4):=hcell 9 _ rfl
      have hxb:pairsBulkF ts+x.bulk≤400000:=by rw [pairsBulkF_append] at hbk; simpa [pairsBulkF] using hbk
      have hll:=pairsBulkF_len ts
      have hxp:=bulkF_pos x
      have HX:=Lib.hid (And.intro hx hy)
      have HO:=Lib.hid hown2
      have HF:=Lib.hid (And.intro heq (And.intro hk hbk))
      clear hx hy hown2 heq hk hbk hown hcell
      have hxa:=bulkAllF_len x.args
      have hxe:=bulkF_eq x
      have hxal:x.args.length≤400000:=by omega
      have hxtn:x.type.nodes≤400000:=by omega
      have hxte:bulkAll x.terms≤400000:=by omega
      have hlen:ts.length+1≤400000:=by omega
      go_upto_region 4 with fail
      go_cut [7,8] from 20 to 29 (fun s7 s8 wx=>∃ b7 b8:Nat,s7=.pointer (some ⟨b7,0,none⟩)∧s8=.pointer (some ⟨b8,0,none⟩)∧Blk wx b7 34 #[.int .i64 x.kind,.int .i64 x.type.kind,.slice B3 x.type.args.length d3,.slice P3 x.terms.length p3,.slice A3 x.args.length c3] ∧
        Blk wx b8 34 #[.int .i64 y.kind,.int .i64 y.type.kind,.slice B4 y.type.args.length d4,.slice P4 y.terms.length p4,.slice A4 y.args.length c4]∧wr.heap.size≤b7∧wr.heap.size≤b8∧Below wr.heap.size wr wx)
      case first=>
        go_region
        all_goals (go_wp2_with fail; go_meet)
        all_goals first
          | exact ⟨wr.heap.size,wr.heap.size+1,rfl,rfl,two_newF wr _ _⟩
          | exact ⟨wr.heap.size+1,wr.heap.size,rfl,rfl,two_newF' wr _ _⟩
      case rest=>
        obtain ⟨b7,b8,rfl,rfl,hx7,hx8,h7,h8,hbc⟩:=hcut
        have hbw:=hbc.size
        have HXC:=Lib.hid (show IsFm (· < w.heap.size) wc x _ from IsFm.keep (fun b hb=>hb.1) (fun p hp=>hbc.cell hp.2) _ HX.out.1)
        have HYC:=Lib.hid (show IsFm (· < w.heap.size) wc y _ from IsFm.keep (fun b hb=>hb.1) (fun p hp=>hbc.cell hp.2) _ HX.out.2)
        have HOC:=Lib.hid (HO.out.below hbc)
        have HBC:=Lib.hid (show Below w.heap.size w wc from hbel.trans (hbc.mono (by omega)))
        have HK:=Lib.hid (And.intro hx7 hx8)
        obtain ⟨x0,x1,x2,x3,x4,_,_,_,_,_⟩:=hx7.facts5
        obtain ⟨y0,y1,y2,y3,y4,_,_,_,_,_⟩:=hx8.facts5
        clear hx7 hx8 HX HO q0 q1 q2 q3 q4 q5 q6 q7 q8 q9 hbc hbel
        go_wp2_with fail
        refine (alikeF_any x y _ _ wc hxtn hxte (HXC.out.keep (fun b h=>by have h':b<w.heap.size:=h; show b<wc.heap.size; omega) (fun _ _=>rfl)) (HYC.out.keep (fun b h=>by have h':b<w.heap.size:=h; show b<wc.heap.size; omega) (fun _ _=>rfl))).mono ?_
        rintro e w5 ⟨rfl,hb5⟩
        have B5:=Lib.hid (HBC.out.trans (hb5.mono (by omega)))
        have C5:=Lib.hid hb5
        have hz5:=hb5.size
        clear hb5 x0 x1 x2 x3 x4 y0 y1 y2 y3 y4
        cases hal:alikeFm x y with
        | false=>
          have hne:a≠b:=fun e=>by
            have:=HF.out.1.2 e (x,y) (by simp)
            have hxy:x=y:=this
            rw [hxy,alikeF_self] at hal
            cases hal
          clear hal
          go_wp2_with fail
          go_ret
          exact ⟨ret_boolD (sameF_not hne).symm,B5.out⟩
        | true=>
          obtain ⟨hxy,hlen2⟩:=alikeF_args hal
          have HXY:=Lib.hid (And.intro hal hxy)
          have hla:FmR.Sl (· < w.heap.size) w5 x.args (.slice A3 x.args.length c3):=by
            have h:=IsFm.keep (S':=(· < w.heap.size)) (w':=w5) (fun _ h=>h) (fun p hp=>C5.out.cell (by have h':p.block<w.heap.size:=hp; omega)) _ HXC.out
            cases x; exact (isFm_iff.1 h).2.2.2
          have hlb:FmR.Sl (· < w.heap.size) w5 y.args (.slice A4 y.args.length c4):=by
            have h:=IsFm.keep (S':=(· < w.heap.size)) (w':=w5) (fun _ h=>h) (fun p hp=>C5.out.cell (by have h':p.block<w.heap.size:=hp; omega)) _ HYC.out
            cases y; exact (isFm_iff.1 h).2.2.2
          have H0:=Lib.hid (show InnerF w ts x y b7 b8 B3 P3 A3 B4 P4 A4 d3 p3 c3 d4 p4 c4 0 (.slice (some ⟨g,0,none⟩) ts.length cap) w5 from
            ⟨by simpa using HOC.out.below C5.out,HK.out.1.below C5.out HK.out.1.lt,HK.out.2.below C5.out HK.out.2.lt,by simp [Value.ownBlock]; omega,by simp [Value.ownBlock]; omega,B5.out,by omega,hla,hlb⟩)
          obtain ⟨_,_,_,_,x4,_,_,_,_,_⟩:=(HK.out.1.below C5.out HK.out.1.lt).facts5
          have HL2:=Lib.hid hlen2
          clear hal hxy hla hlb hlen2
          go_wp2_with fail
          go_loopw [5,40] (fun s i wx=>∃ j:Nat,j≤x.args.length∧i=.int .i64 j∧InnerF w ts x y b7 b8 B3 P3 A3 B4 P4 A4 d3 p3 c3 d4 p4 c4 j s wx)
            (fun _ i _=>x.args.length - (intOf i).toNat)
          case atStart=>exact ⟨0,by omega,rfl,H0.out⟩
          case round=>
            obtain ⟨j,hj,rfl,hP⟩:=hrel
            by_cases hlt:j<x.args.length
            · have hjy':j<y.args.length:=by have:=HL2.out; omega
              have hjy:(j:Int)<(y.args.length:Int):=by omega
              have hjx:(j:Int)<(x.args.length:Int):=by omega
              have hpl:(ts ++ (x.args.zip y.args).take j).length≤900000:=by simp only [List.length_append,List.length_take,List.length_zip]; omega
              obtain ⟨hown,k7,k8,n7,n8,hbl,hz2,hla,hlb⟩:=hP
              obtain ⟨ax,B5',e5,P5,p5,A5,f5,rfl,hax,q0,q1,q2,q3,q4,hxj⟩:=sl_childF hla j hlt
              obtain ⟨ay,B6,e6,P6,p6,A6,f6,rfl,hay,s0,s1,s2,s3,s4,hyj⟩:=sl_childF hlb j hjy'
              obtain ⟨_,_,_,_,x4,_⟩:=k7.facts5
              obtain ⟨_,_,_,_,y4,_⟩:=k8.facts5
              obtain ⟨xs,hown,hxc⟩:=hown
              have hown:wr.ownsRow (w.heap.size+2) 151 10 u5 (ts ++ (x.args.zip y.args).take j).length xs:=hown
              obtain ⟨i0,hi,hz0,hz1,hz2'⟩:=info_parts info_pairF
              have HIN:=Lib.hid (And.intro hxc (And.intro k7 (And.intro k8 (And.intro n7 (And.intro n8 (And.intro hbl (And.intro hz2 (And.intro hla (And.intro hlb (And.intro hxj hyj))))))))))
              clear hxc k7 k8 n7 n8 hbl hla hlb hxj hyj
              go_upto_region 11 with fail
              go_region_law (refine step_append_lies _ rfl (.tmp 43) (.tmp 55) 152 rfl (w.heap.size+2) 151 i0 _ 10 176 Tryz.underlying152 hi hz0 hz1 hz2' rfl (by decide) u5 (ts ++ (x.args.zip y.args).take j).length xs rfl (hown.alloc _).drew ⟨wr.heap.size,0,none⟩ 1 1 [.int .i64 x.args[j].kind,.int .i64 x.args[j].type.kind,.slice B5' x.args[j].type.args.length e5,.slice P5 x.args[j].terms.length p5,.slice A5 x.args[j].args.length f5,.int .i64 y.args[j].kind,.int .i64 y.args[j].type.kind,.slice B6 y.args[j].type.args.length e6,.slice P6 y.args[j].terms.length p6,.slice A6 y.args[j].args.length f6] rfl rfl (cells_new _ _ _) (by simp [Value.oneCell']) (by decide) (by simp only [maxLen]; omega) (by omega) (by simp; omega) _ rfl ?_; intro g2 cap2 w2 hown2 hg2 hat2 hlt3)
              all_goals (go_wp2_with fail)
              all_goals
                obtain ⟨hxc,k7,k8,n7,n8,hbl,hz2,hla,hlb,hxj,hyj⟩:=HIN.out
                have hst:=innerF_step (vx:=[.int .i64 x.args[j].kind,.int .i64 x.args[j].type.kind,.slice B5' x.args[j].type.args.length e5,.slice P5 x.args[j].terms.length p5,.slice A5 x.args[j].args.length f5]) (vy:=[.int .i64 y.args[j].kind,.int .i64 y.args[j].type.kind,.slice B6 y.args[j].type.args.length e6,.slice P6 y.args[j].terms.length p6,.slice A6 y.args[j].args.length f6]) hlt hjy' hown hxc k7 k8 n7 n8 hbl hz2 hla hlb hxj hyj hown2 hg2 hat2
                exact ⟨⟨j+1,by omega,by go_num,by simpa using hst⟩,by simp [intOf]; omega⟩
            · have hjl:(x.args.zip y.args).length≤j:=by simp; have:=HL2.out; omega
              obtain ⟨hown,_,_,_,_,hbl,hz2,_,_⟩:=hP
              rw [List.take_of_length_le hjl] at hown
              have HBL:=Lib.hid (And.intro hown hbl)
              clear hown hbl hjl
              go_wp2_with fail
              go_roundg (pairsSizeF (ts ++ x.args.zip y.args))
              case rel=>
                obtain ⟨z1,z2,z3⟩:=pairsF_zip x.args y.args HL2.out
                obtain ⟨f1,f2,f3⟩:=HF.out
                refine ⟨_,HBL.out.1,?_,rfl,?_,HBL.out.2,hz2⟩
                · rw [← f1]
                  constructor
                  · intro h p hp
                    rcases List.mem_append.1 hp with hp | hp
                    · exact h p (List.mem_append_left _ hp)
                    · simp only [List.mem_singleton] at hp
                      subst hp
                      have hl:=z3.1 (fun q hq=>h q (List.mem_append_right _ hq))
                      show x=y
                      rw [HXY.out.2,hl]
                      cases y; rfl
                  · intro h p hp
                    have hxy:x=y:=h (x,y) (by simp)
                    rcases List.mem_append.1 hp with hp | hp
                    · exact h p (List.mem_append_left _ hp)
                    · exact z3.2 (by rw [hxy]) p hp
                · rw [pairsBulkF_append] at f3 ⊢
                  simp only [pairsBulkF] at f3
                  have:=bulkF_eq x
                  omega
              case measure=>
                obtain ⟨z1,_,_⟩:=pairsF_zip x.args y.args HL2.out
                obtain ⟨f1,f2,f3⟩:=HF.out
                rw [pairsSizeF_append] at f2 ⊢
                simp only [pairsSizeF] at f2
                have:=sizeF_eq x
                omega
end Go.Proofs.YthlknhkemmdocaaGreatDoor
namespace Go.Proofs.YthlknhkemmdocaaGreatDoor
open Go.RowKit

def v0Tm:Tm:=.mk 1 0 .zero []
/-- What stands for no term. -/
def noneTm:Tm:=.mk 0 0 .zero []
theorem isTm_none (S:Nat→Prop) (w:World):IsTm S w noneTm (.agg #[.int .i64 0,.int .i64 0,.int .i64 0,.slice none 0 0,.slice none 0 0]):=isTm_iff.2 ⟨rfl,rfl,IsTy.leaf _ _ _,Rep.Sl.nil _ _⟩
noncomputable def limitF (f:Fm):Option Tm:=
  match f.terms with
  | [a,_]=>match a.args with
    | [_,t]=>if f.kind=1∧a.kind=3∧f.same (lessFm v0Tm t)=true then some t else none
    | _=>none
  | _=>none
theorem limitF_kind {f:Fm} (h:f.kind≠1):limitF f=none:=by
  unfold limitF; split
  · split
    · rw [if_neg (fun e=>h e.1)]
    · rfl
  · rfl
theorem limitF_app {f:Fm} {a b:Tm} (ht:f.terms=[a,b]) (h:a.kind≠3):limitF f=none:=by
  unfold limitF; rw [ht]
  simp only
  split
  · rw [if_neg (fun e=>h e.2.1)]
  · rfl
theorem limitF_is {f:Fm} {a b p t:Tm} (ht:f.terms=[a,b]) (hp:a.args=[p,t]) (hk:f.kind=1) (h:a.kind=3):limitF f=if f.same (lessFm v0Tm t)=true then some t else none:=by
  unfold limitF; rw [ht]
  simp only [hp,hk,h,true_and]

def LimitR (S:Nat→Prop) (r:Option Tm) (w:World) (e:Ending) (w':World):Prop:=
  ∃ u,e=.returned (.tuple #[u,.bool r.isSome])∧IsTm (fun b=>(S b∨w.heap.size≤b)∧b<w'.heap.size) w' (r.getD noneTm) u∧Below w.heap.size w w'

set_option maxRecDepth 100000 in
set_option maxHeartbeats 4000000 in
theorem limit_kind (S:Nat→Prop) (f:Fm) (v:Value) (w:World) (hk:f.kind≠1) (hF:IsFm S w f v) :
    Calls Tryz.prog 116 #[v] w (LimitR S (limitF f) w):=by
  rw [limitF_kind hk]
  obtain ⟨B,d,C,e0,A,c,rfl,_,_⟩:=hF.form
  have e1:(f.kind != 1)=true:=by simpa using hk
  obtain ⟨W,hW,b2,z2,k0,k1⟩:=alloc2_facts w #[.int .i64 f.kind,.int .i64 f.type.kind,.slice B f.type.args.length d,.slice C f.terms.length e0,.slice A f.args.length c] #[.int .i64 0,.int .i64 0,.int .i64 0,.slice none 0 0,.slice none 0 0] 34 42
  obtain ⟨r0,r1,r2,r3,r4,_,_,_,_,_⟩:=k0.facts5
  obtain ⟨s0,s1,s2,s3,s4,m0,m1,m2,m3,m4⟩:=k1.facts5
  have HK:=Lib.hid k1
  have HB:=Lib.hid b2
  clear hF hk k0 k1 b2 z2
  go_enter Tryz.func116,Tryz.ntmps116
  go_upto_region 1 with fail
  rw [← hW]
  clear hW
  go_wp2_with fail
  obtain ⟨z0,z1,z2,z3,z4⟩:=(HK.out.set5 (.int .i64 0) (.int .i64 0) (.int .i64 0) (.slice none 0 0) (.slice none 0 0)).cells5
  exact bodyPost_ret (v:=.tuple #[.agg #[.int .i64 0,.int .i64 0,.int .i64 0,.slice none 0 0,.slice none 0 0],.bool false]) (by simp [results,Tryz.results116,go_sem,z0,z1,z2,z3,z4]) rfl ⟨_,rfl,isTm_none _ _,below_set5' HB.out (by omega) _ _ _ _ _⟩

set_option maxRecDepth 100000 in
set_option maxHeartbeats 4000000 in
theorem limit_app (S:Nat→Prop) (f:Fm) (a b:Tm) (v:Value) (w:World) (hk:f.kind=1) (ht:f.terms=[a,b]) (ha:a.kind≠3) (hS:∀ b,S b→b<w.heap.size) (hF:IsFm S w f v) :
    Calls Tryz.prog 116 #[v] w (LimitR S (limitF f) w):=by
  rw [limitF_app ht ha]
  obtain ⟨B,d,C,e0,A,c,rfl,_,hl⟩:=hF.form
  have e1:(f.kind != 1)=false:=by simpa using hk
  have e2:(a.kind != 3)=true:=by simpa using ha
  rw [ht] at hl
  obtain ⟨aq,Ba,da,Aa,ca,rfl,haq,q0,q1,q2,q3,q4,_⟩:=sl_child hl 0 (by simp)
  simp only [Nat.zero_mul,add_zero',List.getElem_cons_zero] at haq q0
  obtain ⟨W,hW,b2,z2,k0,k1⟩:=alloc2_facts w #[.int .i64 f.kind,.int .i64 f.type.kind,.slice B f.type.args.length d,.slice (some aq) f.terms.length e0,.slice A f.args.length c] #[.int .i64 0,.int .i64 0,.int .i64 0,.slice none 0 0,.slice none 0 0] 34 42
  have c0:=(b2.cell (hS _ haq)).trans q0
  obtain ⟨r0,r1,r2,r3,r4,_,_,_,_,_⟩:=k0.facts5
  obtain ⟨s0,s1,s2,s3,s4,m0,m1,m2,m3,m4⟩:=k1.facts5
  have EL:=Lib.hid (show f.terms.length=2 by rw [ht]; rfl)
  have HK:=Lib.hid k1
  have HB:=Lib.hid b2
  clear hF hk ha k0 k1 b2 z2 q0 q1 q2 q3 q4 hl ht hS haq
  go_enter Tryz.func116,Tryz.ntmps116
  go_upto_region 1 with fail
  rw [← hW]
  clear hW
  have el:=EL.out
  go_wp2_with fail
  obtain ⟨z0,z1,z2,z3,z4⟩:=(HK.out.set5 (.int .i64 0) (.int .i64 0) (.int .i64 0) (.slice none 0 0) (.slice none 0 0)).cells5
  exact bodyPost_ret (v:=.tuple #[.agg #[.int .i64 0,.int .i64 0,.int .i64 0,.slice none 0 0,.slice none 0 0],.bool false]) (by simp [results,Tryz.results116,go_sem,z0,z1,z2,z3,z4]) rfl ⟨_,rfl,isTm_none _ _,below_set5' HB.out (by omega) _ _ _ _ _⟩

theorem add_five (a:Addr):a.add 5=⟨a.block,a.off+5,none⟩:=by simp [Addr.add]
def limA (i j:Nat):Bool:=([0,0,0,6,15,31].getD i 0).testBit j
noncomputable def limFacts (f:Fm) (t:Tm) (N T:Value) (i:Nat) (V:Nat→Value) (_:Nat→Unit):RFact:=
  match i with
  | 0=>.pure (V 0=N)
  | 1=>.pure (V 1=.agg #[.int .i64 1,.int .i64 0,.int .i64 0,.slice none 0 0,.slice none 0 0])
  | 2=>.pure (V 2=T)
  | 3=>.fm (lessFm v0Tm t) (V 3) True
  | 4=>.pure (V 4=.bool (f.same (lessFm v0Tm t)))
  | _=>.pure (V 5=.bool (!f.same (lessFm v0Tm t)))
set_option maxRecDepth 100000 in
set_option maxHeartbeats 4000000 in
theorem limit_is (S:Nat→Prop) (f:Fm) (a b p t:Tm) (v:Value) (w:World) (hk:f.kind=1) (ht:f.terms=[a,b]) (ha:a.kind=3) (hp:a.args=[p,t]) (hsz:f.bulk≤400000) (hS:∀ b,S b→b<w.heap.size) (hF:IsFm S w f v) :
    Calls Tryz.prog 116 #[v] w (LimitR S (limitF f) w):=by
  obtain ⟨R,hR⟩:∃ R,R=limitF f:=⟨_,rfl⟩
  rw [← hR]
  rw [limitF_is ht hp hk ha] at hR
  have HR:=Lib.hid hR
  clear hR
  have hF0:=hF
  obtain ⟨B,d,C,e0,A,c,rfl,_,hl⟩:=hF.form
  have e1:(f.kind != 1)=false:=by simpa using hk
  have e2:(a.kind != 3)=false:=by simpa using ha
  rw [ht] at hl
  obtain ⟨aq,Ba,da,Aa,ca,rfl,haq,q0,q1,q2,q3,q4,hIa⟩:=sl_child hl 0 (by simp)
  simp only [Nat.zero_mul,add_zero',List.getElem_cons_zero] at haq q0 q4 hIa
  obtain ⟨_,_,_,_,ev,_,hpl⟩:=hIa.parts
  simp only [Value.agg.injEq,Array.mk.injEq,List.cons.injEq,Value.slice.injEq,and_true] at ev
  obtain ⟨_,_,_,_,rfl,_,rfl⟩:=ev
  rw [hp] at hpl
  obtain ⟨pq,Bt,dt,At,ct,rfl,hpq,y0,y1,y2,y3,y4,hIt⟩:=sl_child hpl 1 (by simp)
  simp only [Nat.one_mul,add_five,List.getElem_cons_succ,List.getElem_cons_zero] at hpq y0 y1 y2 y3 y4 hIt
  obtain ⟨W,hW,b2,z2,k0,k1⟩:=alloc2_facts w #[.int .i64 f.kind,.int .i64 f.type.kind,.slice B f.type.args.length d,.slice (some aq) f.terms.length e0,.slice A f.args.length c] #[.int .i64 0,.int .i64 0,.int .i64 0,.slice none 0 0,.slice none 0 0] 34 42
  have c0:=(b2.cell (hS _ haq)).trans q0
  have c4:=(b2.cell (p:=⟨aq.block,aq.off+4,none⟩) (hS _ haq)).trans q4
  have d0:=(b2.cell (p:=⟨pq.block,pq.off+5,none⟩) (hS _ hpq)).trans y0
  have d1:=(b2.cell (p:=⟨pq.block,pq.off+5+1,none⟩) (hS _ hpq)).trans y1
  have d2:=(b2.cell (p:=⟨pq.block,pq.off+5+2,none⟩) (hS _ hpq)).trans y2
  have d3:=(b2.cell (p:=⟨pq.block,pq.off+5+3,none⟩) (hS _ hpq)).trans y3
  have d4:=(b2.cell (p:=⟨pq.block,pq.off+5+4,none⟩) (hS _ hpq)).trans y4
  obtain ⟨r0,r1,r2,r3,r4,_,_,_,_,_⟩:=k0.facts5
  obtain ⟨s0,s1,s2,s3,s4,m0,m1,m2,m3,m4⟩:=k1.facts5
  obtain ⟨X,hX,hbX,zX,kT⟩:∃ X,X=W.alloc (.cells #[.int .i64 t.kind,.int .i64 t.index,.int .i64 t.type.kind,.slice Bt t.type.args.length dt,.slice At t.args.length ct] 42)∧Below W.heap.size W X∧X.heap.size=W.heap.size+1∧Blk X W.heap.size 42 #[.int .i64 t.kind,.int .i64 t.index,.int .i64 t.type.kind,.slice Bt t.type.args.length dt,.slice At t.args.length ct]:=⟨_,rfl,(Below.refl _ _).alloc (Nat.le_refl _) _,by simp,Blk.new _ _ _⟩
  have EL:=Lib.hid (And.intro (show f.terms.length=2 by rw [ht]; rfl) (show a.args.length=2 by rw [hp]; rfl))
  have HB:=Lib.hid (b2.trans (hbX.mono b2.size))
  have K0:=Lib.hid (k0.below hbX k0.lt)
  have K1:=Lib.hid (k1.below hbX k1.lt)
  have KT:=Lib.hid kT
  have HZ:=Lib.hid (And.intro z2 (And.intro zX hS))
  have TF:=Lib.hid (show IsFm S X f _ from IsFm.keep (fun _ h=>h) (fun q hq=>HB.out.cell (hS _ hq)) _ hF0)
  have TT:=Lib.hid (show IsTm S X t _ from IsTm.keep (fun _ h=>h) (fun q hq=>HB.out.cell (hS _ hq)) _ hIt)
  have HX:=Lib.hid hX
  have HSZ:=Lib.hid hsz
  clear hF hF0 hk ha k0 k1 b2 z2 zX hbX kT hX q0 q1 q2 q3 q4 hl ht hS haq hpq hpl hIa hIt hp y0 y1 y2 y3 y4 hsz
  go_enter Tryz.func116,Tryz.ntmps116
  go_upto_region 1 with fail
  rw [← hW]
  clear hW
  have el:=EL.out.1
  have el2:=EL.out.2
  go_upto_region 4 with fail
  rw [← HX.out]
  refine wp_region_any (by kernel_rfl) ?_
  change wpAny _ _ _ _ _ _ _ (World.drew _)
  obtain ⟨L0,hL0⟩:∃ L0:Nat→Prop,L0=fun b=>b<X.heap.size∧¬ S b:=⟨_,rfl⟩
  have hz:=HZ.out
  have hG:∀ b,S b→Good L0 X.drew b:=fun b h1=>⟨by rw [hL0]; exact fun e=>e.2 h1,by have:=hz.2.2 b h1; simp; omega⟩
  have TT0:=Lib.hid (show IsTm (Good L0 X.drew) X.drew t _ from IsTm.keep (w:=X) (w':=X.drew) hG (fun _ _=>rfl) _ TT.out)
  have TF0:=Lib.hid (show IsFm (Good L0 X.drew) X.drew f _ from IsFm.keep (w:=X) (w':=X.drew) hG (fun _ _=>rfl) _ TF.out)
  refine wpAny_facts (by kernel_rfl) (by kernel_rfl) () limA (by kernel_rfl) (fun _=>none) (by kernel_rfl) (limFacts f t (.agg #[.int .i64 f.kind,.int .i64 f.type.kind,.slice B f.type.args.length d,.slice (some aq) f.terms.length e0,.slice A f.args.length c]) (.agg #[.int .i64 t.kind,.int .i64 t.index,.int .i64 t.type.kind,.slice Bt t.type.args.length dt,.slice At t.args.length ct])) L0 (fun _=>False) (fun _=>True) _ _ (fun b h=>by rw [hL0] at h; exact h.1) (fun _ h=>h.elim) trivial ⟨?_,?_,?_,?_,?_,?_,trivial⟩ ?_
  · intro V G L a1 w1 hp K hK
    refine step_run rfl (run_load5F rfl (hp.slot0 1 _ rfl rfl) (hp.blk0 K0.out.drew id)) ?_
    exact hK _ () _ (Post.still rfl trivial hp.lt fun L' _=>rfl)
  · intro V G L a1 w1 hp K hK
    refine step_call rfl _ _ _ rfl #[] (by simp) (enters_of Tryz.func76 (by kernel_rfl) rfl) (cnum_any w1) ?_
    rintro e w' ⟨rfl,hb⟩
    exact ⟨_,rfl,hK _ () _ (Post.of rfl (Turn.call hb) trivial hp.lt fun L' _ _=>rfl)⟩
  · intro V G L a1 w1 hp K hK
    refine step_run rfl (run_load5 rfl (hp.slot0 4 _ rfl rfl) (hp.blk0 KT.out.drew id)) ?_
    exact hK _ () _ (Post.still rfl trivial hp.lt fun L' _=>rfl)
  · intro V G L a1 w1 hp K hK
    have f1:V 1=_:=hp.fact 1 rfl
    have f2:V 2=_:=hp.fact 2 rfl
    have g0:=hp.slot 1 25 rfl rfl rfl
    have g1:=hp.slot 2 26 rfl rfl rfl
    rw [f1] at g0
    rw [f2] at g1
    refine step_call rfl _ _ _ rfl _ (by simp only [List.map_toArray,List.map_cons,List.map_nil,g0,g1]) (enters_of Tryz.func75 (by kernel_rfl) rfl) (cless_any (Good L w1) v0Tm t _ _ w1 (fun b h=>h.2) (isTm_iff.2 ⟨rfl,rfl,IsTy.leaf _ _ _,Rep.Sl.nil _ _⟩) (hp.tm0 TT0.out)) ?_
    rintro e w' ⟨v,rfl,ht,hb⟩
    exact ⟨_,rfl,hK _ () _ (Post.of rfl (Turn.call hb) trivial hp.lt fun L' hg hn=>⟨IsFm.keep (fun b h=>h.1.elim (hg b) (fun h'=>hn b h' h.2)) (fun _ _=>rfl) _ ht,trivial⟩)⟩
  · intro V G L a1 w1 hp K hK
    have f0:V 0=_:=hp.fact 0 rfl
    have f3:IsFm (Good L w1) w1 _ (V 3)∧True:=hp.fact 3 rfl
    have g0:=hp.slot 0 24 rfl rfl rfl
    have g1:=hp.slot 3 27 rfl rfl rfl
    rw [f0] at g0
    refine step_call rfl _ _ _ rfl _ (by simp only [List.map_toArray,List.map_cons,List.map_nil,g0,g1]) (enters_of Tryz.func144 (by kernel_rfl) rfl) (sameFm_any f (lessFm v0Tm t) _ _ w1 HSZ.out (IsFm.keep (fun b h=>h.2) (fun _ _=>rfl) _ (hp.fm0 TF0.out)) (IsFm.keep (fun b h=>h.2) (fun _ _=>rfl) _ f3.1)) ?_
    rintro e w' ⟨rfl,hb⟩
    exact ⟨_,rfl,hK _ () _ (Post.of rfl (Turn.call hb) trivial hp.lt fun L' _ _=>rfl)⟩
  · intro V G L a1 w1 hp K hK
    have f4:V 4=_:=hp.fact 4 rfl
    have g0:=hp.slot 4 28 rfl rfl rfl
    rw [f4] at g0
    refine step_run rfl (run_not rfl g0) ?_
    exact hK _ () _ (Post.still rfl trivial hp.lt fun L' _=>rfl)
  · intro V G w1 L hg _ hf hL hd
    have h5:V 5=.bool (!f.same (lessFm v0Tm t)):=(hf 5 (by decide) rfl).1
    have BX:=Lib.hid (show Below X.heap.size X w1 from ⟨hg.os,hg.tape,hg.output,hg.size,fun k hk=>hg.block k hk id⟩)
    simp only [putFrom,dstOf,Act.put,List.size_toArray,List.length_cons,List.length_nil,Nat.zero_add,Nat.reduceAdd,List.getElem?_toArray,List.getElem?_cons_zero,List.getElem?_cons_succ,List.setIfInBounds_toArray,List.set_cons_zero,List.set_cons_succ,h5]
    clear hg hf hL hd h5 hG hL0 TT0 TF0 r0 r1 r2 r3 r4 s0 s1 s2 s3 s4 m0 m1 m2 m3 m4 c0 c4 d0 d1 d2 d3 d4
    generalize V 0=v0
    generalize V 1=v1
    generalize V 2=v2
    generalize V 3=v3
    generalize V 4=v4
    obtain ⟨s0,s1,s2,s3,s4,m0,m1,m2,m3,m4⟩:=(K1.out.below BX.out K1.out.lt).facts5
    have HW:=Lib.hid (show w.heap.size+1<w.heap.size+2∧W.heap.size=w.heap.size+2 by omega)
    have BW:=Lib.hid (HB.out.trans (BX.out.mono HB.out.size))
    clear hz
    cases hs:f.same (lessFm v0Tm t) with
    | false=>
      have hR:R=none:=by rw [HR.out,hs]; rfl
      have HR':=Lib.hid hR
      clear hs hR
      go_wp2_with fail
      obtain ⟨z0,z1,z2,z3,z4⟩:=((K1.out.below BX.out K1.out.lt).set5 (.int .i64 0) (.int .i64 0) (.int .i64 0) (.slice none 0 0) (.slice none 0 0)).cells5
      exact bodyPost_ret (v:=.tuple #[.agg #[.int .i64 0,.int .i64 0,.int .i64 0,.slice none 0 0,.slice none 0 0],.bool false]) (by simp [results,Tryz.results116,go_sem,z0,z1,z2,z3,z4]) rfl ⟨_,by rw [HR'.out]; rfl,by rw [HR'.out]; exact isTm_none _ _,below_set5' BW.out (by omega) _ _ _ _ _⟩
    | true=>
      have hR:R=some t:=by rw [HR.out,hs]; rfl
      have HR':=Lib.hid hR
      clear hs hR
      obtain ⟨t0,t1,t2,t3,t4,_,_,_,_,_⟩:=(KT.out.below BX.out KT.out.lt).facts5
      go_wp2_with fail
      obtain ⟨z0,z1,z2,z3,z4⟩:=((K1.out.below BX.out K1.out.lt).set5 (.int .i64 t.kind) (.int .i64 t.index) (.int .i64 t.type.kind) (.slice Bt t.type.args.length dt) (.slice At t.args.length ct)).cells5
      have hg5:=only_set5 w1 (w.heap.size+1) (.int .i64 t.kind) (.int .i64 t.index) (.int .i64 t.type.kind) (.slice Bt t.type.args.length dt) (.slice At t.args.length ct)
      have hS:=HZ.out.2.2
      refine bodyPost_ret (v:=.tuple #[.agg #[.int .i64 t.kind,.int .i64 t.index,.int .i64 t.type.kind,.slice Bt t.type.args.length dt,.slice At t.args.length ct],.bool true]) (by simp [results,Tryz.results116,go_sem,z0,z1,z2,z3,z4]) rfl ⟨_,by rw [HR'.out]; rfl,?_,below_set5' BW.out (by omega) _ _ _ _ _⟩
      rw [HR'.out]
      have hsz:=BW.out.size
      have hsz5:=hg5.size
      exact IsTm.keep (fun b h=>⟨.inl h,by have:=hS b h; omega⟩) (fun q hq=>(World.cell?_of_block (hg5.block q.block (by have:=hS _ hq; omega) (by have:=hS _ hq; simp; omega))).trans (BX.out.cell (by have:=hS _ hq; have:=HB.out.size; omega))) _ TT.out
theorem app_args {a:Tm} (h:a.err=0) (hk:a.kind=3):∃ p t,a.args=[p,t]:=by
  have h1:=(errT_zero.1 h).1
  rw [okT_eq] at h1
  simp only [Bool.and_eq_true] at h1
  have h2:=h1.1
  unfold Tm.formed at h2
  rw [hk] at h2
  simp only [Bool.and_eq_true,beq_iff_eq] at h2
  have h3:a.args.length=2:=h2.1.1.1.2
  match h4:a.args,h3 with
  | [p,t],_=>exact ⟨p,t,rfl⟩
theorem limit_any (S:Nat→Prop) (f:Fm) (v:Value) (w:World) (hf:GoodF f) (hsz:f.bulk≤400000) (hS:∀ b,S b→b<w.heap.size) (hF:IsFm S w f v) :
    Calls Tryz.prog 116 #[v] w (LimitR S (limitF f) w):=by
  by_cases hk:f.kind=1
  · cases hf with
    | eq s t hs ht=>
      by_cases ha:s.kind=3
      · obtain ⟨p,q,hp⟩:=app_args hs ha
        exact limit_is S _ s t p q v w rfl rfl ha hp hsz hS hF
      · exact limit_app S _ s t v w rfl rfl ha hS hF
    | two k a b hk' ha hb=>exfalso; have:k=1:=hk; omega
    | quant k T b hk' hT hb=>exfalso; have:k=1:=hk; omega
  · exact limit_kind S f v w hk hF
end Go.Proofs.YthlknhkemmdocaaGreatDoor
namespace Go.Proofs.YthlknhkemmdocaaGreatDoor
open Go.RowKit

theorem two_boxes (w:World) (c1 c2:Array Value) (t1 t2:TypeId):∃ W,W=(w.alloc (.cells c1 t1)).alloc (.cells c2 t2)∧Below w.heap.size w W∧W.heap.size=w.heap.size+2∧Blk W w.heap.size t1 c1∧Blk W (w.heap.size+1) t2 c2:=by
  obtain ⟨b1,z1,k1⟩:=new_blk (Below.refl w.heap.size w) (Nat.le_refl _) c1 t1
  generalize w.alloc (.cells c1 t1)=W1 at b1 z1 k1 ⊢
  obtain ⟨b2,z2,k2⟩:=new_blk b1 b1.size c2 t2
  rw [z1] at k2 z2
  exact ⟨_,rfl,b2,by omega,k1.alloc _,k2⟩
/-- What stands for no term. -/
def noTm:Tm:=.mk 0 0 .zero []
theorem isTm_no (S:Nat→Prop) (w:World):IsTm S w noTm (.agg #[.int .i64 0,.int .i64 0,.int .i64 0,.slice none 0 0,.slice none 0 0]):=
  isTm_iff.2 ⟨rfl,rfl,(show IsTy S w (.mk 0 []) _ from by unfold IsTy; exact ⟨none,0,rfl,fun h=>(h rfl).elim⟩),⟨none,0,rfl,fun h=>(h rfl).elim⟩⟩

set_option maxRecDepth 100000 in
set_option maxHeartbeats 4000000 in
theorem lowerTop_any (t:Tm) (v:Value) (m:Nat) (S:Nat→Prop) (w:World) (hb:t.bulk≤390000) (he:t.err=0) (hlow:t.low 536870912=true) (hm:m≤4096) (hocc:t.occ m=0) (htab:Tab w) (hS:∀ b,S b→b<w.heap.size) (hT:IsTm S w t v) :
    Calls Tryz.prog 50 #[v,.int .i64 m] w (GivesTm S (t.put m noTm) w):=by
  obtain ⟨B,d,A,c,rfl,_⟩:=IsTm.form hT
  have hok:=(errT_zero.1 he).1
  have HOK:=Lib.hid (And.intro hok (And.intro hlow (And.intro he hocc)))
  clear hok hlow he hocc
  go_enter Tryz.func50,Tryz.ntmps50
  go_upto_region 1 with fail
  obtain ⟨W,hW,bW,zW,k0,k1⟩:=two_boxes w #[.int .i64 t.kind,.int .i64 t.index,.int .i64 t.type.kind,.slice B t.type.args.length d,.slice A t.args.length c] #[.int .i64 0,.int .i64 0,.int .i64 0,.slice none 0 0,.slice none 0 0] 42 42
  rw [← hW]
  have HB:=Lib.hid (And.intro bW zW)
  have HK:=Lib.hid (And.intro k0 k1)
  have HS:=Lib.hid hS
  have HT:=Lib.hid (IsTm.keep (fun _ h=>h) (fun r hr=>bW.cell (hS _ hr)) _ hT)
  have HTab:=Lib.hid (htab.after bW)
  obtain ⟨r0,r1,r2,r3,r4,_,_,_,_,_⟩:=k0.facts5
  clear hW bW zW k0 k1 hT hS htab
  go_wp2_with fail
  refine (checkT_ok (t:=t) (w:=W) HOK.out.2.2.1 (by omega) HTab.out (IsTm.keep (fun b h=>Nat.lt_of_lt_of_le (HS.out b h) HB.out.1.size) (fun _ _=>rfl) _ HT.out)).mono ?_
  rintro e w1 ⟨rfl,hc1⟩
  have k0':=HK.out.1.below hc1 HK.out.1.lt
  obtain ⟨s0,s1,s2,s3,s4,_,_,_,_,_⟩:=k0'.facts5
  have HC1:=Lib.hid hc1
  clear hc1 k0' r0 r1 r2 r3 r4
  go_wp2_with fail
  refine (within_ok m w1 (by omega) (by omega)).mono ?_
  rintro e w1' ⟨rfl,rfl⟩
  go_wp2_with fail
  have T1:=Lib.hid (IsTm.keep (S':=S) (fun _ h=>h) (fun p hp=>HC1.out.cell (Nat.lt_of_lt_of_le (HS.out _ hp) HB.out.1.size)) _ HT.out)
  refine (occurs_any t _ m w1 (by omega) HOK.out.1 (low_mono (by omega) t HOK.out.2.1) (by omega) (IsTm.keep (fun b h=>Nat.lt_of_lt_of_le (HS.out b h) (Nat.le_trans HB.out.1.size HC1.out.size)) (fun _ _=>rfl) _ T1.out)).mono ?_
  rintro e w2 ⟨he2,hc2⟩
  rw [HOK.out.2.2.2] at he2
  subst he2
  have HC2:=Lib.hid (show Below W.heap.size W w2 from HC1.out.trans (hc2.mono HC1.out.size))
  have k0':=HK.out.1.below HC2.out HK.out.1.lt
  obtain ⟨r0,r1,r2,r3,r4,_,_,_,_,_⟩:=k0'.facts5
  clear hc2 k0' s0 s1 s2 s3 s4
  go_wp2_with fail
  refine (put_when t noTm _ _ m S w2 (by omega) HOK.out.1 (low_mono (by omega) t HOK.out.2.1) (fun h=>(h HOK.out.2.2.2).elim) (by omega) (fun b h=>Nat.lt_of_lt_of_le (HS.out b h) (Nat.le_trans HB.out.1.size HC2.out.size)) (IsTm.keep (fun _ h=>h) (fun p hp=>HC2.out.cell (Nat.lt_of_lt_of_le (HS.out _ hp) HB.out.1.size)) _ HT.out) (isTm_no _ _)).mono ?_
  rintro e w3 ⟨v',rfl,ht,hb'⟩
  obtain ⟨B6,e6,A6,c6,rfl,_⟩:=IsTm.form ht
  have hz:=HB.out.2
  have hzc:=HC2.out.size
  have HC3:=Lib.hid (show Below W.heap.size W w3 from HC2.out.trans (hb'.mono HC2.out.size))
  have k1':=HK.out.2.below HC3.out HK.out.2.lt
  obtain ⟨_,_,_,_,_,f0,f1,f2,f3,f4⟩:=k1'.facts5
  have HE:=Lib.hid (And.intro k1' ht)
  clear k1' ht hb' r0 r1 r2 r3 r4
  generalize hP:t.put m noTm=P at *
  go_wp2_with fail
  obtain ⟨y0,y1,y2,y3,y4⟩:=(HE.out.1.set5 (.int .i64 P.kind) (.int .i64 P.index) (.int .i64 P.type.kind) (.slice B6 P.type.args.length e6) (.slice A6 P.args.length c6)).cells5
  have hg:=only_set5 w3 (w.heap.size+1) (.int .i64 P.kind) (.int .i64 P.index) (.int .i64 P.type.kind) (.slice B6 P.type.args.length e6) (.slice A6 P.args.length c6)
  exact bodyPost_ret (v:=.tuple #[.agg #[.int .i64 P.kind,.int .i64 P.index,.int .i64 P.type.kind,.slice B6 P.type.args.length e6,.slice A6 P.args.length c6],.int .i64 0]) (by simp [results,Tryz.results50,go_sem,y0,y1,y2,y3,y4]) rfl
    (gives_end HS.out (by omega) (HB.out.1.trans (HC3.out.mono HB.out.1.size)) hg (lo:=w2.heap.size) (by omega) HE.out.2)
set_option maxRecDepth 100000 in
set_option maxHeartbeats 4000000 in
theorem lowerTop_scope (t:Tm) (v:Value) (m:Nat) (S:Nat→Prop) (w:World) (hb:t.bulk≤390000) (he:t.err=0) (hlow:t.low 536870912=true) (hm:m≤4096) (hocc:t.occ m≠0) (htab:Tab w) (hS:∀ b,S b→b<w.heap.size) (hT:IsTm S w t v) :
    Calls Tryz.prog 50 #[v,.int .i64 m] w (fun e w'=>e=.returned (.tuple #[.agg #[.int .i64 0,.int .i64 0,.int .i64 0,.slice none 0 0,.slice none 0 0],.int .i64 6])∧Below w.heap.size w w'):=by
  obtain ⟨B,d,A,c,rfl,_⟩:=IsTm.form hT
  have hok:=(errT_zero.1 he).1
  have HOK:=Lib.hid (And.intro hok (And.intro hlow (And.intro he hocc)))
  clear hok hlow he hocc
  go_enter Tryz.func50,Tryz.ntmps50
  go_upto_region 1 with fail
  obtain ⟨W,hW,bW,zW,k0,k1⟩:=two_boxes w #[.int .i64 t.kind,.int .i64 t.index,.int .i64 t.type.kind,.slice B t.type.args.length d,.slice A t.args.length c] #[.int .i64 0,.int .i64 0,.int .i64 0,.slice none 0 0,.slice none 0 0] 42 42
  rw [← hW]
  have HB:=Lib.hid (And.intro bW zW)
  have HK:=Lib.hid (And.intro k0 k1)
  have HS:=Lib.hid hS
  have HT:=Lib.hid (IsTm.keep (fun _ h=>h) (fun r hr=>bW.cell (hS _ hr)) _ hT)
  have HTab:=Lib.hid (htab.after bW)
  obtain ⟨r0,r1,r2,r3,r4,_,_,_,_,_⟩:=k0.facts5
  clear hW bW zW k0 k1 hT hS htab
  go_wp2_with fail
  refine (checkT_ok (t:=t) (w:=W) HOK.out.2.2.1 (by omega) HTab.out (IsTm.keep (fun b h=>Nat.lt_of_lt_of_le (HS.out b h) HB.out.1.size) (fun _ _=>rfl) _ HT.out)).mono ?_
  rintro e w1 ⟨rfl,hc1⟩
  have k0':=HK.out.1.below hc1 HK.out.1.lt
  obtain ⟨s0,s1,s2,s3,s4,_,_,_,_,_⟩:=k0'.facts5
  have HC1:=Lib.hid hc1
  clear hc1 k0' r0 r1 r2 r3 r4
  go_wp2_with fail
  refine (within_ok m w1 (by omega) (by omega)).mono ?_
  rintro e w1' ⟨rfl,rfl⟩
  go_wp2_with fail
  have T1:=Lib.hid (IsTm.keep (S':=S) (fun _ h=>h) (fun p hp=>HC1.out.cell (Nat.lt_of_lt_of_le (HS.out _ hp) HB.out.1.size)) _ HT.out)
  refine (occurs_any t _ m w1 (by omega) HOK.out.1 (low_mono (by omega) t HOK.out.2.1) (by omega) (IsTm.keep (fun b h=>Nat.lt_of_lt_of_le (HS.out b h) (Nat.le_trans HB.out.1.size HC1.out.size)) (fun _ _=>rfl) _ T1.out)).mono ?_
  rintro e w2 ⟨he2,hc2⟩
  have HOC:=Lib.hid he2
  subst he2
  have e1:decide (0<t.occ m)=true:=by have:=HOK.out.2.2.2; simp; omega
  have HC2:=Lib.hid (show Below W.heap.size W w2 from HC1.out.trans (hc2.mono HC1.out.size))
  have hz:=HB.out.2
  have hzc:=HC2.out.size
  obtain ⟨g0,g1,g2,g3,g4,f0,f1,f2,f3,f4⟩:=(HK.out.2.below HC2.out HK.out.2.lt).facts5
  clear hc2 s0 s1 s2 s3 s4
  go_wp2_with fail
  obtain ⟨z0,z1,z2,z3,z4⟩:=((HK.out.2.below HC2.out HK.out.2.lt).set5 (.int .i64 0) (.int .i64 0) (.int .i64 0) (.slice none 0 0) (.slice none 0 0)).cells5
  exact bodyPost_ret (v:=.tuple #[.agg #[.int .i64 0,.int .i64 0,.int .i64 0,.slice none 0 0,.slice none 0 0],.int .i64 6]) (by simp [results,Tryz.results50,go_sem,z0,z1,z2,z3,z4]) rfl ⟨rfl,(HB.out.1.trans (HC2.out.mono HB.out.1.size)).grown (only_set5 w2 (w.heap.size+1) _ _ _ _ _) (Nat.le_trans HB.out.1.size HC2.out.size) (fun g e=>by cases e; omega)⟩
end Go.Proofs.YthlknhkemmdocaaGreatDoor
namespace Go.Proofs.YthlknhkemmdocaaGreatDoor
open Go.RowKit

/-- What stands for no formula. -/
def noneFm:Fm:=.mk 0 .zero [] []
theorem isFm_none (S:Nat→Prop) (w:World):IsFm S w noneFm (.agg #[.int .i64 0,.int .i64 0,.slice none 0 0,.slice none 0 0,.slice none 0 0]):=isFm_iff.2 ⟨rfl,IsTy.leaf _ _ _,Rep.Sl.nil _ _,Rep.Sl.nil _ _⟩
noncomputable def partsF (f:Fm):Option (Tm × Fm):=
  if belowOf f.kind=0∨f.type.kind≠1 then none else
    match f.args with
    | [g]=>if g.kind≠belowOf f.kind then none else
      match g.args with
      | [e,b]=>match limitF e with
        | some t=>if t.occ 0=0 then some (t.put 0 noTm,b) else none
        | none=>none
      | _=>none
    | _=>none
def PartsR (S:Nat→Prop) (r:Option (Tm × Fm)) (w:World) (e:Ending) (w':World):Prop:=
  ∃ u x,e=.returned (.tuple #[u,x,.bool r.isSome])∧IsTm (fun b=>(S b∨w.heap.size≤b)∧b<w'.heap.size) w' ((r.map Prod.fst).getD noneTm) u∧IsFm (fun b=>(S b∨w.heap.size≤b)∧b<w'.heap.size) w' ((r.map Prod.snd).getD noneFm) x∧Below w.heap.size w w'
theorem two_set {w:World} {p q:Nat} {tp tq:TypeId} {a0 a1 a2 a3 a4 b0 b1 b2 b3 b4:Value} (hpq:p≠q) (kp:Blk w p tp #[a0,a1,a2,a3,a4]) (kq:Blk w q tq #[b0,b1,b2,b3,b4]) (x0 x1 x2 x3 x4 y0 y1 y2 y3 y4:Value) :
    ∃ W2,W2=((((((((((w.setCell ⟨p,0,none⟩ x0).setCell ⟨p,1,none⟩ x1).setCell ⟨p,2,none⟩ x2).setCell ⟨p,3,none⟩ x3).setCell ⟨p,4,none⟩ x4).setCell ⟨q,0,none⟩ y0).setCell ⟨q,1,none⟩ y1).setCell ⟨q,2,none⟩ y2).setCell ⟨q,3,none⟩ y3).setCell ⟨q,4,none⟩ y4) ∧
      Blk W2 p tp #[x0,x1,x2,x3,x4]∧Blk W2 q tq #[y0,y1,y2,y3,y4]∧(∀ B,B≤p→B≤q→Below B w W2)∧W2.heap.size=w.heap.size∧(∀ k,k<w.heap.size→k≠p→k≠q→W2.heap[k]? = w.heap[k]?):=by
  have g1:=only_set5 w p x0 x1 x2 x3 x4
  have g2:=only_set5 (((((w.setCell ⟨p,0,none⟩ x0).setCell ⟨p,1,none⟩ x1).setCell ⟨p,2,none⟩ x2).setCell ⟨p,3,none⟩ x3).setCell ⟨p,4,none⟩ x4) q y0 y1 y2 y3 y4
  refine ⟨_,rfl,(kp.set5 x0 x1 x2 x3 x4).grown g2 (by simpa using hpq),(kq.grown g1 (by simpa using fun e=>hpq e.symm)).set5 y0 y1 y2 y3 y4,fun B hp hq=>below_set5' (below_set5' (Below.refl _ _) hp _ _ _ _ _) hq _ _ _ _ _,by simp,fun k hk h1 h2=>(g2.block k (by simpa using hk) (by simpa using h2)).trans (g1.block k hk (by simpa using h1))⟩

theorem partsF_no {f:Fm} (h:belowOf f.kind=0∨f.type.kind≠1):partsF f=none:=by unfold partsF; rw [if_pos h]
theorem partsF_join {f g:Fm} (ha:f.args=[g]) (h:g.kind≠belowOf f.kind):partsF f=none:=by
  unfold partsF; split
  · rfl
  · rw [ha]; simp only; rw [if_pos h]
theorem partsF_is {f g e b:Fm} (ha:f.args=[g]) (hg:g.args=[e,b]) (h0:belowOf f.kind≠0) (h1:f.type.kind=1) (h:g.kind=belowOf f.kind) :
    partsF f=match limitF e with | some t=>if t.occ 0=0 then some (t.put 0 noTm,b) else none | none=>none:=by
  unfold partsF
  rw [if_neg (fun e=>e.elim h0 (fun e=>e h1)),ha]
  simp only
  rw [if_neg (fun e=>e h),hg]

set_option maxRecDepth 100000 in
set_option maxHeartbeats 4000000 in
theorem parts_no (S:Nat→Prop) (f:Fm) (v:Value) (w:World) (hk:0≤f.kind∧f.kind≤7) (h:belowOf f.kind=0∨f.type.kind≠1) (hF:IsFm S w f v) :
    Calls Tryz.prog 78 #[v] w (PartsR S (partsF f) w):=by
  rw [partsF_no h]
  obtain ⟨B,d,C,e0,A,c,rfl,_,_⟩:=hF.form
  obtain ⟨W,hW,b3,z3,k0,k1,k2⟩:=three_blks w #[.int .i64 f.kind,.int .i64 f.type.kind,.slice B f.type.args.length d,.slice C f.terms.length e0,.slice A f.args.length c] #[.int .i64 0,.int .i64 0,.int .i64 0,.slice none 0 0,.slice none 0 0] #[.int .i64 0,.int .i64 0,.slice none 0 0,.slice none 0 0,.slice none 0 0] 34 42 34
  have HB:=Lib.hid b3
  have HK:=Lib.hid (And.intro k1 k2)
  obtain ⟨r0,r1,r2,r3,r4,_,_,_,_,_⟩:=k0.facts5
  have HK0:=Lib.hid k0
  clear hF k0 k1 k2
  have HKN:=Lib.hid hk
  clear hk
  go_enter Tryz.func78,Tryz.ntmps78
  go_upto_region 1 with fail
  rw [← hW]
  clear hW
  go_wp2_with fail
  refine (cbelow_any f.kind W HKN.out).mono ?_
  rintro e w1 ⟨rfl,hb1⟩
  have HB1:=Lib.hid (b3.trans (hb1.mono b3.size))
  obtain ⟨s0,s1,s2,s3,s4,_,_,_,_,_⟩:=(HK0.out.below hb1 HK0.out.lt).facts5
  obtain ⟨t0,t1,t2,t3,t4,m0,m1,m2,m3,m4⟩:=(HK.out.1.below hb1 HK.out.1.lt).facts5
  obtain ⟨u0,u1,u2,u3,u4,n0,n1,n2,n3,n4⟩:=(HK.out.2.below hb1 HK.out.2.lt).facts5
  have HK1:=Lib.hid (And.intro (HK.out.1.below hb1 HK.out.1.lt) (HK.out.2.below hb1 HK.out.2.lt))
  clear r0 r1 r2 r3 r4 hb1 b3 z3
  by_cases h0:belowOf f.kind=0
  · have e1:(belowOf f.kind == 0)=true:=by simpa using h0
    clear h0 h
    go_wp2_with fail
    obtain ⟨W2,hW2,q1,q2,g2,z2,_⟩:=two_set (p:=w.heap.size+1) (q:=w.heap.size+1+1) (by omega) HK1.out.1 HK1.out.2 (.int .i64 0) (.int .i64 0) (.int .i64 0) (.slice none 0 0) (.slice none 0 0) (.int .i64 0) (.int .i64 0) (.slice none 0 0) (.slice none 0 0) (.slice none 0 0)
    rw [← hW2]
    obtain ⟨x0,x1,x2,x3,x4⟩:=q1.cells5
    obtain ⟨y0,y1,y2,y3,y4⟩:=q2.cells5
    exact bodyPost_ret (v:=.tuple #[.agg #[.int .i64 0,.int .i64 0,.int .i64 0,.slice none 0 0,.slice none 0 0],.agg #[.int .i64 0,.int .i64 0,.slice none 0 0,.slice none 0 0,.slice none 0 0],.bool false]) (by simp [results,Tryz.results78,go_sem,x0,x1,x2,x3,x4,y0,y1,y2,y3,y4]) rfl ⟨_,_,rfl,isTm_none _ _,isFm_none _ _,HB1.out.trans (g2 w.heap.size (by omega) (by omega))⟩
  · have e1:(belowOf f.kind == 0)=false:=by simpa using h0
    have e2:(f.type.kind != 1)=true:=by simpa using h.resolve_left h0
    clear h0 h
    go_wp2_with fail
    obtain ⟨W2,hW2,q1,q2,g2,z2,_⟩:=two_set (p:=w.heap.size+1) (q:=w.heap.size+1+1) (by omega) HK1.out.1 HK1.out.2 (.int .i64 0) (.int .i64 0) (.int .i64 0) (.slice none 0 0) (.slice none 0 0) (.int .i64 0) (.int .i64 0) (.slice none 0 0) (.slice none 0 0) (.slice none 0 0)
    rw [← hW2]
    obtain ⟨x0,x1,x2,x3,x4⟩:=q1.cells5
    obtain ⟨y0,y1,y2,y3,y4⟩:=q2.cells5
    exact bodyPost_ret (v:=.tuple #[.agg #[.int .i64 0,.int .i64 0,.int .i64 0,.slice none 0 0,.slice none 0 0],.agg #[.int .i64 0,.int .i64 0,.slice none 0 0,.slice none 0 0,.slice none 0 0],.bool false]) (by simp [results,Tryz.results78,go_sem,x0,x1,x2,x3,x4,y0,y1,y2,y3,y4]) rfl ⟨_,_,rfl,isTm_none _ _,isFm_none _ _,HB1.out.trans (g2 w.heap.size (by omega) (by omega))⟩

set_option maxRecDepth 100000 in
set_option maxHeartbeats 4000000 in
theorem parts_join (S:Nat→Prop) (f g:Fm) (v:Value) (w:World) (hk:0≤f.kind∧f.kind≤7) (hb0:belowOf f.kind≠0) (hty:f.type.kind=1) (ha:f.args=[g]) (hg:g.kind≠belowOf f.kind) (hS:∀ b,S b→b<w.heap.size) (hF:IsFm S w f v) :
    Calls Tryz.prog 78 #[v] w (PartsR S (partsF f) w):=by
  rw [partsF_join ha hg]
  obtain ⟨B,d,C,e0,A,c,rfl,_,_,hl⟩:=hF.parts
  rw [ha] at hl
  obtain ⟨aq,Bg,dg,Cg,eg,Ag,cg,rfl,haq,q0,q1,q2,q3,q4,hIg⟩:=sl_childF hl 0 (by simp)
  simp only [Nat.zero_mul,add_zero',List.getElem_cons_zero] at haq q0
  obtain ⟨W,hW,b3,z3,k0,k1,k2⟩:=three_blks w #[.int .i64 f.kind,.int .i64 f.type.kind,.slice B f.type.args.length d,.slice C f.terms.length e0,.slice (some aq) f.args.length c] #[.int .i64 0,.int .i64 0,.int .i64 0,.slice none 0 0,.slice none 0 0] #[.int .i64 0,.int .i64 0,.slice none 0 0,.slice none 0 0,.slice none 0 0] 34 42 34
  have HB:=Lib.hid b3
  have HK:=Lib.hid (And.intro k1 k2)
  have HK0:=Lib.hid k0
  have HKN:=Lib.hid hk
  have EL:=Lib.hid (show f.args.length=1 by rw [ha]; rfl)
  have HQ:=Lib.hid fun (w':World) (h:Below w.heap.size w w')=>(h.cell (hS _ haq)).trans q0
  obtain ⟨r0,r1,r2,r3,r4,_,_,_,_,_⟩:=k0.facts5
  have HH:=Lib.hid (And.intro hb0 (And.intro hty hg))
  clear hF k0 k1 k2 hk q0 q1 q2 q3 q4 hIg hl ha haq hS hb0 hty hg
  go_enter Tryz.func78,Tryz.ntmps78
  go_upto_region 1 with fail
  rw [← hW]
  clear hW
  go_wp2_with fail
  refine (cbelow_any f.kind W HKN.out).mono ?_
  rintro e w1 ⟨rfl,hb1⟩
  have HB1:=Lib.hid (b3.trans (hb1.mono b3.size))
  obtain ⟨s0,s1,s2,s3,s4,_,_,_,_,_⟩:=(HK0.out.below hb1 HK0.out.lt).facts5
  obtain ⟨t0,t1,t2,t3,t4,m0,m1,m2,m3,m4⟩:=(HK.out.1.below hb1 HK.out.1.lt).facts5
  obtain ⟨u0,u1,u2,u3,u4,n0,n1,n2,n3,n4⟩:=(HK.out.2.below hb1 HK.out.2.lt).facts5
  have HK1:=Lib.hid (And.intro (HK.out.1.below hb1 HK.out.1.lt) (HK.out.2.below hb1 HK.out.2.lt))
  have q0:=HQ.out w1 HB1.out
  clear r0 r1 r2 r3 r4 hb1 b3 z3
  have e1:(belowOf f.kind == 0)=false:=by simpa using HH.out.1
  have e2:(f.type.kind != 1)=false:=by simpa using HH.out.2.1
  have e3:(g.kind != belowOf f.kind)=true:=by simpa using HH.out.2.2
  have el:=EL.out
  go_wp2_with fail
  obtain ⟨W2,hW2,q1,q2,g2,z2,_⟩:=two_set (p:=w.heap.size+1) (q:=w.heap.size+1+1) (by omega) HK1.out.1 HK1.out.2 (.int .i64 0) (.int .i64 0) (.int .i64 0) (.slice none 0 0) (.slice none 0 0) (.int .i64 0) (.int .i64 0) (.slice none 0 0) (.slice none 0 0) (.slice none 0 0)
  rw [← hW2]
  obtain ⟨x0,x1,x2,x3,x4⟩:=q1.cells5
  obtain ⟨y0,y1,y2,y3,y4⟩:=q2.cells5
  exact bodyPost_ret (v:=.tuple #[.agg #[.int .i64 0,.int .i64 0,.int .i64 0,.slice none 0 0,.slice none 0 0],.agg #[.int .i64 0,.int .i64 0,.slice none 0 0,.slice none 0 0,.slice none 0 0],.bool false]) (by simp [results,Tryz.results78,go_sem,x0,x1,x2,x3,x4,y0,y1,y2,y3,y4]) rfl ⟨_,_,rfl,isTm_none _ _,isFm_none _ _,HB1.out.trans (g2 w.heap.size (by omega) (by omega))⟩

set_option maxRecDepth 100000 in
set_option maxHeartbeats 4000000 in
theorem parts_is (S:Nat→Prop) (f g e b:Fm) (v:Value) (w:World) (hk:0≤f.kind∧f.kind≤7) (hb0:belowOf f.kind≠0) (hty:f.type.kind=1) (ha:f.args=[g]) (hg:g.kind=belowOf f.kind) (hga:g.args=[e,b]) (hS:∀ b,S b→b<w.heap.size)
    (he:GoodF e) (hsz:e.bulk≤390000) (hlim:∀ t,limitF e=some t→t.err=0∧t.low 536870912=true∧t.bulk≤390000) (htab:Tab w) (hF:IsFm S w f v) :
    Calls Tryz.prog 78 #[v] w (PartsR S (partsF f) w):=by
  obtain ⟨R,hR⟩:∃ R,R=partsF f:=⟨_,rfl⟩
  rw [← hR]
  rw [partsF_is ha hga hb0 hty hg] at hR
  have HR:=Lib.hid hR
  clear hR
  obtain ⟨B,d,C,e0,A,c,rfl,_,_,hl⟩:=hF.parts
  rw [ha] at hl
  obtain ⟨aq,Bg,dg,Cg,eg,Ag,cg,rfl,haq,q0,_,_,_,q4,hIg⟩:=sl_childF hl 0 (by simp)
  simp only [Nat.zero_mul,add_zero',List.getElem_cons_zero] at haq q0 q4 hIg
  obtain ⟨_,_,_,_,_,_,ev,_,_,hpl⟩:=hIg.parts
  simp only [Value.agg.injEq,Array.mk.injEq,List.cons.injEq,Value.slice.injEq,and_true] at ev
  obtain ⟨_,_,_,_,rfl,_,rfl⟩:=ev
  rw [hga] at hpl
  obtain ⟨pq,B1,d1,C1,e1,A1,c1,rfl,hpq,x0,x1,x2,x3,x4,hIe⟩:=sl_childF hpl 0 (by simp)
  obtain ⟨pq',B2,d2,C2,e2,A2,c2,hpp,_,y0,y1,y2,y3,y4,hIb⟩:=sl_childF hpl 1 (by simp)
  cases hpp
  simp only [Nat.zero_mul,add_zero',Nat.one_mul,add_five,List.getElem_cons_succ,List.getElem_cons_zero] at hpq x0 x1 x2 x3 x4 hIe y0 y1 y2 y3 y4 hIb
  obtain ⟨W,hW,b3,z3,k0,k1,k2⟩:=three_blks w #[.int .i64 f.kind,.int .i64 f.type.kind,.slice B f.type.args.length d,.slice C f.terms.length e0,.slice (some aq) f.args.length c] #[.int .i64 0,.int .i64 0,.int .i64 0,.slice none 0 0,.slice none 0 0] #[.int .i64 0,.int .i64 0,.slice none 0 0,.slice none 0 0,.slice none 0 0] 34 42 34
  have HB:=Lib.hid b3
  have HK:=Lib.hid (And.intro k1 k2)
  have HK0:=Lib.hid k0
  have HKN:=Lib.hid hk
  have EL:=Lib.hid (And.intro (show f.args.length=1 by rw [ha]; rfl) (show g.args.length=2 by rw [hga]; rfl))
  have HH:=Lib.hid (And.intro hb0 (And.intro hty hg))
  have HQ:=Lib.hid fun (w':World) (h:Below w.heap.size w w')=>And.intro ((h.cell (hS _ haq)).trans q0) ((h.cell (p:=⟨aq.block,aq.off+4,none⟩) (hS _ haq)).trans q4)
  have HE:=Lib.hid fun (w':World) (h:Below w.heap.size w w')=>And.intro ((h.cell (hS _ hpq)).trans x0) (And.intro ((h.cell (p:=⟨pq.block,pq.off+1,none⟩) (hS _ hpq)).trans x1) (And.intro ((h.cell (p:=⟨pq.block,pq.off+2,none⟩) (hS _ hpq)).trans x2) (And.intro ((h.cell (p:=⟨pq.block,pq.off+3,none⟩) (hS _ hpq)).trans x3) ((h.cell (p:=⟨pq.block,pq.off+4,none⟩) (hS _ hpq)).trans x4))))
  have HY:=Lib.hid fun (w':World) (h:Below w.heap.size w w')=>And.intro ((h.cell (p:=⟨pq.block,pq.off+5,none⟩) (hS _ hpq)).trans y0) (And.intro ((h.cell (p:=⟨pq.block,pq.off+5+1,none⟩) (hS _ hpq)).trans y1) (And.intro ((h.cell (p:=⟨pq.block,pq.off+5+2,none⟩) (hS _ hpq)).trans y2) (And.intro ((h.cell (p:=⟨pq.block,pq.off+5+3,none⟩) (hS _ hpq)).trans y3) ((h.cell (p:=⟨pq.block,pq.off+5+4,none⟩) (hS _ hpq)).trans y4))))
  have HI:=Lib.hid (And.intro hIe (And.intro hIb hS))
  have HL:=Lib.hid (And.intro he (And.intro hsz hlim))
  have HTab:=Lib.hid htab
  have HZ:=Lib.hid z3
  obtain ⟨r0,r1,r2,r3,r4,_,_,_,_,_⟩:=k0.facts5
  clear hF k0 k1 k2 hk q0 q4 hIg hl ha haq hS hb0 hty hg hga hpl hpq x0 x1 x2 x3 x4 y0 y1 y2 y3 y4 hIe hIb he hsz hlim htab
  go_enter Tryz.func78,Tryz.ntmps78
  go_upto_region 1 with fail
  rw [← hW]
  clear hW
  go_wp2_with fail
  refine (cbelow_any f.kind W HKN.out).mono ?_
  rintro en w1 ⟨rfl,hb1⟩
  have HB1:=Lib.hid (b3.trans (hb1.mono b3.size))
  have HW1:=Lib.hid hb1
  obtain ⟨s0,s1,s2,s3,s4,_,_,_,_,_⟩:=(HK0.out.below hb1 HK0.out.lt).facts5
  obtain ⟨q0,q4⟩:=HQ.out w1 HB1.out
  obtain ⟨x0,x1,x2,x3,x4⟩:=HE.out w1 HB1.out
  clear r0 r1 r2 r3 r4 hb1 b3 z3
  have t1:(belowOf f.kind == 0)=false:=by simpa using HH.out.1
  have t2:(f.type.kind != 1)=false:=by simpa using HH.out.2.1
  have t3:(g.kind != belowOf f.kind)=false:=by simpa using HH.out.2.2
  have el:=EL.out.1
  have el2:=EL.out.2
  go_wp2_with fail
  refine (limit_any S e _ w1 HL.out.1 (by have:=HL.out.2.1; omega) (fun b hb=>Nat.lt_of_lt_of_le (HI.out.2.2 b hb) HB1.out.size) (HI.out.1.keep (fun _ h=>h) (fun q hq=>HB1.out.cell (HI.out.2.2 _ hq)))).mono ?_
  rintro en w2 ⟨u,rfl,hu,hb2⟩
  have HB2:=Lib.hid (HB1.out.trans (hb2.mono HB1.out.size))
  have HWW:=Lib.hid (HW1.out.trans (hb2.mono HW1.out.size))
  have HZZ:=Lib.hid (show w.heap.size+3≤w2.heap.size by have:=HZ.out; have:=HWW.out.size; omega)
  have HK2:=Lib.hid (And.intro (HK.out.1.below HWW.out HK.out.1.lt) (HK.out.2.below HWW.out HK.out.2.lt))
  clear s0 s1 s2 s3 s4 q0 q4 x0 x1 x2 x3 x4 hb2
  obtain ⟨t10,t11,t12,t13,t14,m0,m1,m2,m3,m4⟩:=HK2.out.1.facts5
  obtain ⟨u0,u1,u2,u3,u4,n0,n1,n2,n3,n4⟩:=HK2.out.2.facts5
  have hlt1:w.heap.size+1<w2.heap.size:=by have:=HZZ.out; omega
  have hlt2:w.heap.size+1+1<w2.heap.size:=by have:=HZZ.out; omega
  cases hlf:limitF e with
  | none=>
    have HR':=Lib.hid (show R=none by rw [HR.out,hlf])
    rw [hlf] at hu
    clear hlf
    simp only [Option.getD_none,Option.isSome_none] at hu ⊢
    obtain ⟨B6,d6,A6,c6,rfl,_⟩:=hu.form
    clear hu
    go_wp2_with fail
    obtain ⟨W2,hW2,q1,q2,g2,z2,_⟩:=two_set (p:=w.heap.size+1) (q:=w.heap.size+1+1) (by omega) HK2.out.1 HK2.out.2 (.int .i64 0) (.int .i64 0) (.int .i64 0) (.slice none 0 0) (.slice none 0 0) (.int .i64 0) (.int .i64 0) (.slice none 0 0) (.slice none 0 0) (.slice none 0 0)
    rw [← hW2]
    obtain ⟨x0,x1,x2,x3,x4⟩:=(q1.alloc (.cells #[.int .i64 noneTm.kind,.int .i64 noneTm.index,.int .i64 noneTm.type.kind,.slice B6 noneTm.type.args.length d6,.slice A6 noneTm.args.length c6] 42)).cells5
    obtain ⟨y0,y1,y2,y3,y4⟩:=(q2.alloc (.cells #[.int .i64 noneTm.kind,.int .i64 noneTm.index,.int .i64 noneTm.type.kind,.slice B6 noneTm.type.args.length d6,.slice A6 noneTm.args.length c6] 42)).cells5
    exact bodyPost_ret (v:=.tuple #[.agg #[.int .i64 0,.int .i64 0,.int .i64 0,.slice none 0 0,.slice none 0 0],.agg #[.int .i64 0,.int .i64 0,.slice none 0 0,.slice none 0 0,.slice none 0 0],.bool false]) (by simp [results,Tryz.results78,go_sem,x0,x1,x2,x3,x4,y0,y1,y2,y3,y4]) rfl ⟨_,_,by rw [HR'.out]; rfl,by rw [HR'.out]; exact isTm_none _ _,by rw [HR'.out]; exact isFm_none _ _,(HB2.out.trans (g2 w.heap.size (by omega) (by omega))).alloc (by rw [z2]; exact HB2.out.size) _⟩
  | some t=>
    have HT:=Lib.hid (HL.out.2.2 t hlf)
    have HR':=Lib.hid (show R=if t.occ 0=0 then some (t.put 0 noTm,b) else none by rw [HR.out,hlf])
    rw [hlf] at hu
    clear hlf
    simp only [Option.getD_some,Option.isSome_some] at hu ⊢
    obtain ⟨B6,d6,A6,c6,rfl,_⟩:=hu.form
    have TU:=Lib.hid hu
    clear hu
    obtain ⟨W3,hW3,b3,z3,k3⟩:∃ W3,W3=w2.alloc (.cells #[.int .i64 t.kind,.int .i64 t.index,.int .i64 t.type.kind,.slice B6 t.type.args.length d6,.slice A6 t.args.length c6] 42)∧Below w2.heap.size w2 W3∧W3.heap.size=w2.heap.size+1∧Blk W3 w2.heap.size 42 #[.int .i64 t.kind,.int .i64 t.index,.int .i64 t.type.kind,.slice B6 t.type.args.length d6,.slice A6 t.args.length c6]:=⟨_,rfl,(Below.refl _ _).alloc (Nat.le_refl _) _,by simp,Blk.new _ _ _⟩
    have HB3:=Lib.hid (HB2.out.trans (b3.mono HB2.out.size))
    have HZ3:=Lib.hid z3
    have HK3:=Lib.hid (And.intro (HK2.out.1.below b3 HK2.out.1.lt) (And.intro (HK2.out.2.below b3 HK2.out.2.lt) k3))
    have TU3:=Lib.hid (show IsTm (fun b=>(S b∨w1.heap.size≤b)∧b<w2.heap.size) W3 t _ from IsTm.keep (fun _ h=>h) (fun q hq=>b3.cell hq.2) _ TU.out)
    have HW3:=Lib.hid hW3
    clear b3 z3 k3 hW3
    go_upto_region 8 with fail
    rw [← HW3.out]
    obtain ⟨r0,r1,r2,r3,r4,_,_,_,_,_⟩:=HK3.out.2.2.facts5
    clear t10 t11 t12 t13 t14 m0 m1 m2 m3 m4 u0 u1 u2 u3 u4 n0 n1 n2 n3 n4
    go_wp2_with fail
    by_cases hocc:t.occ 0=0
    · have HR2:=Lib.hid (show R=some (t.put 0 noTm,b) by rw [HR'.out,if_pos hocc])
      refine Calls.mono (show Calls _ _ #[_,.int .i64 0] _ _ from lowerTop_any t _ 0 (fun b=>(S b∨w1.heap.size≤b)∧b<w2.heap.size) W3 HT.out.2.2 HT.out.1 HT.out.2.1 (by omega) hocc (HTab.out.after HB3.out) (fun b hb=>by have:=hb.2; have:=HZ3.out; omega) TU3.out) ?_
      rintro en w4 ⟨v4,rfl,h4,hb4⟩
      obtain ⟨P,hP⟩:∃ P,P=t.put 0 noTm:=⟨_,rfl⟩
      rw [← hP] at h4
      obtain ⟨B7,d7,A7,c7,rfl,_⟩:=h4.form
      have HP:=Lib.hid (And.intro hP h4)
      have HB4:=Lib.hid (HB3.out.trans (hb4.mono HB3.out.size))
      have HK4:=Lib.hid (And.intro (HK3.out.1.below hb4 HK3.out.1.lt) (HK3.out.2.1.below hb4 HK3.out.2.1.lt))
      have HZ4:=Lib.hid (And.intro hb4.size (show w.heap.size+3≤w4.heap.size by have:=hb4.size; have:=HZZ.out; have:=HZ3.out; omega))
      clear hP h4 hb4 hocc r0 r1 r2 r3 r4
      obtain ⟨W5,hW5,b5,z5,k5⟩:∃ W5,W5=w4.alloc (.cells #[.int .i64 P.kind,.int .i64 P.index,.int .i64 P.type.kind,.slice B7 P.type.args.length d7,.slice A7 P.args.length c7] 42)∧Below w4.heap.size w4 W5∧W5.heap.size=w4.heap.size+1∧Blk W5 w4.heap.size 42 #[.int .i64 P.kind,.int .i64 P.index,.int .i64 P.type.kind,.slice B7 P.type.args.length d7,.slice A7 P.args.length c7]:=⟨_,rfl,(Below.refl _ _).alloc (Nat.le_refl _) _,by simp,Blk.new _ _ _⟩
      have HB5:=Lib.hid (HB4.out.trans (b5.mono HB4.out.size))
      have HK5:=Lib.hid (And.intro (HK4.out.1.below b5 HK4.out.1.lt) (And.intro (HK4.out.2.below b5 HK4.out.2.lt) k5))
      have HW5:=Lib.hid hW5
      have HZ5:=Lib.hid (And.intro z5 b5)
      clear b5 z5 k5 hW5 hlt1 hlt2
      go_upto_region 11 with fail
      rw [← HW5.out]
      obtain ⟨r0,r1,r2,r3,r4,_,_,_,_,_⟩:=HK5.out.2.2.facts5
      obtain ⟨t10,t11,t12,t13,t14,m0,m1,m2,m3,m4⟩:=HK5.out.1.facts5
      obtain ⟨u0,u1,u2,u3,u4,n0,n1,n2,n3,n4⟩:=HK5.out.2.1.facts5
      obtain ⟨y0,y1,y2,y3,y4⟩:=HY.out W5 HB5.out
      go_region
      go_wp2_with fail
      obtain ⟨W2,hW2,q1,q2,g2,z2,o2⟩:=two_set (p:=w.heap.size+1) (q:=w.heap.size+1+1) (by omega) HK5.out.1 HK5.out.2.1 (.int .i64 P.kind) (.int .i64 P.index) (.int .i64 P.type.kind) (.slice B7 P.type.args.length d7) (.slice A7 P.args.length c7) (.int .i64 b.kind) (.int .i64 b.type.kind) (.slice B2 b.type.args.length d2) (.slice C2 b.terms.length e2) (.slice A2 b.args.length c2)
      rw [← hW2]
      obtain ⟨x0,x1,x2,x3,x4⟩:=q1.drew.cells5
      obtain ⟨y0,y1,y2,y3,y4⟩:=q2.drew.cells5
      have hS:=HI.out.2.2
      have h5:=HZ5.out.1
      have h4:=HZ4.out
      have h3:=HZ3.out
      have h1:=HZZ.out
      have hw1:w.heap.size+3≤w1.heap.size:=by have:=HZ.out; have:=HW1.out.size; omega
      have h45:=HZ5.out.2
      refine bodyPost_ret (v:=.tuple #[.agg #[.int .i64 P.kind,.int .i64 P.index,.int .i64 P.type.kind,.slice B7 P.type.args.length d7,.slice A7 P.args.length c7],.agg #[.int .i64 b.kind,.int .i64 b.type.kind,.slice B2 b.type.args.length d2,.slice C2 b.terms.length e2,.slice A2 b.args.length c2],.bool true]) (by simp [results,Tryz.results78,go_sem,x0,x1,x2,x3,x4,y0,y1,y2,y3,y4]) rfl ⟨_,_,by rw [HR2.out]; rfl,?_,?_,?_⟩
      · rw [HR2.out]
        show IsTm _ _ (t.put 0 noTm) _
        rw [← HP.out.1]
        refine IsTm.keep (w':=W2.drew) (fun b hb=>⟨hb.1.elim (fun h=>h.1.imp id (fun h=>by omega)) (fun h=>.inr (by omega)),by show b<W2.heap.size; have:=hb.2; omega⟩) (fun q hq=>?_) _ HP.out.2
        have hlo:q.block≠w.heap.size+1∧q.block≠w.heap.size+1+1:=by
          rcases hq.1 with h | h
          · rcases h.1 with h | h
            · have:=hS _ h; omega
            · omega
          · omega
        exact (World.cell?_of_block (o2 q.block (by have:=hq.2; omega) hlo.1 hlo.2)).trans (h45.cell hq.2)
      · rw [HR2.out]
        show IsFm _ _ b _
        exact IsFm.keep (w':=W2.drew) (fun b hb=>⟨.inl hb,by show b<W2.heap.size; have:=hS b hb; omega⟩) (fun q hq=>((g2 w.heap.size (by omega) (by omega)).cell (hS _ hq)).trans (HB5.out.cell (hS _ hq))) _ HI.out.2.1
      · exact (HB5.out.trans (g2 w.heap.size (by omega) (by omega))).drew
    · have HR2:=Lib.hid (show R=none by rw [HR'.out,if_neg hocc])
      refine Calls.mono (show Calls _ _ #[_,.int .i64 0] _ _ from lowerTop_scope t _ 0 (fun b=>(S b∨w1.heap.size≤b)∧b<w2.heap.size) W3 HT.out.2.2 HT.out.1 HT.out.2.1 (by omega) hocc (HTab.out.after HB3.out) (fun b hb=>by have:=hb.2; have:=HZ3.out; omega) TU3.out) ?_
      rintro en w4 ⟨rfl,hb4⟩
      have HB4:=Lib.hid (HB3.out.trans (hb4.mono HB3.out.size))
      have HK4:=Lib.hid (And.intro (HK3.out.1.below hb4 HK3.out.1.lt) (HK3.out.2.1.below hb4 HK3.out.2.1.lt))
      have hlt1:w.heap.size+1<w4.heap.size:=by have:=hb4.size; have:=HZZ.out; have:=HZ3.out; omega
      have hlt2:w.heap.size+1+1<w4.heap.size:=by have:=hb4.size; have:=HZZ.out; have:=HZ3.out; omega
      clear hb4 hocc r0 r1 r2 r3 r4
      obtain ⟨t10,t11,t12,t13,t14,m0,m1,m2,m3,m4⟩:=HK4.out.1.facts5
      obtain ⟨u0,u1,u2,u3,u4,n0,n1,n2,n3,n4⟩:=HK4.out.2.facts5
      go_wp2_with fail
      obtain ⟨W2,hW2,q1,q2,g2,z2,_⟩:=two_set (p:=w.heap.size+1) (q:=w.heap.size+1+1) (by omega) HK4.out.1 HK4.out.2 (.int .i64 0) (.int .i64 0) (.int .i64 0) (.slice none 0 0) (.slice none 0 0) (.int .i64 0) (.int .i64 0) (.slice none 0 0) (.slice none 0 0) (.slice none 0 0)
      rw [← hW2]
      obtain ⟨x0,x1,x2,x3,x4⟩:=(q1.alloc (.cells #[.int .i64 0,.int .i64 0,.int .i64 0,.slice none 0 0,.slice none 0 0] 42)).cells5
      obtain ⟨y0,y1,y2,y3,y4⟩:=(q2.alloc (.cells #[.int .i64 0,.int .i64 0,.int .i64 0,.slice none 0 0,.slice none 0 0] 42)).cells5
      exact bodyPost_ret (v:=.tuple #[.agg #[.int .i64 0,.int .i64 0,.int .i64 0,.slice none 0 0,.slice none 0 0],.agg #[.int .i64 0,.int .i64 0,.slice none 0 0,.slice none 0 0,.slice none 0 0],.bool false]) (by simp [results,Tryz.results78,go_sem,x0,x1,x2,x3,x4,y0,y1,y2,y3,y4]) rfl ⟨_,_,by rw [HR2.out]; rfl,by rw [HR2.out]; exact isTm_none _ _,by rw [HR2.out]; exact isFm_none _ _,(HB4.out.trans (g2 w.heap.size (by omega) (by omega))).alloc (by rw [z2]; exact HB4.out.size) _⟩
end Go.Proofs.YthlknhkemmdocaaGreatDoor
