/- formula.two: a formula of two parts, which it shares. -/
import Derived.Test.YtipfnkajdooiiaaGreatDoorQPackF3
import Derived.Test.YtipfnkajdooiiaaGreatDoorQPackReg2
namespace Go.Proofs.YtipfnkajdooiiaaGreatDoor
open Go.RowKit

theorem fm_ch2 {S:Nat→Prop} {w:World} {t u:Fm} {x0 x1 x2 x3 x4 y0 y1 y2 y3 y4:Value} (h:IsFm S w t (.agg #[x0,x1,x2,x3,x4])) (h2:IsFm S w u (.agg #[y0,y1,y2,y3,y4])):FmR.Ch S w [t,u] [x0,x1,x2,x3,x4,y0,y1,y2,y3,y4]:=
 Rep.Ch.append (R:=FmR) (l:=[t]) (m:=[u]) (Rep.Ch.one (R:=FmR) (vs:=[x0,x1,x2,x3,x4]) h) (Rep.Ch.one (R:=FmR) (vs:=[y0,y1,y2,y3,y4]) h2)
/-- What a call that makes a formula out of S comes to. -/
def MakesF (S:Nat→Prop) (f:Fm) (w:World) (e:Ending) (w':World):Prop:=∃ v,e=.returned v∧IsFm (fun b=>(S b∨w.heap.size≤b)∧b<w'.heap.size) w' f v∧Below w.heap.size w w'
set_option maxRecDepth 100000 in
set_option maxHeartbeats 4000000 in
theorem fTwo_any (k:Int) (a b:Fm) (u v:Value) (S:Nat→Prop) (w:World) (hS:∀ b,S b→b<w.heap.size) (hu:IsFm S w a u) (hv:IsFm S w b v) :
   Calls Tryz.prog 79 #[.int .i64 k,u,v] w (MakesF S (.mk k .zero [] [a,b]) w):=by
 obtain ⟨B0,d0,C0,e0,A0,c0,rfl,_⟩:=IsFm.form hu
 obtain ⟨B1,d1,C1,e1,A1,c1,rfl,_⟩:=IsFm.form hv
 obtain ⟨W,hW,b3,z3,k0,k1,k2⟩:=three_blks w #[.int .i64 a.kind,.int .i64 a.type.kind,.slice B0 a.type.args.length d0,.slice C0 a.terms.length e0,.slice A0 a.args.length c0] #[.int .i64 b.kind,.int .i64 b.type.kind,.slice B1 b.type.args.length d1,.slice C1 b.terms.length e1,.slice A1 b.args.length c1] #[.int .i64 0,.int .i64 0,.slice none 0 0,.slice none 0 0,.slice none 0 0] 34 34 34
 have HU:=Lib.hid (And.intro (show IsFm S W a _ from hu.keep (fun _ h=>h) (fun q hq=>b3.cell (hS _ hq))) (show IsFm S W b _ from hv.keep (fun _ h=>h) (fun q hq=>b3.cell (hS _ hq))))
 have HB:=Lib.hid (And.intro b3 (And.intro z3 k2))
 have HS:=Lib.hid hS
 have hz3:=z3
 obtain ⟨p0,p1,p2,p3,p4,_⟩:=k0.facts5
 obtain ⟨q0,q1,q2,q3,q4,_⟩:=k1.facts5
 obtain ⟨_,_,_,_,_,f0,f1,f2,f3,f4⟩:=k2.facts5
 clear hu hv b3 z3 k0 k1 k2 hS
 go_enter Tryz.func79,Tryz.ntmps79
 go_upto_region 1 with fail
 rw [← hW]
 clear hW
 go_wp2_with fail
 obtain ⟨W5,hW5,z5,g5,q5⟩:∃ W5,W5=(((((W.setCell ⟨w.heap.size+1+1,0,none⟩ (.int .i64 k)).setCell ⟨w.heap.size+1+1,1,none⟩ (.int .i64 0)).setCell ⟨w.heap.size+1+1,2,none⟩ (.slice none 0 0)).setCell ⟨w.heap.size+1+1,3,none⟩ (.slice none 0 0)).setCell ⟨w.heap.size+1+1,4,none⟩ (.slice (some ⟨w.heap.size+3,0,none⟩) 2 2))∧W5.heap.size=W.heap.size∧W.grownBy W5 (some (w.heap.size+1+1))∧Blk W5 (w.heap.size+1+1) 34 #[.int .i64 k,.int .i64 0,.slice none 0 0,.slice none 0 0,.slice (some ⟨w.heap.size+3,0,none⟩) 2 2]:=⟨_,rfl,by simp,only_set5 W (w.heap.size+1+1) _ _ _ _ _,HB.out.2.2.set5 _ _ _ _ _⟩
 rw [← hW5]
 clear hW5
 obtain ⟨y0,y1,y2,y3,y4⟩:=(q5.alloc (Obj.cells #[.int .i64 a.kind,.int .i64 a.type.kind,.slice B0 a.type.args.length d0,.slice C0 a.terms.length e0,.slice A0 a.args.length c0,.int .i64 b.kind,.int .i64 b.type.kind,.slice B1 b.type.args.length d1,.slice C1 b.terms.length e1,.slice A1 b.args.length c1] 34)).cells5
 refine bodyPost_ret (v:=.agg #[.int .i64 k,.int .i64 0,.slice none 0 0,.slice none 0 0,.slice (some ⟨w.heap.size+3,0,none⟩) 2 2]) (by simp [results,Tryz.results79,go_sem,y0,y1,y2,y3,y4]) rfl ?_
 have hk5:∀ q:Addr,S q.block→W5.cell? q=W.cell? q:=fun q hq=>World.cell?_of_block (g5.block q.block (by have:=HS.out _ hq; omega) (by have:=HS.out _ hq; simp; omega))
 have h2:=Rep.Sl.built (R:=FmR) (l:=[a,b]) (w:=W5) (fm_ch2 (HU.out.1.keep (fun _ h=>h) hk5) (HU.out.2.keep (fun _ h=>h) hk5)) (fun b h=>by have:=HS.out b h; omega) (fun b=>(S b∨w.heap.size≤b)∧b<W5.heap.size+1) (fun b h=>⟨.inl h,by have:=HS.out b h; omega⟩) ⟨.inr (by omega),by omega⟩
 rw [show W5.heap.size=w.heap.size+3 from by omega] at h2
 have hb5:Below w.heap.size w W5:=HB.out.1.grown g5 HB.out.1.size (fun g e=>by cases e; omega)
 exact ⟨_,rfl,isFm_iff.2 ⟨rfl,IsTy.leaf _ _ _,Rep.Sl.nil _ _,h2.keep (fun b h=>⟨h.1,by have:=h.2; simp only [World.size_alloc]; omega⟩) (fun _ _=>rfl)⟩,hb5.alloc hb5.size _⟩
end Go.Proofs.YtipfnkajdooiiaaGreatDoor
namespace Go.Proofs.YtipfnkajdooiiaaGreatDoor
open Go.RowKit

set_option maxRecDepth 100000 in
set_option maxHeartbeats 4000000 in
theorem fEq_any (a b:Tm) (u v:Value) (S:Nat→Prop) (w:World) (hS:∀ b,S b→b<w.heap.size) (hu:IsTm S w a u) (hv:IsTm S w b v) :
   Calls Tryz.prog 80 #[u,v] w (MakesF S (.mk 1 .zero [a,b] []) w):=by
 obtain ⟨B0,d0,A0,c0,rfl,_⟩:=IsTm.form hu
 obtain ⟨B1,d1,A1,c1,rfl,_⟩:=IsTm.form hv
 obtain ⟨W,hW,b3,z3,k0,k1,k2⟩:=three_blks w #[.int .i64 a.kind,.int .i64 a.index,.int .i64 a.type.kind,.slice B0 a.type.args.length d0,.slice A0 a.args.length c0] #[.int .i64 b.kind,.int .i64 b.index,.int .i64 b.type.kind,.slice B1 b.type.args.length d1,.slice A1 b.args.length c1] #[.int .i64 0,.int .i64 0,.slice none 0 0,.slice none 0 0,.slice none 0 0] 42 42 34
 have HU:=Lib.hid (And.intro (show IsTm S W a _ from hu.keep (fun _ h=>h) (fun q hq=>b3.cell (hS _ hq))) (show IsTm S W b _ from hv.keep (fun _ h=>h) (fun q hq=>b3.cell (hS _ hq))))
 have HB:=Lib.hid (And.intro b3 (And.intro z3 k2))
 have HS:=Lib.hid hS
 have hz3:=z3
 obtain ⟨p0,p1,p2,p3,p4,_⟩:=k0.facts5
 obtain ⟨q0,q1,q2,q3,q4,_⟩:=k1.facts5
 obtain ⟨_,_,_,_,_,f0,f1,f2,f3,f4⟩:=k2.facts5
 clear hu hv b3 z3 k0 k1 k2 hS
 go_enter Tryz.func80,Tryz.ntmps80
 go_upto_region 1 with fail
 rw [← hW]
 clear hW
 go_wp2_with fail
 obtain ⟨W5,hW5,z5,g5,q5⟩:∃ W5,W5=(((((W.setCell ⟨w.heap.size+1+1,0,none⟩ (.int .i64 1)).setCell ⟨w.heap.size+1+1,1,none⟩ (.int .i64 0)).setCell ⟨w.heap.size+1+1,2,none⟩ (.slice none 0 0)).setCell ⟨w.heap.size+1+1,3,none⟩ (.slice (some ⟨w.heap.size+3,0,none⟩) 2 2)).setCell ⟨w.heap.size+1+1,4,none⟩ (.slice none 0 0))∧W5.heap.size=W.heap.size∧W.grownBy W5 (some (w.heap.size+1+1))∧Blk W5 (w.heap.size+1+1) 34 #[.int .i64 1,.int .i64 0,.slice none 0 0,.slice (some ⟨w.heap.size+3,0,none⟩) 2 2,.slice none 0 0]:=⟨_,rfl,by simp,only_set5 W (w.heap.size+1+1) _ _ _ _ _,HB.out.2.2.set5 _ _ _ _ _⟩
 rw [← hW5]
 clear hW5
 obtain ⟨y0,y1,y2,y3,y4⟩:=(q5.alloc (Obj.cells #[.int .i64 a.kind,.int .i64 a.index,.int .i64 a.type.kind,.slice B0 a.type.args.length d0,.slice A0 a.args.length c0,.int .i64 b.kind,.int .i64 b.index,.int .i64 b.type.kind,.slice B1 b.type.args.length d1,.slice A1 b.args.length c1] 42)).cells5
 refine bodyPost_ret (v:=.agg #[.int .i64 1,.int .i64 0,.slice none 0 0,.slice (some ⟨w.heap.size+3,0,none⟩) 2 2,.slice none 0 0]) (by simp [results,Tryz.results80,go_sem,y0,y1,y2,y3,y4]) rfl ?_
 have hk5:∀ q:Addr,S q.block→W5.cell? q=W.cell? q:=fun q hq=>World.cell?_of_block (g5.block q.block (by have:=HS.out _ hq; omega) (by have:=HS.out _ hq; simp; omega))
 have h2:=Rep.Sl.built (R:=TmR) (l:=[a,b]) (w:=W5) (tm_ch2 (IsTm.keep (fun _ h=>h) hk5 _ HU.out.1) (IsTm.keep (fun _ h=>h) hk5 _ HU.out.2)) (fun b h=>by have:=HS.out b h; omega) (fun b=>(S b∨w.heap.size≤b)∧b<W5.heap.size+1) (fun b h=>⟨.inl h,by have:=HS.out b h; omega⟩) ⟨.inr (by omega),by omega⟩
 rw [show W5.heap.size=w.heap.size+3 from by omega] at h2
 have hb5:Below w.heap.size w W5:=HB.out.1.grown g5 HB.out.1.size (fun g e=>by cases e; omega)
 exact ⟨_,rfl,isFm_iff.2 ⟨rfl,IsTy.leaf _ _ _,h2.keep (fun b h=>⟨h.1,by have:=h.2; simp only [World.size_alloc]; omega⟩) (fun _ _=>rfl),Rep.Sl.nil _ _⟩,hb5.alloc hb5.size _⟩
end Go.Proofs.YtipfnkajdooiiaaGreatDoor
namespace Go.Proofs.YtipfnkajdooiiaaGreatDoor
open Go.RowKit

def zeroTm:Tm:=.mk 4 0 .zero []
def falseFm:Fm:=.mk 1 .zero [zeroTm,.mk 5 0 .zero [zeroTm]] []
theorem zeroTm_any (S:Nat→Prop) (w:World):IsTm S w zeroTm (.agg #[.int .i64 4,.int .i64 0,.int .i64 0,.slice none 0 0,.slice none 0 0]):=isTm_iff.2 ⟨rfl,rfl,IsTy.leaf _ _ _,Rep.Sl.nil _ _⟩
set_option maxRecDepth 100000 in
set_option maxHeartbeats 4000000 in
theorem fFalse_any (w:World):Calls Tryz.prog 53 #[] w (MakesF (fun _=>False) falseFm w):=by
 obtain ⟨W,hW,b2,z2,k0,k1⟩:=two_blks w #[.int .i64 0,.int .i64 0,.slice none 0 0,.slice none 0 0,.slice none 0 0] #[.int .i64 4,.int .i64 0,.int .i64 0,.slice none 0 0,.slice none 0 0] 34 42
 obtain ⟨X,hX,bX,zX,kX⟩:∃ X,X=W.alloc (.cells #[.int .i64 4,.int .i64 0,.int .i64 0,.slice none 0 0,.slice none 0 0] 42)∧Below W.heap.size W X∧X.heap.size=W.heap.size+1∧Blk X W.heap.size 42 #[.int .i64 4,.int .i64 0,.int .i64 0,.slice none 0 0,.slice none 0 0]:=⟨_,rfl,(Below.refl _ _).alloc (Nat.le_refl _) _,by simp,Blk.new _ _ _⟩
 have TS:=Lib.hid (show IsTm (fun b=>b=W.heap.size) X (.mk 5 0 .zero [zeroTm]) (.agg #[.int .i64 5,.int .i64 0,.int .i64 0,.slice none 0 0,.slice (some ⟨W.heap.size,0,none⟩) 1 1]) from isTm_iff.2 ⟨rfl,rfl,IsTy.leaf _ _ _,Rep.Sl.of_blk (R:=TmR) (S:=fun b=>b=W.heap.size) kX (tm_one (zeroTm_any _ _)) (fun b h=>h) rfl rfl⟩)
 have HB:=Lib.hid (And.intro (b2.trans (bX.mono b2.size)) (And.intro z2 (And.intro zX (k0.below bX k0.lt))))
 have HXX:=Lib.hid hX
 obtain ⟨q0,q1,q2,q3,q4,_⟩:=k1.facts5
 clear b2 z2 k0 k1 bX zX kX hX
 go_enter Tryz.func53,Tryz.ntmps53
 go_upto_region 2 with fail
 rw [← hW]
 clear hW
 go_wp2_with fail
 rw [← HXX.out]
 refine (fEq_any zeroTm (.mk 5 0 .zero [zeroTm]) _ _ (fun b=>b=W.heap.size) X (fun b h=>by have:=HB.out.2.2.1; omega) (zeroTm_any _ _) TS.out).mono ?_
 rintro e w1 ⟨v1,rfl,h1,hb1⟩
 obtain ⟨F,hF⟩:∃ F:Fm,F=falseFm:=⟨_,rfl⟩
 have h1':IsFm (fun b=>(b=W.heap.size∨X.heap.size≤b)∧b<w1.heap.size) w1 F v1:=by rw [hF]; exact h1
 obtain ⟨B1,d1,C1,e1,A1,c1,rfl,_⟩:=h1'.form
 have k0':=HB.out.2.2.2.below hb1 HB.out.2.2.2.lt
 obtain ⟨_,_,_,_,_,f0,f1,f2,f3,f4⟩:=k0'.facts5
 have HE:=Lib.hid (And.intro k0' (And.intro h1' hb1))
 have HF:=Lib.hid hF
 clear k0' h1 h1' hb1 hF q0 q1 q2 q3 q4
 go_wp2_with fail
 obtain ⟨y0,y1,y2,y3,y4⟩:=(HE.out.1.set5 (.int .i64 F.kind) (.int .i64 F.type.kind) (.slice B1 F.type.args.length d1) (.slice C1 F.terms.length e1) (.slice A1 F.args.length c1)).cells5
 have hg:=only_set5 w1 w.heap.size (.int .i64 F.kind) (.int .i64 F.type.kind) (.slice B1 F.type.args.length d1) (.slice C1 F.terms.length e1) (.slice A1 F.args.length c1)
 have hz:=HB.out.2.1
 have hz2:=HB.out.2.2.1
 have hb2:=HB.out.1.trans (HE.out.2.2.mono HB.out.1.size)
 refine bodyPost_ret (v:=.agg #[.int .i64 F.kind,.int .i64 F.type.kind,.slice B1 F.type.args.length d1,.slice C1 F.terms.length e1,.slice A1 F.args.length c1]) (by simp [results,Tryz.results53,go_sem,y0,y1,y2,y3,y4]) rfl ⟨_,rfl,?_,hb2.grown hg hb2.size (fun k e=>by cases e; omega)⟩
 rw [← HF.out]
 exact IsFm.keep (S:=fun b=>(b=W.heap.size∨X.heap.size≤b)∧b<w1.heap.size) (w:=w1) (fun b h=>⟨.inr (by omega),Nat.lt_of_lt_of_le h.2 hg.size⟩) (fun q hq=>World.cell?_of_block (hg.block q.block hq.2 (by have h1:=hq.1; simp; omega))) _ HE.out.2.1
end Go.Proofs.YtipfnkajdooiiaaGreatDoor
namespace Go.Proofs.YtipfnkajdooiiaaGreatDoor
open Go.RowKit

set_option maxRecDepth 100000 in
set_option maxHeartbeats 4000000 in
theorem fWhole_any (f:Fm) (v:Value) (S:Nat→Prop) (w:World) (hf:GoodF f) (hsz:f.size≤4096) (hb:f.bulk≤390000) (htab:Tab w) (hS:∀ b,S b→b<w.heap.size) (hF:IsFm S w f v) :
   Calls Tryz.prog 78 #[v] w (GivesFm S f w):=by
 obtain ⟨B,d,C,e0,A,c,rfl,_⟩:=IsFm.form hF
 obtain ⟨W,hW,b2,z2,k0,k1⟩:=two_blks w #[.int .i64 f.kind,.int .i64 f.type.kind,.slice B f.type.args.length d,.slice C f.terms.length e0,.slice A f.args.length c] #[.int .i64 0,.int .i64 0,.slice none 0 0,.slice none 0 0,.slice none 0 0] 34 34
 have HX:=Lib.hid fun (w':World) (h:Below W.heap.size W w')=>And.intro (k0.below h k0.lt).facts5 (show IsFm S w' f _ from hF.keep (fun _ h=>h) (fun q hq=>(h.cell (Nat.lt_of_lt_of_le (hS _ hq) b2.size)).trans (b2.cell (hS _ hq))))
 have HB:=Lib.hid (And.intro b2 (And.intro z2 k1))
 have HS:=Lib.hid hS
 have HO:=Lib.hid (And.intro hf (And.intro hsz hb))
 have HTab:=Lib.hid (htab.after b2)
 obtain ⟨r0,r1,r2,r3,r4,_⟩:=k0.facts5
 clear hF hf hsz hb htab b2 z2 k0 k1 hS
 go_enter Tryz.func78,Tryz.ntmps78
 go_upto_region 1 with fail
 rw [← hW]
 clear hW
 go_wp2_with fail
 refine (checkF_ok HO.out.1 HO.out.2.1 _ W (by have:=HO.out.2.2; omega) HTab.out ((HX.out W (Below.refl _ _)).2.keep (fun b h=>Nat.lt_of_lt_of_le (HS.out b h) HB.out.1.size) (fun _ _=>rfl))).mono ?_
 rintro e w1 ⟨rfl,hb1⟩
 have k1':=HB.out.2.2.below hb1 HB.out.2.2.lt
 obtain ⟨_,_,_,_,_,f0,f1,f2,f3,f4⟩:=k1'.facts5
 have HE:=Lib.hid (And.intro k1' hb1)
 clear k1' hb1 r0 r1 r2 r3 r4
 obtain ⟨r0,r1,r2,r3,r4,_⟩:=(HX.out w1 HE.out.2).1
 go_wp2_with fail
 obtain ⟨y0,y1,y2,y3,y4⟩:=(HE.out.1.set5 (.int .i64 f.kind) (.int .i64 f.type.kind) (.slice B f.type.args.length d) (.slice C f.terms.length e0) (.slice A f.args.length c)).cells5
 have hg:=only_set5 w1 (w.heap.size+1) (.int .i64 f.kind) (.int .i64 f.type.kind) (.slice B f.type.args.length d) (.slice C f.terms.length e0) (.slice A f.args.length c)
 have hz:=HB.out.2.1
 have hb2:=HB.out.1.trans (HE.out.2.mono HB.out.1.size)
 refine bodyPost_ret (v:=.tuple #[.agg #[.int .i64 f.kind,.int .i64 f.type.kind,.slice B f.type.args.length d,.slice C f.terms.length e0,.slice A f.args.length c],.int .i64 0]) (by simp [results,Tryz.results78,go_sem,y0,y1,y2,y3,y4]) rfl ⟨_,rfl,?_,hb2.grown hg hb2.size (fun k e=>by cases e; omega)⟩
 exact IsFm.keep (S:=S) (w:=w1) (fun b h=>⟨.inl h,by have:=HS.out b h; have:=hg.size; have:=hb2.size; omega⟩) (fun q hq=>World.cell?_of_block (hg.block q.block (by have:=HS.out _ hq; have:=hb2.size; omega) (by have:=HS.out _ hq; simp; omega))) _ (HX.out w1 HE.out.2).2
end Go.Proofs.YtipfnkajdooiiaaGreatDoor
namespace Go.Proofs.YtipfnkajdooiiaaGreatDoor
open Go.RowKit

def ntA (i j:Nat):Bool:=([0,0,3,7,15,15,63,127].getD i 0).testBit j
def RFact.fmS (S:Nat→Prop) (base:Nat) (F:Fm) (v:Value) (p:Prop):RFact:=.pub (fun S1 w=>IsFm (fun b=>S1 b∧(S b∨base≤b)) w F v∧p) fun hS hc h=>⟨IsFm.keep (fun b hb=>⟨hS b hb.1,hb.2⟩) (fun q hq=>hc q hq.1) _ h.1,h.2⟩
def ntF (S:Nat→Prop) (base:Nat) (f:Fm) (FV:Value) (i:Nat) (V:Nat→Value) (H:Nat→Value):RFact:=
 match i with
 | 0=>.pure (V 0=FV)
 | 1=>.fmS S base falseFm (V 1) True
 | 2=>.fmS S base (.mk 3 .zero [] [f,falseFm]) (V 2) True
 | 3=>.fmS S base (.mk 3 .zero [] [f,falseFm]) (H 3) (V 3=.tuple #[H 3,.int .i64 0])
 | 4=>.fmS S base (.mk 3 .zero [] [f,falseFm]) (V 4) True
 | 5=>.pure (V 5=.int .i64 0)
 | _=>.pure True
theorem false_good:GoodF falseFm:=.eq _ _ (by decide) (by decide)
set_option maxRecDepth 100000 in
set_option maxHeartbeats 8000000 in
theorem fNot_any (f:Fm) (v:Value) (S:Nat→Prop) (w:World) (hf:GoodF f) (hsz:f.size≤4000) (hb:f.bulk≤300000) (htab:Tab w) (hS:∀ b,S b→b<w.heap.size) (hF:IsFm S w f v) :
   Calls Tryz.prog 18 #[v] w (GivesFm S (.mk 3 .zero [] [f,falseFm]) w):=by
 obtain ⟨B,d,C,e0,A,c,rfl,_⟩:=IsFm.form hF
 obtain ⟨W,hW,b2,z2,k0,k1⟩:=two_blks w #[.int .i64 f.kind,.int .i64 f.type.kind,.slice B f.type.args.length d,.slice C f.terms.length e0,.slice A f.args.length c] #[.int .i64 0,.int .i64 0,.slice none 0 0,.slice none 0 0,.slice none 0 0] 34 34
 have KF:=Lib.hid k0
 have HB:=Lib.hid (And.intro b2 (And.intro z2 k1))
 have HS:=Lib.hid hS
 have HSW:=Lib.hid (show ∀ b,S b→b<W.drew.heap.size from fun b h=>Nat.lt_of_lt_of_le (hS b h) b2.size)
 have TF:=Lib.hid (show IsFm S W.drew f (.agg #[.int .i64 f.kind,.int .i64 f.type.kind,.slice B f.type.args.length d,.slice C f.terms.length e0,.slice A f.args.length c]) from IsFm.keep (w':=W.drew) (fun _ h=>h) (fun q hq=>b2.cell (hS _ hq)) _ hF)
 have HTab:=Lib.hid (show Tab W.drew from (htab.after b2).after ((Below.refl W.heap.size W).drew))
 have hfs:falseFm.size=4∧falseFm.bulk=8:=by decide
 have HN:=Lib.hid (show GoodF (.mk 3 .zero [] [f,falseFm])∧(Fm.mk 3 .zero [] [f,falseFm]).size≤4096∧(Fm.mk 3 .zero [] [f,falseFm]).bulk≤390000 from ⟨.two 3 f falseFm (.inr rfl) hf false_good,by simp only [Fm.size,sizeAllT,sizeAllF,hfs.1]; omega,by simp only [Fm.bulk,bulkAll,bulkAllF,Ty.zero,Ty.nodes,nodesAll,hfs.2]; omega⟩)
 clear hF hf hsz hb htab b2 z2 k0 k1 hS hfs
 go_enter Tryz.func18,Tryz.ntmps18
 go_upto_region 1 with fail
 rw [← hW]
 clear hW
 obtain ⟨base,hbase⟩:∃ n,n=W.drew.heap.size:=⟨_,rfl⟩
 have HBS:=Lib.hid hbase
 clear hbase
 refine wp_region_any (by kernel_rfl) ?_
 change wpAny _ _ _ _ _ _ _ (World.drew _)
 refine wpAny_tail (by kernel_rfl) (by kernel_rfl) undef ntA (by kernel_rfl) (fun _=>none) (ntF S base f (.agg #[.int .i64 f.kind,.int .i64 f.type.kind,.slice B f.type.args.length d,.slice C f.terms.length e0,.slice A f.args.length c])) 6 (by decide) (by kernel_rfl) (fun _=>False) (fun _=>False) (fun _=>True) _ _ (fun _ h=>h.elim) (fun _ h=>h) trivial ⟨?_,?_,?_,?_,?_,?_,trivial⟩ ?_
 · intro V H L a w1 hp K hK
   exact step_run rfl (run_load5F rfl (hp.slot0 1 _ rfl rfl) (hp.blk0 KF.out.drew id)) (hK _ undef _ (Post.still rfl trivial hp.lt fun L' _=>rfl))
 · intro V H L a w1 hp K hK
   refine step_call rfl _ _ _ rfl #[] (by simp) (enters_of Tryz.func53 (by kernel_rfl) rfl) (fFalse_any w1) ?_
   rintro e w' ⟨v,rfl,hv,hb⟩
   exact ⟨_,rfl,hK _ undef _ (Post.of rfl (Turn.call hb) trivial hp.lt fun L' _ hn=>⟨IsFm.keep (fun b h=>⟨hn b (h.1.resolve_left id) h.2,.inr (Nat.le_trans (hp.base_le (Nat.le_of_eq HBS.out)) (h.1.resolve_left id))⟩) (fun _ _=>rfl) _ hv,trivial⟩)⟩
 · intro V H L a w1 hp K hK
   have f0:V 0=_:=hp.fact 0 rfl
   have e0:=hp.slot 0 4 rfl rfl rfl
   rw [f0] at e0
   have f1:IsFm (fun b=>Good L w1 b∧(S b∨base≤b)) w1 falseFm (V 1)∧True:=hp.fact 1 rfl
   have e1:=hp.slot 1 5 rfl rfl rfl
   have ek0:a.eval (.const (.int .i64 3))=.int .i64 3:=rfl
   refine step_call rfl _ _ _ rfl _ (by simp only [List.map_toArray,List.map_cons,List.map_nil,ek0,e0,e1]) (enters_of Tryz.func79 (by kernel_rfl) rfl) (fTwo_any 3 f falseFm _ _ (fun b=>Good L w1 b∧(S b∨base≤b)) w1 (fun b h=>h.1.2) (IsFm.keep (w:=W.drew) (fun b h=>⟨hp.good b ⟨id,HSW.out b h⟩,.inl h⟩) (fun q hq=>hp.cell q ⟨id,HSW.out _ hq⟩) _ TF.out) f1.1) ?_
   rintro e w' ⟨v,rfl,hv,hb⟩
   exact ⟨_,rfl,hK _ undef _ (Post.of rfl (Turn.call hb) trivial hp.lt fun L' hg hn=>⟨IsFm.keep (fun b h=>h.1.elim (fun x=>⟨hg b x.1,x.2⟩) (fun x=>⟨hn b x h.2,.inr (Nat.le_trans (hp.base_le (Nat.le_of_eq HBS.out)) x)⟩)) (fun _ _=>rfl) _ hv,trivial⟩)⟩
 · intro V H L a w1 hp K hK
   have f2:IsFm (fun b=>Good L w1 b∧(S b∨base≤b)) w1 (.mk 3 .zero [] [f,falseFm]) (V 2)∧True:=hp.fact 2 rfl
   have e2:=hp.slot 2 6 rfl rfl rfl
   refine step_call rfl _ _ _ rfl _ (by simp only [List.map_toArray,List.map_cons,List.map_nil,e2]) (enters_of Tryz.func78 (by kernel_rfl) rfl) (fWhole_any (.mk 3 .zero [] [f,falseFm]) _ (fun b=>Good L w1 b∧(S b∨base≤b)) w1 HN.out.1 HN.out.2.1 HN.out.2.2 (HTab.out.after (show Below W.drew.heap.size W.drew w1 from ⟨hp.grown.os,hp.grown.tape,hp.grown.output,hp.grown.size,fun k hk=>hp.grown.block k hk id⟩)) (fun b h=>h.1.2) f2.1) ?_
   rintro e w' ⟨v,rfl,hv,hb⟩
   exact ⟨_,rfl,hK _ v _ (Post.of rfl (Turn.call hb) trivial hp.lt fun L' hg hn=>⟨IsFm.keep (fun b h=>h.1.elim (fun x=>⟨hg b x.1,x.2⟩) (fun x=>⟨hn b x h.2,.inr (Nat.le_trans (hp.base_le (Nat.le_of_eq HBS.out)) x)⟩)) (fun _ _=>rfl) _ hv,rfl⟩)⟩
 · intro V H L a w1 hp K hK
   have f3:IsFm (fun b=>Good L w1 b∧(S b∨base≤b)) w1 (.mk 3 .zero [] [f,falseFm]) (H 3)∧V 3=.tuple #[H 3,.int .i64 0]:=hp.fact 3 rfl
   have e3:=hp.slot 3 7 rfl rfl rfl
   rw [f3.2] at e3
   exact step_run rfl (run_extract rfl e3 rfl) (hK _ undef _ (Post.still rfl trivial hp.lt fun L' hg=>⟨IsFm.keep (fun b h=>⟨hg b h.1,h.2⟩) (fun _ _=>rfl) _ f3.1,trivial⟩))
 · intro V H L a w1 hp K hK
   have f3:IsFm (fun b=>Good L w1 b∧(S b∨base≤b)) w1 (.mk 3 .zero [] [f,falseFm]) (H 3)∧V 3=.tuple #[H 3,.int .i64 0]:=hp.fact 3 rfl
   have e3:=hp.slot 3 7 rfl rfl rfl
   rw [f3.2] at e3
   exact step_run rfl (run_extract rfl e3 rfl) (hK _ undef _ (Post.still rfl trivial hp.lt fun L' hg=>rfl))
 · intro V H L a w6 hp ha
   have f4:IsFm (fun b=>Good L w6 b∧(S b∨base≤b)) w6 (.mk 3 .zero [] [f,falseFm]) (V 4)∧True:=hp.fact 4 rfl
   have f5:V 5=_:=hp.fact 5 rfl
   obtain ⟨F,hFd⟩:∃ F:Fm,F=(.mk 3 .zero [] [f,falseFm]):=⟨_,rfl⟩
   rw [← hFd] at f4
   have HF:=Lib.hid hFd
   have e4:=hp.slot 4 8 rfl rfl rfl
   have e5:=hp.slot 5 9 rfl rfl rfl
   have e2:=hp.slot0 2 (.pointer (some ⟨w.heap.size+1,0,none⟩)) rfl rfl
   have hk:=hp.blk0 HB.out.2.2.drew id
   have hg:=hp.grown
   obtain ⟨B4,d4,C4,e4',A4,c4,h4,_⟩:=f4.1.form
   rw [h4] at e4 f4
   rw [f5] at e5
   refine tail_skip rfl (run_storeF rfl e2 e4 rfl rfl rfl rfl rfl hk) ?_
   refine tail_run rfl (run_assign rfl e5) ?_
   refine tail_end ?_
   have HE:=Lib.hid (And.intro hk (And.intro f4.1 (show Below W.heap.size W w6 from ⟨hg.os,hg.tape,hg.output,hg.size,fun k hk=>hg.block k hk id⟩)))
   rw [ha]
   simp only [putFrom,dstOf,Act.put,List.getElem?_toArray,List.getElem?_cons_zero,List.getElem?_cons_succ,List.setIfInBounds_toArray,List.set_cons_zero,List.set_cons_succ,h4,f5]
   clear hp ha f4 f5 hFd e4 e5 e2 hk hg h4
   generalize V 0=v0
   generalize V 1=v1
   generalize V 2=v2
   generalize V 3=v3
   go_wp2_with fail
   obtain ⟨y0,y1,y2,y3,y4⟩:=(HE.out.1.set5 (.int .i64 F.kind) (.int .i64 F.type.kind) (.slice B4 F.type.args.length d4) (.slice C4 F.terms.length e4') (.slice A4 F.args.length c4)).cells5
   have hg:=only_set5 w6 (w.heap.size+1) (.int .i64 F.kind) (.int .i64 F.type.kind) (.slice B4 F.type.args.length d4) (.slice C4 F.terms.length e4') (.slice A4 F.args.length c4)
   have hz:=HB.out.2.1
   have hbs:=HBS.out
   have hb2:=HB.out.1.trans (HE.out.2.2.mono HB.out.1.size)
   refine bodyPost_ret (v:=.tuple #[.agg #[.int .i64 F.kind,.int .i64 F.type.kind,.slice B4 F.type.args.length d4,.slice C4 F.terms.length e4',.slice A4 F.args.length c4],.int .i64 0]) (by simp [results,Tryz.results18,go_sem,y0,y1,y2,y3,y4]) rfl ⟨_,rfl,?_,hb2.grown hg hb2.size (fun g e=>by cases e; omega)⟩
   have hbw:base=W.heap.size:=hbs
   rw [← HF.out]
   exact IsFm.keep (S:=fun b=>Good L w6 b∧(S b∨base≤b)) (w:=w6) (fun b h=>⟨h.2.imp id (fun x=>by omega),Nat.lt_of_lt_of_le h.1.2 hg.size⟩) (fun q hq=>World.cell?_of_block (hg.block q.block hq.1.2 (by have h1:=hq.2; simp; rcases h1 with h1 | h1; (have:=HS.out _ h1; omega); omega))) _ HE.out.2.1
end Go.Proofs.YtipfnkajdooiiaaGreatDoor
