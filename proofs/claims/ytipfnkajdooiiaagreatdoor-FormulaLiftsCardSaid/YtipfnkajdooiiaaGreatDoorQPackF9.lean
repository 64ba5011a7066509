/- formula.Or of valid formulas. -/
import Derived.Test.YtipfnkajdooiiaaGreatDoorQPackF4
import Derived.Test.YtipfnkajdooiiaaGreatDoorQPackF5
import Derived.Test.YtipfnkajdooiiaaGreatDoorQPackF3
import Derived.Test.YtipfnkajdooiiaaGreatDoorQPackF8
namespace Go.Proofs.YtipfnkajdooiiaaGreatDoor
open Go.RowKit

def orA (i j:Nat):Bool:=([0,0,3,0,7,31,0,127,255,0,1023].getD i 0).testBit j
def orF (S:Nat→Prop) (base:Nat) (r q:Fm) (VF VR VQ:Value) (i:Nat) (V:Nat→Value) (_:Nat→Value):RFact:=
 match i with
 | 0=>.pure (V 0=VF)
 | 1=>.pure (V 1=VR)
 | 2=>.fmS S base (.mk 3 .zero [] [firstFm,r]) (V 2) True
 | 3=>.pure (V 3=VF)
 | 4=>.fmS S base falseFm (V 4) True
 | 5=>.fmS S base (.mk 3 .zero [] [firstFm,falseFm]) (V 5) True
 | 6=>.pure (V 6=VQ)
 | 7=>.fmS S base (.mk 3 .zero [] [(.mk 3 .zero [] [firstFm,falseFm]),q]) (V 7) True
 | 8=>.fmS S base (.mk 2 .zero [] [(.mk 3 .zero [] [firstFm,r]),(.mk 3 .zero [] [(.mk 3 .zero [] [firstFm,falseFm]),q])]) (V 8) True
 | 9=>.box 34 #[.int .i64 0,.int .i64 0,.slice none 0 0,.slice none 0 0,.slice none 0 0] (V 9)
 | _=>.pure True
theorem var0_any (S:Nat→Prop) (w:World):IsTm S w (.mk 1 0 .zero []) (.agg #[.int .i64 1,.int .i64 0,.int .i64 0,.slice none 0 0,.slice none 0 0]):=isTm_iff.2 ⟨rfl,rfl,IsTy.leaf _ _ _,Rep.Sl.nil _ _⟩
theorem first_good:GoodF firstFm:=.eq _ _ (by decide) (by decide)
theorem or_good {r q:Fm} (hr:GoodF r) (hq:GoodF q):GoodF (orFm r q):=.quant 5 tyNat _ (by decide) (by decide) (.two 2 _ _ (.inl rfl) (.two 3 _ _ (.inr rfl) first_good hr) (.two 3 _ _ (.inr rfl) (.two 3 _ _ (.inr rfl) first_good false_good) hq))
set_option maxRecDepth 100000 in
set_option maxHeartbeats 16000000 in
theorem fOr_any (f h r q:Fm) (u v:Value) (S:Nat→Prop) (w:World) (hf:FineF f) (hh:FineF h) (hfs:f.size≤2000) (hhs:h.size≤2000) (hfb:f.bulk≤100000) (hhb:h.bulk≤100000) (hr:ReadF f (f.asTm.lift 0 1) r) (hq:ReadF h (h.asTm.lift 0 1) q)
   (hor:(orFm r q).size≤4096∧(orFm r q).bulk≤390000) (htab:Tab w) (hS:∀ b,S b→b<w.heap.size) (hF:IsFm S w f u) (hH:IsFm S w h v) :
   Calls Tryz.prog 19 #[u,v] w (GivesFm S (orFm r q) w):=by
 obtain ⟨B0,d0,C0,e0,A0,c0,rfl,_⟩:=IsFm.form hF
 obtain ⟨B1,d1,C1,e1,A1,c1,rfl,_⟩:=IsFm.form hH
 obtain ⟨W,hW,b3,z3,k0,k1,k2⟩:=three_blks w #[.int .i64 f.kind,.int .i64 f.type.kind,.slice B0 f.type.args.length d0,.slice C0 f.terms.length e0,.slice A0 f.args.length c0] #[.int .i64 h.kind,.int .i64 h.type.kind,.slice B1 h.type.args.length d1,.slice C1 h.terms.length e1,.slice A1 h.args.length c1] #[.int .i64 0,.int .i64 0,.slice none 0 0,.slice none 0 0,.slice none 0 0] 34 34 34
 have HF:=Lib.hid (And.intro hf (And.intro (show f.size≤4096 by omega) (And.intro (show f.bulk≤300000 by omega) hr)))
 have HH:=Lib.hid (And.intro hh (And.intro (show h.size≤4096 by omega) (And.intro (show h.bulk≤300000 by omega) hq)))
 have HOR:=Lib.hid (And.intro (or_good (readF_lift1 hf (by omega) hr) (readF_lift1 hh (by omega) hq)) hor)
 have TF0:=Lib.hid (show IsFm S W f _ from hF.keep (fun _ h=>h) (fun q hq=>b3.cell (hS _ hq)))
 have TH0:=Lib.hid (show IsFm S W h _ from hH.keep (fun _ h=>h) (fun q hq=>b3.cell (hS _ hq)))
 have HB:=Lib.hid (And.intro b3 (And.intro z3 (And.intro k0 (And.intro k1 k2))))
 have HS:=Lib.hid hS
 have HTab:=Lib.hid (htab.after b3)
 have HTL:=Lib.hid htab
 have hz3:=z3
 obtain ⟨p0,p1,p2,p3,p4,_⟩:=k0.facts5
 clear hF hH hf hh hr hq hfs hhs hfb hhb hor htab b3 z3 k0 k1 k2 hS
 go_enter Tryz.func19,Tryz.ntmps19
 go_upto_region 1 with fail
 rw [← hW]
 clear hW
 go_wp2_with fail
 refine (fLift_any f r _ 0 1 S W HF.out.1 HF.out.2.1 HF.out.2.2.1 HF.out.2.2.2 (by omega) (by omega) HTab.out (fun b h=>Nat.lt_of_lt_of_le (HS.out b h) HB.out.1.size) TF0.out).mono ?_
 rintro e w1 ⟨v1,rfl,h1,hb1⟩
 obtain ⟨Br,dr,Cr,er,Ar,cr,rfl,_⟩:=h1.form
 obtain ⟨_,_,_,_,_,f0,f1,f2,f3,f4⟩:=(HB.out.2.2.1.below hb1 HB.out.2.2.1.lt).facts5
 have HE:=Lib.hid (And.intro h1 hb1)
 clear h1 hb1 p0 p1 p2 p3 p4
 go_upto_region 2 with fail
 obtain ⟨W5,hW5,z5,g5,q5⟩:∃ W5,W5=(((((w1.setCell ⟨w.heap.size,0,none⟩ (.int .i64 r.kind)).setCell ⟨w.heap.size,1,none⟩ (.int .i64 r.type.kind)).setCell ⟨w.heap.size,2,none⟩ (.slice Br r.type.args.length dr)).setCell ⟨w.heap.size,3,none⟩ (.slice Cr r.terms.length er)).setCell ⟨w.heap.size,4,none⟩ (.slice Ar r.args.length cr))∧W5.heap.size=w1.heap.size∧w1.grownBy W5 (some w.heap.size)∧Blk W5 w.heap.size 34 #[.int .i64 r.kind,.int .i64 r.type.kind,.slice Br r.type.args.length dr,.slice Cr r.terms.length er,.slice Ar r.args.length cr]:=⟨_,rfl,by simp,only_set5 w1 w.heap.size _ _ _ _ _,(HB.out.2.2.1.below HE.out.2 HB.out.2.2.1.lt).set5 _ _ _ _ _⟩
 rw [← hW5]
 have TR:=Lib.hid (show IsFm (fun b=>(S b∨W.heap.size≤b)∧b<W5.heap.size) W5 r (.agg #[.int .i64 r.kind,.int .i64 r.type.kind,.slice Br r.type.args.length dr,.slice Cr r.terms.length er,.slice Ar r.args.length cr]) from IsFm.keep (fun b h=>⟨h.1,by have:=h.2; omega⟩) (fun q hq=>World.cell?_of_block (g5.block q.block hq.2 (by have h1:=hq.1; simp; rcases h1 with h1 | h1; (have:=HS.out _ h1; omega); omega))) _ HE.out.1)
 have hs1:=HE.out.2.size
 have TH:=Lib.hid (show IsFm S W5 h (.agg #[.int .i64 h.kind,.int .i64 h.type.kind,.slice B1 h.type.args.length d1,.slice C1 h.terms.length e1,.slice A1 h.args.length c1]) from IsFm.keep (fun _ h=>h) (fun q hq=>(World.cell?_of_block (g5.block q.block (by have:=HS.out _ hq; omega) (by have:=HS.out _ hq; simp; omega))).trans (HE.out.2.cell (by have:=HS.out _ hq; omega))) _ TH0.out)
 have K0:=Lib.hid q5
 have K1:=Lib.hid ((HB.out.2.2.2.1.below HE.out.2 HB.out.2.2.2.1.lt).grown g5 (by simp))
 have K2:=Lib.hid ((HB.out.2.2.2.2.below HE.out.2 HB.out.2.2.2.2.lt).grown g5 (by simp; omega))
 have hbw1:Below w.heap.size w w1:=HB.out.1.trans (HE.out.2.mono HB.out.1.size)
 have HB5:=Lib.hid (show Below w.heap.size w W5 from hbw1.grown g5 hbw1.size (fun k e=>by cases e; omega))
 have HT5:=Lib.hid (show Tab W5 from HTL.out.after HB5.out)
 have HZ5:=Lib.hid (show w.heap.size+3≤W5.heap.size by omega)
 obtain ⟨p0,p1,p2,p3,p4,_⟩:=K1.out.facts5
 clear hW5 z5 g5 q5 hbw1 f0 f1 f2 f3 f4 hs1 HE
 go_wp2_with fail
 have hz5:=HZ5.out
 refine (fLift_any h q _ 0 1 S W5 HH.out.1 HH.out.2.1 HH.out.2.2.1 HH.out.2.2.2 (by omega) (by omega) HT5.out (fun b h=>by have:=HS.out b h; omega) TH.out).mono ?_
 rintro e w2 ⟨v2,rfl,h2,hb2⟩
 obtain ⟨Bq,dq,Cq,eq,Aq,cq,rfl,_⟩:=h2.form
 obtain ⟨_,_,_,_,_,f0,f1,f2,f3,f4⟩:=(K1.out.below hb2 K1.out.lt).facts5
 have HE:=Lib.hid (And.intro h2 hb2)
 clear h2 hb2 p0 p1 p2 p3 p4
 go_upto_region 5 with fail
 obtain ⟨W6,hW6,z6,g6,q6⟩:∃ W6,W6=(((((w2.setCell ⟨w.heap.size+1,0,none⟩ (.int .i64 q.kind)).setCell ⟨w.heap.size+1,1,none⟩ (.int .i64 q.type.kind)).setCell ⟨w.heap.size+1,2,none⟩ (.slice Bq q.type.args.length dq)).setCell ⟨w.heap.size+1,3,none⟩ (.slice Cq q.terms.length eq)).setCell ⟨w.heap.size+1,4,none⟩ (.slice Aq q.args.length cq))∧W6.heap.size=w2.heap.size∧w2.grownBy W6 (some (w.heap.size+1))∧Blk W6 (w.heap.size+1) 34 #[.int .i64 q.kind,.int .i64 q.type.kind,.slice Bq q.type.args.length dq,.slice Cq q.terms.length eq,.slice Aq q.args.length cq]:=⟨_,rfl,by simp,only_set5 w2 (w.heap.size+1) _ _ _ _ _,(K1.out.below HE.out.2 K1.out.lt).set5 _ _ _ _ _⟩
 rw [← hW6]
 have hs2:=HE.out.2.size
 have TQ6:=Lib.hid (show IsFm (fun b=>(S b∨W.heap.size≤b)∧b<W6.heap.size) W6 q (.agg #[.int .i64 q.kind,.int .i64 q.type.kind,.slice Bq q.type.args.length dq,.slice Cq q.terms.length eq,.slice Aq q.args.length cq]) from IsFm.keep (fun b h=>⟨h.1.imp id (fun x=>by omega),by have:=h.2; omega⟩) (fun q hq=>World.cell?_of_block (g6.block q.block hq.2 (by have h1:=hq.1; simp; rcases h1 with h1 | h1; (have:=HS.out _ h1; omega); omega))) _ HE.out.1)
 have TR6:=Lib.hid (show IsFm (fun b=>(S b∨W.heap.size≤b)∧b<W6.heap.size) W6 r (.agg #[.int .i64 r.kind,.int .i64 r.type.kind,.slice Br r.type.args.length dr,.slice Cr r.terms.length er,.slice Ar r.args.length cr]) from IsFm.keep (fun b h=>⟨h.1,by have:=h.2; omega⟩) (fun q hq=>(World.cell?_of_block (g6.block q.block (by have:=hq.2; omega) (by have h1:=hq.1; simp; rcases h1 with h1 | h1; (have:=HS.out _ h1; omega); omega))).trans (HE.out.2.cell hq.2)) _ TR.out)
 have J0:=Lib.hid ((K0.out.below HE.out.2 K0.out.lt).grown g6 (by simp))
 have J1:=Lib.hid q6
 have J2:=Lib.hid ((K2.out.below HE.out.2 K2.out.lt).grown g6 (by simp))
 have hbw2:Below w.heap.size w w2:=HB5.out.trans (HE.out.2.mono HB5.out.size)
 have HB6:=Lib.hid (show Below w.heap.size w W6 from hbw2.grown g6 hbw2.size (fun k e=>by cases e; omega))
 have HZ6:=Lib.hid (show w.heap.size+3≤W6.heap.size by omega)
 clear hW6 z6 g6 q6 hbw2 f0 f1 f2 f3 f4 hs2 HE TR TH K0 K1 K2 HT5 HB5 HZ5 hz5
 go_wp2_with fail
 have hz6:=HZ6.out
 refine (fEq_any (.mk 1 0 .zero []) zeroTm _ _ (fun _=>False) W6 (fun _ h=>h.elim) (var0_any _ _) (zeroTm_any _ _)).mono ?_
 rintro e w3 ⟨v3,rfl,h3,hb3⟩
 obtain ⟨FF,hFF⟩:∃ F:Fm,F=firstFm:=⟨_,rfl⟩
 have h3':IsFm (fun b=>(False∨W6.heap.size≤b)∧b<w3.heap.size) w3 FF v3:=by rw [hFF]; exact h3
 obtain ⟨Bf,df,Cf,ef,Af,cf,rfl,_⟩:=h3'.form
 have HFF:=Lib.hid hFF
 have HE:=Lib.hid (And.intro h3' hb3)
 clear h3 h3' hb3 hFF
 go_upto_region 8 with fail
 obtain ⟨X,hX,bX,zX,kX⟩:=boxF w3 #[.int .i64 FF.kind,.int .i64 FF.type.kind,.slice Bf FF.type.args.length df,.slice Cf FF.terms.length ef,.slice Af FF.args.length cf]
 rw [← hX]
 have hs3:=HE.out.2.size
 have KF:=Lib.hid kX
 have KA:=Lib.hid ((J0.out.below HE.out.2 J0.out.lt).below bX (Nat.lt_of_lt_of_le J0.out.lt hs3))
 have KB:=Lib.hid ((J1.out.below HE.out.2 J1.out.lt).below bX (Nat.lt_of_lt_of_le J1.out.lt hs3))
 have KR:=Lib.hid ((J2.out.below HE.out.2 J2.out.lt).below bX (Nat.lt_of_lt_of_le J2.out.lt hs3))
 have b6X:Below W6.heap.size W6 X:=HE.out.2.trans (bX.mono hs3)
 have HBX:=Lib.hid (show Below w.heap.size w X from HB6.out.trans (b6X.mono HB6.out.size))
 obtain ⟨base,hbase⟩:∃ n,n=W.heap.size:=⟨_,rfl⟩
 have TA:=Lib.hid (show IsFm (fun b=>(S b∨base≤b)∧b<X.drew.heap.size) X.drew r (.agg #[.int .i64 r.kind,.int .i64 r.type.kind,.slice Br r.type.args.length dr,.slice Cr r.terms.length er,.slice Ar r.args.length cr]) from by rw [hbase]; exact IsFm.keep (S':=fun b=>(S b∨W.heap.size≤b)∧b<X.drew.heap.size) (w':=X.drew) (fun b h=>⟨h.1,Nat.lt_of_lt_of_le h.2 b6X.size⟩) (fun q hq=>b6X.cell hq.2) _ TR6.out)
 have TB:=Lib.hid (show IsFm (fun b=>(S b∨base≤b)∧b<X.drew.heap.size) X.drew q (.agg #[.int .i64 q.kind,.int .i64 q.type.kind,.slice Bq q.type.args.length dq,.slice Cq q.terms.length eq,.slice Aq q.args.length cq]) from by rw [hbase]; exact IsFm.keep (S':=fun b=>(S b∨W.heap.size≤b)∧b<X.drew.heap.size) (w':=X.drew) (fun b h=>⟨h.1,Nat.lt_of_lt_of_le h.2 b6X.size⟩) (fun q hq=>b6X.cell hq.2) _ TQ6.out)
 have TF:=Lib.hid (show IsFm (fun b=>(S b∨base≤b)∧b<X.drew.heap.size) X.drew firstFm (.agg #[.int .i64 FF.kind,.int .i64 FF.type.kind,.slice Bf FF.type.args.length df,.slice Cf FF.terms.length ef,.slice Af FF.args.length cf]) from by rw [← HFF.out,hbase]; exact IsFm.keep (S':=fun b=>(S b∨W.heap.size≤b)∧b<X.drew.heap.size) (w':=X.drew) (fun b h=>⟨.inr (by have h1:=h.1.resolve_left id; omega),Nat.lt_of_lt_of_le h.2 bX.size⟩) (fun q hq=>bX.cell hq.2) _ HE.out.1)
 have HBS:=Lib.hid (show base≤X.drew.heap.size from by have h1:X.drew.heap.size=X.heap.size:=rfl; omega)
 have HBW:=Lib.hid (show base=w.heap.size+3 by omega)
 clear hX bX zX kX hbase J0 J1 J2 TR6 TQ6 HE b6X hs3 HB6 HZ6 hz6
 refine wp_region_any (by kernel_rfl) ?_
 change wpAny _ _ _ _ _ _ _ (World.drew _)
 refine wpAny_tail (by kernel_rfl) (by kernel_rfl) undef orA (by kernel_rfl) (fun _=>none) (orF S base r q (.agg #[.int .i64 FF.kind,.int .i64 FF.type.kind,.slice Bf FF.type.args.length df,.slice Cf FF.terms.length ef,.slice Af FF.args.length cf]) (.agg #[.int .i64 r.kind,.int .i64 r.type.kind,.slice Br r.type.args.length dr,.slice Cr r.terms.length er,.slice Ar r.args.length cr]) (.agg #[.int .i64 q.kind,.int .i64 q.type.kind,.slice Bq q.type.args.length dq,.slice Cq q.terms.length eq,.slice Aq q.args.length cq])) 10 (by decide) (by kernel_rfl) (fun _=>False) (fun _=>False) (fun _=>True) _ _ (fun _ h=>h.elim) (fun _ h=>h) trivial ⟨?_,?_,?_,?_,?_,?_,?_,?_,?_,?_,trivial⟩ ?_
 · intro V H L a w1 hp K hK
   exact step_run rfl (run_load5F rfl (hp.slot0 7 _ rfl rfl) (hp.blk0 KF.out.drew id)) (hK _ undef _ (Post.still rfl trivial hp.lt fun L' _=>rfl))
 · intro V H L a w1 hp K hK
   exact step_run rfl (run_load5F rfl (hp.slot0 2 _ rfl rfl) (hp.blk0 KA.out.drew id)) (hK _ undef _ (Post.still rfl trivial hp.lt fun L' _=>rfl))
 · intro V H L a w1 hp K hK
   have f0:V 0=_:=hp.fact 0 rfl
   have e0:=hp.slot 0 30 rfl rfl rfl
   rw [f0] at e0
   have f1:V 1=_:=hp.fact 1 rfl
   have e1:=hp.slot 1 31 rfl rfl rfl
   rw [f1] at e1
   have ek0:a.eval (.const (.int .i64 3))=.int .i64 3:=rfl
   refine step_call rfl _ _ _ rfl _ (by simp only [List.map_toArray,List.map_cons,List.map_nil,ek0,e0,e1]) (enters_of Tryz.func79 (by kernel_rfl) rfl) (fTwo_any 3 firstFm r _ _ (fun b=>Good L w1 b∧(S b∨base≤b)) w1 (fun b h=>h.1.2) (IsFm.keep (w:=X.drew) (fun b h=>⟨hp.good b ⟨id,h.2⟩,h.1⟩) (fun q hq=>hp.cell q ⟨id,hq.2⟩) _ TF.out) (IsFm.keep (w:=X.drew) (fun b h=>⟨hp.good b ⟨id,h.2⟩,h.1⟩) (fun q hq=>hp.cell q ⟨id,hq.2⟩) _ TA.out)) ?_
   rintro e w' ⟨v,rfl,hv,hb⟩
   exact ⟨_,rfl,hK _ undef _ (Post.of rfl (Turn.call hb) trivial hp.lt fun L' hg hn=>⟨IsFm.keep (fun b h=>h.1.elim (fun x=>⟨hg b x.1,x.2⟩) (fun x=>⟨hn b x h.2,.inr (Nat.le_trans (hp.base_le HBS.out) x)⟩)) (fun _ _=>rfl) _ hv,trivial⟩)⟩
 · intro V H L a w1 hp K hK
   exact step_run rfl (run_load5F rfl (hp.slot0 7 _ rfl rfl) (hp.blk0 KF.out.drew id)) (hK _ undef _ (Post.still rfl trivial hp.lt fun L' _=>rfl))
 · intro V H L a w1 hp K hK
   refine step_call rfl _ _ _ rfl #[] (by simp) (enters_of Tryz.func53 (by kernel_rfl) rfl) (fFalse_any w1) ?_
   rintro e w' ⟨v,rfl,hv,hb⟩
   exact ⟨_,rfl,hK _ undef _ (Post.of rfl (Turn.call hb) trivial hp.lt fun L' _ hn=>⟨IsFm.keep (fun b h=>⟨hn b (h.1.resolve_left id) h.2,.inr (Nat.le_trans (hp.base_le HBS.out) (h.1.resolve_left id))⟩) (fun _ _=>rfl) _ hv,trivial⟩)⟩
 · intro V H L a w1 hp K hK
   have f3:V 3=_:=hp.fact 3 rfl
   have e3:=hp.slot 3 33 rfl rfl rfl
   rw [f3] at e3
   have f4:IsFm (fun b=>Good L w1 b∧(S b∨base≤b)) w1 falseFm (V 4)∧True:=hp.fact 4 rfl
   have e4:=hp.slot 4 34 rfl rfl rfl
   have ek0:a.eval (.const (.int .i64 3))=.int .i64 3:=rfl
   refine step_call rfl _ _ _ rfl _ (by simp only [List.map_toArray,List.map_cons,List.map_nil,ek0,e3,e4]) (enters_of Tryz.func79 (by kernel_rfl) rfl) (fTwo_any 3 firstFm falseFm _ _ (fun b=>Good L w1 b∧(S b∨base≤b)) w1 (fun b h=>h.1.2) (IsFm.keep (w:=X.drew) (fun b h=>⟨hp.good b ⟨id,h.2⟩,h.1⟩) (fun q hq=>hp.cell q ⟨id,hq.2⟩) _ TF.out) f4.1) ?_
   rintro e w' ⟨v,rfl,hv,hb⟩
   exact ⟨_,rfl,hK _ undef _ (Post.of rfl (Turn.call hb) trivial hp.lt fun L' hg hn=>⟨IsFm.keep (fun b h=>h.1.elim (fun x=>⟨hg b x.1,x.2⟩) (fun x=>⟨hn b x h.2,.inr (Nat.le_trans (hp.base_le HBS.out) x)⟩)) (fun _ _=>rfl) _ hv,trivial⟩)⟩
 · intro V H L a w1 hp K hK
   exact step_run rfl (run_load5F rfl (hp.slot0 3 _ rfl rfl) (hp.blk0 KB.out.drew id)) (hK _ undef _ (Post.still rfl trivial hp.lt fun L' _=>rfl))
 · intro V H L a w1 hp K hK
   have f5:IsFm (fun b=>Good L w1 b∧(S b∨base≤b)) w1 (.mk 3 .zero [] [firstFm,falseFm]) (V 5)∧True:=hp.fact 5 rfl
   have e5:=hp.slot 5 35 rfl rfl rfl
   have f6:V 6=_:=hp.fact 6 rfl
   have e6:=hp.slot 6 36 rfl rfl rfl
   rw [f6] at e6
   have ek0:a.eval (.const (.int .i64 3))=.int .i64 3:=rfl
   refine step_call rfl _ _ _ rfl _ (by simp only [List.map_toArray,List.map_cons,List.map_nil,ek0,e5,e6]) (enters_of Tryz.func79 (by kernel_rfl) rfl) (fTwo_any 3 (.mk 3 .zero [] [firstFm,falseFm]) q _ _ (fun b=>Good L w1 b∧(S b∨base≤b)) w1 (fun b h=>h.1.2) f5.1 (IsFm.keep (w:=X.drew) (fun b h=>⟨hp.good b ⟨id,h.2⟩,h.1⟩) (fun q hq=>hp.cell q ⟨id,hq.2⟩) _ TB.out)) ?_
   rintro e w' ⟨v,rfl,hv,hb⟩
   exact ⟨_,rfl,hK _ undef _ (Post.of rfl (Turn.call hb) trivial hp.lt fun L' hg hn=>⟨IsFm.keep (fun b h=>h.1.elim (fun x=>⟨hg b x.1,x.2⟩) (fun x=>⟨hn b x h.2,.inr (Nat.le_trans (hp.base_le HBS.out) x)⟩)) (fun _ _=>rfl) _ hv,trivial⟩)⟩
 · intro V H L a w1 hp K hK
   have f2:IsFm (fun b=>Good L w1 b∧(S b∨base≤b)) w1 (.mk 3 .zero [] [firstFm,r]) (V 2)∧True:=hp.fact 2 rfl
   have e2:=hp.slot 2 32 rfl rfl rfl
   have f7:IsFm (fun b=>Good L w1 b∧(S b∨base≤b)) w1 (.mk 3 .zero [] [(.mk 3 .zero [] [firstFm,falseFm]),q]) (V 7)∧True:=hp.fact 7 rfl
   have e7:=hp.slot 7 37 rfl rfl rfl
   have ek0:a.eval (.const (.int .i64 2))=.int .i64 2:=rfl
   refine step_call rfl _ _ _ rfl _ (by simp only [List.map_toArray,List.map_cons,List.map_nil,ek0,e2,e7]) (enters_of Tryz.func79 (by kernel_rfl) rfl) (fTwo_any 2 (.mk 3 .zero [] [firstFm,r]) (.mk 3 .zero [] [(.mk 3 .zero [] [firstFm,falseFm]),q]) _ _ (fun b=>Good L w1 b∧(S b∨base≤b)) w1 (fun b h=>h.1.2) f2.1 f7.1) ?_
   rintro e w' ⟨v,rfl,hv,hb⟩
   exact ⟨_,rfl,hK _ undef _ (Post.of rfl (Turn.call hb) trivial hp.lt fun L' hg hn=>⟨IsFm.keep (fun b h=>h.1.elim (fun x=>⟨hg b x.1,x.2⟩) (fun x=>⟨hn b x h.2,.inr (Nat.le_trans (hp.base_le HBS.out) x)⟩)) (fun _ _=>rfl) _ hv,trivial⟩)⟩
 · intro V H L a w1 hp K hK
   exact step_run rfl (run_allocF rfl) (hK _ undef _ (Post.made rfl trivial))
 · intro V H L a w6 hp ha
   obtain ⟨F,hFd⟩:∃ F:Fm,F=(.mk 2 .zero [] [(.mk 3 .zero [] [firstFm,r]),(.mk 3 .zero [] [(.mk 3 .zero [] [firstFm,falseFm]),q])]):=⟨_,rfl⟩
   have f8:IsFm (fun b=>Good L w6 b∧(S b∨base≤b)) w6 (.mk 2 .zero [] [(.mk 3 .zero [] [firstFm,r]),(.mk 3 .zero [] [(.mk 3 .zero [] [firstFm,falseFm]),q])]) (V 8)∧True:=hp.fact 8 rfl
   rw [← hFd] at f8
   have HF8:=Lib.hid hFd
   obtain ⟨D,hv,hk⟩:∃ b,V 9=.pointer (some ⟨b,0,none⟩)∧Blk w6 b _ _:=hp.fact 9 rfl
   have e8:=hp.slot 8 38 rfl rfl rfl
   have e9:=hp.slot 9 8 rfl rfl rfl
   have hDL:=hp.own 9 D rfl (by show ptrBlk (V 9)=_; rw [hv]; rfl)
   have hg:=hp.grown
   obtain ⟨B4,d4,C4,e4,A4,c4,h4,_⟩:=f8.1.form
   rw [h4] at e8 f8
   rw [hv] at e9
   refine tail_skip rfl (run_storeF rfl e9 e8 rfl rfl rfl rfl rfl hk) ?_
   refine tail_end ?_
   obtain ⟨Y,hY,zY,gY,kY⟩:∃ Y,Y=((((w6.setCell ⟨D,0,none⟩ (.int .i64 F.kind)).setCell ⟨D,1,none⟩ (.int .i64 F.type.kind)).setCell ⟨D,2,none⟩ (.slice B4 F.type.args.length d4)).setCell ⟨D,3,none⟩ (.slice C4 F.terms.length e4)).setCell ⟨D,4,none⟩ (.slice A4 F.args.length c4)∧Y.heap.size=w6.heap.size∧w6.grownBy Y (some D)∧Blk Y D 34 #[.int .i64 F.kind,.int .i64 F.type.kind,.slice B4 F.type.args.length d4,.slice C4 F.terms.length e4,.slice A4 F.args.length c4]:=⟨_,rfl,by simp,only_set5 w6 D _ _ _ _ _,hk.set5 _ _ _ _ _⟩
   rw [← hY]
   have hxs:X.heap.size≤w6.heap.size:=hg.size
   have hDX:X.heap.size≤D:=hDL.2
   have TY:=Lib.hid (show IsFm (fun b=>(S b∨base≤b)∧b<Y.heap.size) Y F (.agg #[.int .i64 F.kind,.int .i64 F.type.kind,.slice B4 F.type.args.length d4,.slice C4 F.terms.length e4,.slice A4 F.args.length c4]) from IsFm.keep (fun b h=>⟨h.2,by have:=h.1.2; omega⟩) (fun q hq=>World.cell?_of_block (gY.block q.block hq.1.2 (fun e=>hq.1.1 (by have e':q.block=D:=(by simpa using e); rw [e']; exact hDL.1)))) _ f8.1)
   have hbXw6:Below X.heap.size X w6:=⟨hg.os,hg.tape,hg.output,hg.size,fun k hk=>hg.block k hk id⟩
   have hbXY:Below X.heap.size X Y:=hbXw6.grown gY hbXw6.size (fun k e=>by cases e; omega)
   have HY:=Lib.hid (show Below w.heap.size w Y from HBX.out.trans (hbXY.mono HBX.out.size))
   have KRY:=Lib.hid (KR.out.below hbXY KR.out.lt)
   have KD:=Lib.hid kY
   have HSY:=Lib.hid (show w.heap.size+3≤Y.heap.size by have:=HBW.out; have:=HBS.out; have h1:X.drew.heap.size=X.heap.size:=rfl; omega)
   obtain ⟨p0,p1,p2,p3,p4,_⟩:=kY.facts5
   rw [ha]
   simp only [putFrom,dstOf,Act.put,List.getElem?_toArray,List.getElem?_cons_zero,List.getElem?_cons_succ,List.setIfInBounds_toArray,List.set_cons_zero,List.set_cons_succ,h4,hv]
   clear hp ha f8 hFd e8 e9 hk hg h4 hv hY zY gY kY hDL hxs hDX hbXw6 hbXY
   generalize V 0=v0
   generalize V 1=v1
   generalize V 2=v2
   generalize V 3=v3
   generalize V 4=v4
   generalize V 5=v5
   generalize V 6=v6
   generalize V 7=v7
   go_wp2_with fail
   obtain ⟨Z,hZ,bZ,zZ,kZ⟩:=boxF Y #[.int .i64 F.kind,.int .i64 F.type.kind,.slice B4 F.type.args.length d4,.slice C4 F.terms.length e4,.slice A4 F.args.length c4]
   rw [← hZ]
   have HOF:=Lib.hid (show orFm r q=.mk 5 tyNat [] [F] from by rw [HF8.out]; rfl)
   have hor:=HOR.out
   rw [HOF.out] at hor
   have TZ:=Lib.hid (show IsFm (fun b=>(S b∨base≤b)∧b<Z.heap.size) Z (.mk 5 tyNat [] [F]) (.agg #[.int .i64 5,.int .i64 1,.slice none 0 0,.slice none 0 0,.slice (some ⟨Y.heap.size,0,none⟩) 1 1]) from
     isFm_iff.2 ⟨rfl,IsTy.leaf _ _ _,Rep.Sl.nil _ _,Rep.Sl.of_blk (R:=FmR) (S:=fun b=>(S b∨base≤b)∧b<Z.heap.size) kZ (Rep.Ch.one (R:=FmR) (vs:=[_,_,_,_,_]) (show FmR.is _ _ F _ from IsFm.keep (S':=fun b=>(S b∨base≤b)∧b<Z.heap.size) (w':=Z) (fun b h=>⟨h.1,by have:=h.2; omega⟩) (fun q hq=>bZ.cell hq.2) _ TY.out)) (fun b h=>h) ⟨.inr (by have:=HSY.out; have:=HBW.out; omega),by omega⟩ rfl⟩)
   have HZY:=Lib.hid (show Y.heap.size≤Z.heap.size by omega)
   have HYZ:=Lib.hid (show Below w.heap.size w Z from HY.out.trans (bZ.mono HY.out.size))
   have KRZ:=Lib.hid (KRY.out.below bZ KRY.out.lt)
   clear hZ bZ zZ kZ p0 p1 p2 p3 p4
   refine (fWhole_any (.mk 5 tyNat [] [F]) _ (fun b=>(S b∨base≤b)∧b<Z.heap.size) Z hor.1 hor.2.1 hor.2.2 (HTL.out.after HYZ.out) (fun b h=>h.2) TZ.out).mono ?_
   rintro e w9 ⟨v9,rfl,h9,hb9⟩
   obtain ⟨G,hG⟩:∃ G:Fm,G=.mk 5 tyNat [] [F]:=⟨_,rfl⟩
   rw [← hG] at h9
   obtain ⟨B9,d9,C9,e9,A9,c9,rfl,_⟩:=h9.form
   have k9:=KRZ.out.below hb9 KRZ.out.lt
   obtain ⟨_,_,_,_,_,f0,f1,f2,f3,f4⟩:=k9.facts5
   have HE:=Lib.hid (And.intro k9 (And.intro h9 (And.intro hb9 hG)))
   clear k9 h9 hb9 hG hor
   go_wp2_with fail
   obtain ⟨y0,y1,y2,y3,y4⟩:=(HE.out.1.set5 (.int .i64 G.kind) (.int .i64 G.type.kind) (.slice B9 G.type.args.length d9) (.slice C9 G.terms.length e9) (.slice A9 G.args.length c9)).cells5
   have hg:=only_set5 w9 (w.heap.size+1+1) (.int .i64 G.kind) (.int .i64 G.type.kind) (.slice B9 G.type.args.length d9) (.slice C9 G.terms.length e9) (.slice A9 G.args.length c9)
   have hb2:=HYZ.out.trans (HE.out.2.2.1.mono HYZ.out.size)
   refine bodyPost_ret (v:=.tuple #[.agg #[.int .i64 G.kind,.int .i64 G.type.kind,.slice B9 G.type.args.length d9,.slice C9 G.terms.length e9,.slice A9 G.args.length c9],.int .i64 0]) (by simp [results,Tryz.results19,go_sem,y0,y1,y2,y3,y4]) rfl ⟨_,rfl,?_,hb2.grown hg hb2.size (fun k e=>by cases e; omega)⟩
   rw [HOF.out,← HE.out.2.2.2]
   have hbw:=HBW.out
   exact IsFm.keep (S:=fun b=>(((S b∨base≤b)∧b<Z.heap.size)∨Z.heap.size≤b)∧b<w9.heap.size) (w:=w9) (fun b h=>⟨by rcases h.1 with h1 | h1; (exact h1.1.imp id (fun x=>by omega)); (exact .inr (by have:=HYZ.out.size; omega)),Nat.lt_of_lt_of_le h.2 hg.size⟩) (fun q hq=>World.cell?_of_block (hg.block q.block hq.2 (by have h1:=hq.1; simp; have h5:=HYZ.out.size; have h6:=HSY.out; have h7:Y.heap.size≤Z.heap.size:=HZY.out; rcases h1 with h1 | h1; (rcases h1.1 with h2 | h2; (have:=HS.out _ h2; omega); omega); omega))) _ HE.out.2.1
end Go.Proofs.YtipfnkajdooiiaaGreatDoor
namespace Go.Proofs.YtipfnkajdooiiaaGreatDoor
open Go.RowKit

theorem bd_small:bdP 2≤3000∧bdQ 2≤3000:=by decide
theorem MadeF.low {d:Nat} {G:List Ty} {f:Fm} (h:MadeF d G f) (hG:G.length+d≤900):f.asTm.low 1000000=true:=by
 induction h with
 | eq d G s t hs ht=>rw [Fm.asTm,if_pos rfl]; simp [Tm.low,lowAll,made_low6 hs (by omega) (by omega),made_low6 ht (by omega) (by omega)]
 | two d G k a b hk _ _ iha ihb=>rw [Fm.asTm,if_neg (by omega),if_pos hk]; simp [asTmAll,Tm.low,lowAll,iha (by omega),ihb (by omega)]
 | quant d G k T b hk hT hn _ ih=>rw [Fm.asTm,if_neg (by omega),if_neg (by omega)]; simp [asTmAll,Tm.low,lowAll,ih (by simp only [List.length_append,List.length_cons,List.length_nil]; omega)]
/-- What a lifted formula is. -/
theorem lifted_facts {d:Nat} {G:List Ty} {f r:Fm} (h:MadeF d G f) (hG:G.length+d≤900) (hs:f.bulk≤4000) (hr:ReadF f (f.asTm.lift 0 1) r):FineF r∧r.size≤4096∧r.bulk≤300000∧r.size=f.size∧r.bulk=f.bulk:=by
 have hf:=h.fine hG
 have ha:=asTm_facts hf
 have hsz:=size_le_bulkF f
 have h1:FineF r:=readF_fine hr hf.good (lift_ok _ _ _ ha.2.2.1) (by rw [lift_size,ha.1]; omega) (low_mono (by omega) _ (lift_lowN _ 0 1 (h.low hG)))
 have hb:=asTm_facts h1
 rw [hr.asTm,lift_size,lift_bulk,ha.1,ha.2.1] at hb
 exact ⟨h1,by omega,by omega,hb.1.symm,hb.2.1.symm⟩
theorem or_small {a b:Fm} (ha:a.size≤1600∧a.bulk≤1600) (hb:b.size≤1600∧b.bulk≤1600):(orFm a b).size≤4096∧(orFm a b).bulk≤390000:=by
 have hfs:falseFm.size=4∧falseFm.bulk=8:=by decide
 have h1:firstFm.size=3∧firstFm.bulk=6:=by decide
 refine ⟨?_,?_⟩
 · simp only [orFm,Fm.size,sizeAllT,sizeAllF,hfs.1,h1.1]; omega
 · simp only [orFm,Fm.bulk,bulkAll,bulkAllF,Ty.zero,tyNat,Ty.nodes,nodesAll,hfs.2,h1.2]; omega
abbrev G7:=Ty × Tm × Value
def g7z:G7:=(tyNat,zeroTm,undef)
def l7A (i j:Nat):Bool:=([0,0,0,0,8,30,63,127,255,255,0,1535,4095].getD i 0).testBit j
def l7C (i:Nat):Option Nat:=if i=10 then some 11 else none
def l7F (gg base:Nat) (f:Fm) (VA SV:Value) (i:Nat) (V:Nat→Value) (H:Nat→G7):RFact:=
 match i with
 | 0=>.pure (V 0=VA)
 | 1=>.pure (V 1=.pointer (some ⟨gg,0,none⟩))
 | 2=>.pure (V 2=SV)
 | 3=>.pure (V 3=.pointer (some ⟨gg,0,none⟩))
 | 4=>.tyN base (H 4).1 (V 4) ((H 4).1.ok=true∧(H 4).1.nodes≤3)
 | 5=>.tmN base (H 5).2.1 (V 5) ((H 5).2.1.err=0∧(H 5).2.1.low 536870912=true∧(H 5).2.1.bulk≤390000)
 | 6=>.fm f (H 6).2.2 (V 6=.tuple #[(H 6).2.2,.int .i64 0])
 | 7=>.pure (V 7=.tuple #[(H 6).2.2,.int .i64 0])
 | 8=>.fm f (V 8) True
 | 9=>.pure (V 9=.int .i64 0)
 | 10=>.box 34 #[.int .i64 0,.int .i64 0,.slice none 0 0,.slice none 0 0,.slice none 0 0] (V 10)
 | 11=>.boxv 34 (V 8) (V 10)
 | _=>.pure (V 12=.int .i64 0)
set_option maxRecDepth 100000 in
set_option maxHeartbeats 16000000 in
theorem fLiftsLaw_small (A:Option Addr) (len cap:Nat) (w:World) (htab:Tab w) (hlen:len≤500) (hA:∀ i,i<len→∃ a x,A=some a∧a.block<w.heap.size∧w.cell? (a.add i)=some (.int .i64 x)) :
   Calls Tryz.prog 3 #[.slice A len cap] w fun e w'=>e=.returned (.bool true)∧Below w.heap.size w w':=by
 have hA':=Lib.hid hA
 have HTab:=Lib.hid htab
 clear hA htab
 have e500:decide ((len:Int)≤500)=true:=by simp; omega
 go_enter Tryz.func3,Tryz.ntmps3
 go_wp2_with fail
 refine (sane7_any w HTab.out).mono ?_
 rintro e w1 ⟨rfl,hb1⟩
 go_wp2_with fail
 refine (few_any A len cap w1 (by simp only [maxLen]; omega)).mono ?_
 rintro e w1' ⟨rfl,rfl⟩
 rw [e500]
 go_wp2_with fail
 have hA1:∀ i,i<len→∃ a x,A=some a∧a.block<w1.heap.size∧w1.cell? (a.add i)=some (.int .i64 x):=fun i hi=>by
   obtain ⟨a,x,h1,h2,h3⟩:=hA'.out i hi
   exact ⟨a,x,h1,Nat.lt_of_lt_of_le h2 hb1.size,(hb1.cell (by rw [add_block]; exact h2)).trans h3⟩
 refine (new_any A len cap w1 hlen hA1).mono ?_
 rintro e w2 ⟨rfl,hw2⟩
 have hd2:=new_deck A len cap w1 hlen hA1
 rw [hw2] at hd2
 have b_w2:Below w.heap.size w w2:=by rw [← hw2]; exact hb1.alloc hb1.size _
 have hgw:w.heap.size≤w1.heap.size:=hb1.size
 have hgz:w1.heap.size<w2.heap.size:=by rw [← hw2]; simp
 clear hw2 hA1 hb1
 generalize w1.heap.size=gg at hd2 hgw hgz ⊢
 have HD2:=Lib.hid hd2
 have HGW:=Lib.hid (And.intro hgw hgz)
 have HB2:=Lib.hid b_w2
 clear hd2 b_w2 hgw hgz
 go_wp2_with fail
 refine (mkContext_any gg w2 HD2.out).mono ?_
 rintro e w3 ⟨G,v,rfl,hG3,hGok,hGs,hGf,hGnil,hd3,hg3⟩
 obtain ⟨A3,c3,rfl⟩:=hGs.form
 have HG:=Lib.hid hG3
 have HNIL:=Lib.hid hGnil
 have HC3:=Lib.hid (show Ctx gg w3 G (.slice A3 G.length c3) from ⟨hGs.keep (fun b hb=>⟨by have:=hb.1; have:=HGW.out.2; omega,hb.2⟩) (fun _ _=>rfl),hGf,hGok⟩)
 have HD3:=Lib.hid hd3
 have HB3:=Lib.hid (HB2.out.trans ((turn_of hg3).toBelow (fun k hk e=>by have:=HGW.out.1; omega) HB2.out.size))
 clear hG3 hGok hGs hGf hGnil hd3 hg3
 go_wp2_with fail
 refine (Calls.mono (show Calls _ _ #[_,_,.int .i64 2] _ _ from formula_any gg 2 (by omega) G _ w3 (by have:=HG.out; omega) HC3.out HD3.out)) ?_
 rintro e w4 ⟨f,vf,rfl,mf,tf,hd4,ht4⟩
 obtain ⟨B1,d1,C1,e1,A1,c1,rfl,_,_⟩:=tf.form
 have HC4:=Lib.hid (HC3.out.turn ht4)
 have HD4:=Lib.hid hd4
 have HB4:=Lib.hid (HB3.out.trans (ht4.toBelow (fun k hk e=>by have:=HGW.out.1; omega) HB3.out.size))
 have MF:=Lib.hid mf
 have TF:=Lib.hid (show IsFm (Good (· = gg) w4) w4 f _ from tf.keep (fun b hb=>⟨by have:=hb.1; have:=HD3.out.lt; omega,hb.2⟩) (fun _ _=>rfl))
 clear mf tf hd4 ht4
 go_wp2_with fail
 refine (Calls.mono (show Calls _ _ #[_,_,.int .i64 2] _ _ from formula_any gg 2 (by omega) G _ w4 (by have:=HG.out; omega) HC4.out HD4.out)) ?_
 rintro e w5 ⟨h,vh,rfl,mh,th,hd5,ht5⟩
 obtain ⟨B2,d2,C2,e2,A2,c2,rfl,_,_⟩:=th.form
 have HB5:=Lib.hid (HB4.out.trans (ht5.toBelow (fun k hk e=>by have:=HGW.out.1; omega) HB4.out.size))
 have MH:=Lib.hid mh
 have TF5:=Lib.hid (show IsFm (Good (· = gg) w5) w5 f _ from TF.out.keep (fun b hb=>⟨hb.1,Nat.lt_of_lt_of_le hb.2 ht5.size⟩) (fun p hp=>World.cell?_of_block (ht5.block p.block hp.2 hp.1)))
 have TH5:=Lib.hid (show IsFm (Good (· = gg) w5) w5 h _ from th.keep (fun b hb=>⟨by have:=hb.1; have:=HD4.out.lt; omega,hb.2⟩) (fun _ _=>rfl))
 obtain ⟨W6,hW6,b6,z6,k60,k61⟩:=two_blks w5 #[.int .i64 f.kind,.int .i64 f.type.kind,.slice B1 f.type.args.length d1,.slice C1 f.terms.length e1,.slice A1 f.args.length c1] #[.int .i64 h.kind,.int .i64 h.type.kind,.slice B2 h.type.args.length d2,.slice C2 h.terms.length e2,.slice A2 h.args.length c2] 34 34
 have HC5:=Lib.hid ((HC4.out.turn ht5).turn (Turn.call b6))
 have HD6:=Lib.hid (hd5.call b6)
 have HB6:=Lib.hid (HB5.out.trans (b6.mono HB5.out.size))
 have K6:=Lib.hid (And.intro k60 k61)
 have TF6:=Lib.hid (show IsFm (Good (· = gg) W6) W6 f _ from TF5.out.keep (fun b h=>⟨h.1,Nat.lt_of_lt_of_le h.2 b6.size⟩) (fun p hp=>b6.cell hp.2))
 have TH6:=Lib.hid (show IsFm (Good (· = gg) W6) W6 h _ from TH5.out.keep (fun b h=>⟨h.1,Nat.lt_of_lt_of_le h.2 b6.size⟩) (fun p hp=>b6.cell hp.2))
 have hg5:=hd5.lt
 have HZ6:=Lib.hid (And.intro z6 hd5.lt)
 have HW6:=Lib.hid hW6
 have FF:=Lib.hid (MF.out.fine (by have:=HG.out; omega))
 have FH:=Lib.hid (MH.out.fine (by have:=HG.out; omega))
 have NF:=Lib.hid (And.intro (show f.bulk≤1600∧f.size≤1600 by have:=MF.out.bulk_two; have:=size_le_bulkF f; omega) (show h.bulk≤1600∧h.size≤1600 by have:=MH.out.bulk_two; have:=size_le_bulkF h; omega))
 obtain ⟨ra,hra⟩:=readF_lift FF.out.good 0 1
 obtain ⟨rh,hrh⟩:=readF_lift FH.out.good 0 1
 have HRA:=Lib.hid hra
 have HRH:=Lib.hid hrh
 have LA:=Lib.hid (lifted_facts MF.out (by have:=HG.out; omega) (by have:=NF.out.1; omega) hra)
 have LH:=Lib.hid (lifted_facts MH.out (by have:=HG.out; omega) (by have:=NF.out.2; omega) hrh)
 have FA:=Lib.hid (And.intro LA.out.1 (And.intro LA.out.2.1 LA.out.2.2.1))
 obtain ⟨p0,p1,p2,p3,p4,_,_,_,_,_⟩:=k60.facts5
 clear mh th hd5 ht5 b6 z6 k60 k61 hW6 hra hrh
 go_upto_region 8 with fail
 rw [← HW6.out]
 go_wp2_with fail
 refine (fLift_any f ra _ 0 1 (Good (· = gg) W6) W6 FF.out (by have:=NF.out.1; omega) (by have:=NF.out.1; omega) HRA.out (by omega) (by omega) (HTab.out.after HB6.out) (fun b h=>h.2) TF6.out).mono ?_
 rintro e w7 ⟨v7,rfl,h7,b7⟩
 obtain ⟨Ba,da,Ca,ea,Aa,ca,rfl,_⟩:=h7.form
 have H7:=Lib.hid (And.intro h7 b7)
 clear h7 b7 p0 p1 p2 p3 p4
 go_upto_region 9 with fail
 obtain ⟨X8,hX8,b8,z8,k8⟩:=boxF w7 #[.int .i64 ra.kind,.int .i64 ra.type.kind,.slice Ba ra.type.args.length da,.slice Ca ra.terms.length ea,.slice Aa ra.args.length ca]
 rw [← hX8]
 have b68:Below W6.heap.size W6 X8:=H7.out.2.trans (b8.mono H7.out.2.size)
 have HB8:=Lib.hid (HB6.out.trans (b68.mono HB6.out.size))
 have HD8:=Lib.hid (HD6.out.call b68)
 have HC8:=Lib.hid (HC5.out.turn (Turn.call b68))
 have KF:=Lib.hid (K6.out.1.below b68 K6.out.1.lt)
 have KH:=Lib.hid (K6.out.2.below b68 K6.out.2.lt)
 have KA:=Lib.hid k8
 have TF8:=Lib.hid (show IsFm (Good (· = gg) X8) X8 f _ from TF6.out.keep (fun b h=>⟨h.1,Nat.lt_of_lt_of_le h.2 b68.size⟩) (fun p hp=>b68.cell hp.2))
 have TH8:=Lib.hid (show IsFm (Good (· = gg) X8) X8 h _ from TH6.out.keep (fun b h=>⟨h.1,Nat.lt_of_lt_of_le h.2 b68.size⟩) (fun p hp=>b68.cell hp.2))
 have TA8:=Lib.hid (show IsFm (Good (· = gg) X8) X8 ra _ from H7.out.1.keep (fun b h=>⟨h.1.elim (fun x=>x.1) (fun x e=>by have:=HD6.out.lt; omega),Nat.lt_of_lt_of_le h.2 b8.size⟩) (fun p hp=>b8.cell hp.2))
 have HN8:=Lib.hid (show ¬ w7.heap.size=gg by have:=HD6.out.lt; have:=H7.out.2.size; omega)
 have HX8:=Lib.hid hX8
 obtain ⟨p0,p1,p2,p3,p4,_,_,_,_,_⟩:=k8.facts5
 clear hX8 b8 z8 k8 b68 H7
 go_wp2_with fail
 refine (fLower_any ra f _ 0 (Good (· = gg) X8) X8 FA.out.1 FA.out.2.1 FA.out.2.2 (lift_away FF.out HRA.out noTm).2.2 (by omega) (lift_away FF.out HRA.out noTm).2.1 (HTab.out.after HB8.out) (fun b h=>h.2) TA8.out).mono ?_
 rintro e w9 ⟨v9,rfl,h9,b9⟩
 obtain ⟨Bb,db,Cb,eb,Ab,cb,rfl,_⟩:=h9.form
 have H9:=Lib.hid (And.intro h9 b9)
 clear h9 b9 p0 p1 p2 p3 p4
 go_upto_region 10 with fail
 obtain ⟨X,hX,bX,zX,kX⟩:=boxF w9 #[.int .i64 f.kind,.int .i64 f.type.kind,.slice Bb f.type.args.length db,.slice Cb f.terms.length eb,.slice Ab f.args.length cb]
 rw [← hX]
 have b8X:Below X8.heap.size X8 X:=H9.out.2.trans (bX.mono H9.out.2.size)
 have HBX:=Lib.hid (HB8.out.trans (b8X.mono HB8.out.size))
 have HDX:=Lib.hid ((HD8.out.call b8X).drewd)
 have HCX:=Lib.hid ((HC8.out.turn (Turn.call b8X)).turn (tDr gg X))
 have KFX:=Lib.hid (KF.out.below b8X KF.out.lt)
 have KHX:=Lib.hid (KH.out.below b8X KH.out.lt)
 have KAX:=Lib.hid (KA.out.below b8X KA.out.lt)
 have KBX:=Lib.hid kX
 have TFX:=Lib.hid (show IsFm (Good (· = gg) X.drew) X.drew f _ from IsFm.keep (S':=Good (· = gg) X.drew) (w':=X.drew) (fun b h=>⟨h.1,Nat.lt_of_lt_of_le h.2 b8X.size⟩) (fun p hp=>b8X.cell hp.2) _ TF8.out)
 have THX:=Lib.hid (show IsFm (Good (· = gg) X.drew) X.drew h _ from IsFm.keep (S':=Good (· = gg) X.drew) (w':=X.drew) (fun b h=>⟨h.1,Nat.lt_of_lt_of_le h.2 b8X.size⟩) (fun p hp=>b8X.cell hp.2) _ TH8.out)
 have TAX:=Lib.hid (show IsFm (Good (· = gg) X.drew) X.drew ra _ from IsFm.keep (S':=Good (· = gg) X.drew) (w':=X.drew) (fun b h=>⟨h.1,Nat.lt_of_lt_of_le h.2 b8X.size⟩) (fun p hp=>b8X.cell hp.2) _ TA8.out)
 have TBX:=Lib.hid (show IsFm (Good (· = gg) X.drew) X.drew f _ from IsFm.keep (S':=Good (· = gg) X.drew) (w':=X.drew) (fun b h=>⟨h.1.elim (fun x=>x.1) (fun x e=>by have:=HD8.out.lt; omega),Nat.lt_of_lt_of_le h.2 bX.size⟩) (fun p hp=>bX.cell hp.2) _ H9.out.1)
 have HGZ:=Lib.hid (show gg<X.drew.heap.size from HDX.out.lt)
 have HNX:=Lib.hid (show ¬ w5.heap.size=gg∧¬ w5.heap.size+1=gg∧¬ w7.heap.size=gg∧¬ w9.heap.size=gg by have:=HD8.out.lt; have:=H9.out.2.size; have:=HN8.out; omega)
 have HTAB:=Lib.hid (show ∀ w':World,Turn (· = gg) X.drew w'→Below w.heap.size w w'∧Tab w' from fun w' ht=>by
   have hb:Below w.heap.size w w':=(HBX.out.drew).trans (ht.toBelow (fun k hk e=>by have:=HGW.out.1; omega) HBX.out.size)
   exact ⟨hb,HTab.out.after hb⟩)
 obtain ⟨base,hbase⟩:∃ n,n=X.drew.heap.size:=⟨_,rfl⟩
 have HBS:=Lib.hid hbase
 clear hX bX zX kX b8X hbase H9 TF6 TH6 TF8 TH8 TA8 KF KH KA HB8 HD8 HC8 HN8 TF5 TH5 TF HC3 HC4 HC5 HD2 HD3 HD4 HD6 HB2 HB3 HB4 HB5 HB6 K6 HW6 HX8
 refine wp_region_any (by kernel_rfl) ?_
 change wpAny _ _ _ _ _ _ _ (World.drew _)
 refine wpAny_facts (by kernel_rfl) (by kernel_rfl) g7z l7A (by kernel_rfl) l7C (by kernel_rfl) (l7F gg base f (.agg #[.int .i64 ra.kind,.int .i64 ra.type.kind,.slice Ba ra.type.args.length da,.slice Ca ra.terms.length ea,.slice Aa ra.args.length ca]) (.slice A3 G.length c3)) (· = gg) (· = gg) (fun w=>Deck w gg) _ _ (fun b h=>by have h':b=gg:=h; rw [h']; exact HGZ.out) (fun _ h=>h) HDX.out ⟨?_,?_,?_,?_,?_,?_,?_,?_,?_,?_,?_,?_,?_,trivial⟩ ?_
 · intro V H L a w1 hp K hK
   exact step_run rfl (run_load5F rfl (hp.slot0 7 _ rfl rfl) (hp.blk0 KAX.out.drew HNX.out.2.2.1)) (hK _ g7z _ (Post.still rfl hp.base hp.lt fun L' _=>rfl))
 · intro V H L a w1 hp K hK
   exact step_run rfl (run_move rfl (hp.slot0 3 _ rfl rfl)) (hK _ g7z _ (Post.still rfl hp.base hp.lt fun L' _=>rfl))
 · intro V H L a w1 hp K hK
   exact step_run rfl (run_move rfl (hp.slot0 4 _ rfl rfl)) (hK _ g7z _ (Post.still rfl hp.base hp.lt fun L' _=>rfl))
 · intro V H L a w1 hp K hK
   exact step_run rfl (run_move rfl (hp.slot0 3 _ rfl rfl)) (hK _ g7z _ (Post.still rfl hp.base hp.lt fun L' _=>rfl))
 · intro V H L a w1 hp K hK
   have f3:V 3=.pointer (some ⟨gg,0,none⟩):=hp.fact 3 rfl
   have e3:=hp.slot 3 46 rfl rfl rfl
   rw [f3] at e3
   have ek0:a.eval (.const (.int .i64 1))=.int .i64 1:=rfl
   refine step_call rfl _ _ _ rfl _ (by simp only [List.map_toArray,List.map_cons,List.map_nil,ek0,e3]) (enters_of Tryz.func17 (by kernel_rfl) rfl) (type_any 1 1 gg w1 (by omega) (by omega) (by omega) hp.base) ?_
   rintro e w' ⟨T,v,rfl,okT,szT,tyT,hd,hg⟩
   have hT3:T.nodes≤3:=by simp at szT; omega
   exact ⟨_,rfl,hK _ (T,zeroTm,undef) _ (Post.of rfl (turn_of hg) hd hp.lt fun L' _ hn=>⟨IsTy.keep (fun b h=>⟨hn b h.1 h.2,Nat.le_trans (hp.base_le (Nat.le_of_eq HBS.out)) h.1⟩) (fun _ _=>rfl) _ tyT,okT,hT3⟩)⟩
 · intro V H L a w1 hp K hK
   have f1:V 1=.pointer (some ⟨gg,0,none⟩):=hp.fact 1 rfl
   have e1:=hp.slot 1 44 rfl rfl rfl
   rw [f1] at e1
   have f2:V 2=.slice A3 G.length c3:=hp.fact 2 rfl
   have e2:=hp.slot 2 45 rfl rfl rfl
   rw [f2] at e2
   have f4:IsTy (fun b=>Good L w1 b∧base≤b) w1 (H 4).1 (V 4)∧(H 4).1.ok=true∧(H 4).1.nodes≤3:=hp.fact 4 rfl
   have e4:=hp.slot 4 47 rfl rfl rfl
   have hc:=Ctx.turn HCX.out hp.grown
   have ht:Typ gg w1 (H 4).1 (V 4):=IsTy.keep (fun b h=>⟨fun e=>h.1.1 (hp.mem b e),h.1.2⟩) (fun _ _=>rfl) _ f4.1
   have n3:=f4.2.2
   have ek0:a.eval (.const (.int .i64 2))=.int .i64 2:=rfl
   refine step_call rfl _ _ _ rfl _ (by simp only [List.map_toArray,List.map_cons,List.map_nil,ek0,e1,e2,e4]) (enters_of Tryz.func16 (by kernel_rfl) rfl) (term_any gg (4 * 2+(H 4).1.nodes+1) G (H 4).1 2 _ _ w1 (by simp) (by omega) (by omega) (by have:=HG.out; simp; omega) f4.2.1 n3 hc ht hp.base) ?_
   rintro e w' ⟨X,v,rfl,mX,tX,hd,ht'⟩
   have mX':Made G (H 4).1 3000 3000 X:=mX.mono (by simp only [bdN]; have:=bd_le (d:=2) (by omega); split <;> (simp; omega)) (by simp only [bdO]; have:=bd_small; split <;> (simp; omega))
   have hX3:X.bulk≤390000:=by have:=mX'.bulk_le (by omega); omega
   exact ⟨_,rfl,hK _ (tyNat,X,undef) _ (Post.of rfl ht' hd hp.lt fun L' _ hn=>⟨IsTm.keep (fun b h=>⟨hn b h.1 h.2,Nat.le_trans (hp.base_le (Nat.le_of_eq HBS.out)) h.1⟩) (fun _ _=>rfl) _ tX,made_err6 mX' (by omega),low_mono (by omega) _ (made_low6 mX' (by have:=HG.out; omega) (by omega)),hX3⟩)⟩
 · intro V H L a w1 hp K hK
   have f0:V 0=(.agg #[.int .i64 ra.kind,.int .i64 ra.type.kind,.slice Ba ra.type.args.length da,.slice Ca ra.terms.length ea,.slice Aa ra.args.length ca]):=hp.fact 0 rfl
   have e0:=hp.slot 0 43 rfl rfl rfl
   rw [f0] at e0
   have f5:IsTm (fun b=>Good L w1 b∧base≤b) w1 (H 5).2.1 (V 5)∧(H 5).2.1.err=0∧(H 5).2.1.low 536870912=true∧(H 5).2.1.bulk≤390000:=hp.fact 5 rfl
   have e5:=hp.slot 5 48 rfl rfl rfl
   have hlay:=lift_away FF.out HRA.out (H 5).2.1
   have hfa:=asTm_facts FF.out
   have htb:Tab w1:=(HTAB.out w1 hp.grown).2
   have ek0:a.eval (.const (.int .i64 0))=.int .i64 0:=rfl
   refine step_call rfl _ _ _ rfl #[(.agg #[.int .i64 ra.kind,.int .i64 ra.type.kind,.slice Ba ra.type.args.length da,.slice Ca ra.terms.length ea,.slice Aa ra.args.length ca]),.int .i64 0,V 5] (by simp only [List.map_toArray,List.map_cons,List.map_nil,ek0,e0,e5]) (enters_of Tryz.func15 (by kernel_rfl) rfl) (fPut_any ra f (H 5).2.1 _ _ 0 (Good L w1) w1 FA.out.1 FA.out.2.1 FA.out.2.2 hlay.2.2 (by omega) f5.2.2.2 f5.2.1 f5.2.2.1 (by rw [hlay.1,hfa.1]; have:=NF.out.1; omega) htb (fun b h=>h.2) (IsFm.keep (w:=X.drew) hp.good hp.cell _ TAX.out) (IsTm.keep (fun b h=>h.1) (fun _ _=>rfl) _ f5.1)) ?_
   rintro e w' ⟨v,rfl,hv,hb⟩
   exact ⟨_,rfl,hK _ (tyNat,zeroTm,v) _ (Post.of rfl (Turn.call hb) (hp.base.call hb) hp.lt fun L' hg hn=>⟨IsFm.keep (fun b h=>h.1.elim (fun x=>hg b x) (fun x=>hn b x h.2)) (fun _ _=>rfl) _ hv,rfl⟩)⟩
 · intro V H L a w1 hp K hK
   have f6:IsFm (Good L w1) w1 f (H 6).2.2∧V 6=.tuple #[(H 6).2.2,.int .i64 0]:=hp.fact 6 rfl
   have e6:=hp.slot 6 49 rfl rfl rfl
   rw [f6.2] at e6
   exact step_run rfl (run_move rfl e6) (hK _ g7z _ (Post.still rfl hp.base hp.lt fun L' _=>rfl))
 · intro V H L a w1 hp K hK
   have f6:IsFm (Good L w1) w1 f (H 6).2.2∧V 6=.tuple #[(H 6).2.2,.int .i64 0]:=hp.fact 6 rfl
   have f7:V 7=.tuple #[(H 6).2.2,.int .i64 0]:=hp.fact 7 rfl
   have e7:=hp.slot 7 42 rfl rfl rfl
   rw [f7] at e7
   exact step_run rfl (run_extract rfl e7 rfl) (hK _ g7z _ (Post.still rfl hp.base hp.lt fun L' hg=>⟨IsFm.keep hg (fun _ _=>rfl) _ f6.1,trivial⟩))
 · intro V H L a w1 hp K hK
   have f7:V 7=.tuple #[(H 6).2.2,.int .i64 0]:=hp.fact 7 rfl
   have e7:=hp.slot 7 42 rfl rfl rfl
   rw [f7] at e7
   exact step_run rfl (run_extract rfl e7 rfl) (hK _ g7z _ (Post.still rfl hp.base hp.lt fun L' hg=>rfl))
 · intro V H L a w1 hp K hK
   exact step_run rfl (run_allocF rfl) (hK _ g7z _ (Post.made rfl (hp.base.box _)))
 · intro V H L a w1 hp K hK
   have f8:IsFm (Good L w1) w1 f (V 8)∧True:=hp.fact 8 rfl
   obtain ⟨b,hv,hk⟩:∃ b,V 10=.pointer (some ⟨b,0,none⟩)∧Blk w1 b _ _:=hp.fact 10 rfl
   have e0:=hp.slot 10 11 rfl rfl rfl
   have e1:=hp.slot 8 50 rfl rfl rfl
   have hbg:=(hp.own 10 b rfl (by show ptrBlk (V 10)=_; rw [hv]; rfl)).2
   obtain ⟨B9,d9,C9,e9,A9,c9,h9,_⟩:=f8.1.form
   rw [hv] at e0
   rw [h9] at e1
   refine step_skip' rfl (run_storeF rfl e0 e1 rfl rfl rfl rfl rfl hk) (hK _ g7z _ (Post.filled (j:=10) rfl rfl (by show ptrBlk (V 10)=_; rw [hv]; rfl) ?_ hk (hp.base.grown (only_set5 w1 b _ _ _ _ _) (fun k e=>by cases e; have h8:gg<X.drew.heap.size:=HGZ.out; omega))))
   show RFact.boxv _ (V 8) (V 10)=_
   rw [hv,h9]
 · intro V H L a w1 hp K hK
   have f9:V 9=.int .i64 0:=hp.fact 9 rfl
   have e9:=hp.slot 9 51 rfl rfl rfl
   rw [f9] at e9
   exact step_run rfl (run_assign rfl e9) (hK _ g7z _ (Post.still rfl hp.base hp.lt fun L' hg=>rfl))
 · intro V H w8 L hg hD hf hL hd
   obtain ⟨f8,_⟩:IsFm (Good L w8) w8 f (V 8)∧True:=(hf 8 (by decide) rfl).1
   obtain ⟨D,c,hc,hv,hk⟩:∃ b c,V 8=.agg c∧V 10=.pointer (some ⟨b,0,none⟩)∧Blk w8 b _ c:=(hf 11 (by decide) rfl).1
   have f12:V 12=.int .i64 0:=(hf 12 (by decide) rfl).1
   obtain ⟨Bc,dc,Cc,ec,Ac,cc,h4,_⟩:=f8.form
   rw [h4] at hc f8
   cases hc
   have hW8:=HTAB.out w8 hg
   have lf:∀ (F:Fm) (v:Value),IsFm (Good (· = gg) X.drew) X.drew F v→IsFm (· < w8.heap.size) w8 F v:=fun F v hF=>IsFm.keep (S':=(· < w8.heap.size)) (fun b h=>Nat.lt_of_lt_of_le h.2 hg.size) (fun p hp=>World.cell?_of_block (hg.block p.block hp.2 hp.1)) _ hF
   have TF:=Lib.hid (lf f _ TFX.out)
   have TH:=Lib.hid (lf h _ THX.out)
   have TB:=Lib.hid (lf f _ TBX.out)
   have TC:=Lib.hid (show IsFm (· < w8.heap.size) w8 f _ from IsFm.keep (S':=(· < w8.heap.size)) (fun b h=>h.2) (fun _ _=>rfl) _ f8)
   have TG:=Lib.hid (show TyR.Sl (· < w8.heap.size) w8 G (.slice A3 G.length c3) from (HCX.out.turn hg).sl.keep (fun b h=>h.2) (fun _ _=>rfl))
   have HGK:=Lib.hid (show ∀ T ∈ G,T.err=0 from fun T hT=>err_zero.2 ⟨(HCX.out.ok T hT).1,by have:=(HCX.out.ok T hT).2; omega⟩)
   have HB8:=Lib.hid hW8
   have KF:=Lib.hid (hg.blk KFX.out.drew HNX.out.1)
   have KH:=Lib.hid (hg.blk KHX.out.drew HNX.out.2.1)
   have KB:=Lib.hid (hg.blk KBX.out.drew HNX.out.2.2.2)
   have KC:=Lib.hid hk
   simp only [putFrom,dstOf,Act.put,List.size_toArray,List.length_cons,List.length_nil,Nat.zero_add,Nat.reduceAdd,List.getElem?_toArray,List.getElem?_cons_zero,List.getElem?_cons_succ,List.setIfInBounds_toArray,List.set_cons_zero,List.set_cons_succ,hv,h4,f12]
   clear hg hD hf hL hd f8 hk hv f12 h4 lf hW8 TFX THX TAX TBX KFX KHX KAX KBX HCX HDX HTAB HNX HBX
   generalize V 0=x0
   generalize V 1=x1
   generalize V 2=x2
   generalize V 3=x3
   generalize V 4=x4
   generalize V 5=x5
   generalize V 6=x6
   generalize V 7=x7
   generalize V 9=x9
   generalize V 11=x11
   obtain ⟨p0,p1,p2,p3,p4,_⟩:=KF.out.facts5
   go_wp2_with fail
   refine (fNot_any f _ (· < w8.heap.size) w8 FF.out.good (by have:=NF.out.1; omega) (by have:=NF.out.1; omega) HB8.out.2 (fun _ h=>h) TF.out).mono ?_
   rintro e y1 ⟨v1,rfl,h1,b1⟩
   obtain ⟨N,hN⟩:∃ N:Fm,N=(.mk 3 .zero [] [f,falseFm]):=⟨_,rfl⟩
   rw [← hN] at h1
   have HN:=Lib.hid hN
   obtain ⟨Bn,dn,Cn,en,An,cn,rfl,_⟩:=h1.form
   have H1:=Lib.hid (And.intro h1 b1)
   clear h1 b1 hN p0 p1 p2 p3 p4
   go_upto_region 12 with fail
   obtain ⟨Y,hY,bY,zY,kY⟩:=boxF y1 #[.int .i64 N.kind,.int .i64 N.type.kind,.slice Bn N.type.args.length dn,.slice Cn N.terms.length en,.slice An N.args.length cn]
   rw [← hY]
   have b8Y:Below w8.heap.size w8 Y:=H1.out.2.trans (bY.mono H1.out.2.size)
   have hup:=b8Y.size
   have lf:∀ (F:Fm) (v:Value),IsFm (· < w8.heap.size) w8 F v→IsFm (· < Y.heap.size) Y F v:=fun F v hF=>IsFm.keep (S':=(· < Y.heap.size)) (fun b h=>Nat.lt_of_lt_of_le h hup) (fun p hp=>b8Y.cell hp) _ hF
   have TFY:=Lib.hid (lf f _ TF.out)
   have THY:=Lib.hid (lf h _ TH.out)
   have TBY:=Lib.hid (lf f _ TB.out)
   have TCY:=Lib.hid (lf f _ TC.out)
   have TNY:=Lib.hid (show IsFm (· < Y.heap.size) Y N _ from IsFm.keep (S':=(· < Y.heap.size)) (fun b h=>Nat.lt_of_lt_of_le h.2 bY.size) (fun p hp=>bY.cell hp.2) _ H1.out.1)
   have TGY:=Lib.hid (show TyR.Sl (· < Y.heap.size) Y G (.slice A3 G.length c3) from TG.out.keep (fun b h=>Nat.lt_of_lt_of_le h hup) (fun p hp=>b8Y.cell hp))
   have HBY:=Lib.hid (show Below w.heap.size w Y from HB8.out.1.trans (b8Y.mono HB8.out.1.size))
   have KFY:=Lib.hid (KF.out.below b8Y KF.out.lt)
   have KHY:=Lib.hid (KH.out.below b8Y KH.out.lt)
   have KBY:=Lib.hid (KB.out.below b8Y KB.out.lt)
   have KCY:=Lib.hid (KC.out.below b8Y KC.out.lt)
   have KNY:=Lib.hid kY
   obtain ⟨p0,p1,p2,p3,p4,_⟩:=KFY.out.facts5
   obtain ⟨q0,q1,q2,q3,q4,_⟩:=KHY.out.facts5
   clear hY bY zY kY b8Y hup lf H1 TF TH TB TC TG KF KH KB KC HB8
   go_wp2_with fail
   refine (fOr_any f h ra rh _ _ (· < Y.heap.size) Y FF.out FH.out (by have:=NF.out.1; omega) (by have:=NF.out.2; omega) (by have:=NF.out.1; omega) (by have:=NF.out.2; omega) HRA.out HRH.out (or_small (by have:=NF.out.1; have:=LA.out.2.2.2; omega) (by have:=NF.out.2; have:=LH.out.2.2.2; omega)) (HTab.out.after HBY.out) (fun _ h=>h) TFY.out THY.out).mono ?_
   rintro e y2 ⟨v2,rfl,h2,b2⟩
   obtain ⟨O,hO⟩:∃ O:Fm,O=orFm ra rh:=⟨_,rfl⟩
   rw [← hO] at h2
   have HO:=Lib.hid hO
   obtain ⟨Bo,do',Co,eo,Ao,co,rfl,_⟩:=h2.form
   have H2:=Lib.hid (And.intro h2 b2)
   clear h2 b2 hO p0 p1 p2 p3 p4 q0 q1 q2 q3 q4
   go_upto_region 13 with fail
   obtain ⟨Z,hZ,bZ,zZ,kZ⟩:=boxF y2 #[.int .i64 O.kind,.int .i64 O.type.kind,.slice Bo O.type.args.length do',.slice Co O.terms.length eo,.slice Ao O.args.length co]
   rw [← hZ]
   have bYZ:Below Y.heap.size Y Z:=H2.out.2.trans (bZ.mono H2.out.2.size)
   have hup:=bYZ.size
   have lf:∀ (F:Fm) (v:Value) (w':World),Below Z.heap.size Z w'→IsFm (· < Y.heap.size) Y F v→IsFm (· < w'.heap.size) w' F v:=fun F v w' hb hF=>IsFm.keep (S':=(· < w'.heap.size)) (fun b h=>Nat.lt_of_lt_of_le (Nat.lt_of_lt_of_le h hup) hb.size) (fun p hp=>(hb.cell (Nat.lt_of_lt_of_le hp hup)).trans (bYZ.cell hp)) _ hF
   have LF:=Lib.hid fun (w':World) (hb:Below Z.heap.size Z w')=>And.intro (lf f _ w' hb TFY.out) (And.intro (lf f _ w' hb TBY.out) (And.intro (lf f _ w' hb TCY.out) (And.intro (lf N _ w' hb TNY.out) (And.intro
     (show IsFm (· < w'.heap.size) w' O _ from IsFm.keep (S':=(· < w'.heap.size)) (fun b h=>Nat.lt_of_lt_of_le (Nat.lt_of_lt_of_le h.2 bZ.size) hb.size) (fun p hp=>(hb.cell (Nat.lt_of_lt_of_le hp.2 bZ.size)).trans (bZ.cell hp.2)) _ H2.out.1)
     (And.intro (show TyR.Sl (· < w'.heap.size) w' G (.slice A3 G.length c3) from TGY.out.keep (fun b h=>Nat.lt_of_lt_of_le (Nat.lt_of_lt_of_le h hup) hb.size) (fun p hp=>(hb.cell (Nat.lt_of_lt_of_le hp hup)).trans (bYZ.cell hp))) (show Below w.heap.size w w' from (HBY.out.trans (bYZ.mono HBY.out.size)).trans (hb.mono (by have:=HBY.out.size; omega))))))))
   have KK:=Lib.hid fun (w':World) (hb:Below Z.heap.size Z w')=>And.intro ((KFY.out.below bYZ KFY.out.lt).below hb (KFY.out.below bYZ KFY.out.lt).lt) (And.intro ((KBY.out.below bYZ KBY.out.lt).below hb (KBY.out.below bYZ KBY.out.lt).lt) (And.intro ((KCY.out.below bYZ KCY.out.lt).below hb (KCY.out.below bYZ KCY.out.lt).lt) (And.intro ((KNY.out.below bYZ KNY.out.lt).below hb (KNY.out.below bYZ KNY.out.lt).lt) (kZ.below hb kZ.lt))))
   clear hZ bZ zZ kZ bYZ hup lf H2 TFY THY TBY TCY TNY TGY KFY KHY KBY KCY KNY HBY
   obtain ⟨p0,p1,p2,p3,p4,_⟩:=(KK.out Z (Below.refl _ _)).1.facts5
   obtain ⟨q0,q1,q2,q3,q4,_⟩:=(KK.out Z (Below.refl _ _)).2.1.facts5
   go_wp2_with fail
   refine (sameFr_refl 4000 f _ _ Z (by have:=NF.out.1; omega) (by omega) (LF.out Z (Below.refl _ _)).2.1 (LF.out Z (Below.refl _ _)).1).mono ?_
   rintro e y3 ⟨rfl,b3⟩
   have B3:=Lib.hid b3
   clear b3 p0 p1 p2 p3 p4 q0 q1 q2 q3 q4
   obtain ⟨p0,p1,p2,p3,p4,_⟩:=(KK.out y3 B3.out).1.facts5
   obtain ⟨q0,q1,q2,q3,q4,_⟩:=(KK.out y3 B3.out).2.2.1.facts5
   go_wp2_with fail
   refine (sameFr_refl 4000 f _ _ y3 (by have:=NF.out.1; omega) (by omega) (LF.out y3 B3.out).2.2.1 (LF.out y3 B3.out).1).mono ?_
   rintro e y4 ⟨rfl,b4⟩
   have B4:=Lib.hid (B3.out.trans (b4.mono B3.out.size))
   clear b4 p0 p1 p2 p3 p4 q0 q1 q2 q3 q4
   obtain ⟨p0,p1,p2,p3,p4,_⟩:=(KK.out y4 B4.out).2.2.2.1.facts5
   have HNF:=Lib.hid (show GoodF N∧N.size≤4096∧N.bulk≤390000∧TyF 2 G N from by
     rw [HN.out]
     have hfs:falseFm.size=4∧falseFm.bulk=8:=by decide
     have h1:=NF.out.1
     exact ⟨.two 3 f falseFm (.inr rfl) FF.out.good false_good,by simp only [Fm.size,sizeAllT,sizeAllF,hfs.1]; omega,by simp only [Fm.bulk,bulkAll,bulkAllF,Ty.zero,Ty.nodes,nodesAll,hfs.2]; omega,not_ty MF.out.tyF⟩)
   go_wp2_with fail
   refine (fTypedTop_any 2 N G _ _ y4 HNF.out.1 HNF.out.2.1 HNF.out.2.2.1 HNF.out.2.2.2 HGK.out (by have:=HG.out; omega) (HTab.out.after (LF.out y4 B4.out).2.2.2.2.2.2) HNIL.out (LF.out y4 B4.out).2.2.2.2.2.1 (LF.out y4 B4.out).2.2.2.1).mono ?_
   rintro e y5 ⟨rfl,b5⟩
   have B5:=Lib.hid (B4.out.trans (b5.mono B4.out.size))
   clear b5 p0 p1 p2 p3 p4
   obtain ⟨p0,p1,p2,p3,p4,_⟩:=(KK.out y5 B5.out).2.2.2.2.facts5
   have HOF:=Lib.hid (show GoodF O∧O.size≤4096∧O.bulk≤390000∧TyF 3 G O from by
     rw [HO.out]
     have h1:=or_small (a:=ra) (b:=rh) (by have:=NF.out.1; have:=LA.out.2.2.2; omega) (by have:=NF.out.2; have:=LH.out.2.2.2; omega)
     have t1:=TyF.lift FF.out.good G [tyNat] 2 [] ra (by rw [List.append_nil]; exact MF.out.tyF) HRA.out
     have t2:=TyF.lift FH.out.good G [tyNat] 2 [] rh (by rw [List.append_nil]; exact MH.out.tyF) HRH.out
     rw [List.append_nil] at t1 t2
     exact ⟨or_good LA.out.1.good LH.out.1.good,h1.1,h1.2,or_ty t1 t2⟩)
   go_wp2_with fail
   refine (fTypedTop_any 3 O G _ _ y5 HOF.out.1 HOF.out.2.1 HOF.out.2.2.1 HOF.out.2.2.2 HGK.out (by have:=HG.out; omega) (HTab.out.after (LF.out y5 B5.out).2.2.2.2.2.2) HNIL.out (LF.out y5 B5.out).2.2.2.2.2.1 (LF.out y5 B5.out).2.2.2.2.1).mono ?_
   rintro e y6 ⟨rfl,b6⟩
   have B6:=Lib.hid (LF.out y6 (B5.out.trans (b6.mono B5.out.size))).2.2.2.2.2.2
   clear b6
   go_wp2_with fail
   go_ret
   exact ⟨rfl,B6.out⟩
end Go.Proofs.YtipfnkajdooiiaaGreatDoor
