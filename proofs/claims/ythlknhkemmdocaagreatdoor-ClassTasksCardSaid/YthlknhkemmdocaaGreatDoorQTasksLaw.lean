/- The walk of the law on tasks. -/
import Derived.Test.YthlknhkemmdocaaGreatDoorQPackTask
import Derived.Test.YthlknhkemmdocaaGreatDoorQPackCl2
import Derived.Test.YthlknhkemmdocaaGreatDoorQPackRefF
namespace Go.Proofs.YthlknhkemmdocaaGreatDoor
open Go.RowKit

def t8A (i j:Nat):Bool:=([0,0,2,0,8,30,63,0,255].getD i 0).testBit j
def t8C (i:Nat):Option Nat:=if i=2 then some 5 else if i=7 then some 8 else none
def t8F (gg base:Nat) (CG:List Ty) (CV:Value) (CS:Ty) (SV:Value) (i:Nat) (V:Nat→Value) (H:Nat→GD):RFact:=
  match i with
  | 0=>.pure (V 0=.pointer (some ⟨gg,0,none⟩))
  | 1=>.pure (V 1=CV)
  | 2=>.own TyR base CG (V 2) True
  | 3=>.pure (V 3=SV)
  | 4=>.sl TyR [CS] (V 4) (Formed (V 4))
  | 5=>.sl TyR (CG ++ [CS]) (V 5) (Formed (V 5))
  | 6=>.fmN base (H 6).2.1 (V 6) (MadeD 2 (CG ++ [CS]) (H 6).2.1)
  | 7=>.box 34 #[.int .i64 0,.int .i64 0,.slice none 0 0,.slice none 0 0,.slice none 0 0] (V 7)
  | _=>.boxv 34 (V 6) (V 7)
def t13A (i j:Nat):Bool:=([0,0,3,7,0,31,63].getD i 0).testBit j
def t13F (base:Nat) (CV:Value) (i:Nat) (q:Addr) (T:Ty) (TV:Value) (F:Fm) (FV:Value) (k:Nat) (V:Nat→Value) (_:Nat→Unit):RFact:=
  match k with
  | 0=>.pure (V 0=CV)
  | 1=>.pure (V 1=.int .i64 ((i:Nat):Int))
  | 2=>.pure (V 2=.pointer (some q))
  | 3=>.pure (V 3=TV)
  | 4=>.pure (V 4=FV)
  | 5=>.fmN base (.mk 4 T [] [F]) (V 5) True
  | _=>.pure True
def t19A (i j:Nat):Bool:=([0,1,3,7,15,31,63,127,127,511,1023,2047,4095,4095,4095,28671,65535,131071,262143].getD i 0).testBit j
def t19F (base:Nat) (LV CV EV SV FV:Value) (E:Fm) (i:Nat) (V:Nat→Value) (_:Nat→Unit):RFact:=
  match i with
  | 0=>.pure (V 0=.int .i64 0)
  | 1=>.pure (V 1=.bool true)
  | 2=>.pure (V 2=.bool true)
  | 3=>.pure (V 3=.bool false)
  | 4=>.pure (V 4=.bool true)
  | 5=>.pure (V 5=.bool true)
  | 6=>.pure (V 6=.bool true)
  | 7=>.pure (V 7=LV)
  | 8=>.pure (V 8=CV)
  | 9=>.pure (V 9=.bool true)
  | 10=>.pure (V 10=.bool true)
  | 11=>.pure (V 11=.bool true)
  | 12=>.pure (V 12=EV)
  | 13=>.pure (V 13=SV)
  | 14=>.pure (V 14=FV)
  | 15=>.fmN base E (V 15) True
  | 16=>.pure (V 16=.bool true)
  | 17=>.pure (V 17=.bool true)
  | _=>.pure (V 18=.bool true)
section
variable {ops : Array Oper} {o : Oper} {a : Act} {w : World}
theorem run_eqErr {x y:Operand} {t:TypeId} (ho:o.op=.binOp .eql 36 x y t) {m:Int} (hx:a.eval x=.int .i64 m) (hy:a.eval y=.int .i64 m):(execOp a.eval o).run Tryz.prog w=.ok (.value (.bool true)) w:=by
  simp only [execOp,ho,hx,hy]
  go_simp
end
/-- What holds in the loop that puts All in front: j of the types are left. -/
def TRel (p:Nat) (CG:List Ty) (E:Fm) (w0:World) (ix:Value) (wr:World):Prop:=
  ∃ (j:Nat) (B:Option Addr) (d:Nat) (C:Option Addr) (e:Nat) (A:Option Addr) (c:Nat),j≤CG.length∧ix=.int .i64 ((j:Int) - 1) ∧
    Blk wr p 34 #[.int .i64 (allsF (CG.drop j) E).kind,.int .i64 (allsF (CG.drop j) E).type.kind,.slice B (allsF (CG.drop j) E).type.args.length d,.slice C (allsF (CG.drop j) E).terms.length e,.slice A (allsF (CG.drop j) E).args.length c] ∧
    IsFm (fun b=>b≠p∧b<wr.heap.size) wr (allsF (CG.drop j) E) (.agg #[.int .i64 (allsF (CG.drop j) E).kind,.int .i64 (allsF (CG.drop j) E).type.kind,.slice B (allsF (CG.drop j) E).type.args.length d,.slice C (allsF (CG.drop j) E).terms.length e,.slice A (allsF (CG.drop j) E).args.length c])∧Turn (· = p) w0 wr
set_option maxRecDepth 100000 in
set_option maxHeartbeats 8000000 in
theorem tasksLaw_small (A:Option Addr) (len cap:Nat) (w:World) (htab:Tab w) (hlen:len≤500) (hA:∀ i,i<len→∃ a x,A=some a∧a.block<w.heap.size∧w.cell? (a.add i)=some (.int .i64 x)) :
    Calls Tryz.prog 6 #[.slice A len cap] w fun e w'=>e=.returned (.bool true)∧Below w.heap.size w w':=by
  have hA':=Lib.hid hA
  have HTab:=Lib.hid htab
  clear hA htab
  have e500:decide ((len:Int)≤500)=true:=by simp; omega
  go_enter Tryz.func6,Tryz.ntmps6
  go_wp2_with fail
  refine (sane8_any w HTab.out).mono ?_
  rintro e w1 ⟨rfl,hb1⟩
  go_wp2_with fail
  refine (few_any A len cap w1 (by simp only [maxLen]; omega)).mono ?_
  rintro e w1' ⟨rfl,rfl⟩
  rw [e500]
  go_wp2_with fail
  have hA1:∀ i,i<len→∃ a x,A=some a∧a.block<w1.heap.size∧w1.cell? (a.add i)=some (.int .i64 x):=fun i hi=>by
    obtain ⟨a,x,h1,h2,h3⟩:=hA'.out i hi
    exact ⟨a,x,h1,Nat.lt_of_lt_of_le h2 hb1.size,(hb1.cell (by rw [add_block]; exact h2)).trans h3⟩
  refine (new_any A len cap w1 hlen hA1).mono ?_
  rintro e w2 ⟨rfl,hw2⟩
  have hd2:=new_deck A len cap w1 hlen hA1
  rw [hw2] at hd2
  have b_w2:Below w.heap.size w w2:=by rw [← hw2]; exact hb1.alloc hb1.size _
  have hgw:w.heap.size≤w1.heap.size:=hb1.size
  have hgz:w1.heap.size<w2.heap.size:=by rw [← hw2]; simp
  clear hw2 hA1 hb1
  generalize w1.heap.size=gg at hd2 hgw hgz ⊢
  have HD2:=Lib.hid hd2
  have HGW:=Lib.hid (And.intro hgw hgz)
  have HB2:=Lib.hid b_w2
  clear hd2 b_w2 hgw hgz
  go_wp2_with fail
  refine (mkContext_any gg w2 HD2.out).mono ?_
  rintro e w3 ⟨CG,CV,rfl,hG3,hGok,hGs,hGf,hGnil,hd3,hg3⟩
  obtain ⟨AG,cG,rfl⟩:=hGs.form
  have HC3:=Lib.hid (show Ctx gg w3 CG (.slice AG CG.length cG) from ⟨hGs.keep (fun b hb=>⟨by have:=hb.1; have:=HGW.out.2; omega,hb.2⟩) (fun _ _=>rfl),hGf,hGok⟩)
  have HD3:=Lib.hid hd3
  have HG:=Lib.hid hG3
  have HB3:=Lib.hid (HB2.out.trans ((turn_of hg3).toBelow (fun k hk e=>by have:=HGW.out.1; omega) HB2.out.size))
  clear hG3 hGok hGs hGf hGnil hd3 hg3
  go_wp2_with fail
  refine (type_any 1 1 gg w3 (by omega) (by omega) (by omega) HD3.out).mono ?_
  rintro e w7 ⟨CS,vT,rfl,okT,szT,tyT,hd7,hg7⟩
  obtain ⟨A7,c7,rfl⟩:=tyT.form
  obtain ⟨X,hX,bX,zX,kX⟩:∃ X,X=w7.alloc (.cells #[.int .i64 CS.kind,.slice A7 CS.args.length c7] 30)∧Below w7.heap.size w7 X∧X.heap.size=w7.heap.size+1∧Blk X w7.heap.size 30 #[.int .i64 CS.kind,.slice A7 CS.args.length c7]:=⟨_,rfl,(Below.refl _ _).alloc (Nat.le_refl _) _,by simp,Blk.new _ _ _⟩
  have ht7:=turn_of hg7
  have hs7:=ht7.size
  have KS:=Lib.hid kX
  have HCX:=Lib.hid (show Ctx gg X.drew CG (.slice AG CG.length cG) from ((Ctx.turn HC3.out ht7).turn (tCa gg bX)).turn (tDr gg X))
  have HDX:=Lib.hid (show Deck X.drew gg from (hd7.call bX).drewd)
  have HGZ:=Lib.hid (show gg<X.drew.heap.size from HDX.out.lt)
  have HNE:=Lib.hid (show ¬ w7.heap.size=gg from fun e=>by have:=hd7.lt; omega)
  have HOK:=Lib.hid (show CS.ok=true∧CS.nodes≤3 from ⟨okT,by simp at szT; omega⟩)
  have TS:=Lib.hid (show IsTy (Good (· = gg) X.drew) X.drew CS _ from IsTy.keep (w':=X.drew) (fun b hb=>⟨by have:=hb.1; have:=HD3.out.lt; omega,by have:=hb.2; show b<X.heap.size; omega⟩) (fun p hp=>bX.cell hp.2) _ tyT)
  have HBX:=Lib.hid ((HB3.out.trans (ht7.toBelow (fun k hk e=>by have:=HGW.out.1; omega) HB3.out.size)).trans (bX.mono (by have:=HB3.out.size; omega)))
  have HX:=Lib.hid hX
  have HZX:=Lib.hid (And.intro zX HGW.out.1)
  clear okT szT tyT hd7 hg7 hX bX zX kX ht7 hs7 HC3
  go_upto_region 8 with fail
  rw [← HX.out]
  obtain ⟨base,hbase⟩:∃ n,n=X.drew.heap.size:=⟨_,rfl⟩
  have HBS:=Lib.hid hbase
  clear hbase
  refine wp_region_any (by kernel_rfl) ?_
  change wpAny _ _ _ _ _ _ _ (World.drew _)
  obtain ⟨CV,hCV⟩:∃ v,v=Value.slice AG CG.length cG:=⟨_,rfl⟩
  rw [← hCV] at HCX ⊢
  have HCV:=Lib.hid hCV
  clear hCV
  refine wpAny_facts (by kernel_rfl) (by kernel_rfl) gd0 t8A (by kernel_rfl) t8C (by kernel_rfl) (t8F gg base CG CV CS (.agg #[.int .i64 CS.kind,.slice A7 CS.args.length c7])) (· = gg) (· = gg) (fun w=>Deck w gg) _ _ (fun b h=>by have h':b=gg:=h; rw [h']; exact HGZ.out) (fun _ h=>h) HDX.out ⟨?_,?_,?_,?_,?_,?_,?_,?_,?_,trivial⟩ ?_
  · intro V H L a w1 hp K hK
    exact step_run rfl (run_move rfl (hp.slot0 3 _ rfl rfl)) (hK _ gd0 _ (Post.still rfl hp.base hp.lt fun L' _=>rfl))
  · intro V H L a w1 hp K hK
    exact step_run rfl (run_move rfl (hp.slot0 4 _ rfl rfl)) (hK _ gd0 _ (Post.still rfl hp.base hp.lt fun L' _=>rfl))
  · intro V H L a w1 hp K hK
    have f1:V 1=CV:=hp.fact 1 rfl
    have e1:=hp.slot 1 32 rfl rfl rfl
    rw [f1] at e1
    have ek:a.eval (.const (.slice none 0 0))=.slice none 0 0:=rfl
    have hsl:TyR.Sl (fun b=>(fun b=>¬ L b) b∧b<w1.heap.size∧(Value.slice none 0 0).ownBlock≠some b) w1 CG CV:=(hp.sl0 HCX.out.sl).keep (fun b h=>⟨h.1,h.2,fun e=>by cases e⟩) (fun _ _=>rfl)
    refine step_append_ty rfl _ _ rfl (S:=fun b=>¬ L b) (base:=base) (l:=[]) (m:=CG) ek e1 (Own.nil' _ _ _) (src_of HCX.out.formed hsl) (by have:=HG.out; simp only [List.length_nil]; omega) (hp.base_le (Nat.le_of_eq HBS.out)) ?_
    intro v' w' hown hgr hat hbl
    refine hK v' gd0 w' ⟨Turn.grown hgr (fun k e=>by cases e),hp.base.grown hgr (fun k e=>by cases e),fun L' h1 _=>⟨Own.mono' hown (fun b hb hlt hne hL'=>(h1 b hL').elim (fun h=>hb h.1) hne),trivial⟩,fun b hb=>.inl ?_⟩
    have hb':v'.ownBlock=some b:=hb
    have hlt:=(hown.lt b hb').2
    rcases hat with h | h
    · rw [h] at hb'; cases hb'
    · rw [h] at hb'; cases hb'; exact ⟨Nat.le_refl _,hlt⟩
  · intro V H L a w1 hp K hK
    exact step_run rfl (run_load2 rfl (hp.slot0 5 _ rfl rfl) (hp.blk0 KS.out.drew HNE.out)) (hK _ gd0 _ (Post.still rfl hp.base hp.lt fun L' _=>rfl))
  · intro V H L a w1 hp K hK
    have f3:V 3=.agg #[.int .i64 CS.kind,.slice A7 CS.args.length c7]:=hp.fact 3 rfl
    have e3:=hp.slot 3 34 rfl rfl rfl
    rw [f3] at e3
    have hty:=hp.ty0 TS.out
    refine step_run rfl (run_buildTy rfl e3) ?_
    exact hK _ gd0 _ (Post.of rfl (Turn.alloc _ _) (hp.base.box _) hp.lt fun L' hg hn=>⟨built_pub (R:=TyR) (l:=[CS]) (xs:=[_,_]) (Rep.Ch.one (R:=TyR) (vs:=[_,_]) hty) (fun b h=>⟨(hg b h).1,by have:=h.2; simp; omega⟩) hn,.inr ⟨_,_,_,rfl,Nat.le_refl _⟩⟩)
  · intro V H L a w1 hp K hK
    have f2:TyR.Own (fun b=>¬ L b) base (V 2) CG w1∧True:=hp.fact 2 rfl
    have e2:=hp.slot 2 33 rfl rfl rfl
    have f4:TyR.Sl (Good L w1) w1 [CS] (V 4)∧Formed (V 4):=hp.fact 4 rfl
    have e4:=hp.slot 4 35 rfl rfl rfl
    have hsl:TyR.Sl (fun b=>(fun b=>¬ L b) b∧b<w1.heap.size∧(V 2).ownBlock≠some b) w1 [CS] (V 4):=f4.1.keep (fun b h=>⟨h.1,h.2,fun e=>h.1 (hp.own 2 b rfl e).1⟩) (fun _ _=>rfl)
    refine step_append_ty rfl _ _ rfl (S:=fun b=>¬ L b) (base:=base) (l:=CG) (m:=[CS]) e2 e4 f2.1 (src_of f4.2 hsl) (by have:=HG.out; simp only [List.length_nil,List.length_cons]; omega) (hp.base_le (Nat.le_of_eq HBS.out)) ?_
    intro v' w' hown hgr hat hbl
    refine hK v' gd0 w' ⟨Turn.grown hgr (fun k e=>.inr ⟨2,rfl,rfl,e⟩),hp.base.grown hgr (fun k e=>by have h1:=(hp.own 2 k rfl e).2; have h2:=HGZ.out; omega),fun L' h1 _=>⟨(Own.slw hown).keep (fun b hb=>⟨fun hL'=>?_,hb.2⟩) (fun _ _=>rfl),own_formed hown⟩,fun b hb=>by cases hb⟩
    rcases h1 b hL' with h | h
    · rcases hb.1 with hb1 | hb1
      · exact hb1 h.1
      · rcases hat with e | e
        · exact h.2 2 rfl rfl (show (V 2).ownBlock=some b from e ▸ hb1)
        · rw [e] at hb1; cases hb1; exact absurd (hp.lt _ h.1) (Nat.lt_irrefl _)
    · cases h
  · intro V H L a w1 hp K hK
    have f0:V 0=.pointer (some ⟨gg,0,none⟩):=hp.fact 0 rfl
    have e0:=hp.slot 0 31 rfl rfl rfl
    rw [f0] at e0
    have f5:TyR.Sl (Good L w1) w1 (CG ++ [CS]) (V 5)∧Formed (V 5):=hp.fact 5 rfl
    have e5:=hp.slot 5 36 rfl rfl rfl
    have hgd:∀ b,Good L w1 b→Good (· = gg) w1 b:=fun b h=>⟨fun e=>h.1 (hp.mem b e),h.2⟩
    have hc:Ctx gg w1 (CG ++ [CS]) (V 5):=⟨f5.1.keep hgd (fun _ _=>rfl),f5.2,fun U hU=>(List.mem_append.1 hU).elim (HCX.out.ok U) (fun h=>by rw [List.mem_singleton.1 h]; exact HOK.out)⟩
    have ek0:a.eval (.const (.int .i64 2))=.int .i64 (2:Nat):=rfl
    refine step_call rfl _ _ _ rfl _ (by simp only [List.map_toArray,List.map_cons,List.map_nil,ek0,e0,e5]) (enters_of Tryz.func24 (by kernel_rfl) rfl) (decidable_any gg 2 (by omega) (CG ++ [CS]) _ w1 (by have:=HG.out; simp only [List.length_append,List.length_cons,List.length_nil]; omega) hc hp.base) ?_
    rintro e w' ⟨f,v,rfl,mf,tf,hd,ht⟩
    exact ⟨_,rfl,hK _ (noneTm,f,undef) _ (Post.of rfl ht hd hp.lt fun L' _ hn=>⟨IsFm.keep (fun b h=>⟨hn b h.1 h.2,Nat.le_trans (hp.base_le (Nat.le_of_eq HBS.out)) h.1⟩) (fun _ _=>rfl) _ tf,mf⟩)⟩
  · intro V H L a w1 hp K hK
    exact step_run rfl (run_allocF rfl) (hK _ gd0 _ (Post.made rfl (hp.base.box _)))
  · intro V H L a w1 hp K hK
    have f6:IsFm (fun b=>Good L w1 b∧base≤b) w1 (H 6).2.1 (V 6)∧MadeD 2 (CG ++ [CS]) (H 6).2.1:=hp.fact 6 rfl
    obtain ⟨b,hv,hk⟩:∃ b,V 7=.pointer (some ⟨b,0,none⟩)∧Blk w1 b _ _:=hp.fact 7 rfl
    have e0:=hp.slot 7 6 rfl rfl rfl
    have e1:=hp.slot 6 37 rfl rfl rfl
    have hbg:=(hp.own 7 b rfl (by show ptrBlk (V 7)=_; rw [hv]; rfl)).2
    obtain ⟨B9,d9,C9,e9,A9,c9,h9,_⟩:=f6.1.form
    rw [hv] at e0
    rw [h9] at e1
    refine step_skip' rfl (run_storeF rfl e0 e1 rfl rfl rfl rfl rfl hk) (hK _ gd0 _ (Post.filled (j:=7) rfl rfl (by show ptrBlk (V 7)=_; rw [hv]; rfl) ?_ hk (hp.base.grown (only_set5 w1 b _ _ _ _ _) (fun k e=>by cases e; have:=HGZ.out; omega))))
    show RFact.boxv _ (V 6) (V 7)=_
    rw [hv,h9]
  · intro V H w8 L hg hD hf hL hd
    obtain ⟨f6,m6⟩:IsFm (fun b=>Good L w8 b∧base≤b) w8 (H 6).2.1 (V 6)∧MadeD 2 (CG ++ [CS]) (H 6).2.1:=(hf 6 (by decide) rfl).1
    obtain ⟨p,c,hc,hv,hk⟩:∃ b c,V 6=.agg c∧V 7=.pointer (some ⟨b,0,none⟩)∧Blk w8 b _ c:=(hf 8 (by decide) rfl).1
    have hpz:=((hf 8 (by decide) rfl).2 p (by show ptrBlk (V 7)=_; rw [hv]; rfl)).1
    obtain ⟨F,hF⟩:∃ F,F=(H 6).2.1:=⟨_,rfl⟩
    rw [← hF] at f6 m6
    obtain ⟨B3,d3,C3,e3,A3,c3,h3,_⟩:=f6.form
    rw [h3] at hc f6
    cases hc
    have TF:=Lib.hid (show IsFm (fun b=>b<w8.heap.size) w8 F _ from IsFm.keep (fun b h=>h.1.2) (fun _ _=>rfl) _ f6)
    have MF:=Lib.hid m6
    have KF:=Lib.hid hk
    have KS8:=Lib.hid (hg.blk KS.out.drew HNE.out)
    have TS8:=Lib.hid (show IsTy (· < w8.heap.size) w8 CS _ from IsTy.keep (fun b hb=>Nat.lt_of_lt_of_le hb.2 hg.size) (fun p hp=>World.cell?_of_block (hg.block p.block hp.2 hp.1)) _ TS.out)
    have TG8:=Lib.hid (show TyR.Sl (· < w8.heap.size) w8 CG CV from HCX.out.sl.keep (fun b hb=>Nat.lt_of_lt_of_le hb.2 hg.size) (fun p hp=>World.cell?_of_block (hg.block p.block hp.2 hp.1)))
    have HGOK:=Lib.hid HCX.out.ok
    have HB8:=Lib.hid (HBX.out.trans (show Below w.heap.size X w8 from ⟨hg.os,hg.tape,hg.output,hg.size,fun k hk=>hg.block k (by have:=HBX.out.size; show k<X.heap.size; omega) (fun e=>by have e':k=gg:=e; have:=HZX.out.2; omega)⟩))
    simp only [putFrom,dstOf,Act.put,List.size_toArray,List.length_cons,List.length_nil,Nat.zero_add,Nat.reduceAdd,List.getElem?_toArray,List.getElem?_cons_zero,List.getElem?_cons_succ,List.setIfInBounds_toArray,List.set_cons_zero,List.set_cons_succ,hv,h3]
    clear hg hD hf hL hd f6 m6 hk hF h3 hv hpz
    generalize V 0=v0
    generalize V 1=v1
    generalize V 2=v2
    generalize V 3=v3
    generalize V 4=v4
    generalize V 5=v5
    have hfb:F.bulk≤1600:=by have:=MF.out.bulk_two; omega
    obtain ⟨p0,p1,p2,p3,p4,_⟩:=KF.out.facts5
    obtain ⟨s0,s1,_,_⟩:=KS8.out.facts2
    go_wp2_with fail
    refine (qF_call 5 (T:=CS) (b:=F) (by have:=HOK.out.2; omega) (by omega) TS8.out TF.out).mono ?_
    rintro e w9 ⟨E,v9,hE,rfl,tE,hb9⟩
    obtain ⟨B4,d4,C4,e4,A4,c4,rfl,_⟩:=tE.form
    obtain ⟨Y,hY,bY,zY,kY⟩:∃ Y,Y=w9.alloc (.cells #[.int .i64 E.kind,.int .i64 E.type.kind,.slice B4 E.type.args.length d4,.slice C4 E.terms.length e4,.slice A4 E.args.length c4] 34)∧Below w9.heap.size w9 Y∧Y.heap.size=w9.heap.size+1∧Blk Y w9.heap.size 34 #[.int .i64 E.kind,.int .i64 E.type.kind,.slice B4 E.type.args.length d4,.slice C4 E.terms.length e4,.slice A4 E.args.length c4]:=⟨_,rfl,(Below.refl _ _).alloc (Nat.le_refl _) _,by simp,Blk.new _ _ _⟩
    have hb8Y:Below w8.heap.size w8 Y:=hb9.trans (bY.mono hb9.size)
    have HE:=Lib.hid hE
    have TE:=Lib.hid (show IsFm (fun b=>b≠w9.heap.size∧b<Y.heap.size) Y E _ from IsFm.keep (fun b h=>⟨by omega,by omega⟩) (fun q hq=>bY.cell hq.2) _ tE)
    have KE:=Lib.hid kY
    have KFY:=Lib.hid (KF.out.below hb8Y KF.out.lt)
    have KSY:=Lib.hid (KS8.out.below hb8Y KS8.out.lt)
    have TFY:=Lib.hid (show IsFm (fun b=>b≠w9.heap.size∧b<Y.heap.size) Y F _ from IsFm.keep (fun b h=>⟨by have:=hb9.size; omega,by have:=hb8Y.size; omega⟩) (fun q hq=>hb8Y.cell hq) _ TF.out)
    have TSY:=Lib.hid (show IsTy (fun b=>b≠w9.heap.size∧b<Y.heap.size) Y CS _ from IsTy.keep (fun b h=>⟨by have:=hb9.size; omega,by have:=hb8Y.size; omega⟩) (fun q hq=>hb8Y.cell hq) _ TS8.out)
    have TGY:=Lib.hid (show TyR.Sl (fun b=>b≠w9.heap.size∧b<Y.heap.size) Y CG CV from TG8.out.keep (fun b h=>⟨by have:=hb9.size; omega,by have:=hb8Y.size; omega⟩) (fun q hq=>hb8Y.cell hq))
    have HBY:=Lib.hid (HB8.out.trans (hb8Y.mono HB8.out.size))
    have HPZ:=Lib.hid (show p<w9.heap.size∧w7.heap.size<w9.heap.size∧w.heap.size≤w9.heap.size from ⟨Nat.lt_of_lt_of_le KF.out.lt hb9.size,Nat.lt_of_lt_of_le KS8.out.lt hb9.size,Nat.le_trans HB8.out.size hb9.size⟩)
    have hYz:Y.heap.size=w9.heap.size+1:=zY
    have HY:=Lib.hid hY
    have HEB:=Lib.hid (show E.kind≠4∧E.bulk≤1610 by rw [hE]; refine ⟨(by decide:(5:Int)≠4),?_⟩; have:=HOK.out.2; simp only [Fm.bulk,bulkAll,bulkAllF]; omega)
    clear hE tE hb9 hY bY zY kY hb8Y p0 p1 p2 p3 p4 s0 s1
    go_upto_region 10 with fail
    rw [← HY.out]
    generalize w9.heap.size=p7 at TE KE TFY TSY TGY HPZ hYz ⊢
    have hCV:=HCV.out
    subst hCV
    have ew:IntKind.i64.wrap ((CG.length:Int) - 1)=(CG.length:Int) - 1:=IntWalk.i64_in _ (by have:=HG.out; omega)
    go_wp2_with fail
    go_loopw [8] (fun ix wr=>TRel p7 CG E Y ix wr) (fun ix _=>(intOf ix+1).toNat)
    case atStart=>exact ⟨CG.length,B4,d4,C4,e4,A4,c4,Nat.le_refl _,rfl,by rw [List.drop_length]; exact KE.out,by rw [List.drop_length]; exact TE.out,Turn.refl _ _⟩
    case round=>
      obtain ⟨j,B5,d5,C5,e5,A5,c5,hj,rfl,hk,hF,ht⟩:=hrel
      cases j with
      | succ i=>
        rw [show (((i+1:Nat):Int) - 1)=(i:Int) from by omega]
        have hj':i<CG.length:=hj
        obtain ⟨Fx,hFx⟩:∃ Fx,Fx=allsF (CG.drop (i+1)) E:=⟨_,rfl⟩
        have hNb:CG[i].nodes≤3∧Fx.bulk≤2000:=⟨(HGOK.out _ (List.getElem_mem hj')).2,by
          have h1:=alls_bulk (f:=E) (CG.drop (i+1)) (fun U hU=>HGOK.out U (List.mem_of_mem_drop hU))
          have h2:(CG.drop (i+1)).length≤3:=by have:=HG.out; simp; omega
          have h3:=HEB.out.2
          rw [hFx]; omega⟩
        rw [← hFx] at hk hF
        have hsl:TyR.Sl (fun b=>b≠p7∧b<wr.heap.size) wr CG (.slice AG CG.length cG):=TGY.out.keep (fun b h=>⟨h.1,Nat.lt_of_lt_of_le h.2 ht.size⟩) (fun q hq=>World.cell?_of_block (ht.block q.block hq.2 hq.1))
        obtain ⟨aq,rfl,haq,hat⟩:=hsl.get i hj'
        obtain ⟨B6,c6,q0,q1,hx⟩:=at_ty hat
        simp only [show TyR.n=2 from rfl] at q0 q1
        have HAQ:=Lib.hid (show (aq.add (i * 2)).block<wr.drew.heap.size∧wr.drew.cell? (aq.add (i * 2))=some (.int .i64 CG[i].kind)∧wr.drew.cell? ⟨(aq.add (i * 2)).block,(aq.add (i * 2)).off+1,none⟩ = some (.slice B6 CG[i].args.length c6) from ⟨by rw [add_block]; exact haq.2,q0,q1⟩)
        have TGI:=Lib.hid (show IsTy (Good (fun _=>False) wr.drew) wr.drew CG[i] (.agg #[.int .i64 CG[i].kind,.slice B6 CG[i].args.length c6]) from IsTy.keep (w:=wr) (w':=wr.drew) (fun b h=>⟨id,h.2⟩) (fun _ _=>rfl) _ hx)
        have TFX:=Lib.hid (show IsFm (Good (fun _=>False) wr.drew) wr.drew Fx _ from IsFm.keep (w:=wr) (w':=wr.drew) (fun b h=>⟨id,h.2⟩) (fun _ _=>rfl) _ hF)
        have KF5:=Lib.hid hk
        have HT5:=Lib.hid ht
        have HNB:=Lib.hid (show CG[i].nodes≤400000∧Fx.bulk≤400000 from ⟨by omega,by omega⟩)
        have HFX:=Lib.hid hFx
        have e1:decide ((i:Int)≥0)=true:=decide_eq_true (by omega)
        have ei:IntKind.i64.wrap ((i:Int) - 1)=(i:Int) - 1:=IntWalk.i64_in _ (by have:=HG.out; omega)
        obtain ⟨base,hbase⟩:∃ n,n=wr.drew.heap.size:=⟨_,rfl⟩
        have HBS:=Lib.hid hbase
        clear hbase hk hF ht hsl haq hat q0 q1 hx hFx hNb
        go_upto_region 13 with fail
        refine wp_region_any (by kernel_rfl) ?_
        change wpAny _ _ _ _ _ _ _ (World.drew _)
        refine wpAny_last (by kernel_rfl) (by kernel_rfl) () t13A (by kernel_rfl) (fun _=>none) (t13F base (.slice (some aq) CG.length cG) i (aq.add (i * 2)) CG[i] (.agg #[.int .i64 CG[i].kind,.slice B6 CG[i].args.length c6]) Fx (.agg #[.int .i64 Fx.kind,.int .i64 Fx.type.kind,.slice B5 Fx.type.args.length d5,.slice C5 Fx.terms.length e5,.slice A5 Fx.args.length c5])) 6 rfl (by kernel_rfl) _ rfl (fun _=>False) (fun _=>False) (fun _=>True) _ _ (fun _ h=>h.elim) (fun _ h=>h) trivial ⟨?_,?_,?_,?_,?_,?_,trivial⟩ ?_
        · intro V G L a w1 hp K hK
          exact step_run rfl (run_move rfl (hp.slot0 4 _ rfl rfl)) (hK _ () _ (Post.still rfl trivial hp.lt fun L' _=>rfl))
        · intro V G L a w1 hp K hK
          exact step_run rfl (run_move rfl (hp.slot0 8 _ rfl rfl)) (hK _ () _ (Post.still rfl trivial hp.lt fun L' _=>rfl))
        · intro V G L a w1 hp K hK
          have f0:V 0=.slice (some aq) CG.length cG:=hp.fact 0 rfl
          have e0:=hp.slot 0 48 rfl rfl rfl
          rw [f0] at e0
          have f1:V 1=.int .i64 ((i:Nat):Int):=hp.fact 1 rfl
          have e1:=hp.slot 1 49 rfl rfl rfl
          rw [f1] at e1
          exact step_run rfl (run_indexTy rfl e0 e1 hj) (hK _ () _ (Post.still rfl trivial hp.lt fun L' _=>rfl))
        · intro V G L a w1 hp K hK
          have f2:V 2=.pointer (some (aq.add (i * 2))):=hp.fact 2 rfl
          have e2:=hp.slot 2 50 rfl rfl rfl
          rw [f2] at e2
          exact step_run rfl (run_loadTyAt rfl e2 ((hp.cell _ ⟨id,HAQ.out.1⟩).trans HAQ.out.2.1) ((hp.cell ⟨(aq.add (i * 2)).block,(aq.add (i * 2)).off+1,none⟩ ⟨id,HAQ.out.1⟩).trans HAQ.out.2.2)) (hK _ () _ (Post.still rfl trivial hp.lt fun L' _=>rfl))
        · intro V G L a w1 hp K hK
          exact step_run rfl (run_load5F rfl (hp.slot0 7 _ rfl rfl) (hp.blk0 KF5.out.drew id)) (hK _ () _ (Post.still rfl trivial hp.lt fun L' _=>rfl))
        · intro V G L a w1 hp K hK
          have f3:V 3=_:=hp.fact 3 rfl
          have e3:=hp.slot 3 51 rfl rfl rfl
          rw [f3] at e3
          have f4:V 4=_:=hp.fact 4 rfl
          have e4:=hp.slot 4 52 rfl rfl rfl
          rw [f4] at e4
          have ek0:a.eval (.const (.int .i64 4))=.int .i64 4:=rfl
          refine step_call rfl _ _ _ rfl _ (by simp only [List.map_toArray,List.map_cons,List.map_nil,ek0,e3,e4]) (enters_of Tryz.func34 (by kernel_rfl) rfl) (qF_any 4 CG[i] Fx _ _ w1 HNB.out.1 HNB.out.2 (IsTy.keep (fun b h=>h.2) (fun _ _=>rfl) _ (hp.ty0 TGI.out)) (IsFm.keep (fun b h=>h.2) (fun _ _=>rfl) _ (hp.fm0 TFX.out))) ?_
          rintro e w' ⟨v,rfl,ht,hb⟩
          exact ⟨_,rfl,hK _ () _ (Post.freshF rfl (hp.base_le (Nat.le_of_eq HBS.out)) ht hb trivial trivial hp.lt)⟩
        · intro V H L a w8 hp ha K hK
          have f5:IsFm (fun b=>Good L w8 b∧base≤b) w8 (.mk 4 CG[i] [] [Fx]) (V 5)∧True:=hp.fact 5 rfl
          obtain ⟨N,hN⟩:∃ N:Fm,N=.mk 4 CG[i] [] [Fx]:=⟨_,rfl⟩
          rw [← hN] at f5
          have hNd:N=allsF (CG.drop i) E:=by rw [hN,HFX.out]; exact alls_step CG E i hj'
          have e5':=hp.slot 5 53 rfl rfl rfl
          have e7':=hp.slot0 7 (.pointer (some ⟨p7,0,none⟩)) rfl rfl
          have hk:=hp.blk0 KF5.out.drew id
          have hg:=hp.grown
          obtain ⟨B8,d8,C8,e8,A8,c8,h8,_⟩:=f5.1.form
          rw [h8] at e5' f5
          refine step_skip' rfl (run_storeF rfl e7' e5' rfl rfl rfl rfl rfl hk) (hK _ _ ?_)
          rw [ha]
          simp only [putFrom,dstOf,Act.put,List.getElem?_toArray,List.getElem?_cons_zero,List.getElem?_cons_succ,List.setIfInBounds_toArray,List.set_cons_zero,List.set_cons_succ,h8]
          have hwx:=only_set5 w8 p7 (.int .i64 N.kind) (.int .i64 N.type.kind) (.slice B8 N.type.args.length d8) (.slice C8 N.terms.length e8) (.slice A8 N.args.length c8)
          have hkx:=hk.set5 (.int .i64 N.kind) (.int .i64 N.type.kind) (.slice B8 N.type.args.length d8) (.slice C8 N.terms.length e8) (.slice A8 N.args.length c8)
          obtain ⟨w9',hw9⟩:∃ w9',w9' = (((((w8.setCell ⟨p7,0,none⟩ (.int .i64 N.kind)).setCell ⟨p7,1,none⟩ (.int .i64 N.type.kind)).setCell ⟨p7,2,none⟩ (.slice B8 N.type.args.length d8)).setCell ⟨p7,3,none⟩ (.slice C8 N.terms.length e8)).setCell ⟨p7,4,none⟩ (.slice A8 N.args.length c8)):=⟨_,rfl⟩
          rw [← hw9] at hwx hkx ⊢
          have HEND:=Lib.hid (show Blk w9' p7 34 _∧IsFm (fun b=>b≠p7∧b<w9'.heap.size) w9' N _∧Turn (· = p7) Y w9' from ⟨hkx,IsFm.keep (fun b h=>⟨by have h1:=h.2; have h2:=HBS.out; have h3:=KF5.out.lt; have h4:base=wr.heap.size:=h2; omega,Nat.lt_of_lt_of_le h.1.2 hwx.size⟩) (fun q hq=>World.cell?_of_block (hwx.block q.block hq.1.2 (by have h1:=hq.2; have h2:=HBS.out; have h3:=KF5.out.lt; have h4:base=wr.heap.size:=h2; simp; omega))) _ f5.1,(HT5.out.trans ((Turn.drew wr).trans (hg.mono fun _ _ h=>h.elim))).trans (Turn.grown hwx fun k e=>by cases e; rfl)⟩)
          have HND:=Lib.hid hNd
          clear hp ha hK f5 hN hNd e5' e7' hk hg h8 hwx hkx hw9
          generalize V 0=t0
          generalize V 1=t1
          generalize V 2=t2
          generalize V 3=t3
          generalize V 4=t4
          go_wp2_with fail
          have hnd:=HND.out
          exact ⟨⟨i,B8,d8,C8,e8,A8,c8,by omega,rfl,by rw [← hnd]; exact HEND.out.1,by rw [← hnd]; exact HEND.out.2.1,HEND.out.2.2⟩,by simp [intOf]⟩
      | zero=>
        rw [show (((0:Nat):Int) - 1) = -1 from rfl]
        simp only [List.drop_zero] at hk hF
        obtain ⟨Z,hZ⟩:∃ Z,Z=allsF CG E:=⟨_,rfl⟩
        have hEf:FineF E:=by rw [HE.out]; exact .quant 5 CS F (by decide) (err_zero.2 ⟨HOK.out.1,by have:=HOK.out.2; omega⟩) (MF.out.fine (by have:=HG.out; simp only [List.length_append,List.length_cons,List.length_nil]; omega))
        have hZb:Z.bulk≤2000:=by
          have h1:=alls_bulk (f:=E) CG HGOK.out
          have h2:=HG.out
          have h3:=HEB.out.2
          rw [hZ]; omega
        have HZF:=Lib.hid (And.intro (show FineF Z by rw [hZ]; exact alls_fine hEf CG HGOK.out) (And.intro hZb (Nat.le_trans (sizeF_bulk Z) hZb)))
        rw [← hZ] at hk hF
        have HUN:=Lib.hid fun (L:List Ty) (g:Fm) (h:Univ Z L g)=>univ_alls HEB.out.1 CG (by rw [← hZ]; exact h)
        have B5r:=Lib.hid (HBY.out.trans (ht.toBelow (fun k hk e=>by have:=HPZ.out.2.2; omega) HBY.out.size))
        have TZ:=Lib.hid (show IsFm (· < wr.heap.size) wr Z _ from IsFm.keep (fun b h=>h.2) (fun _ _=>rfl) _ hF)
        have KZ:=Lib.hid hk
        have KF5:=Lib.hid (ht.blk KFY.out (by have:=HPZ.out.1; omega))
        have KS5:=Lib.hid (ht.blk KSY.out (by have:=HPZ.out.2.1; omega))
        have TF5:=Lib.hid (show IsFm (· < wr.heap.size) wr F _ from IsFm.keep (fun b h=>Nat.lt_of_lt_of_le h.2 ht.size) (fun q hq=>World.cell?_of_block (ht.block q.block hq.2 hq.1)) _ TFY.out)
        have TS5:=Lib.hid (show IsTy (· < wr.heap.size) wr CS _ from IsTy.keep (fun b h=>Nat.lt_of_lt_of_le h.2 ht.size) (fun q hq=>World.cell?_of_block (ht.block q.block hq.2 hq.1)) _ TSY.out)
        have TG5:=Lib.hid (show TyR.Sl (· < wr.heap.size) wr CG _ from TGY.out.keep (fun b h=>Nat.lt_of_lt_of_le h.2 ht.size) (fun q hq=>World.cell?_of_block (ht.block q.block hq.2 hq.1)))
        have HEP:=Lib.hid (show E.type=CS∧E.part=F∧E.kind=5∧E.part.bits &&& 4≠0 by rw [HE.out]; exact ⟨rfl,rfl,rfl,MF.out.bits (by have:=HG.out; simp only [List.length_append,List.length_cons,List.length_nil]; omega)⟩)
        obtain ⟨p0,p1,p2,p3,p4,_⟩:=KZ.out.facts5
        clear hk hF ht hZ hEf hZb hj
        go_wp2_with fail
        refine (task_any (· < wr.heap.size) Z _ wr HZF.out.1 (by have:=HZF.out.2.2; omega) (by have:=HZF.out.2.1; omega) (fun _ h=>h) (HTab.out.after B5r.out) TZ.out).mono ?_
        rintro e w10 ⟨L,g,hu,hb10,hcase⟩
        obtain ⟨hL,hgE⟩:=HUN.out L g hu
        rw [hL,hgE] at hcase
        clear hL hgE
        rcases hcase with ⟨hk5',hb4',s,t,u,rfl,hs,htt,huu⟩ | ⟨hno,_⟩
        · rw [HEP.out.1] at htt
          rw [HEP.out.2.1] at huu
          obtain ⟨A10,c10,rfl⟩:=hs.form
          obtain ⟨A11,c11,rfl⟩:=htt.form
          obtain ⟨B12,d12,C12,e12,A12,c12,rfl,_⟩:=huu.form
          have TL:=Lib.hid hs
          have TT:=Lib.hid htt
          have TU:=Lib.hid huu
          have B10:=Lib.hid hb10
          clear hs htt huu hb10 hu hk5' hb4'
          obtain ⟨W11,hW11,b11,z11,k110,k111⟩:=alloc2_facts w10 #[.int .i64 CS.kind,.slice A11 CS.args.length c11] #[.int .i64 F.kind,.int .i64 F.type.kind,.slice B12 F.type.args.length d12,.slice C12 F.terms.length e12,.slice A12 F.args.length c12] 30 34
          have hbr:Below wr.heap.size wr W11:=B10.out.trans (b11.mono B10.out.size)
          have HW11:=Lib.hid hW11
          have HP:=Lib.hid fun (w':World) (h:Below W11.heap.size W11 w')=>And.intro (k110.below h k110.lt) (And.intro (k111.below h k111.lt)
            (And.intro ((KS5.out.below hbr KS5.out.lt).below h (KS5.out.below hbr KS5.out.lt).lt) (And.intro ((KF5.out.below hbr KF5.out.lt).below h (KF5.out.below hbr KF5.out.lt).lt) ((KZ.out.below hbr KZ.out.lt).below h (KZ.out.below hbr KZ.out.lt).lt))))
          have hzz:w10.heap.size≤W11.heap.size:=b11.size
          have HQ:=Lib.hid fun (w':World) (h:Below W11.heap.size W11 w')=>And.intro
            (show IsTy (· < w'.heap.size) w' CS (.agg #[.int .i64 CS.kind,.slice A11 CS.args.length c11]) from IsTy.keep (fun b hb=>by have h1:=hb.2; have h2:=h.size; show b<_; omega) (fun q hq=>(h.cell (by have:=hq.2; omega)).trans (b11.cell hq.2)) _ TT.out) (And.intro
            (show IsTy (· < w'.heap.size) w' CS (.agg #[.int .i64 CS.kind,.slice A7 CS.args.length c7]) from IsTy.keep (S:=(· < wr.heap.size)) (w:=wr) (fun b hb=>Nat.lt_of_lt_of_le hb (Nat.le_trans hbr.size h.size)) (fun q hq=>(h.cell (Nat.lt_of_lt_of_le hq hbr.size)).trans (hbr.cell hq)) _ TS5.out) (And.intro
            (show IsFm (· < w'.heap.size) w' F (.agg #[.int .i64 F.kind,.int .i64 F.type.kind,.slice B12 F.type.args.length d12,.slice C12 F.terms.length e12,.slice A12 F.args.length c12]) from IsFm.keep (fun b hb=>by have h1:=hb.2; have h2:=h.size; show b<_; omega) (fun q hq=>(h.cell (by have:=hq.2; omega)).trans (b11.cell hq.2)) _ TU.out) (And.intro
            (show IsFm (· < w'.heap.size) w' F (.agg #[.int .i64 F.kind,.int .i64 F.type.kind,.slice B3 F.type.args.length d3,.slice C3 F.terms.length e3,.slice A3 F.args.length c3]) from IsFm.keep (S:=(· < wr.heap.size)) (w:=wr) (fun b hb=>Nat.lt_of_lt_of_le hb (Nat.le_trans hbr.size h.size)) (fun q hq=>(h.cell (Nat.lt_of_lt_of_le hq hbr.size)).trans (hbr.cell hq)) _ TF5.out) (And.intro
            (show IsFm (· < w'.heap.size) w' Z (.agg #[.int .i64 Z.kind,.int .i64 Z.type.kind,.slice B5 Z.type.args.length d5,.slice C5 Z.terms.length e5,.slice A5 Z.args.length c5]) from IsFm.keep (S:=(· < wr.heap.size)) (w:=wr) (fun b hb=>Nat.lt_of_lt_of_le hb (Nat.le_trans hbr.size h.size)) (fun q hq=>(h.cell (Nat.lt_of_lt_of_le hq hbr.size)).trans (hbr.cell hq)) _ TZ.out) (And.intro
            (show TyR.Sl (· < w'.heap.size) w' CG (.slice A10 CG.length c10) from TL.out.keep (fun b hb=>by have h1:=hb.2; have h2:=h.size; show b<_; omega) (fun q hq=>(h.cell (by have:=hq.2; omega)).trans (b11.cell hq.2)))
            (show TyR.Sl (· < w'.heap.size) w' CG (.slice AG CG.length cG) from TG5.out.keep (fun b hb=>Nat.lt_of_lt_of_le hb (Nat.le_trans hbr.size h.size)) (fun q hq=>(h.cell (Nat.lt_of_lt_of_le hq hbr.size)).trans (hbr.cell hq))))))))
          have HB11:=Lib.hid (B5r.out.trans (hbr.mono B5r.out.size))
          clear hW11 b11 z11 k110 k111 hbr hzz p0 p1 p2 p3 p4
          go_upto_region 15 with fail
          rw [← HW11.out]
          have HCN:=Lib.hid (show ∀ T ∈ CG,T.nodes≤400000 from fun T hT=>by have:=(HGOK.out T hT).2; omega)
          have hcg:CG.length≤400000:=by have:=HG.out; omega
          go_wp2_with fail
          refine (sameAllY_refl CG A10 AG c10 cG W11 hcg HCN.out (HQ.out W11 (Below.refl _ _)).2.2.2.2.2.1 (HQ.out W11 (Below.refl _ _)).2.2.2.2.2.2).mono ?_
          rintro e x1 ⟨rfl,hx1⟩
          have X1:=Lib.hid hx1
          clear hx1
          obtain ⟨q0,q1,_,_⟩:=(HP.out x1 X1.out).1.facts2
          obtain ⟨s0,s1,_,_⟩:=(HP.out x1 X1.out).2.2.1.facts2
          go_wp2_with fail
          refine (refSame_any 400000 CS CS _ _ x1 (by have:=HOK.out.2; omega) (Nat.le_refl _) (HQ.out x1 X1.out).1 (HQ.out x1 X1.out).2.1 (by have:=HOK.out.2; omega)).mono ?_
          rintro e x2 ⟨rfl,hx2⟩
          rw [eqb_self]
          have X2:=Lib.hid (X1.out.trans (hx2.mono X1.out.size))
          clear hx2 q0 q1 s0 s1
          obtain ⟨q0,q1,q2,q3,q4,_⟩:=(HP.out x2 X2.out).2.1.facts5
          obtain ⟨s0,s1,s2,s3,s4,_⟩:=(HP.out x2 X2.out).2.2.2.1.facts5
          go_wp2_with fail
          refine (sameFr_refl 400000 F _ _ x2 (by omega) (Nat.le_refl _) (HQ.out x2 X2.out).2.2.1 (HQ.out x2 X2.out).2.2.2.1).mono ?_
          rintro e x3 ⟨rfl,hx3⟩
          have X3:=Lib.hid (X2.out.trans (hx3.mono X2.out.size))
          clear hx3 q0 q1 q2 q3 q4 s0 s1 s2 s3 s4
          obtain ⟨p0,p1,p2,p3,p4,_⟩:=(HP.out x3 X3.out).2.2.2.2.facts5
          go_wp2_with fail
          refine (universal_any (· < x3.heap.size) Z _ x3 HZF.out.1 (by have:=HZF.out.2.2; omega) (by have:=HZF.out.2.1; omega) (fun _ h=>h) (HTab.out.after (HB11.out.trans (X3.out.mono HB11.out.size))) (HQ.out x3 X3.out).2.2.2.2.1).mono ?_
          rintro e x4 ⟨L',g',s4,u4,rfl,hu4,hs4,hg4,hx4⟩
          obtain ⟨hL,hgE⟩:=HUN.out L' g' hu4
          rw [hL] at hs4
          rw [hgE] at hg4
          obtain ⟨A13,c13,rfl⟩:=hs4.form
          obtain ⟨B14,d14,C14,e14,A14,c14,rfl,_⟩:=hg4.form
          obtain ⟨Y4,hY4,bY4,zY4,kY4⟩:∃ Y4,Y4=x4.alloc (.cells #[.int .i64 E.kind,.int .i64 E.type.kind,.slice B14 E.type.args.length d14,.slice C14 E.terms.length e14,.slice A14 E.args.length c14] 34)∧Below x4.heap.size x4 Y4∧Y4.heap.size=x4.heap.size+1∧Blk Y4 x4.heap.size 34 #[.int .i64 E.kind,.int .i64 E.type.kind,.slice B14 E.type.args.length d14,.slice C14 E.terms.length e14,.slice A14 E.args.length c14]:=⟨_,rfl,(Below.refl _ _).alloc (Nat.le_refl _) _,by simp,Blk.new _ _ _⟩
          have X4:=Lib.hid ((X3.out.trans (hx4.mono X3.out.size)).trans (bY4.mono (Nat.le_trans X3.out.size hx4.size)))
          have TL4:=Lib.hid (show TyR.Sl (· < Y4.heap.size) Y4 CG _ from hs4.keep (fun b hb=>by have:=hb.2; omega) (fun q hq=>bY4.cell hq.2))
          have TE4:=Lib.hid (show IsFm (· < Y4.heap.size) Y4 E _ from IsFm.keep (fun b hb=>by have:=hb.2; omega) (fun q hq=>bY4.cell hq.2) _ hg4)
          have KE4:=Lib.hid kY4
          have HY4:=Lib.hid hY4
          clear hL hgE hu4 hs4 hg4 hx4 hY4 bY4 zY4 kY4 p0 p1 p2 p3 p4
          go_upto_region 18 with fail
          rw [← HY4.out]
          obtain ⟨p0,p1,p2,p3,p4,_⟩:=(HP.out Y4 X4.out).2.2.2.2.facts5
          have hzb:Z.bulk≤400000:=by have:=HZF.out.2.1; omega
          go_wp2_with fail
          refine (twoF_call 2 (a:=Z) (b:=Z) hzb hzb (HQ.out Y4 X4.out).2.2.2.2.1 (HQ.out Y4 X4.out).2.2.2.2.1).mono ?_
          rintro e x5 ⟨N,vN,hN,rfl,tN,hx5⟩
          have X5:=Lib.hid (X4.out.trans (hx5.mono X4.out.size))
          have HNk:=Lib.hid (show FineF N∧N.size≤4096∧N.bulk≤390000∧N.kind=2 by
            have h1:N.bulk≤4010:=by have:=HZF.out.2.1; rw [hN]; simp only [Fm.bulk,bulkAll,bulkAllF,Ty.zero,Ty.nodes,nodesAll]; omega
            have h2:=sizeF_bulk N
            exact ⟨by rw [hN]; exact .two 2 Z Z (.inl rfl) HZF.out.1 HZF.out.1,by omega,by omega,by rw [hN]; rfl⟩)
          have TN:=Lib.hid (show IsFm (· < x5.heap.size) x5 N _ from IsFm.keep (fun b h=>h.2) (fun _ _=>rfl) _ tN)
          have B45:=Lib.hid hx5
          clear hN tN hx5 p0 p1 p2 p3 p4
          go_wp2_with fail
          refine (task_any (· < x5.heap.size) N _ x5 HNk.out.1 HNk.out.2.1 HNk.out.2.2.1 (fun _ h=>h) (HTab.out.after (HB11.out.trans (X5.out.mono HB11.out.size))) TN.out).mono ?_
          rintro e x6 ⟨L',g',hu6,hx6,hcase⟩
          obtain ⟨_,hgN⟩:=univ_none (by rw [HNk.out.2.2.2]; decide) hu6
          rw [hgN] at hcase
          rcases hcase with ⟨hk5,_⟩ | ⟨_,rfl⟩
          · rw [HNk.out.2.2.2] at hk5; exact absurd hk5 (by decide)
          · obtain ⟨Y6,hY6,bY6,zY6,_,_⟩:=alloc2_facts x6 #[.int .i64 0,.slice none 0 0] #[.int .i64 0,.int .i64 0,.slice none 0 0,.slice none 0 0,.slice none 0 0] 30 34
            have X6:=Lib.hid ((X5.out.trans (hx6.mono X5.out.size)).trans (bY6.mono (Nat.le_trans X5.out.size hx6.size)))
            have B46:=Lib.hid ((B45.out.trans (hx6.mono B45.out.size)).trans (bY6.mono (Nat.le_trans B45.out.size hx6.size)))
            have HY6:=Lib.hid hY6
            clear hu6 hgN hx6 hY6 bY6 zY6
            go_upto_region 19 with fail
            rw [← HY6.out]
            have KE6:=Lib.hid (KE4.out.below B46.out KE4.out.lt)
            have TL6:=Lib.hid (show TyR.Sl (Good (fun _=>False) Y6.drew) Y6.drew CG (.slice A13 CG.length c13) from TL4.out.keep (w':=Y6.drew) (fun b h=>⟨id,Nat.lt_of_lt_of_le h B46.out.size⟩) (fun q hq=>B46.out.cell hq))
            have TG6:=Lib.hid (show TyR.Sl (Good (fun _=>False) Y6.drew) Y6.drew CG (.slice AG CG.length cG) from Rep.Sl.keep (w:=Y6) (w':=Y6.drew) (fun b h=>⟨id,h⟩) (fun _ _=>rfl) (HQ.out Y6 X6.out).2.2.2.2.2.2)
            have TE6:=Lib.hid (show IsFm (Good (fun _=>False) Y6.drew) Y6.drew E (.agg #[.int .i64 E.kind,.int .i64 E.type.kind,.slice B14 E.type.args.length d14,.slice C14 E.terms.length e14,.slice A14 E.args.length c14]) from IsFm.keep (w':=Y6.drew) (fun b h=>⟨id,Nat.lt_of_lt_of_le h B46.out.size⟩) (fun q hq=>B46.out.cell hq) _ TE4.out)
            have TF6:=Lib.hid (show IsFm (Good (fun _=>False) Y6.drew) Y6.drew F (.agg #[.int .i64 F.kind,.int .i64 F.type.kind,.slice B3 F.type.args.length d3,.slice C3 F.terms.length e3,.slice A3 F.args.length c3]) from IsFm.keep (w:=Y6) (w':=Y6.drew) (fun b h=>⟨id,h⟩) (fun _ _=>rfl) _ (HQ.out Y6 X6.out).2.2.2.1)
            have TS6:=Lib.hid (show IsTy (Good (fun _=>False) Y6.drew) Y6.drew CS (.agg #[.int .i64 CS.kind,.slice A7 CS.args.length c7]) from IsTy.keep (w:=Y6) (w':=Y6.drew) (fun b h=>⟨id,h⟩) (fun _ _=>rfl) _ (HQ.out Y6 X6.out).2.1)
            have KS6:=Lib.hid (HP.out Y6 X6.out).2.2.1
            have KF6:=Lib.hid (HP.out Y6 X6.out).2.2.2.1
            have HEQ:=HE
            obtain ⟨base,hbase⟩:∃ n,n=Y6.drew.heap.size:=⟨_,rfl⟩
            have HBS:=Lib.hid hbase
            clear hbase
            refine wp_region_any (by kernel_rfl) ?_
            change wpAny _ _ _ _ _ _ _ (World.drew _)
            refine wpAny_facts (by kernel_rfl) (by kernel_rfl) () t19A (by kernel_rfl) (fun _=>none) (by kernel_rfl) (t19F base (.slice A13 CG.length c13) (.slice AG CG.length cG) (.agg #[.int .i64 E.kind,.int .i64 E.type.kind,.slice B14 E.type.args.length d14,.slice C14 E.terms.length e14,.slice A14 E.args.length c14]) (.agg #[.int .i64 CS.kind,.slice A7 CS.args.length c7]) (.agg #[.int .i64 F.kind,.int .i64 F.type.kind,.slice B3 F.type.args.length d3,.slice C3 F.terms.length e3,.slice A3 F.args.length c3]) E) (fun _=>False) (fun _=>False) (fun _=>True) _ _ (fun _ h=>h.elim) (fun _ h=>h) trivial ⟨?_,?_,?_,?_,?_,?_,?_,?_,?_,?_,?_,?_,?_,?_,?_,?_,?_,?_,?_,trivial⟩ ?_
            · intro V G L a w1 hp K hK
              exact step_run rfl (run_move rfl (hp.slot0 15 _ rfl rfl)) (hK _ () _ (Post.still rfl trivial hp.lt fun L' _=>rfl))
            · intro V G L a w1 hp K hK
              have f0:V 0=.int .i64 0:=hp.fact 0 rfl
              have e0:=hp.slot 0 96 rfl rfl rfl
              rw [f0] at e0
              exact step_run (v:=.bool true) rfl (run_eqErr rfl e0 (show a.eval (.const (.int .i64 0))=.int .i64 0 from rfl)) (hK _ () _ (Post.still rfl trivial hp.lt fun L' _=>rfl))
            · intro V G L a w1 hp K hK
              have f1:V 1=.bool true:=hp.fact 1 rfl
              have e1:=hp.slot 1 97 rfl rfl rfl
              rw [f1] at e1
              exact step_run rfl (run_move rfl e1) (hK _ () _ (Post.still rfl trivial hp.lt fun L' _=>rfl))
            · intro V G L a w1 hp K hK
              have f2:V 2=.bool true:=hp.fact 2 rfl
              exact step_runW (hp.wanted rfl rfl rfl rfl f2) (run_move rfl (hp.slot0 19 _ rfl rfl)) (hK _ () _ (Post.still rfl trivial hp.lt fun L' _=>rfl))
            · intro V G L a w1 hp K hK
              have f2:V 2=.bool true:=hp.fact 2 rfl
              have f3:V 3=.bool false:=hp.fact 3 rfl
              have e3:=hp.slot 3 99 rfl rfl rfl
              rw [f3] at e3
              exact step_runW (hp.wanted rfl rfl rfl rfl f2) (run_not rfl e3) (hK _ () _ (Post.still rfl trivial hp.lt fun L' _=>rfl))
            · intro V G L a w1 hp K hK
              have f2:V 2=.bool true:=hp.fact 2 rfl
              have e2:=hp.slot 2 98 rfl rfl rfl
              rw [f2] at e2
              have f4:V 4=.bool true:=hp.fact 4 rfl
              have e4:=hp.slot 4 100 rfl rfl rfl
              rw [f4] at e4
              exact step_run rfl (run_pick (v:=.bool true) rfl e2 (by rw [if_pos rfl]; exact e4)) (hK _ () _ (Post.still rfl trivial hp.lt fun L' _=>rfl))
            · intro V G L a w1 hp K hK
              have f5:V 5=.bool true:=hp.fact 5 rfl
              have e5:=hp.slot 5 101 rfl rfl rfl
              rw [f5] at e5
              exact step_run rfl (run_move rfl e5) (hK _ () _ (Post.still rfl trivial hp.lt fun L' _=>rfl))
            · intro V G L a w1 hp K hK
              have f6:V 6=.bool true:=hp.fact 6 rfl
              exact step_runW (hp.wanted rfl rfl rfl rfl f6) (run_move rfl (hp.slot0 13 _ rfl rfl)) (hK _ () _ (Post.still rfl trivial hp.lt fun L' _=>rfl))
            · intro V G L a w1 hp K hK
              have f6:V 6=.bool true:=hp.fact 6 rfl
              exact step_runW (hp.wanted rfl rfl rfl rfl f6) (run_move rfl (hp.slot0 4 _ rfl rfl)) (hK _ () _ (Post.still rfl trivial hp.lt fun L' _=>rfl))
            · intro V G L a w1 hp K hK
              have f6:V 6=.bool true:=hp.fact 6 rfl
              have f7:V 7=_:=hp.fact 7 rfl
              have e7:=hp.slot 7 103 rfl rfl rfl
              rw [f7] at e7
              have f8:V 8=_:=hp.fact 8 rfl
              have e8:=hp.slot 8 104 rfl rfl rfl
              rw [f8] at e8
              refine step_callW (hp.wanted rfl rfl rfl rfl f6) _ _ _ rfl _ (by simp only [List.map_toArray,List.map_cons,List.map_nil,e7,e8]) (enters_of Tryz.func36 (by kernel_rfl) rfl) (sameAllY_refl CG A13 AG c13 cG w1 hcg HCN.out ((hp.sl0 TL6.out).keep (fun b h=>h.2) (fun _ _=>rfl)) ((hp.sl0 TG6.out).keep (fun b h=>h.2) (fun _ _=>rfl))) ?_
              rintro e w' ⟨rfl,hb⟩
              exact ⟨_,rfl,hK _ () _ (Post.of rfl (Turn.call hb) trivial hp.lt fun L' _ _=>rfl)⟩
            · intro V G L a w1 hp K hK
              have f6:V 6=.bool true:=hp.fact 6 rfl
              have e6:=hp.slot 6 102 rfl rfl rfl
              rw [f6] at e6
              have f9:V 9=.bool true:=hp.fact 9 rfl
              have e9:=hp.slot 9 105 rfl rfl rfl
              rw [f9] at e9
              exact step_run rfl (run_pick (v:=.bool true) rfl e6 (by rw [if_pos rfl]; exact e9)) (hK _ () _ (Post.still rfl trivial hp.lt fun L' _=>rfl))
            · intro V G L a w1 hp K hK
              have f10:V 10=.bool true:=hp.fact 10 rfl
              have e10:=hp.slot 10 106 rfl rfl rfl
              rw [f10] at e10
              exact step_run rfl (run_move rfl e10) (hK _ () _ (Post.still rfl trivial hp.lt fun L' _=>rfl))
            · intro V G L a w1 hp K hK
              have f11:V 11=.bool true:=hp.fact 11 rfl
              exact step_runW (hp.wanted rfl rfl rfl rfl f11) (run_load5F rfl (hp.slot0 14 _ rfl rfl) (hp.blk0 KE6.out.drew id)) (hK _ () _ (Post.still rfl trivial hp.lt fun L' _=>rfl))
            · intro V G L a w1 hp K hK
              have f11:V 11=.bool true:=hp.fact 11 rfl
              exact step_runW (hp.wanted rfl rfl rfl rfl f11) (run_load2 rfl (hp.slot0 5 _ rfl rfl) (hp.blk0 KS6.out.drew id)) (hK _ () _ (Post.still rfl trivial hp.lt fun L' _=>rfl))
            · intro V G L a w1 hp K hK
              have f11:V 11=.bool true:=hp.fact 11 rfl
              exact step_runW (hp.wanted rfl rfl rfl rfl f11) (run_load5F rfl (hp.slot0 6 _ rfl rfl) (hp.blk0 KF6.out.drew id)) (hK _ () _ (Post.still rfl trivial hp.lt fun L' _=>rfl))
            · intro V G L a w1 hp K hK
              have f11:V 11=.bool true:=hp.fact 11 rfl
              have f13:V 13=_:=hp.fact 13 rfl
              have e13:=hp.slot 13 109 rfl rfl rfl
              rw [f13] at e13
              have f14:V 14=_:=hp.fact 14 rfl
              have e14:=hp.slot 14 110 rfl rfl rfl
              rw [f14] at e14
              have ek0:a.eval (.const (.int .i64 5))=.int .i64 5:=rfl
              refine step_callW (hp.wanted rfl rfl rfl rfl f11) _ _ _ rfl _ (by simp only [List.map_toArray,List.map_cons,List.map_nil,ek0,e13,e14]) (enters_of Tryz.func34 (by kernel_rfl) rfl) (qF_any 5 CS F _ _ w1 (by have:=HOK.out.2; omega) (by omega) (IsTy.keep (fun b h=>h.2) (fun _ _=>rfl) _ (hp.ty0 TS6.out)) (IsFm.keep (fun b h=>h.2) (fun _ _=>rfl) _ (hp.fm0 TF6.out))) ?_
              rintro e w' ⟨v,rfl,ht,hb⟩
              rw [← HEQ.out] at ht
              exact ⟨_,rfl,hK _ () _ (Post.freshF rfl (hp.base_le (Nat.le_of_eq HBS.out)) ht hb trivial trivial hp.lt)⟩
            · intro V G L a w1 hp K hK
              have f11:V 11=.bool true:=hp.fact 11 rfl
              have f12:V 12=_:=hp.fact 12 rfl
              have e12:=hp.slot 12 108 rfl rfl rfl
              rw [f12] at e12
              have f15:IsFm (fun b=>Good L w1 b∧base≤b) w1 E (V 15)∧True:=hp.fact 15 rfl
              have e15:=hp.slot 15 111 rfl rfl rfl
              refine step_callW (hp.wanted rfl rfl rfl rfl f11) _ _ _ rfl _ (by simp only [List.map_toArray,List.map_cons,List.map_nil,e12,e15]) (enters_of Tryz.func19 (by kernel_rfl) rfl) (sameFr_refl 400000 E _ _ w1 (by have:=HEB.out.2; omega) (Nat.le_refl _) (IsFm.keep (fun b h=>h.2) (fun _ _=>rfl) _ (hp.fm0 TE6.out)) (IsFm.keep (fun b h=>h.1.2) (fun _ _=>rfl) _ f15.1)) ?_
              rintro e w' ⟨rfl,hb⟩
              exact ⟨_,rfl,hK _ () _ (Post.of rfl (Turn.call hb) trivial hp.lt fun L' _ _=>rfl)⟩
            · intro V G L a w1 hp K hK
              have f11:V 11=.bool true:=hp.fact 11 rfl
              have e11:=hp.slot 11 107 rfl rfl rfl
              rw [f11] at e11
              have f16:V 16=.bool true:=hp.fact 16 rfl
              have e16:=hp.slot 16 112 rfl rfl rfl
              rw [f16] at e16
              exact step_run rfl (run_pick (v:=.bool true) rfl e11 (by rw [if_pos rfl]; exact e16)) (hK _ () _ (Post.still rfl trivial hp.lt fun L' _=>rfl))
            · intro V G L a w1 hp K hK
              have f17:V 17=.bool true:=hp.fact 17 rfl
              have e17:=hp.slot 17 113 rfl rfl rfl
              rw [f17] at e17
              exact step_run rfl (run_assign rfl e17) (hK _ () _ (Post.still rfl trivial hp.lt fun L' _=>rfl))
            · intro V H w12 L hg _ hf hL hd
              have f18:V 18=.bool true:=(hf 18 (by decide) rfl).1
              have B12:=Lib.hid (show Below Y6.heap.size Y6 w12 from ⟨hg.os,hg.tape,hg.output,hg.size,fun k hk=>hg.block k hk id⟩)
              simp only [putFrom,dstOf,Act.put,List.size_toArray,List.length_cons,List.length_nil,Nat.zero_add,Nat.reduceAdd,List.getElem?_toArray,List.getElem?_cons_zero,List.getElem?_cons_succ,List.setIfInBounds_toArray,List.set_cons_zero,List.set_cons_succ,f18]
              clear hf hL hd f18 hg
              go_wp2_with fail
              go_ret
              exact ⟨rfl,(HB11.out.trans (X6.out.mono HB11.out.size)).trans (B12.out.mono (Nat.le_trans HB11.out.size X6.out.size))⟩
        · exact absurd ⟨HEP.out.2.2.1,HEP.out.2.2.2⟩ hno
end Go.Proofs.YthlknhkemmdocaaGreatDoor
