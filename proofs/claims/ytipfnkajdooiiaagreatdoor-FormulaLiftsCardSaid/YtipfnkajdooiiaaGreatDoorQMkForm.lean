/- mk.Formula: a formula that is typed in a context. -/
import Derived.Test.YtipfnkajdooiiaaGreatDoorQPackK
import Derived.Test.YtipfnkajdooiiaaGreatDoorQPackFml
namespace Go.Proofs.YtipfnkajdooiiaaGreatDoor
open Go.RowKit

/-- A formula that mk.Formula makes: at most so deep, typed in a context, of small terms. -/
inductive MadeF:Nat→List Ty→Fm→Prop
 | eq (d:Nat) (G:List Ty) (s t:Tm) (hs:Made G tyNat 24 3 s) (ht:Made G tyNat 24 3 t):MadeF d G (.mk 1 .zero [s,t] [])
 | two (d:Nat) (G:List Ty) (k:Int) (a b:Fm) (hk:k=2∨k=3) (ha:MadeF d G a) (hb:MadeF d G b):MadeF (d+1) G (.mk k .zero [] [a,b])
 | quant (d:Nat) (G:List Ty) (k:Int) (T:Ty) (b:Fm) (hk:k=4∨k=5∨k=6∨k=7) (hT:T.ok=true) (hn:T.nodes≤3) (hb:MadeF d (G ++ [T]) b):MadeF (d+1) G (.mk k T [] [b])
theorem MadeF.bulk_two {d:Nat} {G:List Ty} {f:Fm} (h:MadeF d G f):f.bulk+2≤400 * 2 ^ d:=by
 induction h with
 | eq d G s t hs ht=>
   have h1:=hs.size; have h2:=hs.thin; have h3:=ht.size; have h4:=ht.thin
   have h5:1≤2 ^ d:=Nat.one_le_two_pow
   simp only [Fm.bulk,bulkAll,bulkAllF,Ty.zero,Ty.nodes,nodesAll]
   omega
 | two d G k a b hk ha hb iha ihb=>
   simp only [Fm.bulk,bulkAll,bulkAllF,Ty.zero,Ty.nodes,nodesAll,Nat.pow_succ]
   omega
 | quant d G k T b hk hT hn hb ih=>
   simp only [Fm.bulk,bulkAll,bulkAllF,Nat.pow_succ]
   have h5:1≤2 ^ d:=Nat.one_le_two_pow
   omega
theorem MadeF.bulk_le {d:Nat} {G:List Ty} {f:Fm} (h:MadeF d G f) (hd:d≤6):f.bulk≤26000:=by
 have h1:=h.bulk_two
 have h2:2 ^ d≤2 ^ 6:=Nat.pow_le_pow_right (by omega) hd
 omega

theorem type_three' {S:Ty} (h:S.nodes+1≤2 ^ (1+1)):S.nodes≤3:=by simp at h; omega
theorem twoF_call (k:Int) {a b:Fm} {u v:Value} {w:World} (hs:a.bulk≤400000) (ht:b.bulk≤400000) (hS:IsFm (· < w.heap.size) w a u) (hT:IsFm (· < w.heap.size) w b v) :
   Calls Tryz.prog 55 #[.int .i64 k,u,v] w fun e w'=>∃ f v,f=Fm.mk k .zero [] [a,b]∧e=.returned v∧IsFm (fun b=>w.heap.size≤b∧b<w'.heap.size) w' f v∧Below w.heap.size w w':=
 (twoF_any k a b u v w hs ht hS hT).mono fun _ _ ⟨v,h⟩=>⟨_,v,rfl,h⟩
theorem qF_call (k:Int) {T:Ty} {b:Fm} {u v:Value} {w:World} (hs:T.nodes≤400000) (ht:b.bulk≤400000) (hS:IsTy (· < w.heap.size) w T u) (hT:IsFm (· < w.heap.size) w b v) :
   Calls Tryz.prog 56 #[.int .i64 k,u,v] w fun e w'=>∃ f v,f=Fm.mk k T [] [b]∧e=.returned v∧IsFm (fun b=>w.heap.size≤b∧b<w'.heap.size) w' f v∧Below w.heap.size w w':=
 (qF_any k T b u v w hs ht hS hT).mono fun _ _ ⟨v,h⟩=>⟨_,v,rfl,h⟩
theorem eqF_call {s t:Tm} {u v:Value} {w:World} (hs:s.bulk≤400000) (ht:t.bulk≤400000) (hS:IsTm (· < w.heap.size) w s u) (hT:IsTm (· < w.heap.size) w t v) :
   Calls Tryz.prog 58 #[u,v] w fun e w'=>∃ f v,f=Fm.mk 1 .zero [s,t] []∧e=.returned v∧IsFm (fun b=>w.heap.size≤b∧b<w'.heap.size) w' f v∧Below w.heap.size w w':=
 (eqF_any s t u v w hs ht hS hT).mono fun _ _ ⟨v,h⟩=>⟨_,v,rfl,h⟩

/-- What mk.Formula answers. -/
def FormR (g:Nat) (G:List Ty) (d:Nat) (w:World) (e:Ending) (w':World):Prop:=
 ∃ f v,e=.returned v∧MadeF d G f∧IsFm (fun b=>w.heap.size≤b∧b<w'.heap.size) w' f v∧Deck w' g∧Turn (· = g) w w'
theorem form_end {g d lo p:Nat} {G:List Ty} {f:Fm} {w W w9:World} {x0 x1 x2 x3 x4:Value} (hp:p=w.heap.size) (hg:g<w.heap.size) (hW:Below w.heap.size w W) (hz:W.heap.size=w.heap.size+1) (ht:Turn (· = g) W w9) (hd:Deck w9 g) (hm:MadeF d G f) (hlo:p<lo)
   (hf:IsFm (fun b=>lo≤b∧b<w9.heap.size) w9 f (.agg #[x0,x1,x2,x3,x4])) :
   FormR g G d w (.returned (.agg #[x0,x1,x2,x3,x4])) (((((w9.setCell ⟨p,0,none⟩ x0).setCell ⟨p,1,none⟩ x1).setCell ⟨p,2,none⟩ x2).setCell ⟨p,3,none⟩ x3).setCell ⟨p,4,none⟩ x4):=by
 have hs:=only_set5 w9 p x0 x1 x2 x3 x4
 have h1:=(Turn.call hW).trans ht
 have h2:=ht.size
 refine ⟨f,_,rfl,hm,IsFm.keep (fun b h=>⟨by omega,Nat.lt_of_lt_of_le h.2 hs.size⟩) (fun q hq=>World.cell?_of_block (hs.block q.block hq.2 (by simp; omega))) _ hf,hd.grown hs (fun k e=>by cases e; omega),?_⟩
 exact ⟨hs.os.trans h1.os,hs.tape.trans h1.tape,hs.output.trans h1.output,Nat.le_trans h1.size hs.size,fun k hk hx=>(hs.block k (Nat.lt_of_lt_of_le hk h1.size) (by simp; omega)).trans (h1.block k hk hx)⟩
/-- What is said of smaller calls. -/
def IHF (g d:Nat):Prop:=∀ (G:List Ty) (s:Value) (w:World),G.length+d≤20→Ctx g w G s→Deck w g →
 Calls Tryz.prog 12 #[.pointer (some ⟨g,0,none⟩),s,.int .i64 d] w (FormR g G d w)

set_option maxRecDepth 1000000 in
set_option maxHeartbeats 8000000 in
theorem form_step (g d:Nat) (hd3:d≤6) (ih:∀ d',d' + 1=d→IHF g d'):IHF g d:=by
 intro G s w hG hc hd
 obtain ⟨A,c,rfl⟩:=hc.sl.form
 obtain ⟨bW,zW,kW⟩:=new_blk (Below.refl w.heap.size w) (Nat.le_refl _) #[.int .i64 0,.int .i64 0,.slice none 0 0,.slice none 0 0,.slice none 0 0] 34
 have hgw:=hd.lt
 have HC:=Lib.hid (hc.turn (Turn.call bW))
 have HD:=Lib.hid (hd.call bW)
 have IH:=Lib.hid ih
 clear hc hd ih
 go_enter Tryz.func12,Tryz.ntmps12
 go_upto_region 1 with fail
 generalize w.alloc (Obj.cells #[.int .i64 0,.int .i64 0,.slice none 0 0,.slice none 0 0,.slice none 0 0] 34)=W at bW zW kW HC HD ⊢
 have HK:=Lib.hid kW
 have HW:=Lib.hid (And.intro bW zW)
 have hWz:w.heap.size<W.heap.size:=by omega
 clear bW zW kW
 go_upto_if 12 with fail
 go_cut [] (fun wx=>Deck wx g∧Turn (· = g) W wx)
 case first=>
   by_cases hd0:d=0
   · subst hd0
     go_wp2_with fail
     go_meet
     exact ⟨HD.out,Turn.refl _ _⟩
   · obtain ⟨d',rfl⟩:∃ d',d=d' + 1:=⟨d - 1,by omega⟩
     have IH':=Lib.hid (IH.out d' rfl)
     have e1:decide (((d' + 1:Nat):Int) > 0)=true:=decide_eq_true (by omega)
     have e2:IntKind.i64.wrap (((d' + 1:Nat):Int) - 1)=(d':Int):=by rw [IntWalk.i64_in _ (by omega)]; omega
     have e3:IntKind.i64.wrap (d':Int)=(d':Int):=IntWalk.i64_in _ (by omega)
     clear IH
     go_wp2_with fail
     refine (next_any g 9 W (by omega) (by omega) HD.out).mono ?_
     rintro e w1 ⟨r,rfl,hr0,hr9,hd1,hg1⟩
     have H1:=Lib.hid (And.intro hd1 (turn_of hg1))
     have hz1:=hg1.size
     have hr:r=0∨(r=1∨r=2)∨(r=3∨r=4)∨r=5∨r=6∨(r=7∨r=8):=by omega
     clear hd1 hg1
     rcases hr with rfl | hr | hr | rfl | rfl | hr
     · go_wp2_with fail
       refine (IH'.out G _ w1 (by omega) (Ctx.turn HC.out H1.out.2) H1.out.1).mono ?_
       rintro e w2 ⟨f2,v2,rfl,m2,t2,d2,u2⟩
       obtain ⟨Ba2,da2,Ca2,ea2,Aa2,ca2,rfl,_⟩:=IsFm.form t2
       have H2:=Lib.hid (And.intro d2 (And.intro (H1.out.2.trans u2) (And.intro m2 t2)))
       have hz2:=u2.size
       clear m2 t2 d2 u2
       go_wp2_with fail
       refine (IH'.out G _ w2 (by omega) (Ctx.turn HC.out H2.out.2.1) H2.out.1).mono ?_
       rintro e w3 ⟨f3,v3,rfl,m3,t3,d3,u3⟩
       obtain ⟨Ba3,da3,Ca3,ea3,Aa3,ca3,rfl,_⟩:=IsFm.form t3
       have H3:=Lib.hid (And.intro d3 (And.intro (H2.out.2.1.trans u3) (And.intro m3 (And.intro t3 u3))))
       have hz3:=u3.size
       have hb2:=H2.out.2.2.1.bulk_le (by omega)
       have hb3:=m3.bulk_le (by omega)
       clear m3 t3 d3 u3
       go_wp2_with fail
       refine (twoF_call 2 (a:=f2) (b:=f3) (by omega) (by omega) (IsFm.keep (S':=(· < w3.heap.size)) (w':=w3) (fun b h=>by have:=h.2; omega) (fun q hq=>World.cell?_of_block (H3.out.2.2.2.2.block q.block hq.2 (by have:=hq.1; omega))) _ H2.out.2.2.2) (IsFm.keep (S':=(· < w3.heap.size)) (fun b h=>h.2) (fun _ _=>rfl) _ H3.out.2.2.2.1)).mono ?_
       rintro e w4 ⟨f4,v4,h4,rfl,t4,b4⟩
       obtain ⟨Ba4,da4,Ca4,ea4,Aa4,ca4,rfl,_⟩:=IsFm.form t4
       have E4:=Lib.hid h4
       have T4:=Lib.hid t4
       have U4:=Lib.hid (H3.out.2.1.trans (tCa g b4))
       have D4:=Lib.hid (Deck.call H3.out.1 b4)
       have k4:=U4.out.blk HK.out (by omega)
       obtain ⟨_,_,_,_,_,x0,x1,x2,x3,x4⟩:=k4.facts5
       have K4:=Lib.hid k4
       clear h4 t4 b4 k4
       go_wp2_with fail
       obtain ⟨z0,z1,z2,z3,z4⟩:=(K4.out.set5 (.int .i64 f4.kind) (.int .i64 f4.type.kind) (.slice Ba4 f4.type.args.length da4) (.slice Ca4 f4.terms.length ea4) (.slice Aa4 f4.args.length ca4)).cells5
       refine bodyPost_ret (v:=.agg #[.int .i64 f4.kind,.int .i64 f4.type.kind,.slice Ba4 f4.type.args.length da4,.slice Ca4 f4.terms.length ea4,.slice Aa4 f4.args.length ca4]) (by simp [results,Tryz.results12,go_sem,z0,z1,z2,z3,z4]) rfl ?_
       exact form_end rfl hgw HW.out.1 HW.out.2 U4.out D4.out (by rw [E4.out]; exact .two d' G 2 f2 f3 (.inl rfl) H2.out.2.2.1 H3.out.2.2.1) (by omega) T4.out
     · rcases hr with rfl | rfl
       all_goals
         go_wp2_with fail
         refine (IH'.out G _ w1 (by omega) (Ctx.turn HC.out H1.out.2) H1.out.1).mono ?_
         rintro e w2 ⟨f2,v2,rfl,m2,t2,d2,u2⟩
         obtain ⟨Ba2,da2,Ca2,ea2,Aa2,ca2,rfl,_⟩:=IsFm.form t2
         have H2:=Lib.hid (And.intro d2 (And.intro (H1.out.2.trans u2) (And.intro m2 t2)))
         have hz2:=u2.size
         clear m2 t2 d2 u2
         go_wp2_with fail
         refine (IH'.out G _ w2 (by omega) (Ctx.turn HC.out H2.out.2.1) H2.out.1).mono ?_
         rintro e w3 ⟨f3,v3,rfl,m3,t3,d3,u3⟩
         obtain ⟨Ba3,da3,Ca3,ea3,Aa3,ca3,rfl,_⟩:=IsFm.form t3
         have H3:=Lib.hid (And.intro d3 (And.intro (H2.out.2.1.trans u3) (And.intro m3 (And.intro t3 u3))))
         have hz3:=u3.size
         have hb2:=H2.out.2.2.1.bulk_le (by omega)
         have hb3:=m3.bulk_le (by omega)
         clear m3 t3 d3 u3
         go_wp2_with fail
         refine (twoF_call 3 (a:=f2) (b:=f3) (by omega) (by omega) (IsFm.keep (S':=(· < w3.heap.size)) (w':=w3) (fun b h=>by have:=h.2; omega) (fun q hq=>World.cell?_of_block (H3.out.2.2.2.2.block q.block hq.2 (by have:=hq.1; omega))) _ H2.out.2.2.2) (IsFm.keep (S':=(· < w3.heap.size)) (fun b h=>h.2) (fun _ _=>rfl) _ H3.out.2.2.2.1)).mono ?_
         rintro e w4 ⟨f4,v4,h4,rfl,t4,b4⟩
         obtain ⟨Ba4,da4,Ca4,ea4,Aa4,ca4,rfl,_⟩:=IsFm.form t4
         have E4:=Lib.hid h4
         have T4:=Lib.hid t4
         have U4:=Lib.hid (H3.out.2.1.trans (tCa g b4))
         have D4:=Lib.hid (Deck.call H3.out.1 b4)
         have k4:=U4.out.blk HK.out (by omega)
         obtain ⟨_,_,_,_,_,x0,x1,x2,x3,x4⟩:=k4.facts5
         have K4:=Lib.hid k4
         clear h4 t4 b4 k4
         go_wp2_with fail
         obtain ⟨z0,z1,z2,z3,z4⟩:=(K4.out.set5 (.int .i64 f4.kind) (.int .i64 f4.type.kind) (.slice Ba4 f4.type.args.length da4) (.slice Ca4 f4.terms.length ea4) (.slice Aa4 f4.args.length ca4)).cells5
         refine bodyPost_ret (v:=.agg #[.int .i64 f4.kind,.int .i64 f4.type.kind,.slice Ba4 f4.type.args.length da4,.slice Ca4 f4.terms.length ea4,.slice Aa4 f4.args.length ca4]) (by simp [results,Tryz.results12,go_sem,z0,z1,z2,z3,z4]) rfl ?_
         exact form_end rfl hgw HW.out.1 HW.out.2 U4.out D4.out (by rw [E4.out]; exact .two d' G 3 f2 f3 (.inr rfl) H2.out.2.2.1 H3.out.2.2.1) (by omega) T4.out
     · rcases hr with rfl | rfl
       all_goals
         go_wp2_with fail
         refine (type_any 1 1 g w1 (by omega) (by omega) (by omega) H1.out.1).mono ?_
         rintro e w2 ⟨S,vs,rfl,okS,szS,tyS,hd2,hg2⟩
         obtain ⟨A3,c3,rfl⟩:=tyS.form
         have hSn:S.nodes≤3:=by exact type_three' szS
         have TYS:=Lib.hid (And.intro tyS (And.intro hd2 hg2))
         clear tyS hd2 hg2 szS
         go_upto_region 11 with fail
         obtain ⟨bR,zR,kR⟩:=new_blk (Below.refl w2.heap.size w2) (Nat.le_refl _) #[.int .i64 S.kind,.slice A3 S.args.length c3] 30
         generalize w2.alloc (Obj.cells #[.int .i64 S.kind,.slice A3 S.args.length c3] 30)=R at bR zR kR ⊢
         have hs2:=TYS.out.2.2.size
         have DR:=Lib.hid (TYS.out.2.1.call bR)
         have TR:=Lib.hid ((H1.out.2.trans (turn_of TYS.out.2.2)).trans (Turn.call bR))
         have HCR:=Lib.hid (Ctx.turn HC.out TR.out)
         have hgl:g<w1.heap.size:=by omega
         have HS:=Lib.hid (show Typ g R S (.agg #[.int .i64 S.kind,.slice A3 S.args.length c3]) from Typ.turn (Typ.of TYS.out.1 hgl) (Turn.call bR))
         have np:¬ Pair2 g w.heap.size w2.heap.size:=by unfold Pair2; omega
         have gR:g<R.heap.size:=by omega
         have QD:=Lib.hid (Turn.pair (q:=w.heap.size) (tDr g R))
         have QA:=Lib.hid (Turn.pair (q:=w.heap.size) (tAl g R (Obj.cells #[.int .i64 S.kind,.slice A3 S.args.length c3] 30)))
         have QB:=Lib.hid (Turn.pair (q:=w.heap.size) ((tAl g R (Obj.cells #[.int .i64 S.kind,.slice A3 S.args.length c3] 30)).trans (tDr g _)))
         have HSK:=Lib.hid fun (w':World) (h:Turn (Pair2 g w.heap.size) R w')=>And.intro (h.blk kR np).facts2.1 (h.blk kR np).facts2.2.1
         obtain ⟨q0,q1⟩:=HSK.out R (Turn.refl _ _)
         have hRz:R.heap.size=w2.heap.size+1:=zR
         have HRZ:=Lib.hid hRz
         have hWR:W.heap.size≤w2.heap.size:=by omega
         clear zR bR hs2 hRz
         go_region_held3 (fun w'=>w'.cell? ⟨w2.heap.size,0,none⟩ = some (.int .i64 S.kind)∧w'.cell? ⟨w2.heap.size,1,none⟩ = some (.slice A3 S.args.length c3))
           (first | with_reducible exact HSK.out _ QD.out | with_reducible exact HSK.out _ QA.out | with_reducible exact HSK.out _ QB.out | with_reducible exact HSK.out _ Q4.out | with_reducible exact HSK.out _ Q5.out | with_reducible exact HSK.out _ Q6.out | with_reducible exact HSK.out _ QF.out)
           (first
             | (go_at_call 56
                have P6:=qF_call 4 (T:=S) (b:=f5) (by omega) (by omega) (Typ.below (Typ.turn HS.out T5.out)) (IsFm.keep (S':=(· < w5.heap.size)) (fun b h=>h.2) (fun _ _=>rfl) _ X5.out)
                (with_reducible refine P6.mono ?_)
                rintro e w6 ⟨f6,v6,h6,rfl,t6,r6⟩
                clear P6
                have T6:=Lib.hid (T5.out.trans (tCa g r6))
                obtain ⟨Ba6,da6,Ca6,ea6,Aa6,ca6,rfl,_⟩:=IsFm.form t6
                have X6:=Lib.hid t6
                have K6:=Lib.hid (Deck.call K5.out r6)
                have KP6:=Lib.hid ((TR.out.trans T6.out).blk HK.out (by omega))
                obtain ⟨_,_,_,_,_,x0,x1,x2,x3,x4⟩:=KP6.out.facts5
                have E6:=Lib.hid h6
                have hz6:=r6.size
                clear t6 r6 h6
                have Q6:=Lib.hid (Turn.pair (q:=w.heap.size) T6.out)
                have QF:=Lib.hid (Turn.trans Q6.out (turn_set5 (g:=g) w6 w.heap.size (.int .i64 f6.kind) (.int .i64 f6.type.kind) (.slice Ba6 f6.type.args.length da6) (.slice Ca6 f6.terms.length ea6) (.slice Aa6 f6.args.length ca6))))
             | (go_at_call 12
                have P5:=IH'.out (G ++ [S]) _ w4 (by rw [List.length_append]; simp only [List.length_cons,List.length_nil]; omega) C4.out K4.out
                (with_reducible refine P5.mono ?_)
                rintro e w5 ⟨f5,v5,rfl,m5,t5,k5,u5⟩
                clear P5
                have T5:=Lib.hid (T4.out.trans u5)
                obtain ⟨Ba5,da5,Ca5,ea5,Aa5,ca5,rfl,_⟩:=IsFm.form t5
                have X5:=Lib.hid t5
                have M5:=Lib.hid m5
                have hb5:=m5.bulk_le (by omega)
                have K5:=Lib.hid k5
                have hz5:=u5.size
                clear m5 t5 k5 u5
                have Q5:=Lib.hid (Turn.pair (q:=w.heap.size) T5.out))
             | (go_at_call 57
                have P4:=longer_ctx (g:=g) (L:=[S]) (Nat.lt_of_lt_of_le gR ((tAl g R (Obj.cells #[.int .i64 S.kind,.slice A3 S.args.length c3] 30)).trans (tDr g _)).size) (by omega) (by simp) (Ctx.turn HCR.out ((tAl g R (Obj.cells #[.int .i64 S.kind,.slice A3 S.args.length c3] 30)).trans (tDr g _))) (Rep.Sl.turn (R:=TyR) (ty_sl1 gR HS.out) (tDr g _)) (fun U hU=>by rw [List.mem_singleton.1 hU]; exact ⟨okS,by omega⟩) (by simp)
                (with_reducible refine P4.mono ?_)
                rintro e w4 ⟨z4,rfl,h4,b4⟩
                clear P4
                have T4:=Lib.hid (((tAl g R (Obj.cells #[.int .i64 S.kind,.slice A3 S.args.length c3] 30)).trans (tDr g _)).trans (tCa g b4))
                have K4:=Lib.hid (Deck.call (Deck.drewd (DR.out.box (Obj.cells #[.int .i64 S.kind,.slice A3 S.args.length c3] 30))) b4)
                obtain ⟨A4,c4,rfl⟩:∃ A c,z4=.slice A (G.length+1) c:=by obtain ⟨A',c',e'⟩:=h4.sl.form; exact ⟨A',c',by rw [e']; simp⟩
                have C4:=Lib.hid h4
                have hz4:=b4.size
                clear h4 b4
                have Q4:=Lib.hid (Turn.pair (q:=w.heap.size) T4.out)))
         go_wp2_with fail
         obtain ⟨z0,z1,z2,z3,z4⟩:=(KP6.out.set5 (.int .i64 f6.kind) (.int .i64 f6.type.kind) (.slice Ba6 f6.type.args.length da6) (.slice Ca6 f6.terms.length ea6) (.slice Aa6 f6.args.length ca6)).cells5
         refine bodyPost_ret (v:=.agg #[.int .i64 f6.kind,.int .i64 f6.type.kind,.slice Ba6 f6.type.args.length da6,.slice Ca6 f6.terms.length ea6,.slice Aa6 f6.args.length ca6]) (by simp [results,Tryz.results12,go_sem,z0,z1,z2,z3,z4]) rfl ?_
         exact form_end rfl hgw HW.out.1 HW.out.2 (TR.out.trans T6.out) K6.out (by rw [E6.out]; exact .quant d' G 4 S f5 (by decide) okS hSn M5.out) (by have h5:=T5.out.size; have h7:=HRZ.out; omega) X6.out
     · go_wp2_with fail
       refine (type_any 1 1 g w1 (by omega) (by omega) (by omega) H1.out.1).mono ?_
       rintro e w2 ⟨S,vs,rfl,okS,szS,tyS,hd2,hg2⟩
       obtain ⟨A3,c3,rfl⟩:=tyS.form
       have hSn:S.nodes≤3:=by exact type_three' szS
       have TYS:=Lib.hid (And.intro tyS (And.intro hd2 hg2))
       clear tyS hd2 hg2 szS
       go_upto_region 14 with fail
       obtain ⟨bR,zR,kR⟩:=new_blk (Below.refl w2.heap.size w2) (Nat.le_refl _) #[.int .i64 S.kind,.slice A3 S.args.length c3] 30
       generalize w2.alloc (Obj.cells #[.int .i64 S.kind,.slice A3 S.args.length c3] 30)=R at bR zR kR ⊢
       have hs2:=TYS.out.2.2.size
       have DR:=Lib.hid (TYS.out.2.1.call bR)
       have TR:=Lib.hid ((H1.out.2.trans (turn_of TYS.out.2.2)).trans (Turn.call bR))
       have HCR:=Lib.hid (Ctx.turn HC.out TR.out)
       have hgl:g<w1.heap.size:=by omega
       have HS:=Lib.hid (show Typ g R S (.agg #[.int .i64 S.kind,.slice A3 S.args.length c3]) from Typ.turn (Typ.of TYS.out.1 hgl) (Turn.call bR))
       have np:¬ Pair2 g w.heap.size w2.heap.size:=by unfold Pair2; omega
       have gR:g<R.heap.size:=by omega
       have QD:=Lib.hid (Turn.pair (q:=w.heap.size) (tDr g R))
       have QA:=Lib.hid (Turn.pair (q:=w.heap.size) (tAl g R (Obj.cells #[.int .i64 S.kind,.slice A3 S.args.length c3] 30)))
       have QB:=Lib.hid (Turn.pair (q:=w.heap.size) ((tAl g R (Obj.cells #[.int .i64 S.kind,.slice A3 S.args.length c3] 30)).trans (tDr g _)))
       have HSK:=Lib.hid fun (w':World) (h:Turn (Pair2 g w.heap.size) R w')=>And.intro (h.blk kR np).facts2.1 (h.blk kR np).facts2.2.1
       obtain ⟨q0,q1⟩:=HSK.out R (Turn.refl _ _)
       have hRz:R.heap.size=w2.heap.size+1:=zR
       have HRZ:=Lib.hid hRz
       have hWR:W.heap.size≤w2.heap.size:=by omega
       clear zR bR hs2 hRz
       go_region_held3 (fun w'=>w'.cell? ⟨w2.heap.size,0,none⟩ = some (.int .i64 S.kind)∧w'.cell? ⟨w2.heap.size,1,none⟩ = some (.slice A3 S.args.length c3))
         (first | with_reducible exact HSK.out _ QD.out | with_reducible exact HSK.out _ QA.out | with_reducible exact HSK.out _ QB.out | with_reducible exact HSK.out _ Q4.out | with_reducible exact HSK.out _ Q5.out | with_reducible exact HSK.out _ Q6.out | with_reducible exact HSK.out _ QF.out)
         (first
           | (go_at_call 56
              have P6:=qF_call 5 (T:=S) (b:=f5) (by omega) (by omega) (Typ.below (Typ.turn HS.out T5.out)) (IsFm.keep (S':=(· < w5.heap.size)) (fun b h=>h.2) (fun _ _=>rfl) _ X5.out)
              (with_reducible refine P6.mono ?_)
              rintro e w6 ⟨f6,v6,h6,rfl,t6,r6⟩
              clear P6
              have T6:=Lib.hid (T5.out.trans (tCa g r6))
              obtain ⟨Ba6,da6,Ca6,ea6,Aa6,ca6,rfl,_⟩:=IsFm.form t6
              have X6:=Lib.hid t6
              have K6:=Lib.hid (Deck.call K5.out r6)
              have KP6:=Lib.hid ((TR.out.trans T6.out).blk HK.out (by omega))
              obtain ⟨_,_,_,_,_,x0,x1,x2,x3,x4⟩:=KP6.out.facts5
              have E6:=Lib.hid h6
              have hz6:=r6.size
              clear t6 r6 h6
              have Q6:=Lib.hid (Turn.pair (q:=w.heap.size) T6.out)
              have QF:=Lib.hid (Turn.trans Q6.out (turn_set5 (g:=g) w6 w.heap.size (.int .i64 f6.kind) (.int .i64 f6.type.kind) (.slice Ba6 f6.type.args.length da6) (.slice Ca6 f6.terms.length ea6) (.slice Aa6 f6.args.length ca6))))
           | (go_at_call 12
              have P5:=IH'.out (G ++ [S]) _ w4 (by rw [List.length_append]; simp only [List.length_cons,List.length_nil]; omega) C4.out K4.out
              (with_reducible refine P5.mono ?_)
              rintro e w5 ⟨f5,v5,rfl,m5,t5,k5,u5⟩
              clear P5
              have T5:=Lib.hid (T4.out.trans u5)
              obtain ⟨Ba5,da5,Ca5,ea5,Aa5,ca5,rfl,_⟩:=IsFm.form t5
              have X5:=Lib.hid t5
              have M5:=Lib.hid m5
              have hb5:=m5.bulk_le (by omega)
              have K5:=Lib.hid k5
              have hz5:=u5.size
              clear m5 t5 k5 u5
              have Q5:=Lib.hid (Turn.pair (q:=w.heap.size) T5.out))
           | (go_at_call 57
              have P4:=longer_ctx (g:=g) (L:=[S]) (Nat.lt_of_lt_of_le gR ((tAl g R (Obj.cells #[.int .i64 S.kind,.slice A3 S.args.length c3] 30)).trans (tDr g _)).size) (by omega) (by simp) (Ctx.turn HCR.out ((tAl g R (Obj.cells #[.int .i64 S.kind,.slice A3 S.args.length c3] 30)).trans (tDr g _))) (Rep.Sl.turn (R:=TyR) (ty_sl1 gR HS.out) (tDr g _)) (fun U hU=>by rw [List.mem_singleton.1 hU]; exact ⟨okS,by omega⟩) (by simp)
              (with_reducible refine P4.mono ?_)
              rintro e w4 ⟨z4,rfl,h4,b4⟩
              clear P4
              have T4:=Lib.hid (((tAl g R (Obj.cells #[.int .i64 S.kind,.slice A3 S.args.length c3] 30)).trans (tDr g _)).trans (tCa g b4))
              have K4:=Lib.hid (Deck.call (Deck.drewd (DR.out.box (Obj.cells #[.int .i64 S.kind,.slice A3 S.args.length c3] 30))) b4)
              obtain ⟨A4,c4,rfl⟩:∃ A c,z4=.slice A (G.length+1) c:=by obtain ⟨A',c',e'⟩:=h4.sl.form; exact ⟨A',c',by rw [e']; simp⟩
              have C4:=Lib.hid h4
              have hz4:=b4.size
              clear h4 b4
              have Q4:=Lib.hid (Turn.pair (q:=w.heap.size) T4.out)))
       go_wp2_with fail
       obtain ⟨z0,z1,z2,z3,z4⟩:=(KP6.out.set5 (.int .i64 f6.kind) (.int .i64 f6.type.kind) (.slice Ba6 f6.type.args.length da6) (.slice Ca6 f6.terms.length ea6) (.slice Aa6 f6.args.length ca6)).cells5
       refine bodyPost_ret (v:=.agg #[.int .i64 f6.kind,.int .i64 f6.type.kind,.slice Ba6 f6.type.args.length da6,.slice Ca6 f6.terms.length ea6,.slice Aa6 f6.args.length ca6]) (by simp [results,Tryz.results12,go_sem,z0,z1,z2,z3,z4]) rfl ?_
       exact form_end rfl hgw HW.out.1 HW.out.2 (TR.out.trans T6.out) K6.out (by rw [E6.out]; exact .quant d' G 5 S f5 (by decide) okS hSn M5.out) (by have h5:=T5.out.size; have h7:=HRZ.out; omega) X6.out
     · go_wp2_with fail
       refine (type_any 0 0 g w1 (by omega) (by omega) (by omega) H1.out.1).mono ?_
       rintro e w2 ⟨S,vs,rfl,okS,szS,tyS,hd2,hg2⟩
       obtain ⟨A3,c3,rfl⟩:=tyS.form
       have hSn:S.nodes≤3:=by have:=small_nodes szS; omega
       have TYS:=Lib.hid (And.intro tyS (And.intro hd2 hg2))
       clear tyS hd2 hg2 szS
       go_upto_region 17 with fail
       obtain ⟨bR,zR,kR⟩:=new_blk (Below.refl w2.heap.size w2) (Nat.le_refl _) #[.int .i64 S.kind,.slice A3 S.args.length c3] 30
       generalize w2.alloc (Obj.cells #[.int .i64 S.kind,.slice A3 S.args.length c3] 30)=R at bR zR kR ⊢
       have hs2:=TYS.out.2.2.size
       have DR:=Lib.hid (TYS.out.2.1.call bR)
       have TR:=Lib.hid ((H1.out.2.trans (turn_of TYS.out.2.2)).trans (Turn.call bR))
       have HCR:=Lib.hid (Ctx.turn HC.out TR.out)
       have hgl:g<w1.heap.size:=by omega
       have HS:=Lib.hid (show Typ g R S (.agg #[.int .i64 S.kind,.slice A3 S.args.length c3]) from Typ.turn (Typ.of TYS.out.1 hgl) (Turn.call bR))
       have np:¬ Pair2 g w.heap.size w2.heap.size:=by unfold Pair2; omega
       have gR:g<R.heap.size:=by omega
       have QD:=Lib.hid (Turn.pair (q:=w.heap.size) (tDr g R))
       have QA:=Lib.hid (Turn.pair (q:=w.heap.size) (tAl g R (Obj.cells #[.int .i64 S.kind,.slice A3 S.args.length c3] 30)))
       have QB:=Lib.hid (Turn.pair (q:=w.heap.size) ((tAl g R (Obj.cells #[.int .i64 S.kind,.slice A3 S.args.length c3] 30)).trans (tDr g _)))
       have HSK:=Lib.hid fun (w':World) (h:Turn (Pair2 g w.heap.size) R w')=>And.intro (h.blk kR np).facts2.1 (h.blk kR np).facts2.2.1
       obtain ⟨q0,q1⟩:=HSK.out R (Turn.refl _ _)
       have hRz:R.heap.size=w2.heap.size+1:=zR
       have HRZ:=Lib.hid hRz
       have hWR:W.heap.size≤w2.heap.size:=by omega
       clear zR bR hs2 hRz
       have hadd:∀ r2:Int,0≤r2→r2<2→IntKind.i64.wrap (6+r2)=6+r2:=fun r2 h0 h2=>IntWalk.i64_in _ (by omega)
       have HADD:=Lib.hid hadd
       clear hadd
       go_region_held3 (fun w'=>w'.cell? ⟨w2.heap.size,0,none⟩ = some (.int .i64 S.kind)∧w'.cell? ⟨w2.heap.size,1,none⟩ = some (.slice A3 S.args.length c3))
         (first | with_reducible exact HSK.out _ QD.out | with_reducible exact HSK.out _ QA.out | with_reducible exact HSK.out _ QB.out | with_reducible exact HSK.out _ Q3.out | with_reducible exact HSK.out _ QA3.out | with_reducible exact HSK.out _ Q4.out | with_reducible exact HSK.out _ Q5.out | with_reducible exact HSK.out _ Q6.out | with_reducible exact HSK.out _ QF.out)
         (first
           | (go_at_call 56
              have P6:=qF_call (6+r2) (T:=S) (b:=f5) (by omega) (by omega) (Typ.below (Typ.turn HS.out T5.out)) (IsFm.keep (S':=(· < w5.heap.size)) (fun b h=>h.2) (fun _ _=>rfl) _ X5.out)
              (with_reducible refine P6.mono ?_)
              rintro e w6 ⟨f6,v6,h6,rfl,t6,r6⟩
              clear P6
              have T6:=Lib.hid (T5.out.trans (tCa g r6))
              obtain ⟨Ba6,da6,Ca6,ea6,Aa6,ca6,rfl,_⟩:=IsFm.form t6
              have X6:=Lib.hid t6
              have K6:=Lib.hid (Deck.call K5.out r6)
              have KP6:=Lib.hid ((TR.out.trans T6.out).blk HK.out (by omega))
              obtain ⟨_,_,_,_,_,x0,x1,x2,x3,x4⟩:=KP6.out.facts5
              have E6:=Lib.hid h6
              have hz6:=r6.size
              clear t6 r6 h6
              have Q6:=Lib.hid (Turn.pair (q:=w.heap.size) T6.out)
              have QF:=Lib.hid (Turn.trans Q6.out (turn_set5 (g:=g) w6 w.heap.size (.int .i64 f6.kind) (.int .i64 f6.type.kind) (.slice Ba6 f6.type.args.length da6) (.slice Ca6 f6.terms.length ea6) (.slice Aa6 f6.args.length ca6))))
           | (go_at_call 12
              have P5:=IH'.out (G ++ [S]) _ w4 (by rw [List.length_append]; simp only [List.length_cons,List.length_nil]; omega) C4.out K4.out
              (with_reducible refine P5.mono ?_)
              rintro e w5 ⟨f5,v5,rfl,m5,t5,k5,u5⟩
              clear P5
              have T5:=Lib.hid (T4.out.trans u5)
              obtain ⟨Ba5,da5,Ca5,ea5,Aa5,ca5,rfl,_⟩:=IsFm.form t5
              have X5:=Lib.hid t5
              have M5:=Lib.hid m5
              have hb5:=m5.bulk_le (by omega)
              have K5:=Lib.hid k5
              have hz5:=u5.size
              clear m5 t5 k5 u5
              have Q5:=Lib.hid (Turn.pair (q:=w.heap.size) T5.out))
           | (go_at_call 57
              have P4:=longer_ctx (g:=g) (L:=[S]) (Nat.lt_of_lt_of_le gR (T3.out).size) (by omega) (by simp) (Ctx.turn HCR.out (T3.out)) AHEAD.out (fun U hU=>by rw [List.mem_singleton.1 hU]; exact ⟨okS,by omega⟩) (by simp)
              (with_reducible refine P4.mono ?_)
              rintro e w4 ⟨z4,rfl,h4,b4⟩
              clear P4
              have T4:=Lib.hid ((T3.out).trans (tCa g b4))
              have K4:=Lib.hid (Deck.call K3.out b4)
              obtain ⟨A4,c4,rfl⟩:∃ A c,z4=.slice A (G.length+1) c:=by obtain ⟨A',c',e'⟩:=h4.sl.form; exact ⟨A',c',by rw [e']; simp⟩
              have C4:=Lib.hid h4
              have hz4:=b4.size
              clear h4 b4
              have Q4:=Lib.hid (Turn.pair (q:=w.heap.size) T4.out))
           | (go_at_call 57
              have P4:=longer_ctx (g:=g) (L:=[S]) (Nat.lt_of_lt_of_le gR (T3.out.trans (tAl g w3 (Obj.cells #[.int .i64 S.kind,.slice A3 S.args.length c3] 30))).size) (by omega) (by simp) (Ctx.turn HCR.out (T3.out.trans (tAl g w3 (Obj.cells #[.int .i64 S.kind,.slice A3 S.args.length c3] 30)))) (ty_sl1 (Nat.lt_of_lt_of_le gR T3.out.size) (Typ.turn HS.out T3.out)) (fun U hU=>by rw [List.mem_singleton.1 hU]; exact ⟨okS,by omega⟩) (by simp)
              (with_reducible refine P4.mono ?_)
              rintro e w4 ⟨z4,rfl,h4,b4⟩
              clear P4
              have T4:=Lib.hid ((T3.out.trans (tAl g w3 (Obj.cells #[.int .i64 S.kind,.slice A3 S.args.length c3] 30))).trans (tCa g b4))
              have K4:=Lib.hid (Deck.call (K3.out.box (Obj.cells #[.int .i64 S.kind,.slice A3 S.args.length c3] 30)) b4)
              obtain ⟨A4,c4,rfl⟩:∃ A c,z4=.slice A (G.length+1) c:=by obtain ⟨A',c',e'⟩:=h4.sl.form; exact ⟨A',c',by rw [e']; simp⟩
              have C4:=Lib.hid h4
              have hz4:=b4.size
              clear h4 b4
              have Q4:=Lib.hid (Turn.pair (q:=w.heap.size) T4.out))
           | (go_at_call 24
              (with_reducible refine (next_any g 2 (R.alloc (Obj.cells #[.int .i64 S.kind,.slice A3 S.args.length c3] 30)).drew (by omega) (by omega) (Deck.drewd (DR.out.box (Obj.cells #[.int .i64 S.kind,.slice A3 S.args.length c3] 30)))).mono ?_)
              rintro e w3 ⟨r2,rfl,hr20,hr22,hd3,hg3⟩
              have hw3:=HADD.out r2 hr20 hr22
              have T3:=Lib.hid (((tAl g R (Obj.cells #[.int .i64 S.kind,.slice A3 S.args.length c3] 30)).trans (tDr g _)).trans (turn_of hg3))
              have K3:=Lib.hid hd3
              have HR2:=Lib.hid (And.intro hr20 hr22)
              have AHEAD:=Lib.hid (Rep.Sl.turn (R:=TyR) (Rep.Sl.turn (R:=TyR) (ty_sl1 gR HS.out) (tDr g _)) (turn_of hg3))
              clear hd3 hg3 hr20 hr22
              have Q3:=Lib.hid (Turn.pair (q:=w.heap.size) T3.out)
              have QA3:=Lib.hid (Turn.pair (q:=w.heap.size) (T3.out.trans (tAl g w3 (Obj.cells #[.int .i64 S.kind,.slice A3 S.args.length c3] 30)))))
           | (go_at_call 24
              (with_reducible refine (next_any g 2 R.drew (by omega) (by omega) (Deck.drewd DR.out)).mono ?_)
              rintro e w3 ⟨r2,rfl,hr20,hr22,hd3,hg3⟩
              have hw3:=HADD.out r2 hr20 hr22
              have T3:=Lib.hid ((tDr g R).trans (turn_of hg3))
              have K3:=Lib.hid hd3
              have HR2:=Lib.hid (And.intro hr20 hr22)
              clear hd3 hg3 hr20 hr22
              have Q3:=Lib.hid (Turn.pair (q:=w.heap.size) T3.out)
              have QA3:=Lib.hid (Turn.pair (q:=w.heap.size) (T3.out.trans (tAl g w3 (Obj.cells #[.int .i64 S.kind,.slice A3 S.args.length c3] 30))))))
       all_goals
         go_wp2_with fail
         obtain ⟨z0,z1,z2,z3,z4⟩:=(KP6.out.set5 (.int .i64 f6.kind) (.int .i64 f6.type.kind) (.slice Ba6 f6.type.args.length da6) (.slice Ca6 f6.terms.length ea6) (.slice Aa6 f6.args.length ca6)).cells5
         refine bodyPost_ret (v:=.agg #[.int .i64 f6.kind,.int .i64 f6.type.kind,.slice Ba6 f6.type.args.length da6,.slice Ca6 f6.terms.length ea6,.slice Aa6 f6.args.length ca6]) (by simp [results,Tryz.results12,go_sem,z0,z1,z2,z3,z4]) rfl ?_
         exact form_end rfl hgw HW.out.1 HW.out.2 (TR.out.trans T6.out) K6.out (by rw [E6.out]; exact .quant d' G (6+r2) S f5 (by have:=HR2.out; omega) okS hSn M5.out) (by have h5:=T5.out.size; have h7:=HRZ.out; omega) X6.out
     · rcases hr with rfl | rfl
       all_goals
         go_wp2_with fail
         go_meet
         exact ⟨H1.out.1,H1.out.2⟩
 case rest=>
   obtain ⟨hd4,ht4⟩:=hcut
   rename World=>wk
   have D4:=Lib.hid hd4
   have T0:=Lib.hid ht4
   have hzk:=ht4.size
   clear hd4 ht4
   go_wp2_with fail
   refine (nat_any wk).mono ?_
   rintro e w2 ⟨rfl,b2⟩
   have hz2:=b2.size
   have B2:=Lib.hid b2
   clear b2
   go_upto_region 19 with fail
   obtain ⟨bR,zR,kR⟩:=new_blk (Below.refl w2.heap.size w2) (Nat.le_refl _) #[.int .i64 1,.slice none 0 0] 30
   generalize w2.alloc (Obj.cells #[.int .i64 1,.slice none 0 0] 30)=R at bR zR kR ⊢
   have TR:=Lib.hid ((T0.out.trans (tCa g B2.out)).trans (tCa g bR))
   have DR:=Lib.hid (Deck.call (Deck.call D4.out B2.out) bR)
   have HCR:=Lib.hid (Ctx.turn HC.out TR.out)
   have HS:=Lib.hid (show Typ g R tyNat (.agg #[.int .i64 1,.slice none 0 0]) from Typ.leaf g R 1)
   have np:¬ Pair2 g w.heap.size w2.heap.size:=by unfold Pair2; omega
   have QD:=Lib.hid (Turn.pair (q:=w.heap.size) (tDr g R))
   have HSK:=Lib.hid fun (w':World) (h:Turn (Pair2 g w.heap.size) R w')=>And.intro (h.blk kR np).facts2.1 (h.blk kR np).facts2.2.1
   obtain ⟨q0,q1⟩:=HSK.out R (Turn.refl _ _)
   have hRz:W.heap.size≤R.heap.size:=by omega
   clear zR bR
   go_region_held3 (fun w'=>w'.cell? ⟨w2.heap.size,0,none⟩ = some (.int .i64 1)∧w'.cell? ⟨w2.heap.size,1,none⟩ = some (.slice none 0 0))
         (first | with_reducible exact HSK.out _ QD.out | with_reducible exact HSK.out _ Q5.out | with_reducible exact HSK.out _ Q6.out | with_reducible exact HSK.out _ Q7.out | with_reducible exact HSK.out _ QF.out)
         (first
           | (go_at_call 58
              have P7:=eqF_call (s:=y5) (t:=y6) (by omega) (by omega) (IsTm.keep (S':=(· < w6.heap.size)) (w':=w6) (fun b h=>by have:=h.2; omega) (fun q hq=>World.cell?_of_block (U6.out.block q.block hq.2 (by have:=hq.1; have h':R.heap.size≤q.block:=this; omega))) _ X5.out) (IsTm.keep (S':=(· < w6.heap.size)) (fun b h=>h.2) (fun _ _=>rfl) _ X6.out)
              (with_reducible refine P7.mono ?_)
              rintro e w7 ⟨f7,v7,h7,rfl,t7,r7⟩
              clear P7
              have T7:=Lib.hid (T6.out.trans (tCa g r7))
              obtain ⟨Ba7,da7,Ca7,ea7,Aa7,ca7,rfl,_⟩:=IsFm.form t7
              have X7:=Lib.hid t7
              have K7:=Lib.hid (Deck.call K6.out r7)
              have KP7:=Lib.hid ((TR.out.trans T7.out).blk HK.out (by omega))
              obtain ⟨_,_,_,_,_,x0,x1,x2,x3,x4⟩:=KP7.out.facts5
              have E7:=Lib.hid h7
              have hz7:=r7.size
              clear t7 r7 h7
              have Q7:=Lib.hid (Turn.pair (q:=w.heap.size) T7.out)
              have QF:=Lib.hid (Turn.trans Q7.out (turn_set5 (g:=g) w7 w.heap.size (.int .i64 f7.kind) (.int .i64 f7.type.kind) (.slice Ba7 f7.type.args.length da7) (.slice Ca7 f7.terms.length ea7) (.slice Aa7 f7.args.length ca7))))
           | (go_at_call 16
              have P6:=term_any g 20 G tyNat 1 _ _ w5 (by decide) (by decide) (by decide) (by simp [tyNat,Ty.nodes,nodesAll]; omega) rfl (by decide) (Ctx.turn HCR.out (T5.out)) (Typ.turn HS.out (T5.out)) K5.out
              (with_reducible refine P6.mono ?_)
              rintro e w6 ⟨y6,v6,rfl,m6,t6,k6,u6⟩
              clear P6
              have T6:=Lib.hid ((T5.out).trans u6)
              obtain ⟨B6,e6,A6,c6,rfl,_⟩:=IsTm.form t6
              have X6:=Lib.hid t6
              have M6:=Lib.hid (show Made G tyNat 24 3 y6 from m6)
              have bb6:y6.bulk≤12000:=m6.bulk_le (by decide)
              have U6:=Lib.hid u6
              have K6:=Lib.hid k6
              have hz6:=u6.size
              clear m6 t6 k6 u6
              have Q6:=Lib.hid (Turn.pair (q:=w.heap.size) T6.out))
           | (go_at_call 16
              have P5:=term_any g 20 G tyNat 1 _ _ R.drew (by decide) (by decide) (by decide) (by simp [tyNat,Ty.nodes,nodesAll]; omega) rfl (by decide) (Ctx.turn HCR.out (tDr g R)) (Typ.turn HS.out (tDr g R)) (Deck.drewd DR.out)
              (with_reducible refine P5.mono ?_)
              rintro e w5 ⟨y5,v5,rfl,m5,t5,k5,u5⟩
              clear P5
              have T5:=Lib.hid ((tDr g R).trans u5)
              obtain ⟨B5,e5,A5,c5,rfl,_⟩:=IsTm.form t5
              have X5:=Lib.hid t5
              have M5:=Lib.hid (show Made G tyNat 24 3 y5 from m5)
              have bb5:y5.bulk≤12000:=m5.bulk_le (by decide)
              have U5:=Lib.hid u5
              have K5:=Lib.hid k5
              have hz5:=u5.size
              clear m5 t5 k5 u5
              have Q5:=Lib.hid (Turn.pair (q:=w.heap.size) T5.out)))
   go_wp2_with fail
   obtain ⟨z0,z1,z2,z3,z4⟩:=(KP7.out.set5 (.int .i64 f7.kind) (.int .i64 f7.type.kind) (.slice Ba7 f7.type.args.length da7) (.slice Ca7 f7.terms.length ea7) (.slice Aa7 f7.args.length ca7)).cells5
   refine bodyPost_ret (v:=.agg #[.int .i64 f7.kind,.int .i64 f7.type.kind,.slice Ba7 f7.type.args.length da7,.slice Ca7 f7.terms.length ea7,.slice Aa7 f7.args.length ca7]) (by simp [results,Tryz.results12,go_sem,z0,z1,z2,z3,z4]) rfl ?_
   exact form_end rfl hgw HW.out.1 HW.out.2 (TR.out.trans T7.out) K7.out (by rw [E7.out]; exact .eq d G y5 y6 M5.out M6.out) (by have h5:=T6.out.size; omega) X7.out
theorem formula_any (g:Nat):∀ d:Nat,d≤6→IHF g d:=by
 intro d
 induction d with
 | zero=>exact fun h=>form_step g 0 h (fun d' h=>by omega)
 | succ d ih=>
   intro h
   refine form_step g (d+1) h fun d' h'=>?_
   obtain rfl:d' = d:=by omega
   exact ih (by omega)
end Go.Proofs.YtipfnkajdooiiaaGreatDoor
