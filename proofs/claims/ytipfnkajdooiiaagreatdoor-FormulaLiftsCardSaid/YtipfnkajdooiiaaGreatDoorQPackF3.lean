/- Lifting and putting in, one after the other. -/
import Derived.Test.YtipfnkajdooiiaaGreatDoorQPackSubst
import Derived.Test.YtipfnkajdooiiaaGreatDoorQPackF2
import Derived.Test.YtipfnkajdooiiaaGreatDoorQPackFml
namespace Go.Proofs.YtipfnkajdooiiaaGreatDoor
open Go.RowKit

/-! Lifting and putting in, one after the other. -/
theorem lift_mk (k i:Int) (T:Ty) (l:List Tm) (m n:Nat):(Tm.mk k i T l).lift m n=.mk k (if k=1∧(m:Int)≤i then i+n else i) T (liftAll l (if k=2 then m+1 else m) n):=by rw [Tm.lift]
theorem lift_var (i:Int) (T:Ty) (m n:Nat):(Tm.mk 1 i T []).lift m n=.mk 1 (if (m:Int)≤i then i+n else i) T []:=by
 rw [lift_mk]; simp [liftAll]
theorem lift_node {k i:Int} {T:Ty} {l:List Tm} {m n:Nat} (hk:k≠1):(Tm.mk k i T l).lift m n=.mk k i T (liftAll l (if k=2 then m+1 else m) n):=by
 rw [lift_mk,if_neg (fun e=>hk e.1)]
theorem put_var (i:Int) (T:Ty) (m:Nat) (s:Tm):(Tm.mk 1 i T []).put m s=if i=(m:Int) then s.lift 0 m else if (m:Int)<i then .mk 1 (i - 1) T [] else .mk 1 i T []:=by
 rw [Tm.put,if_pos rfl]
theorem put_node {k i:Int} {T:Ty} {l:List Tm} {m:Nat} {s:Tm} (hk:k≠1):(Tm.mk k i T l).put m s=.mk k i T (putAll l (if k=2 then m+1 else m) s):=by
 rw [Tm.put,if_neg hk]
theorem var_nil {i:Int} {T:Ty} {l:List Tm} (h:(Tm.mk 1 i T l).ok=true):l=[]:=by
 rw [Tm.ok,Bool.and_eq_true] at h
 exact List.eq_nil_of_length_eq_zero (formed_kind h.1).2.2.1
theorem ok_parts {k i:Int} {T:Ty} {l:List Tm} (h:(Tm.mk k i T l).ok=true):okAllT l=true:=by
 rw [Tm.ok,Bool.and_eq_true] at h; exact h.2
theorem put_var_gt {i:Int} {T:Ty} {m:Nat} {s:Tm} (h:(m:Int)<i):(Tm.mk 1 i T []).put m s=.mk 1 (i - 1) T []:=by rw [put_var,if_neg (by omega),if_pos h]
theorem put_var_lt {i:Int} {T:Ty} {m:Nat} {s:Tm} (h:i<(m:Int)):(Tm.mk 1 i T []).put m s=.mk 1 i T []:=by rw [put_var,if_neg (by omega),if_neg (by omega)]
theorem lift_var_ge {i:Int} {T:Ty} {m n:Nat} (h:(m:Int)≤i):(Tm.mk 1 i T []).lift m n=.mk 1 (i+n) T []:=by rw [lift_var,if_pos h]
theorem lift_var_lt {i:Int} {T:Ty} {m n:Nat} (h:i<(m:Int)):(Tm.mk 1 i T []).lift m n=.mk 1 i T []:=by rw [lift_var,if_neg (by omega)]

mutual
theorem lift_put_lo (s:Tm):∀ (t:Tm) (q a p:Nat),t.ok=true→p≤a→(t.lift q (a+1)).put (q+p) s=t.lift q a
 | .mk k i T l,q,a,p,ho,h=>by
   by_cases hk:k=1
   · subst hk
     obtain rfl:=var_nil ho
     by_cases h1:(q:Int)≤i
     · rw [lift_var_ge h1,lift_var_ge h1,put_var_gt (by omega)]; congr 1; omega
     · rw [lift_var_lt (by omega),lift_var_lt (by omega),put_var_lt (by omega)]
   · rw [lift_node hk,put_node hk,lift_node hk,show (if k=2 then q+p+1 else q+p)=(if k=2 then q+1 else q)+p from by split <;> omega,liftAll_put_lo s l _ a p (ok_parts ho) h]
theorem liftAll_put_lo (s:Tm):∀ (l:List Tm) (q a p:Nat),okAllT l=true→p≤a→putAll (liftAll l q (a+1)) (q+p) s=liftAll l q a
 | [],_,_,_,_,_=>by simp [liftAll,putAll]
 | t :: l,q,a,p,ho,h=>by
   simp only [okAllT,Bool.and_eq_true] at ho
   simp only [liftAll,putAll,lift_put_lo s t q a p ho.1 h,liftAll_put_lo s l q a p ho.2 h]
end

mutual
theorem lift_zero:∀ (t:Tm) (m:Nat),t.lift m 0=t
 | .mk k i T l,m=>by
   rw [lift_mk,liftAll_zero l]
   congr 1
   split <;> omega
theorem liftAll_zero:∀ (l:List Tm) (m:Nat),liftAll l m 0=l
 | [],_=>by simp [liftAll]
 | t :: r,m=>by simp only [liftAll,lift_zero t m,liftAll_zero r m]
end
mutual
/-- A variable that was lifted away does not stand anywhere. -/
theorem lift_occ:∀ (t:Tm) (q a p:Nat),t.ok=true→p≤a→(t.lift q (a+1)).occ (q+p)=0
 | .mk k i T l,q,a,p,ho,h=>by
   by_cases hk:k=1
   · subst hk
     obtain rfl:=var_nil ho
     by_cases hi:(q:Int)≤i
     · rw [lift_var_ge hi,Tm.occ,if_pos rfl,if_neg (by omega)]
     · rw [lift_var_lt (by omega),Tm.occ,if_pos rfl,if_neg (by omega)]
   · rw [lift_node hk,Tm.occ,if_neg hk,show (if k=2 then q+p+1 else q+p)=(if k=2 then q+1 else q)+p from by split <;> omega]
     exact liftAll_occ l _ a p (ok_parts ho) h
theorem liftAll_occ:∀ (l:List Tm) (q a p:Nat),okAllT l=true→p≤a→occAll (liftAll l q (a+1)) (q+p)=0
 | [],_,_,_,_,_=>by simp [liftAll,occAll]
 | t :: r,q,a,p,ho,h=>by
   simp only [okAllT,Bool.and_eq_true] at ho
   simp only [liftAll,occAll,lift_occ t q a p ho.1 h,liftAll_occ r q a p ho.2 h]
end
end Go.Proofs.YtipfnkajdooiiaaGreatDoor
namespace Go.Proofs.YtipfnkajdooiiaaGreatDoor
open Go.RowKit

set_option maxRecDepth 100000 in
set_option maxHeartbeats 4000000 in
theorem flift1_any (t:Tm) (v:Value) (m n:Nat) (p q:Addr) (S:Nat→Prop) (w:World) (hb:t.bulk≤390000) (he:t.err=0) (hlow:t.low 536870912=true) (hm:m≤4096) (hn:n≤4096) (htab:Tab w) (hS:∀ b,S b→b<w.heap.size) (hpb:p.block<w.heap.size) (hqb:q.block<w.heap.size) (hp:w.cell? p=some (.int .i64 m)) (hq:w.cell? q=some (.int .i64 n)) (hT:IsTm S w t v) :
   Calls Tryz.prog 60 #[v,.pointer (some p),.pointer (some q)] w (GivesTm S (t.lift m n) w):=by
 obtain ⟨B,d,A,c,rfl,_⟩:=IsTm.form hT
 obtain ⟨W,hW,b2,z2,k0,k1⟩:=two_blks w #[.int .i64 t.kind,.int .i64 t.index,.int .i64 t.type.kind,.slice B t.type.args.length d,.slice A t.args.length c] #[.int .i64 0,.int .i64 0,.int .i64 0,.slice none 0 0,.slice none 0 0] 42 42
 have hpW:=(b2.cell hpb).trans hp
 have hqW:=(b2.cell hqb).trans hq
 have HC:=Lib.hid (liftTop_any t _ m n S W hb he hlow hm hn (htab.after b2) (fun b h=>Nat.lt_of_lt_of_le (hS b h) b2.size) (hT.keep (fun _ h=>h) (fun r hr=>b2.cell (hS _ hr))))
 have HB:=Lib.hid (And.intro b2 (And.intro z2 k1))
 have HS:=Lib.hid hS
 obtain ⟨r0,r1,r2,r3,r4,_⟩:=k0.facts5
 clear hT hb he hlow htab b2 z2 k0 k1 hS hp hq
 go_enter Tryz.func60,Tryz.ntmps60
 go_upto_region 1 with fail
 rw [← hW]
 clear hW
 go_wp2_with fail
 refine HC.out.mono ?_
 obtain ⟨U,hU⟩:∃ U,U=t.lift m n:=⟨_,rfl⟩
 rw [← hU]
 have HU:=Lib.hid hU
 clear hU
 rintro e w1 ⟨v1,rfl,h1,hb1⟩
 obtain ⟨B1,d1,A1,c1,rfl,_⟩:=h1.form
 have k1':=HB.out.2.2.below hb1 HB.out.2.2.lt
 obtain ⟨_,_,_,_,_,f0,f1,f2,f3,f4⟩:=k1'.facts5
 have HE:=Lib.hid (And.intro k1' (And.intro h1 hb1))
 clear k1' h1 hb1 HC r0 r1 r2 r3 r4
 go_wp2_with fail
 obtain ⟨y0,y1,y2,y3,y4⟩:=(HE.out.1.set5 (.int .i64 U.kind) (.int .i64 U.index) (.int .i64 U.type.kind) (.slice B1 U.type.args.length d1) (.slice A1 U.args.length c1)).cells5
 have hg:=only_set5 w1 (w.heap.size+1) (.int .i64 U.kind) (.int .i64 U.index) (.int .i64 U.type.kind) (.slice B1 U.type.args.length d1) (.slice A1 U.args.length c1)
 have hz:=HB.out.2.1
 have hb2:=HB.out.1.trans (HE.out.2.2.mono HB.out.1.size)
 refine bodyPost_ret (v:=.tuple #[.agg #[.int .i64 U.kind,.int .i64 U.index,.int .i64 U.type.kind,.slice B1 U.type.args.length d1,.slice A1 U.args.length c1],.int .i64 0]) (by simp [results,Tryz.results60,go_sem,y0,y1,y2,y3,y4]) rfl ⟨_,rfl,?_,hb2.grown hg hb2.size (fun k e=>by cases e; omega)⟩
 rw [← HU.out]
 exact IsTm.keep (S:=fun b=>(S b∨W.heap.size≤b)∧b<w1.heap.size) (w:=w1) (fun b h=>⟨h.1.imp id (fun x=>by omega),Nat.lt_of_lt_of_le h.2 hg.size⟩) (fun r hr=>World.cell?_of_block (hg.block r.block hr.2 (by have h1:=hr.1; simp; rcases h1 with h1 | h1; (have:=HS.out _ h1; omega); omega))) _ HE.out.2.1
/-- Lifting keeps the shape. -/
theorem readF_lift {f:Fm} (h:GoodF f):∀ m n:Nat,∃ r,ReadF f (f.asTm.lift m n) r:=by
 induction h with
 | eq s t _ _=>exact fun m n=>⟨_,by rw [Fm.asTm,if_pos rfl,lift_node (by decide)]; simp only [liftAll]; exact .eq _ _ _ _⟩
 | two k a b hk _ _ iha ihb=>
   intro m n
   obtain ⟨r,hr⟩:=iha m n
   obtain ⟨q,hq⟩:=ihb m n
   exact ⟨_,by rw [Fm.asTm,if_neg (by omega),if_pos hk,lift_node (by decide)]; simp only [asTmAll,liftAll]; exact .two k a b _ _ r q hk hr hq⟩
 | quant k T b hk _ _ ih=>
   intro m n
   obtain ⟨r,hr⟩:=ih (m+1) n
   exact ⟨_,by rw [Fm.asTm,if_neg (by omega),if_neg (by omega),lift_node (by decide)]; simp only [asTmAll,liftAll]; exact .quant k T b _ r hk hr⟩
/-- A formula comes back from its own term. -/
theorem readF_back {f:Fm} {t:Tm} {r:Fm} (h:ReadF f t r):ReadF r f.asTm f:=by
 induction h with
 | eq s t x y=>rw [Fm.asTm,if_pos rfl]; exact .eq _ _ _ _
 | two k f g s t r q hk _ _ ihf ihg=>rw [Fm.asTm,if_neg (by omega),if_pos hk]; simp only [asTmAll]; exact .two k r q _ _ f g hk ihf ihg
 | quant k T f s r hk _ ih=>rw [Fm.asTm,if_neg (by omega),if_neg (by omega)]; simp only [asTmAll]; exact .quant k T r _ f hk ih
end Go.Proofs.YtipfnkajdooiiaaGreatDoor
namespace Go.Proofs.YtipfnkajdooiiaaGreatDoor
open Go.RowKit

/-- A valid formula of valid terms whose variables are not too far. -/
inductive FineF:Fm→Prop
 | eq (s t:Tm) (hs:s.err=0∧s.low 536870912=true) (ht:t.err=0∧t.low 536870912=true):FineF (.mk 1 .zero [s,t] [])
 | two (k:Int) (a b:Fm) (hk:k=2∨k=3) (ha:FineF a) (hb:FineF b):FineF (.mk k .zero [] [a,b])
 | quant (k:Int) (T:Ty) (b:Fm) (hk:k=4∨k=5∨k=6∨k=7) (hT:T.err=0) (hb:FineF b):FineF (.mk k T [] [b])
theorem FineF.good {f:Fm} (h:FineF f):GoodF f:=by
 induction h with
 | eq s t hs ht=>exact .eq s t hs.1 ht.1
 | two k a b hk _ _ iha ihb=>exact .two k a b hk iha ihb
 | quant k T b hk hT _ ih=>exact .quant k T b hk hT ih
end Go.Proofs.YtipfnkajdooiiaaGreatDoor
namespace Go.Proofs.YtipfnkajdooiiaaGreatDoor
open Go.RowKit

/-- A formula as a term: as large, valid, its variables as near. -/
theorem asTm_facts {f:Fm} (h:FineF f):f.asTm.size=f.size∧f.asTm.bulk=f.bulk∧f.asTm.ok=true∧f.asTm.low 536870912=true:=by
 induction h with
 | eq s t hs ht=>
   rw [Fm.asTm,if_pos rfl]
   refine ⟨by simp only [Tm.size,Fm.size,sizeAllT,sizeAllF]; omega,by simp only [Tm.bulk,Fm.bulk,bulkAll,bulkAllF]; omega,?_,?_⟩
   · rw [okT_eq]; simp [okAllT,(errT_zero.1 hs.1).1,(errT_zero.1 ht.1).1,Tm.args,Tm.formed,Tm.kind,Tm.index,Tm.type,arities,Ty.zero,Ty.kind,Ty.args]
   · simp [Tm.low,lowAll,hs.2,ht.2]
 | two k a b hk _ _ iha ihb=>
   obtain ⟨a1,a2,a3,a4⟩:=iha
   obtain ⟨b1,b2,b3,b4⟩:=ihb
   rw [Fm.asTm,if_neg (by omega),if_pos hk]
   refine ⟨by simp only [asTmAll,Tm.size,Fm.size,sizeAllT,sizeAllF,a1,b1]; try omega,by simp only [asTmAll,Tm.bulk,Fm.bulk,bulkAll,bulkAllF,a2,b2]; omega,?_,?_⟩
   · rw [okT_eq]; simp [asTmAll,okAllT,a3,b3,Tm.args,Tm.formed,Tm.kind,Tm.index,Tm.type,arities,Ty.zero,Ty.kind,Ty.args]
   · simp [asTmAll,Tm.low,lowAll,a4,b4]
 | quant k T b hk hT _ ih=>
   obtain ⟨a1,a2,a3,a4⟩:=ih
   rw [Fm.asTm,if_neg (by omega),if_neg (by omega)]
   refine ⟨by simp only [asTmAll,Tm.size,Fm.size,sizeAllT,sizeAllF,a1]; try omega,by simp only [asTmAll,Tm.bulk,Fm.bulk,bulkAll,bulkAllF,a2]; omega,?_,?_⟩
   · rw [okT_eq]; simp [asTmAll,okAllT,a3,hT,Tm.args,Tm.formed,Tm.kind,Tm.index,Tm.type,arities]
   · simp [asTmAll,Tm.low,lowAll,a4]
/-- What a call that gives a formula out of S comes to. -/
def GivesFm (S:Nat→Prop) (f:Fm) (w:World) (e:Ending) (w':World):Prop:=
 ∃ v',e=.returned (.tuple #[v',.int .i64 0])∧IsFm (fun b=>(S b∨w.heap.size≤b)∧b<w'.heap.size) w' f v'∧Below w.heap.size w w'
set_option maxRecDepth 100000 in
set_option maxHeartbeats 4000000 in
theorem fchangedL_any (f r:Fm) (v:Value) (m n:Nat) (p q:Addr) (S:Nat→Prop) (w:World) (hf:FineF f) (hsz:f.size≤4096) (hb:f.bulk≤300000) (hr:ReadF f (f.asTm.lift m n) r) (hm:m≤4096) (hn:n≤4096) (htab:Tab w) (hS:∀ b,S b→b<w.heap.size) (hpb:p.block<w.heap.size) (hqb:q.block<w.heap.size) (hp:w.cell? p=some (.int .i64 m)) (hq:w.cell? q=some (.int .i64 n)) (hF:IsFm S w f v) :
   Calls Tryz.prog 59 #[v,.func (.func 60) #[] #[.pointer (some p),.pointer (some q)]] w (GivesFm S r w):=by
 obtain ⟨B,d,C,e0,A,c,rfl,_⟩:=IsFm.form hF
 obtain ⟨a1,a2,a3,a4⟩:=asTm_facts hf
 obtain ⟨W,hW,b2,z2,k0,k1⟩:=two_blks w #[.int .i64 f.kind,.int .i64 f.type.kind,.slice B f.type.args.length d,.slice C f.terms.length e0,.slice A f.args.length c] #[.int .i64 0,.int .i64 0,.slice none 0 0,.slice none 0 0,.slice none 0 0] 34 34
 have HX:=Lib.hid fun (w':World) (h:Below W.heap.size W w')=>And.intro (k0.below h k0.lt).facts5 (And.intro (show IsFm S w' f _ from hF.keep (fun _ h=>h) (fun q hq=>(h.cell (Nat.lt_of_lt_of_le (hS _ hq) b2.size)).trans (b2.cell (hS _ hq)))) (And.intro ((h.cell (Nat.lt_of_lt_of_le hpb b2.size)).trans ((b2.cell hpb).trans hp)) ((h.cell (Nat.lt_of_lt_of_le hqb b2.size)).trans ((b2.cell hqb).trans hq))))
 have HB:=Lib.hid (And.intro b2 (And.intro z2 k1))
 have HS:=Lib.hid hS
 have HO:=Lib.hid (And.intro hf (And.intro hsz (And.intro hb (And.intro a1 (And.intro a2 (And.intro a3 a4))))))
 have HTab:=Lib.hid (htab.after b2)
 have HR:=Lib.hid (And.intro hr (And.intro hpb hqb))
 obtain ⟨r0,r1,r2,r3,r4,_⟩:=k0.facts5
 clear hF hf hsz hb a1 a2 a3 a4 htab b2 z2 k0 k1 hS hp hq hr hpb hqb
 go_enter Tryz.func59,Tryz.ntmps59
 go_upto_region 1 with fail
 rw [← hW]
 clear hW
 go_wp2_with fail
 refine (checkF_ok HO.out.1.good HO.out.2.1 _ W (by have:=HO.out.2.2.1; omega) HTab.out ((HX.out W (Below.refl _ _)).2.1.keep (fun b h=>Nat.lt_of_lt_of_le (HS.out b h) HB.out.1.size) (fun _ _=>rfl))).mono ?_
 rintro e w1 ⟨rfl,hb1⟩
 have H1:=Lib.hid hb1
 clear hb1 r0 r1 r2 r3 r4
 obtain ⟨r0,r1,r2,r3,r4,_⟩:=(HX.out w1 H1.out).1
 go_wp2_with fail
 refine (asTm_any HO.out.1.good S _ w1 (fun b h=>Nat.lt_of_lt_of_le (HS.out b h) (Nat.le_trans HB.out.1.size H1.out.size)) (HX.out w1 H1.out).2.1).mono ?_
 rintro e w2 ⟨v2,rfl,h2,hb2⟩
 have H2:=Lib.hid (And.intro (H1.out.trans (hb2.mono H1.out.size)) (And.intro h2 hb2.size))
 clear h2 hb2 r0 r1 r2 r3 r4
 go_wp2_with fail
 refine (flift1_any f.asTm v2 m n p q (fun b=>(S b∨w1.heap.size≤b)∧b<w2.heap.size) w2 (by have:=HO.out.2.2.1; have:=HO.out.2.2.2.2.1; omega) (errT_zero.2 ⟨HO.out.2.2.2.2.2.1,by have:=HO.out.2.1; have:=HO.out.2.2.2.1; omega⟩) HO.out.2.2.2.2.2.2 hm hn (HTab.out.after H2.out.1) (fun b h=>h.2) (Nat.lt_of_lt_of_le HR.out.2.1 (Nat.le_trans HB.out.1.size H2.out.1.size)) (Nat.lt_of_lt_of_le HR.out.2.2 (Nat.le_trans HB.out.1.size H2.out.1.size)) (HX.out w2 H2.out.1).2.2.1 (HX.out w2 H2.out.1).2.2.2 H2.out.2.1).mono ?_
 rintro e w3 ⟨v3,rfl,h3,hb3⟩
 obtain ⟨U,hU⟩:∃ U,U=f.asTm.lift m n:=⟨_,rfl⟩
 rw [← hU] at h3
 obtain ⟨B3,d3,A3,c3,rfl,_⟩:=h3.form
 obtain ⟨X,hX,bX,zX,kX⟩:∃ X,X=w3.alloc (.cells #[.int .i64 U.kind,.int .i64 U.index,.int .i64 U.type.kind,.slice B3 U.type.args.length d3,.slice A3 U.args.length c3] 42)∧Below w3.heap.size w3 X∧X.heap.size=w3.heap.size+1∧Blk X w3.heap.size 42 #[.int .i64 U.kind,.int .i64 U.index,.int .i64 U.type.kind,.slice B3 U.type.args.length d3,.slice A3 U.args.length c3]:=⟨_,rfl,(Below.refl _ _).alloc (Nat.le_refl _) _,by simp,Blk.new _ _ _⟩
 have H3:=Lib.hid (And.intro (((H2.out.1.trans (hb3.mono H2.out.1.size))).trans (bX.mono (Nat.le_trans H2.out.1.size hb3.size))) (show IsTm (fun b=>(S b∨W.heap.size≤b)∧b<X.heap.size) X U _ from IsTm.keep (fun b h=>⟨h.1.elim (fun x=>x.1.imp id (fun y=>by have:=H1.out.size; omega)) (fun x=>.inr (by have:=H2.out.1.size; omega)),Nat.lt_of_lt_of_le h.2 bX.size⟩) (fun q hq=>bX.cell hq.2) _ h3))
 have KX:=Lib.hid kX
 have HU:=Lib.hid hU
 have HXX:=Lib.hid hX
 clear h3 hb3 hX bX zX kX hU
 go_upto_region 5 with fail
 rw [← HXX.out]
 obtain ⟨r0,r1,r2,r3,r4,_⟩:=(HX.out X H3.out.1).1
 obtain ⟨s0,s1,s2,s3,s4,_⟩:=KX.out.facts5
 go_wp2_with fail
 refine (reread_any (f:=f) (t:=U) (r:=r) (by rw [HU.out]; exact HR.out.1) (fun b=>(S b∨W.heap.size≤b)∧b<X.heap.size) _ _ X (fun b h=>h.2) ((HX.out X H3.out.1).2.1.keep (fun b h=>⟨.inl h,Nat.lt_of_lt_of_le (HS.out b h) (Nat.le_trans HB.out.1.size H3.out.1.size)⟩) (fun _ _=>rfl)) H3.out.2).mono ?_
 rintro e w5 ⟨v5,rfl,h5,hb5⟩
 obtain ⟨B5,d5,C5,e5,A5,c5,rfl,_⟩:=h5.form
 have k1':=HB.out.2.2.below (H3.out.1.trans (hb5.mono H3.out.1.size)) HB.out.2.2.lt
 obtain ⟨_,_,_,_,_,f0,f1,f2,f3,f4⟩:=k1'.facts5
 have HE:=Lib.hid (And.intro k1' (And.intro h5 (H3.out.1.trans (hb5.mono H3.out.1.size))))
 clear k1' h5 hb5 r0 r1 r2 r3 r4 s0 s1 s2 s3 s4
 go_wp2_with fail
 obtain ⟨y0,y1,y2,y3,y4⟩:=(HE.out.1.set5 (.int .i64 r.kind) (.int .i64 r.type.kind) (.slice B5 r.type.args.length d5) (.slice C5 r.terms.length e5) (.slice A5 r.args.length c5)).cells5
 have hg:=only_set5 w5 (w.heap.size+1) (.int .i64 r.kind) (.int .i64 r.type.kind) (.slice B5 r.type.args.length d5) (.slice C5 r.terms.length e5) (.slice A5 r.args.length c5)
 have hz:=HB.out.2.1
 have hb2:=HB.out.1.trans (HE.out.2.2.mono HB.out.1.size)
 refine bodyPost_ret (v:=.tuple #[.agg #[.int .i64 r.kind,.int .i64 r.type.kind,.slice B5 r.type.args.length d5,.slice C5 r.terms.length e5,.slice A5 r.args.length c5],.int .i64 0]) (by simp [results,Tryz.results59,go_sem,y0,y1,y2,y3,y4]) rfl ⟨_,rfl,?_,hb2.grown hg hb2.size (fun k e=>by cases e; omega)⟩
 exact IsFm.keep (S:=fun b=>(((S b∨W.heap.size≤b)∧b<X.heap.size)∨X.heap.size≤b)∧b<w5.heap.size) (w:=w5) (fun b h=>⟨h.1.elim (fun x=>x.1.imp id (fun y=>by omega)) (fun x=>.inr (by have:=H3.out.1.size; omega)),Nat.lt_of_lt_of_le h.2 hg.size⟩) (fun q hq=>World.cell?_of_block (hg.block q.block hq.2 (by have h1:=hq.1; have h2:=H3.out.1.size; simp; rcases h1 with ⟨h1 | h1,_⟩ | h1; (have:=HS.out _ h1; omega); omega; omega))) _ HE.out.2.1
end Go.Proofs.YtipfnkajdooiiaaGreatDoor
namespace Go.Proofs.YtipfnkajdooiiaaGreatDoor
open Go.RowKit

theorem four_blks (w:World) (c1 c2 c3 c4:Array Value) (t1 t2 t3 t4:TypeId):∃ W,W=(((w.alloc (.cells c1 t1)).alloc (.cells c2 t2)).alloc (.cells c3 t3)).alloc (.cells c4 t4) ∧
   Below w.heap.size w W∧W.heap.size=w.heap.size+4∧Blk W w.heap.size t1 c1∧Blk W (w.heap.size+1) t2 c2∧Blk W (w.heap.size+1+1) t3 c3∧Blk W (w.heap.size+1+1+1) t4 c4:=by
 obtain ⟨W2,hW2,b2,z2,k0,k1,k2⟩:=three_blks w c1 c2 c3 t1 t2 t3
 rw [← hW2]
 obtain ⟨b3,z3,k3⟩:=new_blk b2 b2.size c4 t4
 rw [z2] at k3
 exact ⟨_,rfl,b3,by omega,k0.alloc _,k1.alloc _,k2.alloc _,k3⟩
end Go.Proofs.YtipfnkajdooiiaaGreatDoor
namespace Go.Proofs.YtipfnkajdooiiaaGreatDoor
open Go.RowKit

set_option maxRecDepth 100000 in
set_option maxHeartbeats 4000000 in
theorem fLift_any (f r:Fm) (v:Value) (m n:Nat) (S:Nat→Prop) (w:World) (hf:FineF f) (hsz:f.size≤4096) (hb:f.bulk≤300000) (hr:ReadF f (f.asTm.lift m n) r) (hm:m≤4096) (hn:n≤4096) (htab:Tab w) (hS:∀ b,S b→b<w.heap.size) (hF:IsFm S w f v) :
   Calls Tryz.prog 13 #[v,.int .i64 m,.int .i64 n] w (GivesFm S r w):=by
 obtain ⟨B,d,C,e0,A,c,rfl,_⟩:=IsFm.form hF
 obtain ⟨W,hW,b4,z4,k0,k1,k2,k3⟩:=four_blks w #[.int .i64 f.kind,.int .i64 f.type.kind,.slice B f.type.args.length d,.slice C f.terms.length e0,.slice A f.args.length c] #[.int .i64 m] #[.int .i64 n] #[.int .i64 0,.int .i64 0,.slice none 0 0,.slice none 0 0,.slice none 0 0] 34 3 3 34
 have HC:=Lib.hid (fchangedL_any f r (.agg #[.int .i64 f.kind,.int .i64 f.type.kind,.slice B f.type.args.length d,.slice C f.terms.length e0,.slice A f.args.length c]) m n ⟨w.heap.size+1,0,none⟩ ⟨w.heap.size+2,0,none⟩ S W hf hsz hb hr hm hn (htab.after b4) (fun b h=>Nat.lt_of_lt_of_le (hS b h) b4.size) (by show w.heap.size+1<_; omega) (by show w.heap.size+2<_; omega) k1.facts1.1 k2.facts1.1 (hF.keep (fun _ h=>h) (fun q hq=>b4.cell (hS _ hq))))
 have HB:=Lib.hid (And.intro b4 (And.intro z4 k3))
 have HS:=Lib.hid hS
 obtain ⟨r0,r1,r2,r3,r4,_⟩:=k0.facts5
 clear hF hf hsz hb hr htab b4 z4 k0 k1 k2 k3 hS
 go_enter Tryz.func13,Tryz.ntmps13
 go_upto_region 1 with fail
 rw [← hW]
 clear hW
 go_wp2_with fail
 refine HC.out.mono ?_
 rintro e w1 ⟨v1,rfl,h1,hb1⟩
 obtain ⟨B1,d1,C1,e1,A1,c1,rfl,_⟩:=h1.form
 have k3':=HB.out.2.2.below hb1 HB.out.2.2.lt
 obtain ⟨_,_,_,_,_,f0,f1,f2,f3,f4⟩:=k3'.facts5
 have HE:=Lib.hid (And.intro k3' (And.intro h1 hb1))
 clear k3' h1 hb1 HC r0 r1 r2 r3 r4
 go_wp2_with fail
 obtain ⟨y0,y1,y2,y3,y4⟩:=(HE.out.1.set5 (.int .i64 r.kind) (.int .i64 r.type.kind) (.slice B1 r.type.args.length d1) (.slice C1 r.terms.length e1) (.slice A1 r.args.length c1)).cells5
 have hg:=only_set5 w1 (w.heap.size+1+1+1) (.int .i64 r.kind) (.int .i64 r.type.kind) (.slice B1 r.type.args.length d1) (.slice C1 r.terms.length e1) (.slice A1 r.args.length c1)
 have hz:=HB.out.2.1
 have hb2:=HB.out.1.trans (HE.out.2.2.mono HB.out.1.size)
 refine bodyPost_ret (v:=.tuple #[.agg #[.int .i64 r.kind,.int .i64 r.type.kind,.slice B1 r.type.args.length d1,.slice C1 r.terms.length e1,.slice A1 r.args.length c1],.int .i64 0]) (by simp [results,Tryz.results13,go_sem,y0,y1,y2,y3,y4]) rfl ⟨_,rfl,?_,hb2.grown hg hb2.size (fun k e=>by cases e; omega)⟩
 exact IsFm.keep (S:=fun b=>(S b∨W.heap.size≤b)∧b<w1.heap.size) (w:=w1) (fun b h=>⟨h.1.imp id (fun x=>by omega),Nat.lt_of_lt_of_le h.2 hg.size⟩) (fun q hq=>World.cell?_of_block (hg.block q.block hq.2 (by have h1:=hq.1; simp; rcases h1 with h1 | h1; (have:=HS.out _ h1; omega); omega))) _ HE.out.2.1
end Go.Proofs.YtipfnkajdooiiaaGreatDoor
namespace Go.Proofs.YtipfnkajdooiiaaGreatDoor
open Go.RowKit

theorem two_boxes (w:World) (c1 c2:Array Value) (t1 t2:TypeId):∃ W,W=(w.alloc (.cells c1 t1)).alloc (.cells c2 t2)∧Below w.heap.size w W∧W.heap.size=w.heap.size+2∧Blk W w.heap.size t1 c1∧Blk W (w.heap.size+1) t2 c2:=by
 obtain ⟨b1,z1,k1⟩:=new_blk (Below.refl w.heap.size w) (Nat.le_refl _) c1 t1
 generalize w.alloc (.cells c1 t1)=W1 at b1 z1 k1 ⊢
 obtain ⟨b2,z2,k2⟩:=new_blk b1 b1.size c2 t2
 rw [z1] at k2 z2
 exact ⟨_,rfl,b2,by omega,k1.alloc _,k2⟩
/-- What stands for no term. -/
def noTm:Tm:=.mk 0 0 .zero []
theorem isTm_no (S:Nat→Prop) (w:World):IsTm S w noTm (.agg #[.int .i64 0,.int .i64 0,.int .i64 0,.slice none 0 0,.slice none 0 0]):=
 isTm_iff.2 ⟨rfl,rfl,(show IsTy S w (.mk 0 []) _ from by unfold IsTy; exact ⟨none,0,rfl,fun h=>(h rfl).elim⟩),⟨none,0,rfl,fun h=>(h rfl).elim⟩⟩

set_option maxRecDepth 100000 in
set_option maxHeartbeats 4000000 in
theorem lowerTop_any (t:Tm) (v:Value) (m:Nat) (S:Nat→Prop) (w:World) (hb:t.bulk≤390000) (he:t.err=0) (hlow:t.low 536870912=true) (hm:m≤4096) (hocc:t.occ m=0) (htab:Tab w) (hS:∀ b,S b→b<w.heap.size) (hT:IsTm S w t v) :
   Calls Tryz.prog 63 #[v,.int .i64 m] w (GivesTm S (t.put m noTm) w):=by
 obtain ⟨B,d,A,c,rfl,_⟩:=IsTm.form hT
 have hok:=(errT_zero.1 he).1
 have HOK:=Lib.hid (And.intro hok (And.intro hlow (And.intro he hocc)))
 clear hok hlow he hocc
 go_enter Tryz.func63,Tryz.ntmps63
 go_upto_region 1 with fail
 obtain ⟨W,hW,bW,zW,k0,k1⟩:=two_boxes w #[.int .i64 t.kind,.int .i64 t.index,.int .i64 t.type.kind,.slice B t.type.args.length d,.slice A t.args.length c] #[.int .i64 0,.int .i64 0,.int .i64 0,.slice none 0 0,.slice none 0 0] 42 42
 rw [← hW]
 have HB:=Lib.hid (And.intro bW zW)
 have HK:=Lib.hid (And.intro k0 k1)
 have HS:=Lib.hid hS
 have HT:=Lib.hid (IsTm.keep (fun _ h=>h) (fun r hr=>bW.cell (hS _ hr)) _ hT)
 have HTab:=Lib.hid (htab.after bW)
 obtain ⟨r0,r1,r2,r3,r4,_,_,_,_,_⟩:=k0.facts5
 clear hW bW zW k0 k1 hT hS htab
 go_wp2_with fail
 refine (checkT_ok (t:=t) (w:=W) HOK.out.2.2.1 (by omega) HTab.out (IsTm.keep (fun b h=>Nat.lt_of_lt_of_le (HS.out b h) HB.out.1.size) (fun _ _=>rfl) _ HT.out)).mono ?_
 rintro e w1 ⟨rfl,hc1⟩
 have k0':=HK.out.1.below hc1 HK.out.1.lt
 obtain ⟨s0,s1,s2,s3,s4,_,_,_,_,_⟩:=k0'.facts5
 have HC1:=Lib.hid hc1
 clear hc1 k0' r0 r1 r2 r3 r4
 go_wp2_with fail
 refine (within_ok m w1 (by omega) (by omega)).mono ?_
 rintro e w1' ⟨rfl,rfl⟩
 go_wp2_with fail
 have T1:=Lib.hid (IsTm.keep (S':=S) (fun _ h=>h) (fun p hp=>HC1.out.cell (Nat.lt_of_lt_of_le (HS.out _ hp) HB.out.1.size)) _ HT.out)
 refine (occurs_any t _ m w1 (by omega) HOK.out.1 (low_mono (by omega) t HOK.out.2.1) (by omega) (IsTm.keep (fun b h=>Nat.lt_of_lt_of_le (HS.out b h) (Nat.le_trans HB.out.1.size HC1.out.size)) (fun _ _=>rfl) _ T1.out)).mono ?_
 rintro e w2 ⟨he2,hc2⟩
 rw [HOK.out.2.2.2] at he2
 subst he2
 have HC2:=Lib.hid (show Below W.heap.size W w2 from HC1.out.trans (hc2.mono HC1.out.size))
 have k0':=HK.out.1.below HC2.out HK.out.1.lt
 obtain ⟨r0,r1,r2,r3,r4,_,_,_,_,_⟩:=k0'.facts5
 clear hc2 k0' s0 s1 s2 s3 s4
 go_wp2_with fail
 refine (put_when t noTm _ _ m S w2 (by omega) HOK.out.1 (low_mono (by omega) t HOK.out.2.1) (fun h=>(h HOK.out.2.2.2).elim) (by omega) (fun b h=>Nat.lt_of_lt_of_le (HS.out b h) (Nat.le_trans HB.out.1.size HC2.out.size)) (IsTm.keep (fun _ h=>h) (fun p hp=>HC2.out.cell (Nat.lt_of_lt_of_le (HS.out _ hp) HB.out.1.size)) _ HT.out) (isTm_no _ _)).mono ?_
 rintro e w3 ⟨v',rfl,ht,hb'⟩
 obtain ⟨B6,e6,A6,c6,rfl,_⟩:=IsTm.form ht
 have hz:=HB.out.2
 have hzc:=HC2.out.size
 have HC3:=Lib.hid (show Below W.heap.size W w3 from HC2.out.trans (hb'.mono HC2.out.size))
 have k1':=HK.out.2.below HC3.out HK.out.2.lt
 obtain ⟨_,_,_,_,_,f0,f1,f2,f3,f4⟩:=k1'.facts5
 have HE:=Lib.hid (And.intro k1' ht)
 clear k1' ht hb' r0 r1 r2 r3 r4
 generalize hP:t.put m noTm=P at *
 go_wp2_with fail
 obtain ⟨y0,y1,y2,y3,y4⟩:=(HE.out.1.set5 (.int .i64 P.kind) (.int .i64 P.index) (.int .i64 P.type.kind) (.slice B6 P.type.args.length e6) (.slice A6 P.args.length c6)).cells5
 have hg:=only_set5 w3 (w.heap.size+1) (.int .i64 P.kind) (.int .i64 P.index) (.int .i64 P.type.kind) (.slice B6 P.type.args.length e6) (.slice A6 P.args.length c6)
 exact bodyPost_ret (v:=.tuple #[.agg #[.int .i64 P.kind,.int .i64 P.index,.int .i64 P.type.kind,.slice B6 P.type.args.length e6,.slice A6 P.args.length c6],.int .i64 0]) (by simp [results,Tryz.results63,go_sem,y0,y1,y2,y3,y4]) rfl
   (gives_end HS.out (by omega) (HB.out.1.trans (HC3.out.mono HB.out.1.size)) hg (lo:=w2.heap.size) (by omega) HE.out.2)
end Go.Proofs.YtipfnkajdooiiaaGreatDoor
namespace Go.Proofs.YtipfnkajdooiiaaGreatDoor
open Go.RowKit

set_option maxRecDepth 100000 in
set_option maxHeartbeats 4000000 in
theorem flower1_any (t:Tm) (v:Value) (m:Nat) (p:Addr) (S:Nat→Prop) (w:World) (hb:t.bulk≤390000) (he:t.err=0) (hlow:t.low 536870912=true) (hm:m≤4096) (hocc:t.occ m=0) (htab:Tab w) (hS:∀ b,S b→b<w.heap.size) (hpb:p.block<w.heap.size) (hp:w.cell? p=some (.int .i64 m)) (hT:IsTm S w t v) :
   Calls Tryz.prog 62 #[v,.pointer (some p)] w (GivesTm S (t.put m noTm) w):=by
 obtain ⟨B,d,A,c,rfl,_⟩:=IsTm.form hT
 obtain ⟨W,hW,b2,z2,k0,k1⟩:=two_blks w #[.int .i64 t.kind,.int .i64 t.index,.int .i64 t.type.kind,.slice B t.type.args.length d,.slice A t.args.length c] #[.int .i64 0,.int .i64 0,.int .i64 0,.slice none 0 0,.slice none 0 0] 42 42
 have hpW:=(b2.cell hpb).trans hp
 have HC:=Lib.hid (lowerTop_any t _ m S W hb he hlow hm hocc (htab.after b2) (fun b h=>Nat.lt_of_lt_of_le (hS b h) b2.size) (hT.keep (fun _ h=>h) (fun r hr=>b2.cell (hS _ hr))))
 have HB:=Lib.hid (And.intro b2 (And.intro z2 k1))
 have HS:=Lib.hid hS
 obtain ⟨r0,r1,r2,r3,r4,_⟩:=k0.facts5
 clear hT hb he hlow htab b2 z2 k0 k1 hS hp hocc
 go_enter Tryz.func62,Tryz.ntmps62
 go_upto_region 1 with fail
 rw [← hW]
 clear hW
 go_wp2_with fail
 refine HC.out.mono ?_
 obtain ⟨U,hU⟩:∃ U,U=t.put m noTm:=⟨_,rfl⟩
 rw [← hU]
 have HU:=Lib.hid hU
 clear hU
 rintro e w1 ⟨v1,rfl,h1,hb1⟩
 obtain ⟨B1,d1,A1,c1,rfl,_⟩:=h1.form
 have k1':=HB.out.2.2.below hb1 HB.out.2.2.lt
 obtain ⟨_,_,_,_,_,f0,f1,f2,f3,f4⟩:=k1'.facts5
 have HE:=Lib.hid (And.intro k1' (And.intro h1 hb1))
 clear k1' h1 hb1 HC r0 r1 r2 r3 r4
 go_wp2_with fail
 obtain ⟨y0,y1,y2,y3,y4⟩:=(HE.out.1.set5 (.int .i64 U.kind) (.int .i64 U.index) (.int .i64 U.type.kind) (.slice B1 U.type.args.length d1) (.slice A1 U.args.length c1)).cells5
 have hg:=only_set5 w1 (w.heap.size+1) (.int .i64 U.kind) (.int .i64 U.index) (.int .i64 U.type.kind) (.slice B1 U.type.args.length d1) (.slice A1 U.args.length c1)
 have hz:=HB.out.2.1
 have hb2:=HB.out.1.trans (HE.out.2.2.mono HB.out.1.size)
 refine bodyPost_ret (v:=.tuple #[.agg #[.int .i64 U.kind,.int .i64 U.index,.int .i64 U.type.kind,.slice B1 U.type.args.length d1,.slice A1 U.args.length c1],.int .i64 0]) (by simp [results,Tryz.results62,go_sem,y0,y1,y2,y3,y4]) rfl ⟨_,rfl,?_,hb2.grown hg hb2.size (fun k e=>by cases e; omega)⟩
 rw [← HU.out]
 exact IsTm.keep (S:=fun b=>(S b∨W.heap.size≤b)∧b<w1.heap.size) (w:=w1) (fun b h=>⟨h.1.imp id (fun x=>by omega),Nat.lt_of_lt_of_le h.2 hg.size⟩) (fun r hr=>World.cell?_of_block (hg.block r.block hr.2 (by have h1:=hr.1; simp; rcases h1 with h1 | h1; (have:=HS.out _ h1; omega); omega))) _ HE.out.2.1
set_option maxRecDepth 100000 in
set_option maxHeartbeats 4000000 in
theorem fchangedD_any (f r:Fm) (v:Value) (m:Nat) (p:Addr) (S:Nat→Prop) (w:World) (hf:FineF f) (hsz:f.size≤4096) (hb:f.bulk≤300000) (hr:ReadF f (f.asTm.put m noTm) r) (hm:m≤4096) (hocc:f.asTm.occ m=0) (htab:Tab w) (hS:∀ b,S b→b<w.heap.size) (hpb:p.block<w.heap.size) (hp:w.cell? p=some (.int .i64 m)) (hF:IsFm S w f v) :
   Calls Tryz.prog 59 #[v,.func (.func 62) #[] #[.pointer (some p)]] w (GivesFm S r w):=by
 obtain ⟨B,d,C,e0,A,c,rfl,_⟩:=IsFm.form hF
 obtain ⟨a1,a2,a3,a4⟩:=asTm_facts hf
 obtain ⟨W,hW,b2,z2,k0,k1⟩:=two_blks w #[.int .i64 f.kind,.int .i64 f.type.kind,.slice B f.type.args.length d,.slice C f.terms.length e0,.slice A f.args.length c] #[.int .i64 0,.int .i64 0,.slice none 0 0,.slice none 0 0,.slice none 0 0] 34 34
 have HX:=Lib.hid fun (w':World) (h:Below W.heap.size W w')=>And.intro (k0.below h k0.lt).facts5 (And.intro (show IsFm S w' f _ from hF.keep (fun _ h=>h) (fun q hq=>(h.cell (Nat.lt_of_lt_of_le (hS _ hq) b2.size)).trans (b2.cell (hS _ hq)))) ((h.cell (Nat.lt_of_lt_of_le hpb b2.size)).trans ((b2.cell hpb).trans hp)))
 have HB:=Lib.hid (And.intro b2 (And.intro z2 k1))
 have HS:=Lib.hid hS
 have HO:=Lib.hid (And.intro hf (And.intro hsz (And.intro hb (And.intro a1 (And.intro a2 (And.intro a3 a4))))))
 have HTab:=Lib.hid (htab.after b2)
 have HR:=Lib.hid (And.intro hr (And.intro hpb hocc))
 obtain ⟨r0,r1,r2,r3,r4,_⟩:=k0.facts5
 clear hF hf hsz hb a1 a2 a3 a4 htab b2 z2 k0 k1 hS hp hr hpb hocc
 go_enter Tryz.func59,Tryz.ntmps59
 go_upto_region 1 with fail
 rw [← hW]
 clear hW
 go_wp2_with fail
 refine (checkF_ok HO.out.1.good HO.out.2.1 _ W (by have:=HO.out.2.2.1; omega) HTab.out ((HX.out W (Below.refl _ _)).2.1.keep (fun b h=>Nat.lt_of_lt_of_le (HS.out b h) HB.out.1.size) (fun _ _=>rfl))).mono ?_
 rintro e w1 ⟨rfl,hb1⟩
 have H1:=Lib.hid hb1
 clear hb1 r0 r1 r2 r3 r4
 obtain ⟨r0,r1,r2,r3,r4,_⟩:=(HX.out w1 H1.out).1
 go_wp2_with fail
 refine (asTm_any HO.out.1.good S _ w1 (fun b h=>Nat.lt_of_lt_of_le (HS.out b h) (Nat.le_trans HB.out.1.size H1.out.size)) (HX.out w1 H1.out).2.1).mono ?_
 rintro e w2 ⟨v2,rfl,h2,hb2⟩
 have H2:=Lib.hid (And.intro (H1.out.trans (hb2.mono H1.out.size)) (And.intro h2 hb2.size))
 clear h2 hb2 r0 r1 r2 r3 r4
 go_wp2_with fail
 refine (flower1_any f.asTm v2 m p (fun b=>(S b∨w1.heap.size≤b)∧b<w2.heap.size) w2 (by have:=HO.out.2.2.1; have:=HO.out.2.2.2.2.1; omega) (errT_zero.2 ⟨HO.out.2.2.2.2.2.1,by have:=HO.out.2.1; have:=HO.out.2.2.2.1; omega⟩) HO.out.2.2.2.2.2.2 hm HR.out.2.2 (HTab.out.after H2.out.1) (fun b h=>h.2) (Nat.lt_of_lt_of_le HR.out.2.1 (Nat.le_trans HB.out.1.size H2.out.1.size)) (HX.out w2 H2.out.1).2.2 H2.out.2.1).mono ?_
 rintro e w3 ⟨v3,rfl,h3,hb3⟩
 obtain ⟨U,hU⟩:∃ U,U=f.asTm.put m noTm:=⟨_,rfl⟩
 rw [← hU] at h3
 obtain ⟨B3,d3,A3,c3,rfl,_⟩:=h3.form
 obtain ⟨X,hX,bX,zX,kX⟩:∃ X,X=w3.alloc (.cells #[.int .i64 U.kind,.int .i64 U.index,.int .i64 U.type.kind,.slice B3 U.type.args.length d3,.slice A3 U.args.length c3] 42)∧Below w3.heap.size w3 X∧X.heap.size=w3.heap.size+1∧Blk X w3.heap.size 42 #[.int .i64 U.kind,.int .i64 U.index,.int .i64 U.type.kind,.slice B3 U.type.args.length d3,.slice A3 U.args.length c3]:=⟨_,rfl,(Below.refl _ _).alloc (Nat.le_refl _) _,by simp,Blk.new _ _ _⟩
 have H3:=Lib.hid (And.intro (((H2.out.1.trans (hb3.mono H2.out.1.size))).trans (bX.mono (Nat.le_trans H2.out.1.size hb3.size))) (show IsTm (fun b=>(S b∨W.heap.size≤b)∧b<X.heap.size) X U _ from IsTm.keep (fun b h=>⟨h.1.elim (fun x=>x.1.imp id (fun y=>by have:=H1.out.size; omega)) (fun x=>.inr (by have:=H2.out.1.size; omega)),Nat.lt_of_lt_of_le h.2 bX.size⟩) (fun q hq=>bX.cell hq.2) _ h3))
 have KX:=Lib.hid kX
 have HU:=Lib.hid hU
 have HXX:=Lib.hid hX
 clear h3 hb3 hX bX zX kX hU
 go_upto_region 5 with fail
 rw [← HXX.out]
 obtain ⟨r0,r1,r2,r3,r4,_⟩:=(HX.out X H3.out.1).1
 obtain ⟨s0,s1,s2,s3,s4,_⟩:=KX.out.facts5
 go_wp2_with fail
 refine (reread_any (f:=f) (t:=U) (r:=r) (by rw [HU.out]; exact HR.out.1) (fun b=>(S b∨W.heap.size≤b)∧b<X.heap.size) _ _ X (fun b h=>h.2) ((HX.out X H3.out.1).2.1.keep (fun b h=>⟨.inl h,Nat.lt_of_lt_of_le (HS.out b h) (Nat.le_trans HB.out.1.size H3.out.1.size)⟩) (fun _ _=>rfl)) H3.out.2).mono ?_
 rintro e w5 ⟨v5,rfl,h5,hb5⟩
 obtain ⟨B5,d5,C5,e5,A5,c5,rfl,_⟩:=h5.form
 have k1':=HB.out.2.2.below (H3.out.1.trans (hb5.mono H3.out.1.size)) HB.out.2.2.lt
 obtain ⟨_,_,_,_,_,f0,f1,f2,f3,f4⟩:=k1'.facts5
 have HE:=Lib.hid (And.intro k1' (And.intro h5 (H3.out.1.trans (hb5.mono H3.out.1.size))))
 clear k1' h5 hb5 r0 r1 r2 r3 r4 s0 s1 s2 s3 s4
 go_wp2_with fail
 obtain ⟨y0,y1,y2,y3,y4⟩:=(HE.out.1.set5 (.int .i64 r.kind) (.int .i64 r.type.kind) (.slice B5 r.type.args.length d5) (.slice C5 r.terms.length e5) (.slice A5 r.args.length c5)).cells5
 have hg:=only_set5 w5 (w.heap.size+1) (.int .i64 r.kind) (.int .i64 r.type.kind) (.slice B5 r.type.args.length d5) (.slice C5 r.terms.length e5) (.slice A5 r.args.length c5)
 have hz:=HB.out.2.1
 have hb2:=HB.out.1.trans (HE.out.2.2.mono HB.out.1.size)
 refine bodyPost_ret (v:=.tuple #[.agg #[.int .i64 r.kind,.int .i64 r.type.kind,.slice B5 r.type.args.length d5,.slice C5 r.terms.length e5,.slice A5 r.args.length c5],.int .i64 0]) (by simp [results,Tryz.results59,go_sem,y0,y1,y2,y3,y4]) rfl ⟨_,rfl,?_,hb2.grown hg hb2.size (fun k e=>by cases e; omega)⟩
 exact IsFm.keep (S:=fun b=>(((S b∨W.heap.size≤b)∧b<X.heap.size)∨X.heap.size≤b)∧b<w5.heap.size) (w:=w5) (fun b h=>⟨h.1.elim (fun x=>x.1.imp id (fun y=>by omega)) (fun x=>.inr (by have:=H3.out.1.size; omega)),Nat.lt_of_lt_of_le h.2 hg.size⟩) (fun q hq=>World.cell?_of_block (hg.block q.block hq.2 (by have h1:=hq.1; have h2:=H3.out.1.size; simp; rcases h1 with ⟨h1 | h1,_⟩ | h1; (have:=HS.out _ h1; omega); omega; omega))) _ HE.out.2.1
set_option maxRecDepth 100000 in
set_option maxHeartbeats 4000000 in
theorem fLower_any (f r:Fm) (v:Value) (m:Nat) (S:Nat→Prop) (w:World) (hf:FineF f) (hsz:f.size≤4096) (hb:f.bulk≤300000) (hr:ReadF f (f.asTm.put m noTm) r) (hm:m≤4096) (hocc:f.asTm.occ m=0) (htab:Tab w) (hS:∀ b,S b→b<w.heap.size) (hF:IsFm S w f v) :
   Calls Tryz.prog 14 #[v,.int .i64 m] w (GivesFm S r w):=by
 obtain ⟨B,d,C,e0,A,c,rfl,_⟩:=IsFm.form hF
 obtain ⟨W,hW,b4,z4,k0,k1,k3⟩:=three_blks w #[.int .i64 f.kind,.int .i64 f.type.kind,.slice B f.type.args.length d,.slice C f.terms.length e0,.slice A f.args.length c] #[.int .i64 m] #[.int .i64 0,.int .i64 0,.slice none 0 0,.slice none 0 0,.slice none 0 0] 34 3 34
 have HC:=Lib.hid (fchangedD_any f r (.agg #[.int .i64 f.kind,.int .i64 f.type.kind,.slice B f.type.args.length d,.slice C f.terms.length e0,.slice A f.args.length c]) m ⟨w.heap.size+1,0,none⟩ S W hf hsz hb hr hm hocc (htab.after b4) (fun b h=>Nat.lt_of_lt_of_le (hS b h) b4.size) (by show w.heap.size+1<_; omega) k1.facts1.1 (hF.keep (fun _ h=>h) (fun q hq=>b4.cell (hS _ hq))))
 have HB:=Lib.hid (And.intro b4 (And.intro z4 k3))
 have HS:=Lib.hid hS
 obtain ⟨r0,r1,r2,r3,r4,_⟩:=k0.facts5
 clear hF hf hsz hb hr htab hocc b4 z4 k0 k1 k3 hS
 go_enter Tryz.func14,Tryz.ntmps14
 go_upto_region 1 with fail
 rw [← hW]
 clear hW
 go_wp2_with fail
 refine HC.out.mono ?_
 rintro e w1 ⟨v1,rfl,h1,hb1⟩
 obtain ⟨B1,d1,C1,e1,A1,c1,rfl,_⟩:=h1.form
 have k3':=HB.out.2.2.below hb1 HB.out.2.2.lt
 obtain ⟨_,_,_,_,_,f0,f1,f2,f3,f4⟩:=k3'.facts5
 have HE:=Lib.hid (And.intro k3' (And.intro h1 hb1))
 clear k3' h1 hb1 HC r0 r1 r2 r3 r4
 go_wp2_with fail
 obtain ⟨y0,y1,y2,y3,y4⟩:=(HE.out.1.set5 (.int .i64 r.kind) (.int .i64 r.type.kind) (.slice B1 r.type.args.length d1) (.slice C1 r.terms.length e1) (.slice A1 r.args.length c1)).cells5
 have hg:=only_set5 w1 (w.heap.size+1+1) (.int .i64 r.kind) (.int .i64 r.type.kind) (.slice B1 r.type.args.length d1) (.slice C1 r.terms.length e1) (.slice A1 r.args.length c1)
 have hz:=HB.out.2.1
 have hb2:=HB.out.1.trans (HE.out.2.2.mono HB.out.1.size)
 refine bodyPost_ret (v:=.tuple #[.agg #[.int .i64 r.kind,.int .i64 r.type.kind,.slice B1 r.type.args.length d1,.slice C1 r.terms.length e1,.slice A1 r.args.length c1],.int .i64 0]) (by simp [results,Tryz.results14,go_sem,y0,y1,y2,y3,y4]) rfl ⟨_,rfl,?_,hb2.grown hg hb2.size (fun k e=>by cases e; omega)⟩
 exact IsFm.keep (S:=fun b=>(S b∨W.heap.size≤b)∧b<w1.heap.size) (w:=w1) (fun b h=>⟨h.1.imp id (fun x=>by omega),Nat.lt_of_lt_of_le h.2 hg.size⟩) (fun q hq=>World.cell?_of_block (hg.block q.block hq.2 (by have h1:=hq.1; simp; rcases h1 with h1 | h1; (have:=HS.out _ h1; omega); omega))) _ HE.out.2.1
end Go.Proofs.YtipfnkajdooiiaaGreatDoor
namespace Go.Proofs.YtipfnkajdooiiaaGreatDoor
open Go.RowKit

theorem putR_fits {P:Program} {F:FuncId} {args:Array Value} {w:World} {S:Nat→Prop} {T:Tm} (h:T.size≤4096) (hc:Calls P F args w (PutR S T w)):Calls P F args w (GivesTm S T w):=
 hc.mono fun e w' hr=>by unfold PutR at hr; rw [if_pos h] at hr; exact hr
set_option maxRecDepth 100000 in
set_option maxHeartbeats 4000000 in
theorem fput1_any {Bs:Option Addr} {ds:Nat} {As:Option Addr} {cs:Nat} (t s:Tm) (v:Value) (m:Nat) (p:Addr) (q:Nat) (S:Nat→Prop) (w:World) (hb:t.bulk≤390000) (he:t.err=0) (hlow:t.low 536870912=true) (hm:m≤4096) (hsb:s.bulk≤390000) (hse:s.err=0) (hslow:s.low 536870912=true) (hfit:(t.put m s).size≤4096) (htab:Tab w) (hS:∀ b,S b→b<w.heap.size) (hpb:p.block<w.heap.size) (hp:w.cell? p=some (.int .i64 m)) (hq:Blk w q 42 #[.int .i64 s.kind,.int .i64 s.index,.int .i64 s.type.kind,.slice Bs s.type.args.length ds,.slice As s.args.length cs]) (hs:IsTm S w s (.agg #[.int .i64 s.kind,.int .i64 s.index,.int .i64 s.type.kind,.slice Bs s.type.args.length ds,.slice As s.args.length cs])) (hT:IsTm S w t v) :
   Calls Tryz.prog 64 #[v,.pointer (some p),.pointer (some ⟨q,0,none⟩)] w (GivesTm S (t.put m s) w):=by
 obtain ⟨B,d,A,c,rfl,_⟩:=IsTm.form hT
 obtain ⟨W,hW,b2,z2,k0,k1⟩:=two_blks w #[.int .i64 t.kind,.int .i64 t.index,.int .i64 t.type.kind,.slice B t.type.args.length d,.slice A t.args.length c] #[.int .i64 0,.int .i64 0,.int .i64 0,.slice none 0 0,.slice none 0 0] 42 42
 have hpW:=(b2.cell hpb).trans hp
 obtain ⟨s0,s1,s2,s3,s4,_⟩:=(hq.below b2 hq.lt).facts5
 have HC:=Lib.hid (putR_fits hfit (putTop_any t s _ (.agg #[.int .i64 s.kind,.int .i64 s.index,.int .i64 s.type.kind,.slice Bs s.type.args.length ds,.slice As s.args.length cs]) m S W hb hsb he hse hlow hslow hm (htab.after b2) (fun b h=>Nat.lt_of_lt_of_le (hS b h) b2.size) (hT.keep (fun _ h=>h) (fun r hr=>b2.cell (hS _ hr))) (hs.keep (fun _ h=>h) (fun r hr=>b2.cell (hS _ hr)))))
 have HB:=Lib.hid (And.intro b2 (And.intro z2 k1))
 have HS:=Lib.hid hS
 obtain ⟨r0,r1,r2,r3,r4,_⟩:=k0.facts5
 clear hT hb he hlow htab b2 z2 k0 k1 hS hp hq hs hsb hse hslow hfit
 go_enter Tryz.func64,Tryz.ntmps64
 go_upto_region 1 with fail
 rw [← hW]
 clear hW
 go_wp2_with fail
 refine HC.out.mono ?_
 obtain ⟨U,hU⟩:∃ U,U=t.put m s:=⟨_,rfl⟩
 rw [← hU]
 have HU:=Lib.hid hU
 clear hU
 rintro e w1 ⟨v1,rfl,h1,hb1⟩
 obtain ⟨B1,d1,A1,c1,rfl,_⟩:=h1.form
 have k1':=HB.out.2.2.below hb1 HB.out.2.2.lt
 obtain ⟨_,_,_,_,_,f0,f1,f2,f3,f4⟩:=k1'.facts5
 have HE:=Lib.hid (And.intro k1' (And.intro h1 hb1))
 clear k1' h1 hb1 HC r0 r1 r2 r3 r4 s0 s1 s2 s3 s4
 go_wp2_with fail
 obtain ⟨y0,y1,y2,y3,y4⟩:=(HE.out.1.set5 (.int .i64 U.kind) (.int .i64 U.index) (.int .i64 U.type.kind) (.slice B1 U.type.args.length d1) (.slice A1 U.args.length c1)).cells5
 have hg:=only_set5 w1 (w.heap.size+1) (.int .i64 U.kind) (.int .i64 U.index) (.int .i64 U.type.kind) (.slice B1 U.type.args.length d1) (.slice A1 U.args.length c1)
 have hz:=HB.out.2.1
 have hb2:=HB.out.1.trans (HE.out.2.2.mono HB.out.1.size)
 refine bodyPost_ret (v:=.tuple #[.agg #[.int .i64 U.kind,.int .i64 U.index,.int .i64 U.type.kind,.slice B1 U.type.args.length d1,.slice A1 U.args.length c1],.int .i64 0]) (by simp [results,Tryz.results64,go_sem,y0,y1,y2,y3,y4]) rfl ⟨_,rfl,?_,hb2.grown hg hb2.size (fun k e=>by cases e; omega)⟩
 rw [← HU.out]
 exact IsTm.keep (S:=fun b=>(S b∨W.heap.size≤b)∧b<w1.heap.size) (w:=w1) (fun b h=>⟨h.1.imp id (fun x=>by omega),Nat.lt_of_lt_of_le h.2 hg.size⟩) (fun r hr=>World.cell?_of_block (hg.block r.block hr.2 (by have h1:=hr.1; simp; rcases h1 with h1 | h1; (have:=HS.out _ h1; omega); omega))) _ HE.out.2.1
set_option maxRecDepth 100000 in
set_option maxHeartbeats 4000000 in
theorem fchangedP_any {Bs:Option Addr} {ds:Nat} {As:Option Addr} {cs:Nat} (f r:Fm) (s:Tm) (v:Value) (m:Nat) (p:Addr) (q:Nat) (S:Nat→Prop) (w:World) (hf:FineF f) (hsz:f.size≤4096) (hb:f.bulk≤300000) (hr:ReadF f (f.asTm.put m s) r) (hm:m≤4096) (hsb:s.bulk≤390000) (hse:s.err=0) (hslow:s.low 536870912=true) (hfit:(f.asTm.put m s).size≤4096) (htab:Tab w) (hS:∀ b,S b→b<w.heap.size) (hpb:p.block<w.heap.size) (hp:w.cell? p=some (.int .i64 m)) (hq:Blk w q 42 #[.int .i64 s.kind,.int .i64 s.index,.int .i64 s.type.kind,.slice Bs s.type.args.length ds,.slice As s.args.length cs]) (hs:IsTm S w s (.agg #[.int .i64 s.kind,.int .i64 s.index,.int .i64 s.type.kind,.slice Bs s.type.args.length ds,.slice As s.args.length cs])) (hF:IsFm S w f v) :
   Calls Tryz.prog 59 #[v,.func (.func 64) #[] #[.pointer (some p),.pointer (some ⟨q,0,none⟩)]] w (GivesFm S r w):=by
 obtain ⟨B,d,C,e0,A,c,rfl,_⟩:=IsFm.form hF
 obtain ⟨a1,a2,a3,a4⟩:=asTm_facts hf
 obtain ⟨W,hW,b2,z2,k0,k1⟩:=two_blks w #[.int .i64 f.kind,.int .i64 f.type.kind,.slice B f.type.args.length d,.slice C f.terms.length e0,.slice A f.args.length c] #[.int .i64 0,.int .i64 0,.slice none 0 0,.slice none 0 0,.slice none 0 0] 34 34
 have HX:=Lib.hid fun (w':World) (h:Below W.heap.size W w')=>And.intro (k0.below h k0.lt).facts5 (And.intro (show IsFm S w' f _ from hF.keep (fun _ h=>h) (fun q hq=>(h.cell (Nat.lt_of_lt_of_le (hS _ hq) b2.size)).trans (b2.cell (hS _ hq)))) (And.intro ((h.cell (Nat.lt_of_lt_of_le hpb b2.size)).trans ((b2.cell hpb).trans hp)) (And.intro ((hq.below b2 hq.lt).below h (hq.below b2 hq.lt).lt) (show IsTm S w' s (.agg #[.int .i64 s.kind,.int .i64 s.index,.int .i64 s.type.kind,.slice Bs s.type.args.length ds,.slice As s.args.length cs]) from hs.keep (fun _ h=>h) (fun q hq=>(h.cell (Nat.lt_of_lt_of_le (hS _ hq) b2.size)).trans (b2.cell (hS _ hq)))))))
 have HB:=Lib.hid (And.intro b2 (And.intro z2 k1))
 have HS:=Lib.hid hS
 have HO:=Lib.hid (And.intro hf (And.intro hsz (And.intro hb (And.intro a1 (And.intro a2 (And.intro a3 a4))))))
 have HTab:=Lib.hid (htab.after b2)
 have HR:=Lib.hid (And.intro hr (And.intro hpb (And.intro hsb (And.intro hse (And.intro hslow hfit)))))
 obtain ⟨r0,r1,r2,r3,r4,_⟩:=k0.facts5
 clear hF hf hsz hb a1 a2 a3 a4 htab b2 z2 k0 k1 hS hp hq hs hr hpb hsb hse hslow hfit
 go_enter Tryz.func59,Tryz.ntmps59
 go_upto_region 1 with fail
 rw [← hW]
 clear hW
 go_wp2_with fail
 refine (checkF_ok HO.out.1.good HO.out.2.1 _ W (by have:=HO.out.2.2.1; omega) HTab.out ((HX.out W (Below.refl _ _)).2.1.keep (fun b h=>Nat.lt_of_lt_of_le (HS.out b h) HB.out.1.size) (fun _ _=>rfl))).mono ?_
 rintro e w1 ⟨rfl,hb1⟩
 have H1:=Lib.hid hb1
 clear hb1 r0 r1 r2 r3 r4
 obtain ⟨r0,r1,r2,r3,r4,_⟩:=(HX.out w1 H1.out).1
 go_wp2_with fail
 refine (asTm_any HO.out.1.good S _ w1 (fun b h=>Nat.lt_of_lt_of_le (HS.out b h) (Nat.le_trans HB.out.1.size H1.out.size)) (HX.out w1 H1.out).2.1).mono ?_
 rintro e w2 ⟨v2,rfl,h2,hb2⟩
 have H2:=Lib.hid (And.intro (H1.out.trans (hb2.mono H1.out.size)) (And.intro h2 hb2.size))
 clear h2 hb2 r0 r1 r2 r3 r4
 go_wp2_with fail
 refine (fput1_any f.asTm s v2 m p q (fun b=>(S b∨w1.heap.size≤b)∧b<w2.heap.size) w2 (by have:=HO.out.2.2.1; have:=HO.out.2.2.2.2.1; omega) (errT_zero.2 ⟨HO.out.2.2.2.2.2.1,by have:=HO.out.2.1; have:=HO.out.2.2.2.1; omega⟩) HO.out.2.2.2.2.2.2 hm HR.out.2.2.1 HR.out.2.2.2.1 HR.out.2.2.2.2.1 HR.out.2.2.2.2.2 (HTab.out.after H2.out.1) (fun b h=>h.2) (Nat.lt_of_lt_of_le HR.out.2.1 (Nat.le_trans HB.out.1.size H2.out.1.size)) (HX.out w2 H2.out.1).2.2.1 (HX.out w2 H2.out.1).2.2.2.1 ((HX.out w2 H2.out.1).2.2.2.2.keep (fun b h=>⟨.inl h,Nat.lt_of_lt_of_le (HS.out b h) (Nat.le_trans HB.out.1.size H2.out.1.size)⟩) (fun _ _=>rfl)) H2.out.2.1).mono ?_
 rintro e w3 ⟨v3,rfl,h3,hb3⟩
 obtain ⟨U,hU⟩:∃ U,U=f.asTm.put m s:=⟨_,rfl⟩
 rw [← hU] at h3
 obtain ⟨B3,d3,A3,c3,rfl,_⟩:=h3.form
 obtain ⟨X,hX,bX,zX,kX⟩:∃ X,X=w3.alloc (.cells #[.int .i64 U.kind,.int .i64 U.index,.int .i64 U.type.kind,.slice B3 U.type.args.length d3,.slice A3 U.args.length c3] 42)∧Below w3.heap.size w3 X∧X.heap.size=w3.heap.size+1∧Blk X w3.heap.size 42 #[.int .i64 U.kind,.int .i64 U.index,.int .i64 U.type.kind,.slice B3 U.type.args.length d3,.slice A3 U.args.length c3]:=⟨_,rfl,(Below.refl _ _).alloc (Nat.le_refl _) _,by simp,Blk.new _ _ _⟩
 have H3:=Lib.hid (And.intro (((H2.out.1.trans (hb3.mono H2.out.1.size))).trans (bX.mono (Nat.le_trans H2.out.1.size hb3.size))) (show IsTm (fun b=>(S b∨W.heap.size≤b)∧b<X.heap.size) X U _ from IsTm.keep (fun b h=>⟨h.1.elim (fun x=>x.1.imp id (fun y=>by have:=H1.out.size; omega)) (fun x=>.inr (by have:=H2.out.1.size; omega)),Nat.lt_of_lt_of_le h.2 bX.size⟩) (fun q hq=>bX.cell hq.2) _ h3))
 have KX:=Lib.hid kX
 have HU:=Lib.hid hU
 have HXX:=Lib.hid hX
 clear h3 hb3 hX bX zX kX hU
 go_upto_region 5 with fail
 rw [← HXX.out]
 obtain ⟨r0,r1,r2,r3,r4,_⟩:=(HX.out X H3.out.1).1
 obtain ⟨s0,s1,s2,s3,s4,_⟩:=KX.out.facts5
 go_wp2_with fail
 refine (reread_any (f:=f) (t:=U) (r:=r) (by rw [HU.out]; exact HR.out.1) (fun b=>(S b∨W.heap.size≤b)∧b<X.heap.size) _ _ X (fun b h=>h.2) ((HX.out X H3.out.1).2.1.keep (fun b h=>⟨.inl h,Nat.lt_of_lt_of_le (HS.out b h) (Nat.le_trans HB.out.1.size H3.out.1.size)⟩) (fun _ _=>rfl)) H3.out.2).mono ?_
 rintro e w5 ⟨v5,rfl,h5,hb5⟩
 obtain ⟨B5,d5,C5,e5,A5,c5,rfl,_⟩:=h5.form
 have k1':=HB.out.2.2.below (H3.out.1.trans (hb5.mono H3.out.1.size)) HB.out.2.2.lt
 obtain ⟨_,_,_,_,_,f0,f1,f2,f3,f4⟩:=k1'.facts5
 have HE:=Lib.hid (And.intro k1' (And.intro h5 (H3.out.1.trans (hb5.mono H3.out.1.size))))
 clear k1' h5 hb5 r0 r1 r2 r3 r4 s0 s1 s2 s3 s4
 go_wp2_with fail
 obtain ⟨y0,y1,y2,y3,y4⟩:=(HE.out.1.set5 (.int .i64 r.kind) (.int .i64 r.type.kind) (.slice B5 r.type.args.length d5) (.slice C5 r.terms.length e5) (.slice A5 r.args.length c5)).cells5
 have hg:=only_set5 w5 (w.heap.size+1) (.int .i64 r.kind) (.int .i64 r.type.kind) (.slice B5 r.type.args.length d5) (.slice C5 r.terms.length e5) (.slice A5 r.args.length c5)
 have hz:=HB.out.2.1
 have hb2:=HB.out.1.trans (HE.out.2.2.mono HB.out.1.size)
 refine bodyPost_ret (v:=.tuple #[.agg #[.int .i64 r.kind,.int .i64 r.type.kind,.slice B5 r.type.args.length d5,.slice C5 r.terms.length e5,.slice A5 r.args.length c5],.int .i64 0]) (by simp [results,Tryz.results59,go_sem,y0,y1,y2,y3,y4]) rfl ⟨_,rfl,?_,hb2.grown hg hb2.size (fun k e=>by cases e; omega)⟩
 exact IsFm.keep (S:=fun b=>(((S b∨W.heap.size≤b)∧b<X.heap.size)∨X.heap.size≤b)∧b<w5.heap.size) (w:=w5) (fun b h=>⟨h.1.elim (fun x=>x.1.imp id (fun y=>by omega)) (fun x=>.inr (by have:=H3.out.1.size; omega)),Nat.lt_of_lt_of_le h.2 hg.size⟩) (fun q hq=>World.cell?_of_block (hg.block q.block hq.2 (by have h1:=hq.1; have h2:=H3.out.1.size; simp; rcases h1 with ⟨h1 | h1,_⟩ | h1; (have:=HS.out _ h1; omega); omega; omega))) _ HE.out.2.1
set_option maxRecDepth 100000 in
set_option maxHeartbeats 4000000 in
theorem fPut_any (f r:Fm) (s:Tm) (v u:Value) (m:Nat) (S:Nat→Prop) (w:World) (hf:FineF f) (hsz:f.size≤4096) (hb:f.bulk≤300000) (hr:ReadF f (f.asTm.put m s) r) (hm:m≤4096) (hsb:s.bulk≤390000) (hse:s.err=0) (hslow:s.low 536870912=true) (hfit:(f.asTm.put m s).size≤4096) (htab:Tab w) (hS:∀ b,S b→b<w.heap.size) (hF:IsFm S w f v) (hs:IsTm S w s u) :
   Calls Tryz.prog 15 #[v,.int .i64 m,u] w (GivesFm S r w):=by
 obtain ⟨B,d,C,e0,A,c,rfl,_⟩:=IsFm.form hF
 obtain ⟨Bs,ds,As,cs,rfl,_⟩:=IsTm.form hs
 obtain ⟨W,hW,b4,z4,k0,k1,k2,k3⟩:=four_blks w #[.int .i64 f.kind,.int .i64 f.type.kind,.slice B f.type.args.length d,.slice C f.terms.length e0,.slice A f.args.length c] #[.int .i64 m] #[.int .i64 s.kind,.int .i64 s.index,.int .i64 s.type.kind,.slice Bs s.type.args.length ds,.slice As s.args.length cs] #[.int .i64 0,.int .i64 0,.slice none 0 0,.slice none 0 0,.slice none 0 0] 34 3 42 34
 have HC:=Lib.hid (fchangedP_any f r s (.agg #[.int .i64 f.kind,.int .i64 f.type.kind,.slice B f.type.args.length d,.slice C f.terms.length e0,.slice A f.args.length c]) m ⟨w.heap.size+1,0,none⟩ (w.heap.size+1+1) S W hf hsz hb hr hm hsb hse hslow hfit (htab.after b4) (fun b h=>Nat.lt_of_lt_of_le (hS b h) b4.size) (by show w.heap.size+1<_; omega) k1.facts1.1 k2 (hs.keep (fun _ h=>h) (fun q hq=>b4.cell (hS _ hq))) (hF.keep (fun _ h=>h) (fun q hq=>b4.cell (hS _ hq))))
 have HB:=Lib.hid (And.intro b4 (And.intro z4 k3))
 have HS:=Lib.hid hS
 obtain ⟨r0,r1,r2,r3,r4,_⟩:=k0.facts5
 clear hF hs hf hsz hb hr htab hsb hse hslow hfit b4 z4 k0 k1 k2 k3 hS
 go_enter Tryz.func15,Tryz.ntmps15
 go_upto_region 1 with fail
 rw [← hW]
 clear hW
 go_wp2_with fail
 refine HC.out.mono ?_
 rintro e w1 ⟨v1,rfl,h1,hb1⟩
 obtain ⟨B1,d1,C1,e1,A1,c1,rfl,_⟩:=h1.form
 have k3':=HB.out.2.2.below hb1 HB.out.2.2.lt
 obtain ⟨_,_,_,_,_,f0,f1,f2,f3,f4⟩:=k3'.facts5
 have HE:=Lib.hid (And.intro k3' (And.intro h1 hb1))
 clear k3' h1 hb1 HC r0 r1 r2 r3 r4
 go_wp2_with fail
 obtain ⟨y0,y1,y2,y3,y4⟩:=(HE.out.1.set5 (.int .i64 r.kind) (.int .i64 r.type.kind) (.slice B1 r.type.args.length d1) (.slice C1 r.terms.length e1) (.slice A1 r.args.length c1)).cells5
 have hg:=only_set5 w1 (w.heap.size+1+1+1) (.int .i64 r.kind) (.int .i64 r.type.kind) (.slice B1 r.type.args.length d1) (.slice C1 r.terms.length e1) (.slice A1 r.args.length c1)
 have hz:=HB.out.2.1
 have hb2:=HB.out.1.trans (HE.out.2.2.mono HB.out.1.size)
 refine bodyPost_ret (v:=.tuple #[.agg #[.int .i64 r.kind,.int .i64 r.type.kind,.slice B1 r.type.args.length d1,.slice C1 r.terms.length e1,.slice A1 r.args.length c1],.int .i64 0]) (by simp [results,Tryz.results15,go_sem,y0,y1,y2,y3,y4]) rfl ⟨_,rfl,?_,hb2.grown hg hb2.size (fun k e=>by cases e; omega)⟩
 exact IsFm.keep (S:=fun b=>(S b∨W.heap.size≤b)∧b<w1.heap.size) (w:=w1) (fun b h=>⟨h.1.imp id (fun x=>by omega),Nat.lt_of_lt_of_le h.2 hg.size⟩) (fun q hq=>World.cell?_of_block (hg.block q.block hq.2 (by have h1:=hq.1; simp; rcases h1 with h1 | h1; (have:=HS.out _ h1; omega); omega))) _ HE.out.2.1
end Go.Proofs.YtipfnkajdooiiaaGreatDoor
namespace Go.Proofs.YtipfnkajdooiiaaGreatDoor
open Go.RowKit

theorem readF_fine {f:Fm} {t:Tm} {r:Fm} (h:ReadF f t r) (hf:GoodF f) (ht:t.ok=true) (hs:t.size≤4096) (hl:t.low 536870912=true):FineF r:=by
 induction h with
 | eq s t x y=>
   rw [okT_eq,Bool.and_eq_true] at ht
   have h2:=ht.2
   simp only [Tm.args,okAllT,Bool.and_eq_true] at h2
   simp only [Tm.size,sizeAllT] at hs
   simp only [Tm.low,lowAll,Bool.and_eq_true] at hl
   exact .eq x y ⟨errT_zero.2 ⟨h2.1,by omega⟩,hl.2.1⟩ ⟨errT_zero.2 ⟨h2.2.1,by omega⟩,hl.2.2.1⟩
 | two k f g s t r q hk _ _ ihf ihg=>
   rw [okT_eq,Bool.and_eq_true] at ht
   have h2:=ht.2
   simp only [Tm.args,okAllT,Bool.and_eq_true] at h2
   simp only [Tm.size,sizeAllT] at hs
   simp only [Tm.low,lowAll,Bool.and_eq_true] at hl
   cases hf with
   | two _ _ _ _ h3 h4=>exact .two k r q hk (ihf h3 h2.1 (by omega) hl.2.1) (ihg h4 h2.2.1 (by omega) hl.2.2.1)
 | quant k T f s r hk _ ih=>
   rw [okT_eq,Bool.and_eq_true] at ht
   have h2:=ht.2
   simp only [Tm.args,okAllT,Bool.and_eq_true] at h2
   simp only [Tm.size,sizeAllT] at hs
   simp only [Tm.low,lowAll,Bool.and_eq_true] at hl
   cases hf with
   | quant _ _ _ _ hT h3=>exact .quant k T r hk hT (ih h3 h2.1 (by omega) hl.2.1)
/-- A formula, lifted by one, and with something put in (or nothing) where it was lifted away: the term of the formula. -/
theorem lift_away {f r:Fm} (hf:FineF f) (h:ReadF f (f.asTm.lift 0 1) r) (s:Tm):r.asTm.put 0 s=f.asTm∧r.asTm.occ 0=0∧ReadF r (r.asTm.put 0 s) f:=by
 have h1:=h.asTm
 have h2:=(asTm_facts hf).2.2.1
 have h3:=lift_put_lo s f.asTm 0 0 0 h2 (Nat.le_refl _)
 have h4:=lift_occ f.asTm 0 0 0 h2 (Nat.le_refl _)
 simp only [Nat.zero_add,lift_zero] at h3 h4
 refine ⟨by rw [h1]; exact h3,by rw [h1]; exact h4,?_⟩
 rw [h1,h3]
 exact readF_back h
end Go.Proofs.YtipfnkajdooiiaaGreatDoor
