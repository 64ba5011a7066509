/- The term of a number. -/
import Derived.Test.YtipfnkajdooiiaaGreatDoorQMakeT
import Derived.Test.YtipfnkajdooiiaaGreatDoorQPackMk
namespace Go.Proofs.YtipfnkajdooiiaaGreatDoor
open Go.RowKit

/-- The term of a number. -/
def numTm:Nat→Tm
 | 0=>.mk 4 0 .zero []
 | n+1=>.mk 5 0 .zero [numTm n]

end Go.Proofs.YtipfnkajdooiiaaGreatDoor
namespace Go.Proofs.YtipfnkajdooiiaaGreatDoor
open Go.RowKit

/-- What lies in the two blocks of numeral. -/
def NumRel (w:World) (q m:Nat) (wr:World):Prop:=
 ∃ B d A c,Blk wr q 42 #[.int .i64 (numTm m).kind,.int .i64 0,.int .i64 0,.slice B 0 d,.slice A (numTm m).args.length c] ∧
   IsTm (fun b=>(w.heap.size≤b∧b≠w.heap.size∧b≠q)∧b<wr.heap.size) wr (numTm m) (.agg #[.int .i64 (numTm m).kind,.int .i64 0,.int .i64 0,.slice B 0 d,.slice A (numTm m).args.length c]) ∧
   Blk wr w.heap.size 42 #[.int .i64 0,.int .i64 0,.int .i64 0,.slice none 0 0,.slice none 0 0]∧Below w.heap.size w wr

theorem num_step {w wr:World} {q m:Nat} {g0 g1 g2 g3 g4:Value} (hq:w.heap.size<q) (hb:Blk wr q 42 #[g0,g1,g2,g3,g4])
   (ht:IsTm (fun b=>(w.heap.size≤b∧b≠w.heap.size∧b≠q)∧b<wr.heap.size) wr (numTm m) (.agg #[g0,g1,g2,g3,g4]))
   (k1:Blk wr w.heap.size 42 #[.int .i64 0,.int .i64 0,.int .i64 0,.slice none 0 0,.slice none 0 0]) (hbel:Below w.heap.size w wr) :
   NumRel w q (m+1) ((((((wr.alloc (.cells #[g0,g1,g2,g3,g4] 42)).setCell ⟨q,0,none⟩ (.int .i64 5)).setCell ⟨q,1,none⟩ (.int .i64 0)).setCell ⟨q,2,none⟩ (.int .i64 0)).setCell ⟨q,3,none⟩ (.slice none 0 0)).setCell ⟨q,4,none⟩ (.slice (some ⟨wr.heap.size,0,none⟩) 1 1)):=by
 have hz:=hbel.size
 have hz1:=hb.lt
 have g1':wr.grownBy (wr.alloc (.cells #[g0,g1,g2,g3,g4] 42)) none:=World.grownBy_alloc _ _ _
 have hsl:=Rep.Sl.built (R:=TmR) (Rep.Ch.one (R:=TmR) (vs:=[g0,g1,g2,g3,g4]) ht) (fun b hb=>hb.2) (fun b=>(w.heap.size≤b∧b≠w.heap.size∧b≠q)∧b<wr.heap.size+1) (fun b hb=>⟨hb.1,by have:=hb.2; omega⟩) (by omega)
 have s1:=World.size_alloc wr (.cells #[g0,g1,g2,g3,g4] 42)
 have hsl:TmR.Sl (fun b=>(w.heap.size≤b∧b≠w.heap.size∧b≠q)∧b<wr.heap.size+1) (wr.alloc (.cells #[g0,g1,g2,g3,g4] 42)) [numTm m] (.slice (some ⟨wr.heap.size,0,none⟩) 1 1):=hsl
 generalize wr.alloc (.cells #[g0,g1,g2,g3,g4] 42)=W1 at s1 g1' hsl ⊢
 have hg:=only_set5 W1 q (.int .i64 5) (.int .i64 0) (.int .i64 0) (.slice none 0 0) (.slice (some ⟨wr.heap.size,0,none⟩) 1 1)
 have kx:=(hb.grown g1' (by simp)).set5 (.int .i64 5) (.int .i64 0) (.int .i64 0) (.slice none 0 0) (.slice (some ⟨wr.heap.size,0,none⟩) 1 1)
 have hs:=hg.size
 refine ⟨none,0,some ⟨wr.heap.size,0,none⟩,1,kx,isTm_iff.2 ⟨rfl,rfl,IsTy.leaf _ _ _,?_⟩,(k1.grown g1' (by simp)).grown hg (by simp; omega),(hbel.grown g1' hz (by simp)).grown hg (by omega) (fun k e=>by cases e; omega)⟩
 exact hsl.keep (fun b hb=>⟨hb.1,by have:=hb.2; omega⟩) (fun p hp=>World.cell?_of_block (hg.block p.block (by have:=hp.2; omega) (by have:=hp.1.2.2; simp; omega)))

set_option maxRecDepth 100000 in
set_option maxHeartbeats 1000000 in
theorem numeral_any (n:Nat) (w:World) (hn:n≤100) :
   Calls Tryz.prog 206 #[.int .i64 n] w (FreshT w (numTm n)):=by
 go_enter Tryz.func206,Tryz.ntmps206
 go_wp2_with fail
 have hk0:=Blk.new w 42 #[.int .i64 0,.int .i64 0,.int .i64 0,.slice none 0 0,.slice none 0 0]
 refine (n_any 4 [] _ _ (by simp [bulkAll]) (Rep.Sl.nil _ _)).mono ?_
 rintro e w1 ⟨v,rfl,ht,hb1⟩
 obtain ⟨B,d,A,c,rfl,_⟩:=ht.zero_parts
 have hz1:=hb1.size
 rw [World.size_alloc] at hz1
 have START:NumRel w w1.heap.size 0 (w1.alloc (Obj.cells #[.int .i64 4,.int .i64 0,.int .i64 0,.slice B 0 d,.slice A 0 c] 42)):=by
   have hbw:Below w.heap.size w w1:=((Below.refl _ _).alloc (Nat.le_refl _) _).trans (hb1.mono (by simp))
   refine ⟨B,d,A,c,Blk.new _ _ _,IsTm.keep (fun b h=>?_) (fun p hp=>World.cell?_alloc_lt _ _ _ hp.2) _ ht,((hk0.below hb1 (by simp)).alloc _),hbw.alloc hbw.size _⟩
   have h1:=h.1
   have h2:=h.2
   rw [World.size_alloc] at h1
   simp
   omega
 have HS:=Lib.hid START
 clear START ht hb1 hk0
 go_wp2_with fail
 go_loopw [0] (fun kx wq=>∃ k:Nat,k≤n∧kx=.int .i64 k∧NumRel w w1.heap.size (n - k) wq) (fun kx _=>(intOf kx).toNat)
 case atStart=>exact ⟨n,Nat.le_refl _,rfl,by rw [Nat.sub_self]; exact HS.out⟩
 case round=>
   obtain ⟨k,hk,rfl,B2,d2,A2,c2,kx,hx,ky,hBq⟩:=hrel
   have hqs:=hBq.size
   have HX:=Lib.hid hx
   clear hx
   by_cases h0:0<k
   · have e1:decide ((k:Int) > 0)=true:=by simp; omega
     obtain ⟨r0,r1,r2,r3,r4,f0,f1,f2,f3,f4⟩:=kx.facts5
     have AFTER:=Lib.hid (num_step (by omega) kx HX.out ky hBq)
     have a0:=fun o=>(kx.alloc o).facts5.1
     have a1:=fun o=>(kx.alloc o).facts5.2.1
     have a2:=fun o=>(kx.alloc o).facts5.2.2.1
     have a3:=fun o=>(kx.alloc o).facts5.2.2.2.1
     have a4:=fun o=>(kx.alloc o).facts5.2.2.2.2.1
     have b0:=fun o=>(kx.alloc o).facts5.2.2.2.2.2.1
     have b1:=fun o=>(kx.alloc o).facts5.2.2.2.2.2.2.1
     have b2:=fun o=>(kx.alloc o).facts5.2.2.2.2.2.2.2.1
     have b3:=fun o=>(kx.alloc o).facts5.2.2.2.2.2.2.2.2.1
     have b4:=fun o=>(kx.alloc o).facts5.2.2.2.2.2.2.2.2.2
     go_wp2_with fail
     exact ⟨⟨k - 1,by omega,by go_num,by rw [show n - (k - 1)=n - k+1 by omega]; exact AFTER.out⟩,by simp [intOf]; omega⟩
   · have e1:decide ((k:Int) > 0)=false:=by simp; omega
     have hk0:k=0:=by omega
     subst hk0
     rw [Nat.sub_zero] at HX kx
     obtain ⟨r0,r1,r2,r3,r4,_,_,_,_,_⟩:=kx.facts5
     obtain ⟨_,_,_,_,_,f0,f1,f2,f3,f4⟩:=ky.facts5
     go_wp2_with fail
     obtain ⟨z0,z1,z2,z3,z4⟩:=(ky.set5 (.int .i64 (numTm n).kind) (.int .i64 0) (.int .i64 0) (.slice B2 0 d2) (.slice A2 (numTm n).args.length c2)).cells5
     have hg:=only_set5 wr w.heap.size (.int .i64 (numTm n).kind) (.int .i64 0) (.int .i64 0) (.slice B2 0 d2) (.slice A2 (numTm n).args.length c2)
     refine bodyPost_ret (v:=.agg #[.int .i64 (numTm n).kind,.int .i64 0,.int .i64 0,.slice B2 0 d2,.slice A2 (numTm n).args.length c2]) (by simp [results,Tryz.results206,go_sem,z0,z1,z2,z3,z4]) rfl ⟨_,rfl,?_,hBq.grown hg hqs (fun k e=>by cases e; omega)⟩
     exact IsTm.keep (fun b h=>⟨h.1.1,Nat.lt_of_lt_of_le h.2 hg.size⟩) (fun p hp=>World.cell?_of_block (hg.block p.block hp.2 (by have:=hp.1.2.1; simp; omega))) _ HX.out

set_option maxRecDepth 100000 in
set_option maxHeartbeats 1000000 in
theorem number_any (n:Nat) (w:World) (hn:n≤100) :
   Calls Tryz.prog 152 #[.int .i64 n] w fun e w'=>∃ v,e=.returned (.tuple #[v,.int .i64 0])∧IsTm (fun b=>w.heap.size≤b∧b<w'.heap.size) w' (numTm n) v∧Below w.heap.size w w':=by
 have e1:decide ((n:Int)<0)=false:=by simp
 have e2:decide ((n:Int)≥4096)=false:=by simp; omega
 have hk0:=Blk.new w 42 #[.int .i64 0,.int .i64 0,.int .i64 0,.slice none 0 0,.slice none 0 0]
 go_enter Tryz.func152,Tryz.ntmps152
 go_wp2_with fail
 refine (numeral_any n _ hn).mono ?_
 rintro e w1 ⟨v,rfl,ht,hb1⟩
 obtain ⟨B,d,A,c,rfl,_⟩:=ht.form
 have hz1:=hb1.size
 have hk1:=hk0.below hb1 hk0.lt
 have hbw:Below w.heap.size w w1:=((Below.refl _ _).alloc (Nat.le_refl _) _).trans (hb1.mono (by simp))
 have HT:=Lib.hid (IsTm.keep (S':=fun b=>w.heap.size+1≤b∧b<w1.heap.size) (fun b h=>by have h1:=h.1; rw [World.size_alloc] at h1; exact ⟨h1,h.2⟩) (fun _ _=>rfl) _ ht)
 obtain ⟨_,_,_,_,_,f0,f1,f2,f3,f4⟩:=hk1.facts5
 clear ht hb1 hk0
 go_wp2_with fail
 obtain ⟨z0,z1,z2,z3,z4⟩:=(hk1.set5 (.int .i64 (numTm n).kind) (.int .i64 (numTm n).index) (.int .i64 (numTm n).type.kind) (.slice B (numTm n).type.args.length d) (.slice A (numTm n).args.length c)).cells5
 have hg:=only_set5 w1 w.heap.size (.int .i64 (numTm n).kind) (.int .i64 (numTm n).index) (.int .i64 (numTm n).type.kind) (.slice B (numTm n).type.args.length d) (.slice A (numTm n).args.length c)
 refine bodyPost_ret (v:=.tuple #[.agg #[.int .i64 (numTm n).kind,.int .i64 (numTm n).index,.int .i64 (numTm n).type.kind,.slice B (numTm n).type.args.length d,.slice A (numTm n).args.length c],.int .i64 0]) (by simp [results,Tryz.results152,go_sem,z0,z1,z2,z3,z4]) rfl ⟨_,rfl,?_,hbw.grown hg hbw.size (fun k e=>by cases e; exact Nat.le_refl _)⟩
 exact IsTm.keep (fun b h=>⟨by omega,Nat.lt_of_lt_of_le h.2 hg.size⟩) (fun p hp=>World.cell?_of_block (hg.block p.block hp.2 (by simp; omega))) _ HT.out

set_option maxRecDepth 100000 in
set_option maxHeartbeats 1000000 in
theorem num_mk (n:Nat) (w:World) (hn:n≤100):Calls Tryz.prog 69 #[.int .i64 n] w (FreshT w (numTm n)):=by
 have hk0:=Blk.new w 42 #[.int .i64 0,.int .i64 0,.int .i64 0,.slice none 0 0,.slice none 0 0]
 go_enter Tryz.func69,Tryz.ntmps69
 go_wp2_with fail
 refine (number_any n _ hn).mono ?_
 rintro e w1 ⟨v,rfl,ht,hb1⟩
 obtain ⟨B,d,A,c,rfl,_⟩:=ht.form
 have hz1:=hb1.size
 have hk1:=hk0.below hb1 hk0.lt
 have hbw:Below w.heap.size w w1:=((Below.refl _ _).alloc (Nat.le_refl _) _).trans (hb1.mono (by simp))
 have HT:=Lib.hid (IsTm.keep (S':=fun b=>w.heap.size+1≤b∧b<w1.heap.size) (fun b h=>by have h1:=h.1; rw [World.size_alloc] at h1; exact ⟨h1,h.2⟩) (fun _ _=>rfl) _ ht)
 have a0:=fun o=>(hk1.alloc o).facts5.1
 have a1:=fun o=>(hk1.alloc o).facts5.2.1
 have a2:=fun o=>(hk1.alloc o).facts5.2.2.1
 have a3:=fun o=>(hk1.alloc o).facts5.2.2.2.1
 have a4:=fun o=>(hk1.alloc o).facts5.2.2.2.2.1
 have b0:=fun o=>(hk1.alloc o).facts5.2.2.2.2.2.1
 have b1:=fun o=>(hk1.alloc o).facts5.2.2.2.2.2.2.1
 have b2:=fun o=>(hk1.alloc o).facts5.2.2.2.2.2.2.2.1
 have b3:=fun o=>(hk1.alloc o).facts5.2.2.2.2.2.2.2.2.1
 have b4:=fun o=>(hk1.alloc o).facts5.2.2.2.2.2.2.2.2.2
 clear ht hb1 hk0
 go_wp2_with fail
 have hbo:=hbw.alloc hbw.size (Obj.cells #[.int .i64 (numTm n).kind,.int .i64 (numTm n).index,.int .i64 (numTm n).type.kind,.slice B (numTm n).type.args.length d,.slice A (numTm n).args.length c] 42)
 obtain ⟨z0,z1,z2,z3,z4⟩:=((hk1.alloc (Obj.cells #[.int .i64 (numTm n).kind,.int .i64 (numTm n).index,.int .i64 (numTm n).type.kind,.slice B (numTm n).type.args.length d,.slice A (numTm n).args.length c] 42)).set5 (.int .i64 (numTm n).kind) (.int .i64 (numTm n).index) (.int .i64 (numTm n).type.kind) (.slice B (numTm n).type.args.length d) (.slice A (numTm n).args.length c)).cells5
 have hg:=only_set5 (w1.alloc (Obj.cells #[.int .i64 (numTm n).kind,.int .i64 (numTm n).index,.int .i64 (numTm n).type.kind,.slice B (numTm n).type.args.length d,.slice A (numTm n).args.length c] 42)) w.heap.size (.int .i64 (numTm n).kind) (.int .i64 (numTm n).index) (.int .i64 (numTm n).type.kind) (.slice B (numTm n).type.args.length d) (.slice A (numTm n).args.length c)
 refine bodyPost_ret (v:=.agg #[.int .i64 (numTm n).kind,.int .i64 (numTm n).index,.int .i64 (numTm n).type.kind,.slice B (numTm n).type.args.length d,.slice A (numTm n).args.length c]) (by simp [results,Tryz.results69,go_sem,z0,z1,z2,z3,z4]) rfl ⟨_,rfl,?_,hbo.grown hg hbo.size (fun k e=>by cases e; exact Nat.le_refl _)⟩
 have hs:=hg.size
 rw [World.size_alloc] at hs
 exact IsTm.keep (fun b h=>⟨by omega,by omega⟩) (fun p hp=>(World.cell?_of_block (hg.block p.block (by rw [World.size_alloc]; omega) (by simp; omega))).trans (World.cell?_alloc_lt _ _ _ hp.2)) _ HT.out

/-- A function of numbers. -/
def lamTm (t:Tm):Tm:=.mk 2 0 (.mk 1 []) [t]
def recTm (b f n:Tm):Tm:=.mk 6 0 (.mk 1 []) [b,f,n]

set_option maxRecDepth 100000 in
set_option maxHeartbeats 1000000 in
theorem lam5_any (t:Tm) (v:Value) (w:World) (hb:t.bulk≤1000) (ht:IsTm (· < w.heap.size) w t v) :
   Calls Tryz.prog 153 #[v] w (FreshT w (lamTm t)):=by
 obtain ⟨B,d,A,c,rfl,_⟩:=ht.form
 obtain ⟨W,hW,hb,hz,k0,k1⟩:∃ W,W=(w.alloc (Obj.cells #[.int .i64 t.kind,.int .i64 t.index,.int .i64 t.type.kind,.slice B t.type.args.length d,.slice A t.args.length c] 42)).alloc (Obj.cells #[.int .i64 0,.int .i64 0,.int .i64 0,.slice none 0 0,.slice none 0 0] 42) ∧
     Below w.heap.size w W∧W.heap.size=w.heap.size+2∧Blk W w.heap.size 42 #[.int .i64 t.kind,.int .i64 t.index,.int .i64 t.type.kind,.slice B t.type.args.length d,.slice A t.args.length c]∧Blk W (w.heap.size+1) 42 #[.int .i64 0,.int .i64 0,.int .i64 0,.slice none 0 0,.slice none 0 0]:=by
   obtain ⟨b1,z1,k1⟩:=new_blk (Below.refl w.heap.size w) (Nat.le_refl _) #[.int .i64 t.kind,.int .i64 t.index,.int .i64 t.type.kind,.slice B t.type.args.length d,.slice A t.args.length c] 42
   generalize w.alloc (Obj.cells #[.int .i64 t.kind,.int .i64 t.index,.int .i64 t.type.kind,.slice B t.type.args.length d,.slice A t.args.length c] 42)=W1 at b1 z1 k1 ⊢
   obtain ⟨b2,z2,k2⟩:=new_blk b1 b1.size #[.int .i64 0,.int .i64 0,.int .i64 0,.slice none 0 0,.slice none 0 0] 42
   have k1:=k1.alloc (Obj.cells #[.int .i64 0,.int .i64 0,.int .i64 0,.slice none 0 0,.slice none 0 0] 42)
   rw [z1] at k2
   exact ⟨_,rfl,b2,by omega,k1,k2⟩
 have HTW:=Lib.hid (ht.boxed hb)
 clear ht
 have HSK:=Lib.hid fun (w1:World) (h:Below (w.heap.size+1) W w1)=>And.intro h (And.intro (k0.below h (by omega)).facts5.1 (And.intro (k0.below h (by omega)).facts5.2.1 (And.intro (k0.below h (by omega)).facts5.2.2.1 (And.intro (k0.below h (by omega)).facts5.2.2.2.1 (k0.below h (by omega)).facts5.2.2.2.2.1))))
 obtain ⟨_,q0,q1,q2,q3,q4⟩:=HSK.out W (Below.refl _ _)
 have HB:=Lib.hid (And.intro hb hz)
 have HK1:=Lib.hid k1
 have call:∀ w1:World,Below W.heap.size W w1→Calls Tryz.prog 68 #[.int .i64 2,.agg #[.int .i64 1,.slice none 0 0],.slice (some ⟨w1.heap.size,0,none⟩) 1 1]
     (w1.alloc (Obj.cells #[.int .i64 t.kind,.int .i64 t.index,.int .i64 t.type.kind,.slice B t.type.args.length d,.slice A t.args.length c] 42)) fun e w2=>∃ v',e=.returned v'∧IsTm (fun b=>W.heap.size≤b∧b<w2.heap.size) w2 (lamTm t) v'∧Below W.heap.size W w2:=by
   intro w1 h1
   have hsl:=Rep.Sl.built (R:=TmR) (Rep.Ch.one (R:=TmR) (vs:=[.int .i64 t.kind,.int .i64 t.index,.int .i64 t.type.kind,.slice B t.type.args.length d,.slice A t.args.length c]) (HTW.out.boxed h1)) (fun _ h=>h) (· < (w1.alloc (Obj.cells #[.int .i64 t.kind,.int .i64 t.index,.int .i64 t.type.kind,.slice B t.type.args.length d,.slice A t.args.length c] 42)).heap.size) (fun b hb=>by simp; omega) (by simp)
   have hbo:=h1.alloc h1.size (Obj.cells #[.int .i64 t.kind,.int .i64 t.index,.int .i64 t.type.kind,.slice B t.type.args.length d,.slice A t.args.length c] 42)
   refine (t_any 2 (.mk 1 []) [t] _ _ _ (by simp [Ty.nodes,nodesAll]) (by simp only [bulkAll]; omega) (IsTy.leaf _ _ 1) hsl).mono ?_
   rintro e w2 ⟨v',rfl,h2,h3⟩
   have hs:=hbo.size
   exact ⟨v',rfl,IsTm.keep (fun b h=>⟨by omega,h.2⟩) (fun _ _=>rfl) _ h2,hbo.trans (h3.mono hbo.size)⟩
 have call2:∀ w1:World,Below (W.alloc (Obj.cells #[.int .i64 t.kind,.int .i64 t.index,.int .i64 t.type.kind,.slice B t.type.args.length d,.slice A t.args.length c] 42)).heap.size (W.alloc (Obj.cells #[.int .i64 t.kind,.int .i64 t.index,.int .i64 t.type.kind,.slice B t.type.args.length d,.slice A t.args.length c] 42)) w1→Calls Tryz.prog 68 #[.int .i64 2,.agg #[.int .i64 1,.slice none 0 0],.slice (some ⟨W.heap.size,0,none⟩) 1 1]
     w1 fun e w2=>∃ v',e=.returned v'∧IsTm (fun b=>W.heap.size≤b∧b<w2.heap.size) w2 (lamTm t) v'∧Below W.heap.size W w2:=by
   intro w1 h1
   have hsl:=Rep.Sl.built (R:=TmR) (Rep.Ch.one (R:=TmR) (vs:=[.int .i64 t.kind,.int .i64 t.index,.int .i64 t.type.kind,.slice B t.type.args.length d,.slice A t.args.length c]) HTW.out) (fun _ h=>h) (· < (W.alloc (Obj.cells #[.int .i64 t.kind,.int .i64 t.index,.int .i64 t.type.kind,.slice B t.type.args.length d,.slice A t.args.length c] 42)).heap.size) (fun b hb=>by simp; omega) (by simp)
   have hsl1:=hsl.keep (S':=(· < w1.heap.size)) (fun b h=>Nat.lt_of_lt_of_le h h1.size) (fun p hp=>h1.cell hp)
   have hbo:Below W.heap.size W w1:=((Below.refl _ _).alloc (Nat.le_refl _) _).trans (h1.mono (by simp))
   refine (t_any 2 (.mk 1 []) [t] _ _ _ (by simp [Ty.nodes,nodesAll]) (by simp only [bulkAll]; omega) (IsTy.leaf _ _ 1) hsl1).mono ?_
   rintro e w2 ⟨v',rfl,h2,h3⟩
   have hs:=hbo.size
   exact ⟨v',rfl,IsTm.keep (fun b h=>⟨by omega,h.2⟩) (fun _ _=>rfl) _ h2,hbo.trans (h3.mono hbo.size)⟩
 have CALL:=Lib.hid call
 have CALL2:=Lib.hid call2
 have HA:=Lib.hid ((Below.refl W.heap.size W).alloc (Nat.le_refl _) (Obj.cells #[.int .i64 t.kind,.int .i64 t.index,.int .i64 t.type.kind,.slice B t.type.args.length d,.slice A t.args.length c] 42))
 have HA':=Lib.hid (((Below.refl W.heap.size W).alloc (Nat.le_refl _) (Obj.cells #[.int .i64 t.kind,.int .i64 t.index,.int .i64 t.type.kind,.slice B t.type.args.length d,.slice A t.args.length c] 42)).mono (show w.heap.size+1≤W.heap.size by omega))
 clear k0 k1 hb hz call call2
 go_enter Tryz.func153,Tryz.ntmps153
 go_wp2_with fail
 rw [← hW]
 clear hW
 go_region_held3 (fun w'=>Below (w.heap.size+1) W w'∧w'.cell? ⟨w.heap.size,0,none⟩ = some (.int .i64 t.kind)∧w'.cell? ⟨w.heap.size,1,none⟩ = some (.int .i64 t.index)∧w'.cell? ⟨w.heap.size,2,none⟩ = some (.int .i64 t.type.kind) ∧
     w'.cell? ⟨w.heap.size,3,none⟩ = some (.slice B t.type.args.length d)∧w'.cell? ⟨w.heap.size,4,none⟩ = some (.slice A t.args.length c))
   (first | with_reducible exact HSK.out _ (Below.refl _ _).drew | with_reducible exact HSK.out _ hb2' | with_reducible exact HSK.out _ HA'.out | with_reducible exact HSK.out _ HA'.out.drew | with_reducible exact HSK.out _ hb1' | with_reducible exact HSK.out _ (hb1'.alloc hz1 _) | with_reducible exact HSK.out _ (below_set5 hb2' _ _ _ _ _) | go_keep)
   (first
     | (go_at_call 68
        (with_reducible first | refine (CALL.out _ hb1).mono ?_ | refine (CALL2.out _ hb0).mono ?_)
        rintro e w2 ⟨v',rfl,ht2,hb2⟩
        obtain ⟨B2,d2,A2,c2,rfl,_⟩:=ht2.form
        have HT2:=Lib.hid ht2
        have hb2':Below (w.heap.size+1) W w2:=hb2.mono (by have:=HB.out.2; omega)
        have k1:=HK1.out.below hb2 HK1.out.lt
        obtain ⟨_,_,_,_,_,f0,f1,f2,f3,f4⟩:=k1.facts5)
     | (go_at_call 23
        (with_reducible refine (nat_any (W.alloc (Obj.cells #[.int .i64 t.kind,.int .i64 t.index,.int .i64 t.type.kind,.slice B t.type.args.length d,.slice A t.args.length c] 42)).drew).mono ?_)
        rintro e w1 ⟨rfl,hb0⟩
        have hb0:Below (W.alloc (Obj.cells #[.int .i64 t.kind,.int .i64 t.index,.int .i64 t.type.kind,.slice B t.type.args.length d,.slice A t.args.length c] 42)).heap.size (W.alloc (Obj.cells #[.int .i64 t.kind,.int .i64 t.index,.int .i64 t.type.kind,.slice B t.type.args.length d,.slice A t.args.length c] 42)) w1:=((Below.refl _ (W.alloc (Obj.cells #[.int .i64 t.kind,.int .i64 t.index,.int .i64 t.type.kind,.slice B t.type.args.length d,.slice A t.args.length c] 42))).drew).trans hb0
        have hb1':Below (w.heap.size+1) W w1:=HA'.out.trans (hb0.mono (by have:=HB.out.2; simp; omega)))
     | (go_at_call 23
        (with_reducible refine (nat_any _).mono ?_)
        rintro e w1 ⟨rfl,hb1⟩
        have hb1:Below W.heap.size W w1:=((Below.refl _ W).drew).trans hb1
        have hb1':Below (w.heap.size+1) W w1:=hb1.mono (by have:=HB.out.2; omega)
        have hz1:w.heap.size+1≤w1.heap.size:=by have:=HB.out.2; have:=hb1.size; omega))
 all_goals go_wp2_with fail
 all_goals
   (obtain ⟨z0,z1,z2,z3,z4⟩:=(k1.set5 (.int .i64 (lamTm t).kind) (.int .i64 (lamTm t).index) (.int .i64 (lamTm t).type.kind) (.slice B2 (lamTm t).type.args.length d2) (.slice A2 (lamTm t).args.length c2)).cells5
    have hg:=only_set5 w2 (w.heap.size+1) (.int .i64 (lamTm t).kind) (.int .i64 (lamTm t).index) (.int .i64 (lamTm t).type.kind) (.slice B2 (lamTm t).type.args.length d2) (.slice A2 (lamTm t).args.length c2)
    have hbw:Below w.heap.size w w2:=HB.out.1.trans (hb2.mono HB.out.1.size)
    have hz:=HB.out.2
    refine bodyPost_ret (v:=.agg #[.int .i64 (lamTm t).kind,.int .i64 (lamTm t).index,.int .i64 (lamTm t).type.kind,.slice B2 (lamTm t).type.args.length d2,.slice A2 (lamTm t).args.length c2]) (by simp [results,Tryz.results153,go_sem,z0,z1,z2,z3,z4]) rfl ⟨_,rfl,?_,hbw.grown hg hbw.size (fun k e=>by cases e; omega)⟩
    exact IsTm.keep (fun b h=>⟨by omega,Nat.lt_of_lt_of_le h.2 hg.size⟩) (fun p hp=>World.cell?_of_block (hg.block p.block hp.2 (by simp; omega))) _ HT2.out)

set_option maxRecDepth 100000 in
set_option maxHeartbeats 1000000 in
theorem rec5_any (b f n:Tm) (u0 u1 u2:Value) (w:World) (hk:b.bulk+f.bulk+n.bulk≤10000) (h0:IsTm (· < w.heap.size) w b u0) (h1:IsTm (· < w.heap.size) w f u1) (h2:IsTm (· < w.heap.size) w n u2) :
   Calls Tryz.prog 154 #[u0,u1,u2] w (FreshT w (recTm b f n)):=by
 obtain ⟨B0,d0,A0,c0,rfl,_⟩:=h0.form
 obtain ⟨B1,d1,A1,c1,rfl,_⟩:=h1.form
 obtain ⟨B2,d2,A2,c2,rfl,_⟩:=h2.form
 have H0:=Lib.hid h0
 have H1:=Lib.hid h1
 have H2:=Lib.hid h2
 clear h0 h1 h2
 go_enter Tryz.func154,Tryz.ntmps154
 go_wp2_with fail
 obtain ⟨b1,z1,k0⟩:=new_blk (Below.refl w.heap.size w) (Nat.le_refl _) #[.int .i64 b.kind,.int .i64 b.index,.int .i64 b.type.kind,.slice B0 b.type.args.length d0,.slice A0 b.args.length c0] 42
 generalize w.alloc (Obj.cells #[.int .i64 b.kind,.int .i64 b.index,.int .i64 b.type.kind,.slice B0 b.type.args.length d0,.slice A0 b.args.length c0] 42)=W1 at b1 z1 k0 ⊢
 obtain ⟨b2,z2,k1⟩:=new_blk b1 b1.size #[.int .i64 f.kind,.int .i64 f.index,.int .i64 f.type.kind,.slice B1 f.type.args.length d1,.slice A1 f.args.length c1] 42
 have k0:=k0.alloc (Obj.cells #[.int .i64 f.kind,.int .i64 f.index,.int .i64 f.type.kind,.slice B1 f.type.args.length d1,.slice A1 f.args.length c1] 42)
 generalize W1.alloc (Obj.cells #[.int .i64 f.kind,.int .i64 f.index,.int .i64 f.type.kind,.slice B1 f.type.args.length d1,.slice A1 f.args.length c1] 42)=W2 at b2 z2 k0 k1 ⊢
 obtain ⟨b3,z3,k2⟩:=new_blk b2 b2.size #[.int .i64 n.kind,.int .i64 n.index,.int .i64 n.type.kind,.slice B2 n.type.args.length d2,.slice A2 n.args.length c2] 42
 have k0:=k0.alloc (Obj.cells #[.int .i64 n.kind,.int .i64 n.index,.int .i64 n.type.kind,.slice B2 n.type.args.length d2,.slice A2 n.args.length c2] 42)
 have k1:=k1.alloc (Obj.cells #[.int .i64 n.kind,.int .i64 n.index,.int .i64 n.type.kind,.slice B2 n.type.args.length d2,.slice A2 n.args.length c2] 42)
 generalize W2.alloc (Obj.cells #[.int .i64 n.kind,.int .i64 n.index,.int .i64 n.type.kind,.slice B2 n.type.args.length d2,.slice A2 n.args.length c2] 42)=W3 at b3 z3 k0 k1 k2 ⊢
 obtain ⟨b4,z4,k3⟩:=new_blk b3 b3.size #[.int .i64 0,.int .i64 0,.int .i64 0,.slice none 0 0,.slice none 0 0] 42
 have k0:=k0.alloc (Obj.cells #[.int .i64 0,.int .i64 0,.int .i64 0,.slice none 0 0,.slice none 0 0] 42)
 have k1:=k1.alloc (Obj.cells #[.int .i64 0,.int .i64 0,.int .i64 0,.slice none 0 0,.slice none 0 0] 42)
 have k2:=k2.alloc (Obj.cells #[.int .i64 0,.int .i64 0,.int .i64 0,.slice none 0 0,.slice none 0 0] 42)
 generalize W3.alloc (Obj.cells #[.int .i64 0,.int .i64 0,.int .i64 0,.slice none 0 0,.slice none 0 0] 42)=W at b4 z4 k0 k1 k2 k3 ⊢
 rw [z3,z2,z1] at k3
 rw [z2,z1] at k2
 rw [z1] at k1
 have hz:W.heap.size=w.heap.size+4:=by omega
 have HSK:=Lib.hid fun (w':World) (h:Below (w.heap.size+3) W w')=>And.intro ((k0.below h (by omega)).facts5.1) (And.intro ((k0.below h (by omega)).facts5.2.1) (And.intro ((k0.below h (by omega)).facts5.2.2.1) (And.intro ((k0.below h (by omega)).facts5.2.2.2.1) (And.intro ((k0.below h (by omega)).facts5.2.2.2.2.1) (And.intro ((k1.below h (by omega)).facts5.1) (And.intro ((k1.below h (by omega)).facts5.2.1) (And.intro ((k1.below h (by omega)).facts5.2.2.1) (And.intro ((k1.below h (by omega)).facts5.2.2.2.1) (And.intro ((k1.below h (by omega)).facts5.2.2.2.2.1) (And.intro ((k2.below h (by omega)).facts5.1) (And.intro ((k2.below h (by omega)).facts5.2.1) (And.intro ((k2.below h (by omega)).facts5.2.2.1) (And.intro ((k2.below h (by omega)).facts5.2.2.2.1) ((k2.below h (by omega)).facts5.2.2.2.2.1))))))))))))))
 have HB:=Lib.hid (And.intro b4 hz)
 have HK3:=Lib.hid k3
 have HH:=Lib.hid (And.intro (H0.out.boxed b4) (And.intro (H1.out.boxed b4) (H2.out.boxed b4)))
 clear z1 z2 z3 z4 b1 b2 b3 b4 k0 k1 k2 k3 hz
 obtain ⟨q0,q1,q2,q3,q4,q5,q6,q7,q8,q9,q10,q11,q12,q13,q14⟩:=HSK.out W (Below.refl _ _)
 have call:∀ w1:World,Below W.heap.size W w1→Calls Tryz.prog 68 #[.int .i64 6,.agg #[.int .i64 1,.slice none 0 0],.slice (some ⟨w1.heap.size,0,none⟩) 3 3]
     (w1.alloc (Obj.cells #[.int .i64 b.kind,.int .i64 b.index,.int .i64 b.type.kind,.slice B0 b.type.args.length d0,.slice A0 b.args.length c0,.int .i64 f.kind,.int .i64 f.index,.int .i64 f.type.kind,.slice B1 f.type.args.length d1,.slice A1 f.args.length c1,.int .i64 n.kind,.int .i64 n.index,.int .i64 n.type.kind,.slice B2 n.type.args.length d2,.slice A2 n.args.length c2] 42)) fun e w2=>∃ v',e=.returned v'∧IsTm (fun b=>W.heap.size≤b∧b<w2.heap.size) w2 (recTm b f n) v'∧Below W.heap.size W w2:=by
   intro w1 h1
   have hsl:=tm_sl3 (HH.out.1.boxed h1) (HH.out.2.1.boxed h1) (HH.out.2.2.boxed h1)
   have hbo:=h1.alloc h1.size (Obj.cells #[.int .i64 b.kind,.int .i64 b.index,.int .i64 b.type.kind,.slice B0 b.type.args.length d0,.slice A0 b.args.length c0,.int .i64 f.kind,.int .i64 f.index,.int .i64 f.type.kind,.slice B1 f.type.args.length d1,.slice A1 f.args.length c1,.int .i64 n.kind,.int .i64 n.index,.int .i64 n.type.kind,.slice B2 n.type.args.length d2,.slice A2 n.args.length c2] 42)
   refine (t_any 6 (.mk 1 []) [b,f,n] _ _ _ (by simp [Ty.nodes,nodesAll]) (by simp only [bulkAll]; omega) (IsTy.leaf _ _ 1) hsl).mono ?_
   rintro e w2 ⟨v',rfl,h2,h3⟩
   have hs:=hbo.size
   exact ⟨v',rfl,IsTm.keep (fun b h=>⟨by omega,h.2⟩) (fun _ _=>rfl) _ h2,hbo.trans (h3.mono hbo.size)⟩
 have call2:∀ w1:World,Below (W.alloc (Obj.cells #[.int .i64 b.kind,.int .i64 b.index,.int .i64 b.type.kind,.slice B0 b.type.args.length d0,.slice A0 b.args.length c0,.int .i64 f.kind,.int .i64 f.index,.int .i64 f.type.kind,.slice B1 f.type.args.length d1,.slice A1 f.args.length c1,.int .i64 n.kind,.int .i64 n.index,.int .i64 n.type.kind,.slice B2 n.type.args.length d2,.slice A2 n.args.length c2] 42)).heap.size (W.alloc (Obj.cells #[.int .i64 b.kind,.int .i64 b.index,.int .i64 b.type.kind,.slice B0 b.type.args.length d0,.slice A0 b.args.length c0,.int .i64 f.kind,.int .i64 f.index,.int .i64 f.type.kind,.slice B1 f.type.args.length d1,.slice A1 f.args.length c1,.int .i64 n.kind,.int .i64 n.index,.int .i64 n.type.kind,.slice B2 n.type.args.length d2,.slice A2 n.args.length c2] 42)) w1→Calls Tryz.prog 68 #[.int .i64 6,.agg #[.int .i64 1,.slice none 0 0],.slice (some ⟨W.heap.size,0,none⟩) 3 3]
     w1 fun e w2=>∃ v',e=.returned v'∧IsTm (fun b=>W.heap.size≤b∧b<w2.heap.size) w2 (recTm b f n) v'∧Below W.heap.size W w2:=by
   intro w1 h1
   have hsl:=tm_sl3 HH.out.1 HH.out.2.1 HH.out.2.2
   have hsl1:=hsl.keep (S':=(· < w1.heap.size)) (fun b h=>Nat.lt_of_lt_of_le h h1.size) (fun p hp=>h1.cell hp)
   have hbo:Below W.heap.size W w1:=((Below.refl _ _).alloc (Nat.le_refl _) _).trans (h1.mono (by simp))
   refine (t_any 6 (.mk 1 []) [b,f,n] _ _ _ (by simp [Ty.nodes,nodesAll]) (by simp only [bulkAll]; omega) (IsTy.leaf _ _ 1) hsl1).mono ?_
   rintro e w2 ⟨v',rfl,h2,h3⟩
   have hs:=hbo.size
   exact ⟨v',rfl,IsTm.keep (fun b h=>⟨by omega,h.2⟩) (fun _ _=>rfl) _ h2,hbo.trans (h3.mono hbo.size)⟩
 have CALL:=Lib.hid call
 have CALL2:=Lib.hid call2
 have HA:=Lib.hid ((Below.refl W.heap.size W).alloc (Nat.le_refl _) (Obj.cells #[.int .i64 b.kind,.int .i64 b.index,.int .i64 b.type.kind,.slice B0 b.type.args.length d0,.slice A0 b.args.length c0,.int .i64 f.kind,.int .i64 f.index,.int .i64 f.type.kind,.slice B1 f.type.args.length d1,.slice A1 f.args.length c1,.int .i64 n.kind,.int .i64 n.index,.int .i64 n.type.kind,.slice B2 n.type.args.length d2,.slice A2 n.args.length c2] 42))
 have HA':=Lib.hid (((Below.refl W.heap.size W).alloc (Nat.le_refl _) (Obj.cells #[.int .i64 b.kind,.int .i64 b.index,.int .i64 b.type.kind,.slice B0 b.type.args.length d0,.slice A0 b.args.length c0,.int .i64 f.kind,.int .i64 f.index,.int .i64 f.type.kind,.slice B1 f.type.args.length d1,.slice A1 f.args.length c1,.int .i64 n.kind,.int .i64 n.index,.int .i64 n.type.kind,.slice B2 n.type.args.length d2,.slice A2 n.args.length c2] 42)).mono (show w.heap.size+3≤W.heap.size by have:=HB.out.2; omega))
 clear call call2
 go_region_held3 (fun w'=>w'.cell? ⟨w.heap.size,0,none⟩ = some (.int .i64 b.kind)∧w'.cell? ⟨w.heap.size,1,none⟩ = some (.int .i64 b.index)∧w'.cell? ⟨w.heap.size,2,none⟩ = some (.int .i64 b.type.kind)∧w'.cell? ⟨w.heap.size,3,none⟩ = some (.slice B0 b.type.args.length d0)∧w'.cell? ⟨w.heap.size,4,none⟩ = some (.slice A0 b.args.length c0)∧w'.cell? ⟨w.heap.size+1,0,none⟩ = some (.int .i64 f.kind)∧w'.cell? ⟨w.heap.size+1,1,none⟩ = some (.int .i64 f.index)∧w'.cell? ⟨w.heap.size+1,2,none⟩ = some (.int .i64 f.type.kind)∧w'.cell? ⟨w.heap.size+1,3,none⟩ = some (.slice B1 f.type.args.length d1)∧w'.cell? ⟨w.heap.size+1,4,none⟩ = some (.slice A1 f.args.length c1)∧w'.cell? ⟨w.heap.size+1+1,0,none⟩ = some (.int .i64 n.kind)∧w'.cell? ⟨w.heap.size+1+1,1,none⟩ = some (.int .i64 n.index)∧w'.cell? ⟨w.heap.size+1+1,2,none⟩ = some (.int .i64 n.type.kind)∧w'.cell? ⟨w.heap.size+1+1,3,none⟩ = some (.slice B2 n.type.args.length d2)∧w'.cell? ⟨w.heap.size+1+1,4,none⟩ = some (.slice A2 n.args.length c2))
   (first | with_reducible exact HSK.out _ (Below.refl _ _).drew | with_reducible exact HSK.out _ hb2' | with_reducible exact HSK.out _ HA'.out | with_reducible exact HSK.out _ HA'.out.drew | with_reducible exact HSK.out _ hb1' | with_reducible exact HSK.out _ (hb1'.alloc hz1 _) | with_reducible exact HSK.out _ (below_set5 hb2' _ _ _ _ _) | go_keep)
   (first
     | (go_at_call 68
        (with_reducible first | refine (CALL.out _ hb1).mono ?_ | refine (CALL2.out _ hb0).mono ?_)
        rintro e w2 ⟨v',rfl,ht2,hb2⟩
        obtain ⟨B9,d9,A9,c9,rfl,_⟩:=ht2.form
        have HT2:=Lib.hid ht2
        have hb2':Below (w.heap.size+3) W w2:=hb2.mono (by have:=HB.out.2; omega)
        have k1:=HK3.out.below hb2 HK3.out.lt
        obtain ⟨_,_,_,_,_,f0,f1,f2,f3,f4⟩:=k1.facts5)
     | (go_at_call 23
        (with_reducible refine (nat_any (W.alloc (Obj.cells #[.int .i64 b.kind,.int .i64 b.index,.int .i64 b.type.kind,.slice B0 b.type.args.length d0,.slice A0 b.args.length c0,.int .i64 f.kind,.int .i64 f.index,.int .i64 f.type.kind,.slice B1 f.type.args.length d1,.slice A1 f.args.length c1,.int .i64 n.kind,.int .i64 n.index,.int .i64 n.type.kind,.slice B2 n.type.args.length d2,.slice A2 n.args.length c2] 42)).drew).mono ?_)
        rintro e w1 ⟨rfl,hb0⟩
        have hb0:Below (W.alloc (Obj.cells #[.int .i64 b.kind,.int .i64 b.index,.int .i64 b.type.kind,.slice B0 b.type.args.length d0,.slice A0 b.args.length c0,.int .i64 f.kind,.int .i64 f.index,.int .i64 f.type.kind,.slice B1 f.type.args.length d1,.slice A1 f.args.length c1,.int .i64 n.kind,.int .i64 n.index,.int .i64 n.type.kind,.slice B2 n.type.args.length d2,.slice A2 n.args.length c2] 42)).heap.size (W.alloc (Obj.cells #[.int .i64 b.kind,.int .i64 b.index,.int .i64 b.type.kind,.slice B0 b.type.args.length d0,.slice A0 b.args.length c0,.int .i64 f.kind,.int .i64 f.index,.int .i64 f.type.kind,.slice B1 f.type.args.length d1,.slice A1 f.args.length c1,.int .i64 n.kind,.int .i64 n.index,.int .i64 n.type.kind,.slice B2 n.type.args.length d2,.slice A2 n.args.length c2] 42)) w1:=((Below.refl _ (W.alloc (Obj.cells #[.int .i64 b.kind,.int .i64 b.index,.int .i64 b.type.kind,.slice B0 b.type.args.length d0,.slice A0 b.args.length c0,.int .i64 f.kind,.int .i64 f.index,.int .i64 f.type.kind,.slice B1 f.type.args.length d1,.slice A1 f.args.length c1,.int .i64 n.kind,.int .i64 n.index,.int .i64 n.type.kind,.slice B2 n.type.args.length d2,.slice A2 n.args.length c2] 42))).drew).trans hb0
        have hb1':Below (w.heap.size+3) W w1:=HA'.out.trans (hb0.mono (by have:=HB.out.2; simp; omega)))
     | (go_at_call 23
        (with_reducible refine (nat_any _).mono ?_)
        rintro e w1 ⟨rfl,hb1⟩
        have hb1:Below W.heap.size W w1:=((Below.refl _ W).drew).trans hb1
        have hb1':Below (w.heap.size+3) W w1:=hb1.mono (by have:=HB.out.2; omega)
        have hz1:w.heap.size+3≤w1.heap.size:=by have:=HB.out.2; have:=hb1.size; omega))
 all_goals go_wp2_with fail
 all_goals
   (obtain ⟨z0,z1,z2,z3,z4⟩:=(k1.set5 (.int .i64 (recTm b f n).kind) (.int .i64 (recTm b f n).index) (.int .i64 (recTm b f n).type.kind) (.slice B9 (recTm b f n).type.args.length d9) (.slice A9 (recTm b f n).args.length c9)).cells5
    have hg:=only_set5 w2 (w.heap.size+1+1+1) (.int .i64 (recTm b f n).kind) (.int .i64 (recTm b f n).index) (.int .i64 (recTm b f n).type.kind) (.slice B9 (recTm b f n).type.args.length d9) (.slice A9 (recTm b f n).args.length c9)
    have hbw:Below w.heap.size w w2:=HB.out.1.trans (hb2.mono HB.out.1.size)
    have hz:=HB.out.2
    refine bodyPost_ret (v:=.agg #[.int .i64 (recTm b f n).kind,.int .i64 (recTm b f n).index,.int .i64 (recTm b f n).type.kind,.slice B9 (recTm b f n).type.args.length d9,.slice A9 (recTm b f n).args.length c9]) (by simp [results,Tryz.results154,go_sem,z0,z1,z2,z3,z4]) rfl ⟨_,rfl,?_,hbw.grown hg hbw.size (fun k e=>by cases e; omega)⟩
    exact IsTm.keep (fun b h=>⟨by omega,Nat.lt_of_lt_of_le h.2 hg.size⟩) (fun p hp=>World.cell?_of_block (hg.block p.block hp.2 (by simp; omega))) _ HT2.out)

def varTm (i:Int):Tm:=.mk 1 i .zero []
def predTm:Tm:=lamTm (recTm (.mk 4 0 .zero []) (lamTm (lamTm (varTm 1))) (varTm 0))
def plusTm:Tm:=lamTm (lamTm (recTm (varTm 1) (lamTm (lamTm (.mk 5 0 .zero [varTm 0]))) (varTm 0)))
def subTm:Tm:=lamTm (lamTm (recTm (varTm 1) (lamTm (lamTm (.mk 3 0 .zero [predTm,varTm 0]))) (varTm 0)))
theorem freshT_at {w w1 w2:World} {T:Tm} {v:Value} (h:IsTm (fun b=>w.heap.size≤b∧b<w1.heap.size) w1 T v) (hb:Below w1.heap.size w1 w2):IsTm (· < w2.heap.size) w2 T v:=
 IsTm.keep (fun _ h=>Nat.lt_of_lt_of_le h.2 hb.size) (fun _ hp=>hb.cell hp.2) _ h
theorem var_now (w:World) (i:Int):IsTm (· < w.heap.size) w (varTm i) (.agg #[.int .i64 1,.int .i64 i,.int .i64 0,.slice none 0 0,.slice none 0 0]):=var_is _ w i

set_option maxRecDepth 100000 in
set_option maxHeartbeats 1000000 in
theorem pred_any (w:World):Calls Tryz.prog 155 #[] w (FreshT w predTm):=by
 go_enter Tryz.func155,Tryz.ntmps155
 go_wp2_with fail
 obtain ⟨b0,z0,k0⟩:=new_blk (Below.refl w.heap.size w) (Nat.le_refl _) #[.int .i64 0,.int .i64 0,.int .i64 0,.slice none 0 0,.slice none 0 0] 42
 generalize w.alloc (Obj.cells #[.int .i64 0,.int .i64 0,.int .i64 0,.slice none 0 0,.slice none 0 0] 42)=W0 at b0 z0 k0 ⊢
 have HZ:=Lib.hid z0
 clear z0
 refine (n_any 4 [] _ _ (by simp [bulkAll]) (Rep.Sl.nil _ _)).mono ?_
 rintro e W1 ⟨v1,rfl,t1,s0⟩
 obtain ⟨B1,d1,A1,c1,rfl,_⟩:=t1.form
 have t1:=Lib.hid t1
 go_wp2_with fail
 refine (var_any 1 _).mono ?_
 rintro e W2 ⟨rfl,s1⟩
 go_wp2_with fail
 refine (lam5_any (varTm 1) _ _ (by decide) (var_now W2 1)).mono ?_
 rintro e W3 ⟨v3,rfl,t3,s2⟩
 obtain ⟨B3,d3,A3,c3,rfl,_⟩:=t3.form
 have t3:=Lib.hid t3
 go_wp2_with fail
 refine (lam5_any (lamTm (varTm 1)) _ _ (by decide) (freshT_at t3.out (Below.refl _ _))).mono ?_
 rintro e W4 ⟨v4,rfl,t4,s3⟩
 obtain ⟨B4,d4,A4,c4,rfl,_⟩:=t4.form
 have t4:=Lib.hid t4
 go_wp2_with fail
 refine (var_any 0 _).mono ?_
 rintro e W5 ⟨rfl,s4⟩
 go_wp2_with fail
 refine (rec5_any (.mk 4 0 .zero []) (lamTm (lamTm (varTm 1))) (varTm 0) _ _ _ _ (by decide) (freshT_at t1.out ((((((s1).trans (s2.mono (s1).size))).trans (s3.mono (((s1).trans (s2.mono (s1).size))).size))).trans (s4.mono (((((s1).trans (s2.mono (s1).size))).trans (s3.mono (((s1).trans (s2.mono (s1).size))).size))).size))) (freshT_at t4.out s4) (var_now W5 0)).mono ?_
 rintro e W6 ⟨v6,rfl,t6,s5⟩
 obtain ⟨B6,d6,A6,c6,rfl,_⟩:=t6.form
 have t6:=Lib.hid t6
 go_wp2_with fail
 refine (lam5_any (recTm (.mk 4 0 .zero []) (lamTm (lamTm (varTm 1))) (varTm 0)) _ _ (by decide) (freshT_at t6.out (Below.refl _ _))).mono ?_
 rintro e W7 ⟨v7,rfl,t7,s6⟩
 obtain ⟨B7,d7,A7,c7,rfl,_⟩:=t7.form
 have t7:=Lib.hid t7
 have HQ:=Lib.hid (have q1:=s0.trans (s1.mono s0.size); have q2:=q1.trans (s2.mono q1.size); have q3:=q2.trans (s3.mono q2.size); have q4:=q3.trans (s4.mono q3.size); have q5:=q4.trans (s5.mono q4.size); have q6:=q5.trans (s6.mono q5.size); And.intro q6 q5.size)
 have k1:=k0.below HQ.out.1 k0.lt
 obtain ⟨_,_,_,_,_,f0,f1,f2,f3,f4⟩:=k1.facts5
 go_wp2_with fail
 obtain ⟨y0,y1,y2,y3,y4⟩:=(k1.set5 (.int .i64 (Tm.kind (lamTm (recTm (.mk 4 0 .zero []) (lamTm (lamTm (varTm 1))) (varTm 0))))) (.int .i64 (Tm.index (lamTm (recTm (.mk 4 0 .zero []) (lamTm (lamTm (varTm 1))) (varTm 0))))) (.int .i64 (Tm.type (lamTm (recTm (.mk 4 0 .zero []) (lamTm (lamTm (varTm 1))) (varTm 0)))).kind) (.slice B7 (Tm.type (lamTm (recTm (.mk 4 0 .zero []) (lamTm (lamTm (varTm 1))) (varTm 0)))).args.length d7) (.slice A7 (Tm.args (lamTm (recTm (.mk 4 0 .zero []) (lamTm (lamTm (varTm 1))) (varTm 0)))).length c7)).cells5
 have hg:=only_set5 W7 w.heap.size (.int .i64 (Tm.kind (lamTm (recTm (.mk 4 0 .zero []) (lamTm (lamTm (varTm 1))) (varTm 0))))) (.int .i64 (Tm.index (lamTm (recTm (.mk 4 0 .zero []) (lamTm (lamTm (varTm 1))) (varTm 0))))) (.int .i64 (Tm.type (lamTm (recTm (.mk 4 0 .zero []) (lamTm (lamTm (varTm 1))) (varTm 0)))).kind) (.slice B7 (Tm.type (lamTm (recTm (.mk 4 0 .zero []) (lamTm (lamTm (varTm 1))) (varTm 0)))).args.length d7) (.slice A7 (Tm.args (lamTm (recTm (.mk 4 0 .zero []) (lamTm (lamTm (varTm 1))) (varTm 0)))).length c7)
 have hb:=HQ.out.1
 have hp:=HQ.out.2
 have hz:=HZ.out
 have hbw:Below w.heap.size w W7:=b0.trans (hb.mono b0.size)
 refine bodyPost_ret (v:=.agg #[.int .i64 (Tm.kind (lamTm (recTm (.mk 4 0 .zero []) (lamTm (lamTm (varTm 1))) (varTm 0)))),.int .i64 (Tm.index (lamTm (recTm (.mk 4 0 .zero []) (lamTm (lamTm (varTm 1))) (varTm 0)))),.int .i64 (Tm.type (lamTm (recTm (.mk 4 0 .zero []) (lamTm (lamTm (varTm 1))) (varTm 0)))).kind,.slice B7 (Tm.type (lamTm (recTm (.mk 4 0 .zero []) (lamTm (lamTm (varTm 1))) (varTm 0)))).args.length d7,.slice A7 (Tm.args (lamTm (recTm (.mk 4 0 .zero []) (lamTm (lamTm (varTm 1))) (varTm 0)))).length c7]) (by simp [results,Tryz.results155,go_sem,y0,y1,y2,y3,y4]) rfl ⟨_,rfl,?_,hbw.grown hg hbw.size (fun k e=>by cases e; omega)⟩
 exact IsTm.keep (fun b h=>⟨by omega,Nat.lt_of_lt_of_le h.2 hg.size⟩) (fun p hp=>World.cell?_of_block (hg.block p.block hp.2 (by simp; omega))) _ t7.out

set_option maxRecDepth 100000 in
set_option maxHeartbeats 1000000 in
theorem plus_any (w:World):Calls Tryz.prog 73 #[] w (FreshT w plusTm):=by
 go_enter Tryz.func73,Tryz.ntmps73
 go_wp2_with fail
 obtain ⟨b0,z0,k0⟩:=new_blk (Below.refl w.heap.size w) (Nat.le_refl _) #[.int .i64 0,.int .i64 0,.int .i64 0,.slice none 0 0,.slice none 0 0] 42
 generalize w.alloc (Obj.cells #[.int .i64 0,.int .i64 0,.int .i64 0,.slice none 0 0,.slice none 0 0] 42)=W0 at b0 z0 k0 ⊢
 have HZ:=Lib.hid z0
 clear z0
 refine (var_any 1 _).mono ?_
 rintro e W1 ⟨rfl,s0⟩
 go_wp2_with fail
 refine (var_any 0 _).mono ?_
 rintro e W2 ⟨rfl,s1⟩
 go_wp2_with fail
 have hsl3:=tm_sl1 (var_now W2 0)
 refine (n_any 5 [varTm 0] _ _ (by decide) hsl3).mono ?_
 rintro e W3 ⟨v3,rfl,t3,r2⟩
 have s2:=((Below.refl W2.heap.size W2).alloc (Nat.le_refl _) _).trans (r2.mono (by simp))
 have t3:=IsTm.keep (S':=fun b=>W2.heap.size≤b∧b<W3.heap.size) (fun b h=>⟨by have:=h.1; simp at this; omega,h.2⟩) (fun _ _=>rfl) _ t3
 clear hsl3 r2
 obtain ⟨B3,d3,A3,c3,rfl,_⟩:=t3.form
 have t3:=Lib.hid t3
 go_wp2_with fail
 refine (lam5_any (.mk 5 0 .zero [varTm 0]) _ _ (by decide) (freshT_at t3.out (Below.refl _ _))).mono ?_
 rintro e W4 ⟨v4,rfl,t4,s3⟩
 obtain ⟨B4,d4,A4,c4,rfl,_⟩:=t4.form
 have t4:=Lib.hid t4
 go_wp2_with fail
 refine (lam5_any (lamTm (.mk 5 0 .zero [varTm 0])) _ _ (by decide) (freshT_at t4.out (Below.refl _ _))).mono ?_
 rintro e W5 ⟨v5,rfl,t5,s4⟩
 obtain ⟨B5,d5,A5,c5,rfl,_⟩:=t5.form
 have t5:=Lib.hid t5
 go_wp2_with fail
 refine (var_any 0 _).mono ?_
 rintro e W6 ⟨rfl,s5⟩
 go_wp2_with fail
 refine (rec5_any (varTm 1) (lamTm (lamTm (.mk 5 0 .zero [varTm 0]))) (varTm 0) _ _ _ _ (by decide) (var_now W6 1) (freshT_at t5.out s5) (var_now W6 0)).mono ?_
 rintro e W7 ⟨v7,rfl,t7,s6⟩
 obtain ⟨B7,d7,A7,c7,rfl,_⟩:=t7.form
 have t7:=Lib.hid t7
 go_wp2_with fail
 refine (lam5_any (recTm (varTm 1) (lamTm (lamTm (.mk 5 0 .zero [varTm 0]))) (varTm 0)) _ _ (by decide) (freshT_at t7.out (Below.refl _ _))).mono ?_
 rintro e W8 ⟨v8,rfl,t8,s7⟩
 obtain ⟨B8,d8,A8,c8,rfl,_⟩:=t8.form
 have t8:=Lib.hid t8
 go_wp2_with fail
 refine (lam5_any (lamTm (recTm (varTm 1) (lamTm (lamTm (.mk 5 0 .zero [varTm 0]))) (varTm 0))) _ _ (by decide) (freshT_at t8.out (Below.refl _ _))).mono ?_
 rintro e W9 ⟨v9,rfl,t9,s8⟩
 obtain ⟨B9,d9,A9,c9,rfl,_⟩:=t9.form
 have t9:=Lib.hid t9
 have HQ:=Lib.hid (have q1:=s0.trans (s1.mono s0.size); have q2:=q1.trans (s2.mono q1.size); have q3:=q2.trans (s3.mono q2.size); have q4:=q3.trans (s4.mono q3.size); have q5:=q4.trans (s5.mono q4.size); have q6:=q5.trans (s6.mono q5.size); have q7:=q6.trans (s7.mono q6.size); have q8:=q7.trans (s8.mono q7.size); And.intro q8 q7.size)
 have k1:=k0.below HQ.out.1 k0.lt
 obtain ⟨_,_,_,_,_,f0,f1,f2,f3,f4⟩:=k1.facts5
 go_wp2_with fail
 obtain ⟨y0,y1,y2,y3,y4⟩:=(k1.set5 (.int .i64 (Tm.kind (lamTm (lamTm (recTm (varTm 1) (lamTm (lamTm (.mk 5 0 .zero [varTm 0]))) (varTm 0)))))) (.int .i64 (Tm.index (lamTm (lamTm (recTm (varTm 1) (lamTm (lamTm (.mk 5 0 .zero [varTm 0]))) (varTm 0)))))) (.int .i64 (Tm.type (lamTm (lamTm (recTm (varTm 1) (lamTm (lamTm (.mk 5 0 .zero [varTm 0]))) (varTm 0))))).kind) (.slice B9 (Tm.type (lamTm (lamTm (recTm (varTm 1) (lamTm (lamTm (.mk 5 0 .zero [varTm 0]))) (varTm 0))))).args.length d9) (.slice A9 (Tm.args (lamTm (lamTm (recTm (varTm 1) (lamTm (lamTm (.mk 5 0 .zero [varTm 0]))) (varTm 0))))).length c9)).cells5
 have hg:=only_set5 W9 w.heap.size (.int .i64 (Tm.kind (lamTm (lamTm (recTm (varTm 1) (lamTm (lamTm (.mk 5 0 .zero [varTm 0]))) (varTm 0)))))) (.int .i64 (Tm.index (lamTm (lamTm (recTm (varTm 1) (lamTm (lamTm (.mk 5 0 .zero [varTm 0]))) (varTm 0)))))) (.int .i64 (Tm.type (lamTm (lamTm (recTm (varTm 1) (lamTm (lamTm (.mk 5 0 .zero [varTm 0]))) (varTm 0))))).kind) (.slice B9 (Tm.type (lamTm (lamTm (recTm (varTm 1) (lamTm (lamTm (.mk 5 0 .zero [varTm 0]))) (varTm 0))))).args.length d9) (.slice A9 (Tm.args (lamTm (lamTm (recTm (varTm 1) (lamTm (lamTm (.mk 5 0 .zero [varTm 0]))) (varTm 0))))).length c9)
 have hb:=HQ.out.1
 have hp:=HQ.out.2
 have hz:=HZ.out
 have hbw:Below w.heap.size w W9:=b0.trans (hb.mono b0.size)
 refine bodyPost_ret (v:=.agg #[.int .i64 (Tm.kind (lamTm (lamTm (recTm (varTm 1) (lamTm (lamTm (.mk 5 0 .zero [varTm 0]))) (varTm 0))))),.int .i64 (Tm.index (lamTm (lamTm (recTm (varTm 1) (lamTm (lamTm (.mk 5 0 .zero [varTm 0]))) (varTm 0))))),.int .i64 (Tm.type (lamTm (lamTm (recTm (varTm 1) (lamTm (lamTm (.mk 5 0 .zero [varTm 0]))) (varTm 0))))).kind,.slice B9 (Tm.type (lamTm (lamTm (recTm (varTm 1) (lamTm (lamTm (.mk 5 0 .zero [varTm 0]))) (varTm 0))))).args.length d9,.slice A9 (Tm.args (lamTm (lamTm (recTm (varTm 1) (lamTm (lamTm (.mk 5 0 .zero [varTm 0]))) (varTm 0))))).length c9]) (by simp [results,Tryz.results73,go_sem,y0,y1,y2,y3,y4]) rfl ⟨_,rfl,?_,hbw.grown hg hbw.size (fun k e=>by cases e; omega)⟩
 exact IsTm.keep (fun b h=>⟨by omega,Nat.lt_of_lt_of_le h.2 hg.size⟩) (fun p hp=>World.cell?_of_block (hg.block p.block hp.2 (by simp; omega))) _ t9.out

set_option maxRecDepth 100000 in
set_option maxHeartbeats 1000000 in
theorem sub_any (w:World):Calls Tryz.prog 74 #[] w (FreshT w subTm):=by
 go_enter Tryz.func74,Tryz.ntmps74
 go_wp2_with fail
 obtain ⟨b0,z0,k0⟩:=new_blk (Below.refl w.heap.size w) (Nat.le_refl _) #[.int .i64 0,.int .i64 0,.int .i64 0,.slice none 0 0,.slice none 0 0] 42
 generalize w.alloc (Obj.cells #[.int .i64 0,.int .i64 0,.int .i64 0,.slice none 0 0,.slice none 0 0] 42)=W0 at b0 z0 k0 ⊢
 have HZ:=Lib.hid z0
 clear z0
 refine (var_any 1 _).mono ?_
 rintro e W1 ⟨rfl,s0⟩
 go_wp2_with fail
 refine (pred_any _).mono ?_
 rintro e W2 ⟨v2,rfl,t2,s1⟩
 obtain ⟨B2,d2,A2,c2,rfl,_⟩:=t2.form
 have t2:=Lib.hid t2
 go_wp2_with fail
 refine (var_any 0 _).mono ?_
 rintro e W3 ⟨rfl,s2⟩
 go_wp2_with fail
 have hsl4:=tm_sl2 (freshT_at t2.out s2) (var_now W3 0)
 refine (n_any 3 [predTm,varTm 0] _ _ (by decide) hsl4).mono ?_
 rintro e W4 ⟨v4,rfl,t4,r3⟩
 have s3:=((Below.refl W3.heap.size W3).alloc (Nat.le_refl _) _).trans (r3.mono (by simp))
 have t4:=IsTm.keep (S':=fun b=>W3.heap.size≤b∧b<W4.heap.size) (fun b h=>⟨by have:=h.1; simp at this; omega,h.2⟩) (fun _ _=>rfl) _ t4
 clear hsl4 r3
 obtain ⟨B4,d4,A4,c4,rfl,_⟩:=t4.form
 have t4:=Lib.hid t4
 go_wp2_with fail
 refine (lam5_any (.mk 3 0 .zero [predTm,varTm 0]) _ _ (by decide) (freshT_at t4.out (Below.refl _ _))).mono ?_
 rintro e W5 ⟨v5,rfl,t5,s4⟩
 obtain ⟨B5,d5,A5,c5,rfl,_⟩:=t5.form
 have t5:=Lib.hid t5
 go_wp2_with fail
 refine (lam5_any (lamTm (.mk 3 0 .zero [predTm,varTm 0])) _ _ (by decide) (freshT_at t5.out (Below.refl _ _))).mono ?_
 rintro e W6 ⟨v6,rfl,t6,s5⟩
 obtain ⟨B6,d6,A6,c6,rfl,_⟩:=t6.form
 have t6:=Lib.hid t6
 go_wp2_with fail
 refine (var_any 0 _).mono ?_
 rintro e W7 ⟨rfl,s6⟩
 go_wp2_with fail
 refine (rec5_any (varTm 1) (lamTm (lamTm (.mk 3 0 .zero [predTm,varTm 0]))) (varTm 0) _ _ _ _ (by decide) (var_now W7 1) (freshT_at t6.out s6) (var_now W7 0)).mono ?_
 rintro e W8 ⟨v8,rfl,t8,s7⟩
 obtain ⟨B8,d8,A8,c8,rfl,_⟩:=t8.form
 have t8:=Lib.hid t8
 go_wp2_with fail
 refine (lam5_any (recTm (varTm 1) (lamTm (lamTm (.mk 3 0 .zero [predTm,varTm 0]))) (varTm 0)) _ _ (by decide) (freshT_at t8.out (Below.refl _ _))).mono ?_
 rintro e W9 ⟨v9,rfl,t9,s8⟩
 obtain ⟨B9,d9,A9,c9,rfl,_⟩:=t9.form
 have t9:=Lib.hid t9
 go_wp2_with fail
 refine (lam5_any (lamTm (recTm (varTm 1) (lamTm (lamTm (.mk 3 0 .zero [predTm,varTm 0]))) (varTm 0))) _ _ (by decide) (freshT_at t9.out (Below.refl _ _))).mono ?_
 rintro e W10 ⟨v10,rfl,t10,s9⟩
 obtain ⟨B10,d10,A10,c10,rfl,_⟩:=t10.form
 have t10:=Lib.hid t10
 have HQ:=Lib.hid (have q1:=s0.trans (s1.mono s0.size); have q2:=q1.trans (s2.mono q1.size); have q3:=q2.trans (s3.mono q2.size); have q4:=q3.trans (s4.mono q3.size); have q5:=q4.trans (s5.mono q4.size); have q6:=q5.trans (s6.mono q5.size); have q7:=q6.trans (s7.mono q6.size); have q8:=q7.trans (s8.mono q7.size); have q9:=q8.trans (s9.mono q8.size); And.intro q9 q8.size)
 have k1:=k0.below HQ.out.1 k0.lt
 obtain ⟨_,_,_,_,_,f0,f1,f2,f3,f4⟩:=k1.facts5
 go_wp2_with fail
 obtain ⟨y0,y1,y2,y3,y4⟩:=(k1.set5 (.int .i64 (Tm.kind (lamTm (lamTm (recTm (varTm 1) (lamTm (lamTm (.mk 3 0 .zero [predTm,varTm 0]))) (varTm 0)))))) (.int .i64 (Tm.index (lamTm (lamTm (recTm (varTm 1) (lamTm (lamTm (.mk 3 0 .zero [predTm,varTm 0]))) (varTm 0)))))) (.int .i64 (Tm.type (lamTm (lamTm (recTm (varTm 1) (lamTm (lamTm (.mk 3 0 .zero [predTm,varTm 0]))) (varTm 0))))).kind) (.slice B10 (Tm.type (lamTm (lamTm (recTm (varTm 1) (lamTm (lamTm (.mk 3 0 .zero [predTm,varTm 0]))) (varTm 0))))).args.length d10) (.slice A10 (Tm.args (lamTm (lamTm (recTm (varTm 1) (lamTm (lamTm (.mk 3 0 .zero [predTm,varTm 0]))) (varTm 0))))).length c10)).cells5
 have hg:=only_set5 W10 w.heap.size (.int .i64 (Tm.kind (lamTm (lamTm (recTm (varTm 1) (lamTm (lamTm (.mk 3 0 .zero [predTm,varTm 0]))) (varTm 0)))))) (.int .i64 (Tm.index (lamTm (lamTm (recTm (varTm 1) (lamTm (lamTm (.mk 3 0 .zero [predTm,varTm 0]))) (varTm 0)))))) (.int .i64 (Tm.type (lamTm (lamTm (recTm (varTm 1) (lamTm (lamTm (.mk 3 0 .zero [predTm,varTm 0]))) (varTm 0))))).kind) (.slice B10 (Tm.type (lamTm (lamTm (recTm (varTm 1) (lamTm (lamTm (.mk 3 0 .zero [predTm,varTm 0]))) (varTm 0))))).args.length d10) (.slice A10 (Tm.args (lamTm (lamTm (recTm (varTm 1) (lamTm (lamTm (.mk 3 0 .zero [predTm,varTm 0]))) (varTm 0))))).length c10)
 have hb:=HQ.out.1
 have hp:=HQ.out.2
 have hz:=HZ.out
 have hbw:Below w.heap.size w W10:=b0.trans (hb.mono b0.size)
 refine bodyPost_ret (v:=.agg #[.int .i64 (Tm.kind (lamTm (lamTm (recTm (varTm 1) (lamTm (lamTm (.mk 3 0 .zero [predTm,varTm 0]))) (varTm 0))))),.int .i64 (Tm.index (lamTm (lamTm (recTm (varTm 1) (lamTm (lamTm (.mk 3 0 .zero [predTm,varTm 0]))) (varTm 0))))),.int .i64 (Tm.type (lamTm (lamTm (recTm (varTm 1) (lamTm (lamTm (.mk 3 0 .zero [predTm,varTm 0]))) (varTm 0))))).kind,.slice B10 (Tm.type (lamTm (lamTm (recTm (varTm 1) (lamTm (lamTm (.mk 3 0 .zero [predTm,varTm 0]))) (varTm 0))))).args.length d10,.slice A10 (Tm.args (lamTm (lamTm (recTm (varTm 1) (lamTm (lamTm (.mk 3 0 .zero [predTm,varTm 0]))) (varTm 0))))).length c10]) (by simp [results,Tryz.results74,go_sem,y0,y1,y2,y3,y4]) rfl ⟨_,rfl,?_,hbw.grown hg hbw.size (fun k e=>by cases e; omega)⟩
 exact IsTm.keep (fun b h=>⟨by omega,Nat.lt_of_lt_of_le h.2 hg.size⟩) (fun p hp=>World.cell?_of_block (hg.block p.block hp.2 (by simp; omega))) _ t10.out

end Go.Proofs.YtipfnkajdooiiaaGreatDoor
