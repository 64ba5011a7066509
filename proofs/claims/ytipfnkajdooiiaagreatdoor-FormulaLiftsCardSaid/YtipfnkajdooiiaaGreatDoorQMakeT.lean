/- Terms that are made: N, T, Var. -/
import Derived.Test.YtipfnkajdooiiaaGreatDoorQCopyT
namespace Go.Proofs.YtipfnkajdooiiaaGreatDoor
open Go.RowKit

/-- No type. -/
def Ty.zero:Ty:=.mk 0 []

theorem IsTm.mk_parts {S:Nat→Prop} {w:World} {k i:Int} {T:Ty} {l:List Tm} {v:Value} (h:IsTm S w (.mk k i T l) v):∃ B d A c,v=.agg #[.int .i64 k,.int .i64 i,.int .i64 T.kind,.slice B T.args.length d,.slice A l.length c] ∧
   IsTy S w T (.agg #[.int .i64 T.kind,.slice B T.args.length d])∧TmR.Sl S w l (.slice A l.length c):=h.parts
theorem IsTm.zero_parts {S:Nat→Prop} {w:World} {k i:Int} {l:List Tm} {v:Value} (h:IsTm S w (.mk k i .zero l) v):∃ B d A c,v=.agg #[.int .i64 k,.int .i64 i,.int .i64 0,.slice B 0 d,.slice A l.length c] ∧
   IsTy S w .zero (.agg #[.int .i64 0,.slice B 0 d])∧TmR.Sl S w l (.slice A l.length c):=h.parts

set_option maxRecDepth 100000 in
set_option maxHeartbeats 1000000 in
theorem n_any (k:Int) (l:List Tm) (s:Value) (w:World) (hb:bulkAll l≤400000) (hl:TmR.Sl (· < w.heap.size) w l s) :
   Calls Tryz.prog 67 #[.int .i64 k,s] w (FreshT w (.mk k 0 .zero l)):=by
 obtain ⟨A,c,rfl⟩:=hl.form
 have hll:=bulkAll_len l
 have HL:=Lib.hid hl
 clear hl
 go_enter Tryz.func67,Tryz.ntmps67
 go_wp2_with fail
 go_loopw [5,10] (fun s ix wr=>∃ j:Nat,j≤l.length∧ix=.int .i64 j∧TmR.Own (w.heap.size+1≤·) (w.heap.size+1) s (l.take j) wr∧Below w.heap.size w wr ∧
     Blk wr w.heap.size 42 #[.int .i64 0,.int .i64 0,.int .i64 0,.slice none 0 0,.slice none 0 0])
   (fun _ ix _=>l.length - (intOf ix).toNat)
 case atStart=>exact ⟨0,by omega,rfl,Rep.Own.nil _ _ _,(Below.refl _ _).alloc (Nat.le_refl _) _,Blk.new _ _ _⟩
 case round=>
   obtain ⟨j,hj,rfl,hown,hbel,hb1⟩:=hrel
   by_cases hlt:j<l.length
   · have hlr:TmR.Sl (· < w.heap.size) wr l (.slice A l.length c):=HL.out.keep (fun _ h=>h) (fun p hp=>hbel.cell hp)
     obtain ⟨a,rfl,ha,hat⟩:=hlr.get j hlt
     obtain ⟨B1,d1,A1,c1,q0,q1,q2,q3,q4,hx⟩:=at_tm hat
     change wr.cell? (a.add (j * 5))=_ at q0
     simp only [show TmR.n=5 from rfl] at q1 q2 q3 q4
     have hlen:(l.take j).length=j:=by simp; omega
     have hnj:l[j].bulk≤400000:=by have:=bulkAll_get l j hlt; omega
     obtain ⟨i0,hi,hz0,hz1,hz2⟩:=info_parts info_term
     have HLE:=Lib.hid hlen
     have HO:=Lib.hid hown
     clear hlen hown
     go_wp2_with fail
     refine (copyT_any 400000 l[j] _ _ hnj (by omega) (hx.keep (fun b h=>by simp; have:=hbel.size; omega) (fun p hp=>World.cell?_alloc_lt _ _ _ (by have:=hbel.size; omega)))).mono ?_
     rintro e w1 ⟨v',rfl,ht1,hb1'⟩
     obtain ⟨B2,d2,A2,c2,rfl,_⟩:=ht1.form
     have hbw:Below wr.heap.size wr w1:=((Below.refl _ _).alloc (Nat.le_refl _) _).trans (hb1'.mono (by simp))
     obtain ⟨xs,hown,hxs⟩:=HO.out.below hbw
     have hown1:=hown.alloc (.cells #[.int .i64 l[j].kind,.int .i64 l[j].index,.int .i64 l[j].type.kind,.slice B2 l[j].type.args.length d2,.slice A2 l[j].args.length c2] 42)
     have HX:=Lib.hid hxs
     clear hxs hown
     go_wp2_with (at_builtin; go_loud (refine wpList_append_own_at _ rfl _ _ 31 rfl (w.heap.size+1) 42 i0 _ 5 72 Tryz.underlying31 hi hz0 hz1 hz2 rfl (by decide) u5 (l.take j).length xs rfl hown1 ⟨w1.heap.size,0,none⟩ 1 1 [_,_,_,_,_] rfl rfl (cells_new _ _ _) (by simp [Value.oneCell']) (by have:=HLE.out; simp only [maxLen]; omega) (by have:=HLE.out; omega) (by have:=hb1.lt; have:=hbw.size; simp; omega) ?_); intro v2 w2 hown2 hg2 hnil2 hat2)
     obtain ⟨ho2,htu⟩:=copyT_round hlt (by have:=hb1.lt; omega) hown1 HX.out HO.out.lt hbw ht1 hown2 hg2 hat2
     refine ⟨⟨j+1,by omega,by go_num,ho2,Turn.upTo hbel htu (Nat.le_refl _) (by omega),htu.blk hb1 (by omega)⟩,by simp [intOf]; omega⟩
   · have hjl:j=l.length:=by omega
     subst hjl
     rw [List.take_length] at hown
     obtain ⟨A3,c3,rfl⟩:=hown.form
     obtain ⟨r0,r1,r2,r3,r4,f0,f1,f2,f3,f4⟩:=hb1.facts5
     have HO:=Lib.hid hown
     clear hown
     go_wp2_with fail
     obtain ⟨z0,z1,z2,z3,z4⟩:=(hb1.set5 (.int .i64 k) (.int .i64 0) (.int .i64 0) (.slice none 0 0) (.slice A3 l.length c3)).cells5
     refine bodyPost_ret (v:=.agg #[.int .i64 k,.int .i64 0,.int .i64 0,.slice none 0 0,.slice A3 l.length c3]) (by simp [results,Tryz.results67,go_sem,z0,z1,z2,z3,z4]) rfl ⟨_,rfl,?_⟩
     have hg:=only_set5 wr w.heap.size (.int .i64 k) (.int .i64 0) (.int .i64 0) (.slice none 0 0) (.slice A3 l.length c3)
     refine ⟨isTm_iff.2 ⟨rfl,rfl,IsTy.leaf _ _ _,?_⟩,hbel.grown hg hbel.size (fun g e=>by cases e; omega)⟩
     exact (HO.out.far hg (by omega) (by omega)).sl.keep (fun b hb=>by omega) (fun _ _=>rfl)

theorem Blk.set23 {w:World} {g:Nat} {t:TypeId} {x0 x1 x2 x3 x4:Value} (h:Blk w g t #[x0,x1,x2,x3,x4]) (a b:Value):Blk ((w.setCell ⟨g,2,none⟩ a).setCell ⟨g,3,none⟩ b) g t #[x0,x1,a,b,x4]:=by
 simpa using (h.set_ 2 a).set_ 3 b
theorem only_set23 (w:World) (g:Nat) (a b:Value):w.grownBy ((w.setCell ⟨g,2,none⟩ a).setCell ⟨g,3,none⟩ b) (some g):=
 only_setCell (only_setCell (only_refl w (some g)) (p:=⟨g,2,none⟩) (.inl rfl) a) (p:=⟨g,3,none⟩) (.inl rfl) b

theorem var_any (i:Int) (w:World):Calls Tryz.prog 51 #[.int .i64 i] w fun e w'=>e=.returned (.agg #[.int .i64 1,.int .i64 i,.int .i64 0,.slice none 0 0,.slice none 0 0])∧Below w.heap.size w w':=by
 go_enter Tryz.func51,Tryz.ntmps51
 go_wp2_with fail
 exact bodyPost_ret (v:=.agg #[.int .i64 1,.int .i64 i,.int .i64 0,.slice none 0 0,.slice none 0 0]) (by simp [results,Tryz.results51,go_sem]) rfl ⟨rfl,(Below.refl _ _).alloc (Nat.le_refl _) _⟩
theorem var_is (S:Nat→Prop) (w:World) (i:Int):IsTm S w (.mk 1 i .zero []) (.agg #[.int .i64 1,.int .i64 i,.int .i64 0,.slice none 0 0,.slice none 0 0]):=
 isTm_iff.2 ⟨rfl,rfl,IsTy.leaf _ _ _,Rep.Sl.nil _ _⟩

/-- A world with a new block on top. -/
theorem new_blk {w0 w:World} {B:Nat} (h:Below B w0 w) (hB:B≤w.heap.size) (cs:Array Value) (t:TypeId) :
   Below B w0 (w.alloc (.cells cs t))∧(w.alloc (.cells cs t)).heap.size=w.heap.size+1∧Blk (w.alloc (.cells cs t)) w.heap.size t cs:=⟨h.alloc hB _,by simp,Blk.new _ _ _⟩

set_option maxRecDepth 100000 in
set_option maxHeartbeats 1000000 in
theorem t_any (k:Int) (T:Ty) (l:List Tm) (u s:Value) (w:World) (hT0:T.nodes≤400000) (hb:bulkAll l≤400000) (hT:IsTy (· < w.heap.size) w T u) (hl:TmR.Sl (· < w.heap.size) w l s) :
   Calls Tryz.prog 68 #[.int .i64 k,u,s] w (FreshT w (.mk k 0 T l)):=by
 obtain ⟨B,d,rfl⟩:=hT.form
 go_enter Tryz.func68,Tryz.ntmps68
 go_wp2_with fail
 obtain ⟨b1,z1,k0⟩:=new_blk (Below.refl w.heap.size w) (Nat.le_refl _) #[.int .i64 T.kind,.slice B T.args.length d] 30
 generalize w.alloc (Obj.cells #[.int .i64 T.kind,.slice B T.args.length d] 30)=W1 at b1 z1 k0 ⊢
 obtain ⟨b2,z2,k1⟩:=new_blk b1 b1.size #[.int .i64 0,.int .i64 0,.int .i64 0,.slice none 0 0,.slice none 0 0] 42
 have k0:=k0.alloc (Obj.cells #[.int .i64 0,.int .i64 0,.int .i64 0,.slice none 0 0,.slice none 0 0] 42)
 generalize W1.alloc (Obj.cells #[.int .i64 0,.int .i64 0,.int .i64 0,.slice none 0 0,.slice none 0 0] 42)=W2 at b2 z2 k0 k1 ⊢
 rw [z1] at k1 z2
 have hl2:TmR.Sl (· < W2.heap.size) W2 l s:=hl.keep (fun b h=>Nat.lt_of_lt_of_le h b2.size) (fun p hp=>b2.cell hp)
 refine (n_any k l s W2 hb hl2).mono ?_
 rintro e w3 ⟨v,rfl,ht3,hb3⟩
 obtain ⟨D3,d3,A3,c3,rfl,hT3,hl3⟩:=ht3.zero_parts
 have hw3:=hb3.size
 have hT':IsTy (· < w.heap.size) w3 T (.agg #[.int .i64 T.kind,.slice B T.args.length d]):=IsTy.keep (fun _ h=>h) (fun p hp=>(hb3.cell (by omega)).trans (b2.cell hp)) _ hT
 have k0:=k0.below hb3 k0.lt
 have k1:=k1.below hb3 k1.lt
 have p0:=fun o=>(k0.alloc o).facts2.1
 have p1:=fun o=>(k0.alloc o).facts2.2.1
 have HZ:=Lib.hid (And.intro z1 z2)
 have HL3:=Lib.hid hl3
 have HT:=Lib.hid hT'
 clear z1 z2 hl hT hl2 ht3 hT3 hl3 hT'
 go_wp2_with fail
 clear p0 p1
 obtain ⟨b4,z4,k2⟩:=new_blk (Below.refl w3.heap.size w3) (Nat.le_refl _) #[.int .i64 k,.int .i64 0,.int .i64 0,.slice D3 0 d3,.slice A3 l.length c3] 42
 have k1:=k1.below b4 k1.lt
 generalize w3.alloc (Obj.cells #[.int .i64 k,.int .i64 0,.int .i64 0,.slice D3 0 d3,.slice A3 l.length c3] 42)=W4 at b4 z4 k1 k2 ⊢
 refine (copy_any 400000 T (.agg #[.int .i64 T.kind,.slice B T.args.length d]) W4 hT0 (by omega) ?_).mono ?_
 · exact IsTy.keep (fun b h=>by have:=b2.size; have:=b4.size; omega) (fun p hp=>b4.cell (by have:=b2.size; omega)) _ HT.out
 rintro e w5 ⟨v5,rfl,ht5,hb5⟩
 obtain ⟨A5,c5,rfl⟩:=ht5.form
 have k1:=k1.below hb5 k1.lt
 have k2:=k2.below hb5 k2.lt
 have ne:w3.heap.size≠w.heap.size+1:=by have:=HZ.out; omega
 obtain ⟨q0,q1,q2,q3,q4,f0,f1,f2,f3,f4⟩:=k2.facts5
 have k3:=k2.set23 (.int .i64 T.kind) (.slice A5 T.args.length c5)
 obtain ⟨r0,r1,r2,r3,r4,_,_,_,_,_⟩:=k3.facts5
 have k1':=(k1.far (p:=⟨w3.heap.size,2,none⟩) (by simpa using ne.symm) (.int .i64 T.kind)).far (p:=⟨w3.heap.size,3,none⟩) (by simpa using ne.symm) (.slice A5 T.args.length c5)
 obtain ⟨s0,s1,s2,s3,s4,g0,g1,g2,g3,g4⟩:=k1'.facts5
 go_wp2_with fail
 obtain ⟨z0,z1,z2,z3,z4⟩:=(k1'.set5 (.int .i64 k) (.int .i64 0) (.int .i64 T.kind) (.slice A5 T.args.length c5) (.slice A3 l.length c3)).cells5
 refine bodyPost_ret (v:=.agg #[.int .i64 k,.int .i64 0,.int .i64 T.kind,.slice A5 T.args.length c5,.slice A3 l.length c3]) (by simp [results,Tryz.results68,go_sem,z0,z1,z2,z3,z4]) rfl ⟨_,rfl,?_⟩
 have t1:Turn (fun b=>b=w.heap.size+1∨b=w3.heap.size) w5 _:=(Turn.grown (only_set23 w5 w3.heap.size (.int .i64 T.kind) (.slice A5 T.args.length c5)) (fun b e=>by cases e; exact .inr rfl)).trans
   (Turn.grown (only_set5 _ (w.heap.size+1) (.int .i64 k) (.int .i64 0) (.int .i64 T.kind) (.slice A5 T.args.length c5) (.slice A3 l.length c3)) (fun b e=>by cases e; exact .inl rfl))
 obtain ⟨y1,y2⟩:=HZ.out
 have hs5:=hb5.size
 have hs4:=b4.size
 have hs6:=t1.size
 have hb35:Below w3.heap.size w3 w5:=b4.trans (hb5.mono hs4)
 refine ⟨isTm_iff.2 ⟨rfl,rfl,?_,?_⟩,((b2.trans (hb3.mono b2.size)).trans (hb35.mono (by omega))).trans (t1.toBelow (fun b h=>by omega) (by omega))⟩
 · exact IsTy.keep (fun b hb=>by omega) (fun p hp=>World.cell?_of_block (t1.block p.block hp.2 (by omega))) _ ht5
 · exact HL3.out.keep (fun b hb=>by omega) (fun p hp=>(World.cell?_of_block (t1.block p.block (by omega) (by omega))).trans (hb35.cell hp.2))
end Go.Proofs.YtipfnkajdooiiaaGreatDoor
