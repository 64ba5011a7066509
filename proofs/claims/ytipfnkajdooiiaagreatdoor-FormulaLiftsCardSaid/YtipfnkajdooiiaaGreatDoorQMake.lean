/- Types that are made: Fun, Two, and Type of a deck. -/
import Derived.Test.YtipfnkajdooiiaaGreatDoorQTree
import Derived.Deep.RegionHeld3
import Derived.Deep.DeepCutAuto
namespace Go.Proofs.YtipfnkajdooiiaaGreatDoor
open Go.RowKit

theorem cells_kept {n:Nat} {W w1:World} {v0 v1 v2 v3:Value} (h:Below (n+2) W w1) (c0:W.cell? ⟨n,0,none⟩ = some v0) (c1:W.cell? ⟨n,1,none⟩ = some v1)
   (c2:W.cell? ⟨n+1,0,none⟩ = some v2) (c3:W.cell? ⟨n+1,1,none⟩ = some v3) :
   w1.cell? ⟨n,0,none⟩ = some v0∧w1.cell? ⟨n,1,none⟩ = some v1∧w1.cell? ⟨n+1,0,none⟩ = some v2∧w1.cell? ⟨n+1,1,none⟩ = some v3:=
 ⟨(h.cell (by show n<n+2; omega)).trans c0,(h.cell (by show n<n+2; omega)).trans c1,(h.cell (by show n+1<n+2; omega)).trans c2,(h.cell (by show n+1<n+2; omega)).trans c3⟩

theorem pair_end {w W w1 w2 W':World} {S T:Ty} {s0 s1 t0 t1:Value} {m1 m2:Nat} {o:Obj} (k:Int) (hbW:Below w.heap.size w W) (hsz:W.heap.size=w.heap.size+3)
   (hb1:Below W.heap.size W w1) (hb2:Below W.heap.size W w2)
   (hx1:IsTy (fun b=>m1≤b∧b<w1.heap.size) w1 S (.agg #[s0,s1])) (hx2:IsTy (fun b=>m2≤b∧b<w2.heap.size) w2 T (.agg #[t0,t1]))
   (hm1:W.heap.size≤m1) (hb12:Below w1.heap.size w1 w2) (hm2:m2=w1.heap.size) (ho:o=.cells #[s0,s1,t0,t1] 30) (hg:(w2.alloc o).grownBy W' (some (w.heap.size+1+1))) :
   IsTy (fun b=>w.heap.size≤b∧b<W'.heap.size) W' (.mk k [S,T]) (.agg #[.int .i64 k,.slice (some ⟨w2.heap.size,0,none⟩) 2 2])∧Below w.heap.size w W':=by
 have hz1:=hb1.size
 have hz12:=hb12.size
 have hz2:=hg.size
 simp at hz2
 have hblk:Blk W' w2.heap.size 30 #[s0,s1,t0,t1]:=by
   subst ho
   exact (Blk.new w2 _ _).grown hg (by simp; omega)
 have keep:∀ (u:Ty) (x:Value) (m:Nat),W.heap.size≤m→IsTy (fun b=>m≤b∧b<w2.heap.size) w2 u x→IsTy (fun b=>w.heap.size≤b∧b<W'.heap.size) W' u x:=by
   intro u x m hm hu
   refine IsTy.keep (fun b hb=>⟨by omega,by omega⟩) (fun p hp=>?_) _ hu
   exact (World.cell?_of_block (hg.block p.block (by simp; omega) (by simp; omega))).trans (World.cell?_alloc_lt _ _ _ hp.2)
 refine ⟨?_,(hbW.trans (hb2.mono (by omega))).trans (((Below.refl _ _).alloc (by omega) o).grown hg (by simp; omega) (fun g e=>by cases e; omega))⟩
 unfold IsTy
 refine ⟨_,2,rfl,fun _=>⟨_,rfl,⟨by show w.heap.size≤w2.heap.size; omega,by show w2.heap.size<W'.heap.size; omega⟩,?_⟩⟩
 have e0:=hblk.cell 0
 have e1:=hblk.cell 1
 have e2:=hblk.cell 2
 have e3:=hblk.cell 3
 simp at e0 e1 e2 e3
 unfold AreTys
 refine ⟨⟨s0,s1,e0,by simpa [Addr.add] using e1,keep _ _ m1 hm1 (IsTy.keep (fun b hb=>⟨hb.1,by omega⟩) (fun p hp=>hb12.cell hp.2) _ hx1)⟩,?_⟩
 unfold AreTys
 refine ⟨⟨t0,t1,by simpa [Addr.add] using e2,by simpa [Addr.add] using e3,keep _ _ m2 (by omega) hx2⟩,?_⟩
 unfold AreTys
 trivial

set_option maxHeartbeats 1000000 in
theorem fun_any (S T:Ty) (u v:Value) (w:World) (hs:S.nodes≤1000) (ht:T.nodes≤1000) (hS:IsTy (· < w.heap.size) w S u) (hT:IsTy (· < w.heap.size) w T v) :
   Calls Tryz.prog 77 #[u,v] w (Fresh w (.mk 4 [S,T])):=by
 obtain ⟨A,c,rfl⟩:=hS.form
 obtain ⟨B,d,rfl⟩:=hT.form
 go_enter Tryz.func77,Tryz.ntmps77
 go_wp2_with fail
 generalize hW:((w.alloc (Obj.cells #[Value.int IntKind.i64 S.kind,Value.slice A S.args.length c] 30)).alloc (Obj.cells #[Value.int IntKind.i64 T.kind,Value.slice B T.args.length d] 30)).alloc (Obj.cells #[Value.int IntKind.i64 0,Value.slice none 0 0] 30)=W
 have hsz:W.heap.size=w.heap.size+3:=by rw [← hW]; simp
 have hbW:Below w.heap.size w W:=by rw [← hW]; exact (((Below.refl _ _).alloc (Nat.le_refl _) _).alloc (by simp) _).alloc (by simp; omega) _
 have b0:Blk W w.heap.size 30 #[.int .i64 S.kind,.slice A S.args.length c]:=by rw [← hW]; exact ((Blk.new _ _ _).alloc _).alloc _
 have b1:Blk W (w.heap.size+1) 30 #[.int .i64 T.kind,.slice B T.args.length d]:=by
   rw [← hW]; have:=(Blk.new (w.alloc (Obj.cells #[Value.int IntKind.i64 S.kind,Value.slice A S.args.length c] 30)) 30 #[.int .i64 T.kind,.slice B T.args.length d]).alloc (Obj.cells #[Value.int IntKind.i64 0,Value.slice none 0 0] 30); simpa using this
 have b2:Blk W (w.heap.size+1+1) 30 #[.int .i64 0,.slice none 0 0]:=by
   rw [← hW]; have:=Blk.new ((w.alloc (Obj.cells #[Value.int IntKind.i64 S.kind,Value.slice A S.args.length c] 30)).alloc (Obj.cells #[Value.int IntKind.i64 T.kind,Value.slice B T.args.length d] 30)) 30 #[.int .i64 0,.slice none 0 0]; simpa using this
 have hS':=hS.keep (S':=(· < w.heap.size)) (fun _ h=>h) (fun p hp=>hbW.cell hp)
 have hT':=hT.keep (S':=(· < w.heap.size)) (fun _ h=>h) (fun p hp=>hbW.cell hp)
 have c0:=b0.cell 0
 have c1:=b0.cell 1
 have c2:=b1.cell 0
 have c3:=b1.cell 1
 simp at c0 c1 c2 c3
 have HS:=Lib.hid hS'
 have HT:=Lib.hid hT'
 have HW:=Lib.hid hW
 have Hsz:=Lib.hid hsz
 have HbW:=Lib.hid hbW
 have HB0:=Lib.hid b0
 have HB1:=Lib.hid b1
 have HB2:=Lib.hid b2
 clear hS hT hS' hT' hW hsz hbW b0 b1 b2
 have HSK:=Lib.hid fun (w1:World) (h:Below (w.heap.size+2) W w1)=>And.intro h (cells_kept h c0 c1 c2 c3)
 go_region_held3 (fun w'=>Below (w.heap.size+2) W w'∧w'.cell? ⟨w.heap.size,0,none⟩ = some (.int .i64 S.kind)∧w'.cell? ⟨w.heap.size,1,none⟩ = some (.slice A S.args.length c) ∧
     w'.cell? ⟨w.heap.size+1,0,none⟩ = some (.int .i64 T.kind)∧w'.cell? ⟨w.heap.size+1,1,none⟩ = some (.slice B T.args.length d)) (first | exact HSK.out _ (Below.refl _ _).drew | exact HSK.out _ hbw1 | exact HSK.out _ hbw2 | exact HSK.out _ (hbw2.alloc (by omega) _) | exact HSK.out _ (((hbw2.alloc (by omega) _).setCell (by simp) _).setCell (by simp) _) | go_keep)
   (first
     | (go_at_call 143
        (with_reducible refine (copy_any 1000 T (.agg #[.int .i64 T.kind,.slice B T.args.length d]) _ ht (by omega) ?_).mono ?_)
        · exact IsTy.keep (S:=(· < w.heap.size)) (w:=W) (fun b h=>by have:=Hsz.out; have:=hbw1.size; omega) (fun p hp=>hbw1.cell (by omega)) T HT.out
        rintro e w2 ⟨x2,rfl,hx2,hbx2⟩
        obtain ⟨A2,c2',rfl⟩:=hx2.form
        have hbs2:Below W.heap.size W w2:=hbs1.trans (hbx2.mono hbs1.size)
        have hbw2:Below (w.heap.size+2) W w2:=hbs2.mono (by have:=Hsz.out; omega)
        have r0:=HB2.out.below hbs2 (by have:=Hsz.out; omega)
        have r00:=fun o=>(r0.alloc o).cell 0
        have r01:=fun o=>(r0.alloc o).cell 1
        have rf0:=fun o=>(r0.alloc o).frozen 0
        have rf1:=fun o=>(r0.alloc o).frozen 1
        simp at r00 r01
        have hz2:w.heap.size+3≤w2.heap.size:=by have:=Hsz.out; have:=hbw2.size; omega)
     | (go_at_call 143
        (with_reducible refine (copy_any 1000 S (.agg #[.int .i64 S.kind,.slice A S.args.length c]) _ hs (by omega) ?_).mono ?_)
        · exact IsTy.keep (S:=(· < w.heap.size)) (w:=W) (w':=W.drew) (fun b h=>by have:=Hsz.out; show b<W.heap.size; omega) (fun p _=>World.cell?_drew W p) S HS.out
        rintro e w1 ⟨x1,rfl,hx1,hbx1⟩
        obtain ⟨A1,c1',rfl⟩:=hx1.form
        have hbs1:Below W.heap.size W w1:=((Below.refl _ W).drew).trans (hbx1.mono (Nat.le_refl _))
        have hbw1:Below (w.heap.size+2) W w1:=hbs1.mono (by have:=Hsz.out; omega)))
 go_wp2_with fail
 have hK2:=(r0.alloc (.cells #[.int .i64 S.kind,.slice A1 S.args.length c1',.int .i64 T.kind,.slice A2 T.args.length c2'] 30)).set2 (.int .i64 4) (.slice (some ⟨w2.heap.size,0,none⟩) 2 2)
 have k0:=hK2.cell 0
 have k1:=hK2.cell 1
 simp at k0 k1
 refine bodyPost_ret (v:=.agg #[.int .i64 4,.slice (some ⟨w2.heap.size,0,none⟩) 2 2]) (by simp [results,Tryz.results77,go_sem,k0,k1]) rfl ⟨_,rfl,?_⟩
 exact pair_end 4 HbW.out Hsz.out hbs1 hbs2 hx1 hx2 (by show W.heap.size≤W.heap.size; omega) hbx2 rfl rfl (only_set2 _ (w.heap.size+1+1) _ _)
set_option maxHeartbeats 1000000 in
theorem two_any (S T:Ty) (u v:Value) (w:World) (hs:S.nodes≤1000) (ht:T.nodes≤1000) (hS:IsTy (· < w.heap.size) w S u) (hT:IsTy (· < w.heap.size) w T v) :
   Calls Tryz.prog 76 #[u,v] w (Fresh w (.mk 3 [S,T])):=by
 obtain ⟨A,c,rfl⟩:=hS.form
 obtain ⟨B,d,rfl⟩:=hT.form
 go_enter Tryz.func76,Tryz.ntmps76
 go_wp2_with fail
 generalize hW:((w.alloc (Obj.cells #[Value.int IntKind.i64 S.kind,Value.slice A S.args.length c] 30)).alloc (Obj.cells #[Value.int IntKind.i64 T.kind,Value.slice B T.args.length d] 30)).alloc (Obj.cells #[Value.int IntKind.i64 0,Value.slice none 0 0] 30)=W
 have hsz:W.heap.size=w.heap.size+3:=by rw [← hW]; simp
 have hbW:Below w.heap.size w W:=by rw [← hW]; exact (((Below.refl _ _).alloc (Nat.le_refl _) _).alloc (by simp) _).alloc (by simp; omega) _
 have b0:Blk W w.heap.size 30 #[.int .i64 S.kind,.slice A S.args.length c]:=by rw [← hW]; exact ((Blk.new _ _ _).alloc _).alloc _
 have b1:Blk W (w.heap.size+1) 30 #[.int .i64 T.kind,.slice B T.args.length d]:=by
   rw [← hW]; have:=(Blk.new (w.alloc (Obj.cells #[Value.int IntKind.i64 S.kind,Value.slice A S.args.length c] 30)) 30 #[.int .i64 T.kind,.slice B T.args.length d]).alloc (Obj.cells #[Value.int IntKind.i64 0,Value.slice none 0 0] 30); simpa using this
 have b2:Blk W (w.heap.size+1+1) 30 #[.int .i64 0,.slice none 0 0]:=by
   rw [← hW]; have:=Blk.new ((w.alloc (Obj.cells #[Value.int IntKind.i64 S.kind,Value.slice A S.args.length c] 30)).alloc (Obj.cells #[Value.int IntKind.i64 T.kind,Value.slice B T.args.length d] 30)) 30 #[.int .i64 0,.slice none 0 0]; simpa using this
 have hS':=hS.keep (S':=(· < w.heap.size)) (fun _ h=>h) (fun p hp=>hbW.cell hp)
 have hT':=hT.keep (S':=(· < w.heap.size)) (fun _ h=>h) (fun p hp=>hbW.cell hp)
 have c0:=b0.cell 0
 have c1:=b0.cell 1
 have c2:=b1.cell 0
 have c3:=b1.cell 1
 simp at c0 c1 c2 c3
 have HS:=Lib.hid hS'
 have HT:=Lib.hid hT'
 have HW:=Lib.hid hW
 have Hsz:=Lib.hid hsz
 have HbW:=Lib.hid hbW
 have HB0:=Lib.hid b0
 have HB1:=Lib.hid b1
 have HB2:=Lib.hid b2
 clear hS hT hS' hT' hW hsz hbW b0 b1 b2
 have HSK:=Lib.hid fun (w1:World) (h:Below (w.heap.size+2) W w1)=>And.intro h (cells_kept h c0 c1 c2 c3)
 go_region_held3 (fun w'=>Below (w.heap.size+2) W w'∧w'.cell? ⟨w.heap.size,0,none⟩ = some (.int .i64 S.kind)∧w'.cell? ⟨w.heap.size,1,none⟩ = some (.slice A S.args.length c) ∧
     w'.cell? ⟨w.heap.size+1,0,none⟩ = some (.int .i64 T.kind)∧w'.cell? ⟨w.heap.size+1,1,none⟩ = some (.slice B T.args.length d)) (first | exact HSK.out _ (Below.refl _ _).drew | exact HSK.out _ hbw1 | exact HSK.out _ hbw2 | exact HSK.out _ (hbw2.alloc (by omega) _) | exact HSK.out _ (((hbw2.alloc (by omega) _).setCell (by simp) _).setCell (by simp) _) | go_keep)
   (first
     | (go_at_call 143
        (with_reducible refine (copy_any 1000 T (.agg #[.int .i64 T.kind,.slice B T.args.length d]) _ ht (by omega) ?_).mono ?_)
        · exact IsTy.keep (S:=(· < w.heap.size)) (w:=W) (fun b h=>by have:=Hsz.out; have:=hbw1.size; omega) (fun p hp=>hbw1.cell (by omega)) T HT.out
        rintro e w2 ⟨x2,rfl,hx2,hbx2⟩
        obtain ⟨A2,c2',rfl⟩:=hx2.form
        have hbs2:Below W.heap.size W w2:=hbs1.trans (hbx2.mono hbs1.size)
        have hbw2:Below (w.heap.size+2) W w2:=hbs2.mono (by have:=Hsz.out; omega)
        have r0:=HB2.out.below hbs2 (by have:=Hsz.out; omega)
        have r00:=fun o=>(r0.alloc o).cell 0
        have r01:=fun o=>(r0.alloc o).cell 1
        have rf0:=fun o=>(r0.alloc o).frozen 0
        have rf1:=fun o=>(r0.alloc o).frozen 1
        simp at r00 r01
        have hz2:w.heap.size+3≤w2.heap.size:=by have:=Hsz.out; have:=hbw2.size; omega)
     | (go_at_call 143
        (with_reducible refine (copy_any 1000 S (.agg #[.int .i64 S.kind,.slice A S.args.length c]) _ hs (by omega) ?_).mono ?_)
        · exact IsTy.keep (S:=(· < w.heap.size)) (w:=W) (w':=W.drew) (fun b h=>by have:=Hsz.out; show b<W.heap.size; omega) (fun p _=>World.cell?_drew W p) S HS.out
        rintro e w1 ⟨x1,rfl,hx1,hbx1⟩
        obtain ⟨A1,c1',rfl⟩:=hx1.form
        have hbs1:Below W.heap.size W w1:=((Below.refl _ W).drew).trans (hbx1.mono (Nat.le_refl _))
        have hbw1:Below (w.heap.size+2) W w1:=hbs1.mono (by have:=Hsz.out; omega)))
 go_wp2_with fail
 have hK2:=(r0.alloc (.cells #[.int .i64 S.kind,.slice A1 S.args.length c1',.int .i64 T.kind,.slice A2 T.args.length c2'] 30)).set2 (.int .i64 3) (.slice (some ⟨w2.heap.size,0,none⟩) 2 2)
 have k0:=hK2.cell 0
 have k1:=hK2.cell 1
 simp at k0 k1
 refine bodyPost_ret (v:=.agg #[.int .i64 3,.slice (some ⟨w2.heap.size,0,none⟩) 2 2]) (by simp [results,Tryz.results76,go_sem,k0,k1]) rfl ⟨_,rfl,?_⟩
 exact pair_end 3 HbW.out Hsz.out hbs1 hbs2 hx1 hx2 (by show W.heap.size≤W.heap.size; omega) hbx2 rfl rfl (only_set2 _ (w.heap.size+1+1) _ _)
mutual
/-- A valid type, but for its size. -/
def Ty.ok:Ty→Bool
 | .mk k l=>(l.isEmpty && (k == 1 || k == 2 || k == 5) || l.length == 2 && (k == 3 || k == 4)) && okAll l
def okAll:List Ty→Bool
 | []=>true
 | t :: r=>t.ok && okAll r
end

/-- What Type makes. -/
def TypeR (g d:Nat) (w:World) (e:Ending) (w':World):Prop:=
 ∃ T v,e=.returned v∧T.ok=true∧T.nodes+1≤2 ^ (d+1)∧IsTy (fun b=>w.heap.size≤b∧b<w'.heap.size) w' T v∧Deck w' g∧w.grownBy w' (some g)

theorem Blk.facts2 {w:World} {g:Nat} {t:TypeId} {a b:Value} (h:Blk w g t #[a,b]) :
   w.cell? ⟨g,0,none⟩ = some a∧w.cell? ⟨g,1,none⟩ = some b∧w.frozen? ⟨g,0,none⟩ = false∧w.frozen? ⟨g,1,none⟩ = false:=
 ⟨by simpa using h.cell 0,by simpa using h.cell 1,h.frozen 0,h.frozen 1⟩

theorem Deck.lt {w:World} {g:Nat} (h:Deck w g):g<w.heap.size:=by
 obtain ⟨_,_,_,_,h,_⟩:=h
 exact h.lt

theorem type_end {w w2:World} {g m:Nat} {T:Ty} {v x y:Value} (hgw:g<w.heap.size) (hd:Deck w2 g) (hg:w.grownBy w2 (some g)) (hm:w.heap.size+1≤m)
   (ht:IsTy (fun b=>m≤b∧b<w2.heap.size) w2 T v) :
   IsTy (fun b=>w.heap.size≤b∧b<((w2.setCell ⟨w.heap.size,0,none⟩ x).setCell ⟨w.heap.size,1,none⟩ y).heap.size) ((w2.setCell ⟨w.heap.size,0,none⟩ x).setCell ⟨w.heap.size,1,none⟩ y) T v ∧
     Deck ((w2.setCell ⟨w.heap.size,0,none⟩ x).setCell ⟨w.heap.size,1,none⟩ y) g∧w.grownBy ((w2.setCell ⟨w.heap.size,0,none⟩ x).setCell ⟨w.heap.size,1,none⟩ y) (some g):=by
 have h2:=only_set2 w2 w.heap.size x y
 refine ⟨IsTy.keep (fun b hb=>⟨by omega,Nat.lt_of_lt_of_le hb.2 h2.size⟩) (fun p hp=>World.cell?_of_block (h2.block p.block hp.2 (by simp; omega))) _ ht,
   hd.grown h2 (fun k e=>by cases e; exact hgw),?_⟩
 exact only_setCell (only_setCell hg (p:=⟨w.heap.size,0,none⟩) (.inr (Nat.le_refl _)) x) (p:=⟨w.heap.size,1,none⟩) (.inr (Nat.le_refl _)) y

theorem IsTy.grown {w w':World} {g m:Nat} {T:Ty} {v:Value} (h:IsTy (fun b=>m≤b∧b<w.heap.size) w T v) (hg:w.grownBy w' (some g)) (hm:g<m):IsTy (fun b=>m≤b∧b<w'.heap.size) w' T v:=
 IsTy.keep (fun b hb=>⟨hb.1,Nat.lt_of_lt_of_le hb.2 hg.size⟩) (fun p hp=>World.cell?_of_block (hg.block p.block hp.2 (by simp; omega))) _ h

theorem pow_two_bound (a b d:Nat) (h1:a+1≤2 ^ (d+1)) (h2:b+1≤2 ^ (d+1)):1+(a+(b+0))+1≤2 ^ (d+1+1):=by
 rw [Nat.pow_succ 2 (d+1)]; omega
theorem pow_small (a d:Nat) (hd:d≤8) (h:a+1≤2 ^ (d+1)):a≤1000:=by
 have:=Nat.pow_le_pow_right (n:=2) (by omega) (show d+1≤9 by omega)
 have e:2 ^ 9=512:=by decide
 omega

theorem leaf_size {k:Int} (d:Nat):(Ty.mk k []).nodes+1≤2 ^ (d+1):=by
 have:=Nat.pow_le_pow_right (n:=2) (by omega) (show 1≤d+1 by omega)
 simp only [Ty.nodes,nodesAll]
 omega

set_option maxHeartbeats 4000000 in
theorem type_any (d:Nat):∀ (n:Int) (g:Nat) (w:World),0≤n→n≤d→d≤8→Deck w g →
   Calls Tryz.prog 17 #[.pointer (some ⟨g,0,none⟩),.int .i64 n] w (TypeR g d w):=by
 induction d using Nat.strongRecOn with
 | _ d ih=>
   intro n g w h0 h1 h8 hd
   have IH:=Lib.hid ih
   have hgw:=hd.lt
   clear ih
   go_enter Tryz.func17,Tryz.ntmps17
   go_wp2_with fail
   refine (next_any g 7 _ (by omega) (by omega) (hd.grown (World.grownBy_alloc w _ none) (by simp))).mono ?_
   rintro e w1 ⟨r,rfl,hr0,hr7,hd1,hg1⟩
   have hb1:Blk w1 w.heap.size 30 #[.int .i64 0,.slice none 0 0]:=(Blk.new w _ _).grown hg1 (by simp; omega)
   have hgw1:w.grownBy w1 (some g):=only_trans (World.grownBy_alloc w _ (some g)) hg1
   have hr:r=0∨r=1∨r=2∨r=3∨r=4∨r=5∨r=6:=by omega
   rcases hr with rfl | rfl | rfl | rfl | rfl | rfl | rfl
   · go_wp2_with (go_at_call 23; refine (nat_any _).mono ?_; rintro e w2 ⟨rfl,hb2⟩; obtain ⟨k0,k1,f0,f1⟩:=(hb1.below hb2 hb1.lt).facts2)
     obtain ⟨q0,q1,_,_⟩:=((hb1.below hb2 hb1.lt).set2 (.int .i64 1) (.slice none 0 0)).facts2
     exact bodyPost_ret (v:=.agg #[.int .i64 1,.slice none 0 0]) (by simp [results,Tryz.results17,go_sem,q0,q1]) rfl
       ⟨.mk 1 [],_,rfl,by decide,leaf_size _,type_end hgw (hd1.grown (only_of_below hb2 none) (by simp)) (only_trans hgw1 (only_of_below hb2 _)) (Nat.le_refl _) (IsTy.leaf _ _ _)⟩
   · go_wp2_with (go_at_call 23; refine (nat_any _).mono ?_; rintro e w2 ⟨rfl,hb2⟩; obtain ⟨k0,k1,f0,f1⟩:=(hb1.below hb2 hb1.lt).facts2)
     obtain ⟨q0,q1,_,_⟩:=((hb1.below hb2 hb1.lt).set2 (.int .i64 1) (.slice none 0 0)).facts2
     exact bodyPost_ret (v:=.agg #[.int .i64 1,.slice none 0 0]) (by simp [results,Tryz.results17,go_sem,q0,q1]) rfl
       ⟨.mk 1 [],_,rfl,by decide,leaf_size _,type_end hgw (hd1.grown (only_of_below hb2 none) (by simp)) (only_trans hgw1 (only_of_below hb2 _)) (Nat.le_refl _) (IsTy.leaf _ _ _)⟩
   · go_wp2_with (go_at_call 23; refine (nat_any _).mono ?_; rintro e w2 ⟨rfl,hb2⟩; obtain ⟨k0,k1,f0,f1⟩:=(hb1.below hb2 hb1.lt).facts2)
     obtain ⟨q0,q1,_,_⟩:=((hb1.below hb2 hb1.lt).set2 (.int .i64 1) (.slice none 0 0)).facts2
     exact bodyPost_ret (v:=.agg #[.int .i64 1,.slice none 0 0]) (by simp [results,Tryz.results17,go_sem,q0,q1]) rfl
       ⟨.mk 1 [],_,rfl,by decide,leaf_size _,type_end hgw (hd1.grown (only_of_below hb2 none) (by simp)) (only_trans hgw1 (only_of_below hb2 _)) (Nat.le_refl _) (IsTy.leaf _ _ _)⟩
   · go_wp2_with (go_at_call 70; refine (list_any _).mono ?_; rintro e w2 ⟨rfl,hb2⟩; obtain ⟨k0,k1,f0,f1⟩:=(hb1.below hb2 hb1.lt).facts2)
     obtain ⟨q0,q1,_,_⟩:=((hb1.below hb2 hb1.lt).set2 (.int .i64 2) (.slice none 0 0)).facts2
     exact bodyPost_ret (v:=.agg #[.int .i64 2,.slice none 0 0]) (by simp [results,Tryz.results17,go_sem,q0,q1]) rfl
       ⟨.mk 2 [],_,rfl,by decide,leaf_size _,type_end hgw (hd1.grown (only_of_below hb2 none) (by simp)) (only_trans hgw1 (only_of_below hb2 _)) (Nat.le_refl _) (IsTy.leaf _ _ _)⟩
   · go_wp2_with (go_at_call 75; refine (unit_any _).mono ?_; rintro e w2 ⟨rfl,hb2⟩; obtain ⟨k0,k1,f0,f1⟩:=(hb1.below hb2 hb1.lt).facts2)
     obtain ⟨q0,q1,_,_⟩:=((hb1.below hb2 hb1.lt).set2 (.int .i64 5) (.slice none 0 0)).facts2
     exact bodyPost_ret (v:=.agg #[.int .i64 5,.slice none 0 0]) (by simp [results,Tryz.results17,go_sem,q0,q1]) rfl
       ⟨.mk 5 [],_,rfl,by decide,leaf_size _,type_end hgw (hd1.grown (only_of_below hb2 none) (by simp)) (only_trans hgw1 (only_of_below hb2 _)) (Nat.le_refl _) (IsTy.leaf _ _ _)⟩
   · by_cases hn:1≤n
     · obtain ⟨d,rfl⟩:∃ c,d=c+1:=⟨d - 1,by omega⟩
       go_wp2_with fail
       refine (IH.out d (by omega) (n - 1) g w1 (by omega) (by omega) (by omega) hd1).mono ?_
       rintro e w2 ⟨S,s,rfl,okS,szS,tyS,hd2,hg2⟩
       go_wp2_with fail
       refine (IH.out d (by omega) (n - 1) g w2 (by omega) (by omega) (by omega) hd2).mono ?_
       rintro e w3 ⟨T,t,rfl,okT,szT,tyT,hd3,hg3⟩
       have hw1:=hg1.size
       have hw2:=hg2.size
       have hw3:=hg3.size
       simp at hw1
       have tyS3:=tyS.grown hg3 (by omega)
       go_wp2_with fail
       refine (two_any S T s t w3 (pow_small _ d (by omega) szS) (pow_small _ d (by omega) szT) (IsTy.keep (fun b hb=>hb.2) (fun _ _=>rfl) _ tyS3) (IsTy.keep (fun b hb=>hb.2) (fun _ _=>rfl) _ tyT)).mono ?_
       rintro e w4 ⟨v,rfl,tyv,hb4⟩
       obtain ⟨A,c,rfl⟩:=tyv.form
       have hb3:Blk w3 w.heap.size 30 #[.int .i64 0,.slice none 0 0]:=(hb1.grown hg2 (by simp; omega)).grown hg3 (by simp; omega)
       obtain ⟨k0,k1,f0,f1⟩:=(hb3.below hb4 hb3.lt).facts2
       go_wp2_with fail
       obtain ⟨q0,q1,_,_⟩:=((hb3.below hb4 hb3.lt).set2 (.int .i64 (Ty.mk 3 [S,T]).kind) (.slice A (Ty.mk 3 [S,T]).args.length c)).facts2
       exact bodyPost_ret (v:=.agg #[.int .i64 (Ty.mk 3 [S,T]).kind,.slice A (Ty.mk 3 [S,T]).args.length c]) (by simp [results,Tryz.results17,go_sem,q0,q1]) rfl
         ⟨.mk 3 [S,T],_,rfl,by simp [Ty.ok,okAll,okS,okT],pow_two_bound _ _ _ szS szT,type_end hgw (hd3.grown (only_of_below hb4 none) (by simp)) (only_trans (only_trans (only_trans hgw1 hg2) hg3) (only_of_below hb4 _)) (by omega) tyv⟩
     · have hn0:n≤0:=by omega
       go_wp2_with (go_at_call 23; refine (nat_any _).mono ?_; rintro e w2 ⟨rfl,hb2⟩; obtain ⟨k0,k1,f0,f1⟩:=(hb1.below hb2 hb1.lt).facts2)
       obtain ⟨q0,q1,_,_⟩:=((hb1.below hb2 hb1.lt).set2 (.int .i64 1) (.slice none 0 0)).facts2
       exact bodyPost_ret (v:=.agg #[.int .i64 1,.slice none 0 0]) (by simp [results,Tryz.results17,go_sem,q0,q1]) rfl
         ⟨.mk 1 [],_,rfl,by decide,leaf_size _,type_end hgw (hd1.grown (only_of_below hb2 none) (by simp)) (only_trans hgw1 (only_of_below hb2 _)) (Nat.le_refl _) (IsTy.leaf _ _ _)⟩
   · by_cases hn:1≤n
     · obtain ⟨d,rfl⟩:∃ c,d=c+1:=⟨d - 1,by omega⟩
       go_wp2_with fail
       refine (IH.out d (by omega) (n - 1) g w1 (by omega) (by omega) (by omega) hd1).mono ?_
       rintro e w2 ⟨S,s,rfl,okS,szS,tyS,hd2,hg2⟩
       go_wp2_with fail
       refine (IH.out d (by omega) (n - 1) g w2 (by omega) (by omega) (by omega) hd2).mono ?_
       rintro e w3 ⟨T,t,rfl,okT,szT,tyT,hd3,hg3⟩
       have hw1:=hg1.size
       have hw2:=hg2.size
       have hw3:=hg3.size
       simp at hw1
       have tyS3:=tyS.grown hg3 (by omega)
       go_wp2_with fail
       refine (fun_any S T s t w3 (pow_small _ d (by omega) szS) (pow_small _ d (by omega) szT) (IsTy.keep (fun b hb=>hb.2) (fun _ _=>rfl) _ tyS3) (IsTy.keep (fun b hb=>hb.2) (fun _ _=>rfl) _ tyT)).mono ?_
       rintro e w4 ⟨v,rfl,tyv,hb4⟩
       obtain ⟨A,c,rfl⟩:=tyv.form
       have hb3:Blk w3 w.heap.size 30 #[.int .i64 0,.slice none 0 0]:=(hb1.grown hg2 (by simp; omega)).grown hg3 (by simp; omega)
       obtain ⟨k0,k1,f0,f1⟩:=(hb3.below hb4 hb3.lt).facts2
       go_wp2_with fail
       obtain ⟨q0,q1,_,_⟩:=((hb3.below hb4 hb3.lt).set2 (.int .i64 (Ty.mk 4 [S,T]).kind) (.slice A (Ty.mk 4 [S,T]).args.length c)).facts2
       exact bodyPost_ret (v:=.agg #[.int .i64 (Ty.mk 4 [S,T]).kind,.slice A (Ty.mk 4 [S,T]).args.length c]) (by simp [results,Tryz.results17,go_sem,q0,q1]) rfl
         ⟨.mk 4 [S,T],_,rfl,by simp [Ty.ok,okAll,okS,okT],pow_two_bound _ _ _ szS szT,type_end hgw (hd3.grown (only_of_below hb4 none) (by simp)) (only_trans (only_trans (only_trans hgw1 hg2) hg3) (only_of_below hb4 _)) (by omega) tyv⟩
     · have hn0:n≤0:=by omega
       go_wp2_with (go_at_call 23; refine (nat_any _).mono ?_; rintro e w2 ⟨rfl,hb2⟩; obtain ⟨k0,k1,f0,f1⟩:=(hb1.below hb2 hb1.lt).facts2)
       obtain ⟨q0,q1,_,_⟩:=((hb1.below hb2 hb1.lt).set2 (.int .i64 1) (.slice none 0 0)).facts2
       exact bodyPost_ret (v:=.agg #[.int .i64 1,.slice none 0 0]) (by simp [results,Tryz.results17,go_sem,q0,q1]) rfl
         ⟨.mk 1 [],_,rfl,by decide,leaf_size _,type_end hgw (hd1.grown (only_of_below hb2 none) (by simp)) (only_trans hgw1 (only_of_below hb2 _)) (Nat.le_refl _) (IsTy.leaf _ _ _)⟩
end Go.Proofs.YtipfnkajdooiiaaGreatDoor
