/- value.Sub, and what it is made of. -/
import Derived.Test.YthlknhkemmdocaaGreatDoorQPackNum
import Derived.Test.YthlknhkemmdocaaGreatDoorQPackFml
import Derived.Test.YthlknhkemmdocaaGreatDoorQMakeT
import Derived.Test.YthlknhkemmdocaaGreatDoorQPackTyp
namespace Go.Proofs.YthlknhkemmdocaaGreatDoor
open Go.RowKit

/-- A term in blocks from a number on. -/
def TmFrom (lo:Nat) (w:World) (t:Tm) (v:Value):Prop:=IsTm (fun b=>lo≤b∧b<w.heap.size) w t v
theorem TmFrom.keep {lo:Nat} {w w':World} {t:Tm} {v:Value} (h:TmFrom lo w t v) (hb:Below w.heap.size w w'):TmFrom lo w' t v:=
  IsTm.keep (fun _ h=>⟨h.1,Nat.lt_of_lt_of_le h.2 hb.size⟩) (fun _ hp=>hb.cell hp.2) _ h
/-- What a call that makes a term comes to. -/
def MakesTm (lo:Nat) (t:Tm) (w:World) (e:Ending) (w':World):Prop:=∃ T v,T=t∧e=.returned v∧TmFrom lo w' T v∧Below w.heap.size w w'
theorem set5_lam {lo p:Nat} {w w9:World} {t:Tm} {x0 x1 x2 x3 x4:Value} (hp:w.heap.size≤p) (hb:Below w.heap.size w w9) (hf:IsTm (fun b=>lo≤b∧b≠p∧b<w9.heap.size) w9 t (.agg #[x0,x1,x2,x3,x4])) :
    MakesTm lo t w (.returned (.agg #[x0,x1,x2,x3,x4])) (((((w9.setCell ⟨p,0,none⟩ x0).setCell ⟨p,1,none⟩ x1).setCell ⟨p,2,none⟩ x2).setCell ⟨p,3,none⟩ x3).setCell ⟨p,4,none⟩ x4):=by
  have hg:=only_set5 w9 p x0 x1 x2 x3 x4
  exact ⟨t,_,rfl,rfl,IsTm.keep (fun b h=>⟨h.1,Nat.lt_of_lt_of_le h.2.2 hg.size⟩) (fun q hq=>World.cell?_of_block (hg.block q.block hq.2.2 (by simp; exact hq.2.1))) _ hf,hb.grown hg hb.size (fun g e=>by cases e; exact hp)⟩
theorem vnat_any (w:World):Calls Tryz.prog 163 #[] w fun e w'=>e=.returned (.agg #[.int .i64 1,.slice none 0 0])∧Below w.heap.size w w':=by
  go_enter Tryz.func163,Tryz.ntmps163
  go_wp2_with fail
  exact bodyPost_ret (v:=.agg #[.int .i64 1,.slice none 0 0]) (by simp [results,Tryz.results163,go_sem]) rfl ⟨rfl,(Below.refl _ _).alloc (Nat.le_refl _) _⟩
theorem vvar_any (lo:Nat) (i:Int) (w:World):Calls Tryz.prog 142 #[.int .i64 i] w (MakesTm lo (varTm i) w):=by
  go_enter Tryz.func142,Tryz.ntmps142
  go_wp2_with fail
  exact bodyPost_ret (v:=.agg #[.int .i64 1,.int .i64 i,.int .i64 0,.slice none 0 0,.slice none 0 0]) (by simp [results,Tryz.results142,go_sem]) rfl ⟨_,_,rfl,rfl,var_is _ _ i,(Below.refl _ _).alloc (Nat.le_refl _) _⟩

theorem nat_leaf (S:Nat→Prop) (w:World):IsTy S w (.mk 1 []) (.agg #[.int .i64 1,.slice none 0 0]):=IsTy.leaf _ _ _
set_option maxRecDepth 100000 in
set_option maxHeartbeats 4000000 in
theorem vlam_any (lo:Nat) (t:Tm) (v:Value) (w:World) (hlo:lo≤w.heap.size) (ht:TmFrom lo w t v) :
    Calls Tryz.prog 139 #[v] w (MakesTm lo (lamTm t) w):=by
  obtain ⟨B,d,A,c,rfl,_⟩:=IsTm.form ht
  obtain ⟨W,hW,hbW,hz,k0,k1⟩:=two_blks w #[.int .i64 t.kind,.int .i64 t.index,.int .i64 t.type.kind,.slice B t.type.args.length d,.slice A t.args.length c] #[.int .i64 0,.int .i64 0,.int .i64 0,.slice none 0 0,.slice none 0 0] 42 42
  have HT:=Lib.hid (show IsTm (fun b=>lo≤b∧b<w.heap.size) W t _ from IsTm.keep (fun _ h=>h) (fun q hq=>hbW.cell hq.2) _ ht)
  have HB:=Lib.hid hbW
  have hzW:w.heap.size+1<W.heap.size:=by omega
  have HK1:=Lib.hid k1
  have HSK:=Lib.hid fun (w':World) (h:Below (w.heap.size+1) W w')=>(k0.below h (by omega)).cells5
  obtain ⟨y0,y1,y2,y3,y4⟩:=HSK.out W (Below.refl _ _)
  have V0:=Lib.hid ((Below.refl W.heap.size W).drew)
  have V1:=Lib.hid ((Below.refl W.heap.size W).alloc (Nat.le_refl _) (Obj.cells #[.int .i64 t.kind,.int .i64 t.index,.int .i64 t.type.kind,.slice B t.type.args.length d,.slice A t.args.length c] 42))
  have LV0:=Lib.hid ((Below.refl (w.heap.size+1) W).drew)
  have LV1:=Lib.hid (V1.out.mono (show w.heap.size+1≤W.heap.size by omega))
  have LV2:=Lib.hid (LV1.out.drew)
  have SL1:=Lib.hid (show TmR.Sl (fun b=>(lo≤b∧b<w.heap.size)∨b=W.heap.size) (W.alloc (Obj.cells #[.int .i64 t.kind,.int .i64 t.index,.int .i64 t.type.kind,.slice B t.type.args.length d,.slice A t.args.length c] 42)) [t] (.slice (some ⟨W.heap.size,0,none⟩) 1 1) from Rep.Sl.built (R:=TmR) (l:=[t]) (Rep.Ch.one (R:=TmR) (vs:=[.int .i64 t.kind,.int .i64 t.index,.int .i64 t.type.kind,.slice B t.type.args.length d,.slice A t.args.length c]) HT.out) (fun b h=>by have:=h.2; omega) _ (fun b h=>.inl h) (.inr rfl))
  clear ht hz k0 k1 hbW
  go_enter Tryz.func139,Tryz.ntmps139
  go_upto_region 1 with fail
  rw [← hW]
  clear hW
  go_region_held3 (fun w'=>w'.cell? ⟨w.heap.size,0,none⟩ = some (.int .i64 t.kind)∧w'.cell? ⟨w.heap.size,1,none⟩ = some (.int .i64 t.index)∧w'.cell? ⟨w.heap.size,2,none⟩ = some (.int .i64 t.type.kind)∧w'.cell? ⟨w.heap.size,3,none⟩ = some (.slice B t.type.args.length d)∧w'.cell? ⟨w.heap.size,4,none⟩ = some (.slice A t.args.length c))
    (first | with_reducible exact HSK.out _ LV0.out | with_reducible exact HSK.out _ LV1.out | with_reducible exact HSK.out _ LV2.out | with_reducible exact HSK.out _ G3.out | with_reducible exact HSK.out _ G4.out | with_reducible exact HSK.out _ G5.out)
    (first
      | (go_at_call 163
         (with_reducible refine (vnat_any (W.alloc (Obj.cells #[.int .i64 t.kind,.int .i64 t.index,.int .i64 t.type.kind,.slice B t.type.args.length d,.slice A t.args.length c] 42)).drew).mono ?_)
         rintro e w3 ⟨rfl,b3⟩
         have B3:=Lib.hid (show Below (W.alloc (Obj.cells #[.int .i64 t.kind,.int .i64 t.index,.int .i64 t.type.kind,.slice B t.type.args.length d,.slice A t.args.length c] 42)).heap.size (W.alloc (Obj.cells #[.int .i64 t.kind,.int .i64 t.index,.int .i64 t.type.kind,.slice B t.type.args.length d,.slice A t.args.length c] 42)) w3 from ((Below.refl _ _).drew).trans b3)
         have G3:=Lib.hid (LV1.out.trans (B3.out.mono (by simp; omega)))
         have K3:=Lib.hid ((HK1.out.alloc (Obj.cells #[.int .i64 t.kind,.int .i64 t.index,.int .i64 t.type.kind,.slice B t.type.args.length d,.slice A t.args.length c] 42)).below B3.out (by simp; omega))
         obtain ⟨m0,m1,m2,m3,m4,x0,x1,x2,x3,x4⟩:=K3.out.facts5
         have G4:=Lib.hid (show Below (w.heap.size+1) W _ from below_set5' G3.out (p:=w.heap.size+1) (Nat.le_refl _) (.int .i64 2) (.int .i64 0) (.int .i64 1) (.slice none 0 0) (.slice (some ⟨W.heap.size,0,none⟩) 1 1))
         have END1:=Lib.hid (show IsTm (fun b=>lo≤b∧b≠w.heap.size+1∧b<w3.heap.size) w3 (lamTm t) (.agg #[.int .i64 2,.int .i64 0,.int .i64 1,.slice none 0 0,.slice (some ⟨W.heap.size,0,none⟩) 1 1]) from
           isTm_iff.2 ⟨rfl,rfl,nat_leaf _ _,SL1.out.keep (fun b h=>by have:=B3.out.size; simp only [World.size_alloc] at this; omega) (fun q hq=>B3.out.cell (by simp only [World.size_alloc]; omega))⟩)
         have hz3:=B3.out.size
         simp only [World.size_alloc] at hz3
         clear b3)
      | (go_at_call 163
         (with_reducible refine (vnat_any W.drew).mono ?_)
         rintro e w3 ⟨rfl,b3⟩
         have B3:=Lib.hid (show Below W.heap.size W w3 from V0.out.trans b3)
         have G3:=Lib.hid (B3.out.mono (show w.heap.size+1≤W.heap.size by omega))
         have K3:=Lib.hid ((HK1.out.below B3.out (by omega)).alloc (Obj.cells #[.int .i64 t.kind,.int .i64 t.index,.int .i64 t.type.kind,.slice B t.type.args.length d,.slice A t.args.length c] 42))
         obtain ⟨m0,m1,m2,m3,m4,x0,x1,x2,x3,x4⟩:=K3.out.facts5
         have G4:=Lib.hid (G3.out.alloc (by have:=B3.out.size; omega) (Obj.cells #[.int .i64 t.kind,.int .i64 t.index,.int .i64 t.type.kind,.slice B t.type.args.length d,.slice A t.args.length c] 42))
         have G5:=Lib.hid (show Below (w.heap.size+1) W _ from below_set5' G4.out (p:=w.heap.size+1) (Nat.le_refl _) (.int .i64 2) (.int .i64 0) (.int .i64 1) (.slice none 0 0) (.slice (some ⟨w3.heap.size,0,none⟩) 1 1))
         have hz3:=B3.out.size
         have T3:=Lib.hid (show IsTm (fun b=>lo≤b∧b<w.heap.size) w3 t _ from IsTm.keep (fun _ h=>h) (fun q hq=>B3.out.cell (by have:=hq.2; omega)) _ HT.out)
         have SL2:=Lib.hid (show TmR.Sl (fun b=>(lo≤b∧b<w.heap.size)∨b=w3.heap.size) (w3.alloc (Obj.cells #[.int .i64 t.kind,.int .i64 t.index,.int .i64 t.type.kind,.slice B t.type.args.length d,.slice A t.args.length c] 42)) [t] (.slice (some ⟨w3.heap.size,0,none⟩) 1 1) from Rep.Sl.built (R:=TmR) (l:=[t]) (Rep.Ch.one (R:=TmR) (vs:=[.int .i64 t.kind,.int .i64 t.index,.int .i64 t.type.kind,.slice B t.type.args.length d,.slice A t.args.length c]) T3.out) (fun b h=>by have:=h.2; omega) _ (fun b h=>.inl h) (.inr rfl))
         have END2:=Lib.hid (show IsTm (fun b=>lo≤b∧b≠w.heap.size+1∧b<(w3.alloc (Obj.cells #[.int .i64 t.kind,.int .i64 t.index,.int .i64 t.type.kind,.slice B t.type.args.length d,.slice A t.args.length c] 42)).heap.size) (w3.alloc (Obj.cells #[.int .i64 t.kind,.int .i64 t.index,.int .i64 t.type.kind,.slice B t.type.args.length d,.slice A t.args.length c] 42)) (lamTm t) (.agg #[.int .i64 2,.int .i64 0,.int .i64 1,.slice none 0 0,.slice (some ⟨w3.heap.size,0,none⟩) 1 1]) from
           isTm_iff.2 ⟨rfl,rfl,nat_leaf _ _,SL2.out.keep (fun b h=>by simp only [World.size_alloc]; omega) (fun _ _=>rfl)⟩)
         clear b3))
  all_goals go_wp2_with fail
  · obtain ⟨z0,z1,z2,z3,z4⟩:=(K3.out.set5 (.int .i64 2) (.int .i64 0) (.int .i64 1) (.slice none 0 0) (.slice (some ⟨w3.heap.size,0,none⟩) 1 1)).cells5
    refine bodyPost_ret (v:=.agg #[.int .i64 2,.int .i64 0,.int .i64 1,.slice none 0 0,.slice (some ⟨w3.heap.size,0,none⟩) 1 1]) (by simp [results,Tryz.results139,go_sem,z0,z1,z2,z3,z4]) rfl ?_
    exact set5_lam (by omega) (HB.out.trans ((B3.out.alloc (by omega) _).mono (by omega))) END2.out
  · obtain ⟨z0,z1,z2,z3,z4⟩:=(K3.out.set5 (.int .i64 2) (.int .i64 0) (.int .i64 1) (.slice none 0 0) (.slice (some ⟨W.heap.size,0,none⟩) 1 1)).cells5
    refine bodyPost_ret (v:=.agg #[.int .i64 2,.int .i64 0,.int .i64 1,.slice none 0 0,.slice (some ⟨W.heap.size,0,none⟩) 1 1]) (by simp [results,Tryz.results139,go_sem,z0,z1,z2,z3,z4]) rfl ?_
    exact set5_lam (by omega) (HB.out.trans (((((Below.refl _ W).alloc (Nat.le_refl _) _).trans (B3.out.mono (by simp)))).mono (by omega))) END1.out
end Go.Proofs.YthlknhkemmdocaaGreatDoor
namespace Go.Proofs.YthlknhkemmdocaaGreatDoor
open Go.RowKit

theorem four_blks (w:World) (c1 c2 c3 c4:Array Value) (t1 t2 t3 t4:TypeId):∃ W,W=(((w.alloc (.cells c1 t1)).alloc (.cells c2 t2)).alloc (.cells c3 t3)).alloc (.cells c4 t4) ∧
    Below w.heap.size w W∧W.heap.size=w.heap.size+4∧Blk W w.heap.size t1 c1∧Blk W (w.heap.size+1) t2 c2∧Blk W (w.heap.size+1+1) t3 c3∧Blk W (w.heap.size+1+1+1) t4 c4:=by
  obtain ⟨W2,hW2,b2,z2,k0,k1,k2⟩:=three_blks w c1 c2 c3 t1 t2 t3
  rw [← hW2]
  obtain ⟨b3,z3,k3⟩:=new_blk b2 b2.size c4 t4
  rw [z2] at k3
  exact ⟨_,rfl,b3,by omega,k0.alloc _,k1.alloc _,k2.alloc _,k3⟩
theorem set5_node (t:Tm) {lo p:Nat} {w w9:World} {x0 x1 x2 x3 x4:Value} (hp:w.heap.size≤p) (hb:Below w.heap.size w w9) (hf:IsTm (fun b=>lo≤b∧b≠p∧b<w9.heap.size) w9 t (.agg #[x0,x1,x2,x3,x4])) :
    MakesTm lo t w (.returned (.agg #[x0,x1,x2,x3,x4])) (((((w9.setCell ⟨p,0,none⟩ x0).setCell ⟨p,1,none⟩ x1).setCell ⟨p,2,none⟩ x2).setCell ⟨p,3,none⟩ x3).setCell ⟨p,4,none⟩ x4):=by
  have hg:=only_set5 w9 p x0 x1 x2 x3 x4
  exact ⟨t,_,rfl,rfl,IsTm.keep (fun b h=>⟨h.1,Nat.lt_of_lt_of_le h.2.2 hg.size⟩) (fun q hq=>World.cell?_of_block (hg.block q.block hq.2.2 (by simp; exact hq.2.1))) _ hf,hb.grown hg hb.size (fun g e=>by cases e; exact hp)⟩
set_option maxRecDepth 100000 in
set_option maxHeartbeats 8000000 in
theorem vrec_any (lo:Nat) (s f n:Tm) (u v z:Value) (w:World) (hlo:lo≤w.heap.size) (hu:TmFrom lo w s u) (hv:TmFrom lo w f v) (hz:TmFrom lo w n z) :
    Calls Tryz.prog 143 #[u,v,z] w (MakesTm lo (recTm s f n) w):=by
  obtain ⟨B0,d0,A0,c0,rfl,_⟩:=IsTm.form hu
  obtain ⟨B1,d1,A1,c1,rfl,_⟩:=IsTm.form hv
  obtain ⟨B2,d2,A2,c2,rfl,_⟩:=IsTm.form hz
  obtain ⟨W,hW,hbW,hzz,k0,k1,k2,k3⟩:=four_blks w #[.int .i64 s.kind,.int .i64 s.index,.int .i64 s.type.kind,.slice B0 s.type.args.length d0,.slice A0 s.args.length c0] #[.int .i64 f.kind,.int .i64 f.index,.int .i64 f.type.kind,.slice B1 f.type.args.length d1,.slice A1 f.args.length c1] #[.int .i64 n.kind,.int .i64 n.index,.int .i64 n.type.kind,.slice B2 n.type.args.length d2,.slice A2 n.args.length c2] #[.int .i64 0,.int .i64 0,.int .i64 0,.slice none 0 0,.slice none 0 0] 42 42 42 42
  have HT0:=Lib.hid (show IsTm (fun b=>lo≤b∧b<w.heap.size) W s _ from IsTm.keep (fun _ h=>h) (fun q hq=>hbW.cell hq.2) _ hu)
  have HT1:=Lib.hid (show IsTm (fun b=>lo≤b∧b<w.heap.size) W f _ from IsTm.keep (fun _ h=>h) (fun q hq=>hbW.cell hq.2) _ hv)
  have HT2:=Lib.hid (show IsTm (fun b=>lo≤b∧b<w.heap.size) W n _ from IsTm.keep (fun _ h=>h) (fun q hq=>hbW.cell hq.2) _ hz)
  have HB:=Lib.hid hbW
  have hzW:w.heap.size+1+1+1<W.heap.size:=by omega
  have HK1:=Lib.hid k3
  have HSK:=Lib.hid fun (w':World) (h:Below (w.heap.size+1+1+1) W w')=>(show w'.cell? ⟨w.heap.size,0,none⟩ = some (.int .i64 s.kind)∧w'.cell? ⟨w.heap.size,1,none⟩ = some (.int .i64 s.index)∧w'.cell? ⟨w.heap.size,2,none⟩ = some (.int .i64 s.type.kind)∧w'.cell? ⟨w.heap.size,3,none⟩ = some (.slice B0 s.type.args.length d0)∧w'.cell? ⟨w.heap.size,4,none⟩ = some (.slice A0 s.args.length c0)∧w'.cell? ⟨w.heap.size+1,0,none⟩ = some (.int .i64 f.kind)∧w'.cell? ⟨w.heap.size+1,1,none⟩ = some (.int .i64 f.index)∧w'.cell? ⟨w.heap.size+1,2,none⟩ = some (.int .i64 f.type.kind)∧w'.cell? ⟨w.heap.size+1,3,none⟩ = some (.slice B1 f.type.args.length d1)∧w'.cell? ⟨w.heap.size+1,4,none⟩ = some (.slice A1 f.args.length c1)∧w'.cell? ⟨w.heap.size+1+1,0,none⟩ = some (.int .i64 n.kind)∧w'.cell? ⟨w.heap.size+1+1,1,none⟩ = some (.int .i64 n.index)∧w'.cell? ⟨w.heap.size+1+1,2,none⟩ = some (.int .i64 n.type.kind)∧w'.cell? ⟨w.heap.size+1+1,3,none⟩ = some (.slice B2 n.type.args.length d2)∧w'.cell? ⟨w.heap.size+1+1,4,none⟩ = some (.slice A2 n.args.length c2) from by
    obtain ⟨y0,y1,y2,y3,y4⟩:=(k0.below h (by omega)).cells5
    obtain ⟨y5,y6,y7,y8,y9⟩:=(k1.below h (by omega)).cells5
    obtain ⟨y10,y11,y12,y13,y14⟩:=(k2.below h (by omega)).cells5
    exact ⟨y0,y1,y2,y3,y4,y5,y6,y7,y8,y9,y10,y11,y12,y13,y14⟩)
  obtain ⟨y0,y1,y2,y3,y4,y5,y6,y7,y8,y9,y10,y11,y12,y13,y14⟩:=HSK.out W (Below.refl _ _)
  have V0:=Lib.hid ((Below.refl W.heap.size W).drew)
  have V1:=Lib.hid ((Below.refl W.heap.size W).alloc (Nat.le_refl _) (Obj.cells #[.int .i64 s.kind,.int .i64 s.index,.int .i64 s.type.kind,.slice B0 s.type.args.length d0,.slice A0 s.args.length c0,.int .i64 f.kind,.int .i64 f.index,.int .i64 f.type.kind,.slice B1 f.type.args.length d1,.slice A1 f.args.length c1,.int .i64 n.kind,.int .i64 n.index,.int .i64 n.type.kind,.slice B2 n.type.args.length d2,.slice A2 n.args.length c2] 42))
  have LV0:=Lib.hid ((Below.refl (w.heap.size+1+1+1) W).drew)
  have LV1:=Lib.hid (V1.out.mono (show (w.heap.size+1+1+1)≤W.heap.size by omega))
  have LV2:=Lib.hid (LV1.out.drew)
  have SL1:=Lib.hid (show TmR.Sl (fun b=>(lo≤b∧b<w.heap.size)∨b=W.heap.size) (W.alloc (Obj.cells #[.int .i64 s.kind,.int .i64 s.index,.int .i64 s.type.kind,.slice B0 s.type.args.length d0,.slice A0 s.args.length c0,.int .i64 f.kind,.int .i64 f.index,.int .i64 f.type.kind,.slice B1 f.type.args.length d1,.slice A1 f.args.length c1,.int .i64 n.kind,.int .i64 n.index,.int .i64 n.type.kind,.slice B2 n.type.args.length d2,.slice A2 n.args.length c2] 42)) [s,f,n] (.slice (some ⟨W.heap.size,0,none⟩) 3 3) from Rep.Sl.built (R:=TmR) (l:=[s,f,n]) (Rep.Ch.append (R:=TmR) (l:=[s]) (Rep.Ch.one (R:=TmR) (vs:=[.int .i64 s.kind,.int .i64 s.index,.int .i64 s.type.kind,.slice B0 s.type.args.length d0,.slice A0 s.args.length c0]) HT0.out) (Rep.Ch.append (R:=TmR) (l:=[f]) (Rep.Ch.one (R:=TmR) (vs:=[.int .i64 f.kind,.int .i64 f.index,.int .i64 f.type.kind,.slice B1 f.type.args.length d1,.slice A1 f.args.length c1]) HT1.out) (Rep.Ch.one (R:=TmR) (vs:=[.int .i64 n.kind,.int .i64 n.index,.int .i64 n.type.kind,.slice B2 n.type.args.length d2,.slice A2 n.args.length c2]) HT2.out))) (fun b h=>by have:=h.2; omega) _ (fun b h=>.inl h) (.inr rfl))
  clear hu hv hz hzz k0 k1 k2 k3 hbW
  go_enter Tryz.func143,Tryz.ntmps143
  go_upto_region 1 with fail
  rw [← hW]
  clear hW
  go_region_held3 (fun w'=>w'.cell? ⟨w.heap.size,0,none⟩ = some (.int .i64 s.kind)∧w'.cell? ⟨w.heap.size,1,none⟩ = some (.int .i64 s.index)∧w'.cell? ⟨w.heap.size,2,none⟩ = some (.int .i64 s.type.kind)∧w'.cell? ⟨w.heap.size,3,none⟩ = some (.slice B0 s.type.args.length d0)∧w'.cell? ⟨w.heap.size,4,none⟩ = some (.slice A0 s.args.length c0)∧w'.cell? ⟨w.heap.size+1,0,none⟩ = some (.int .i64 f.kind)∧w'.cell? ⟨w.heap.size+1,1,none⟩ = some (.int .i64 f.index)∧w'.cell? ⟨w.heap.size+1,2,none⟩ = some (.int .i64 f.type.kind)∧w'.cell? ⟨w.heap.size+1,3,none⟩ = some (.slice B1 f.type.args.length d1)∧w'.cell? ⟨w.heap.size+1,4,none⟩ = some (.slice A1 f.args.length c1)∧w'.cell? ⟨w.heap.size+1+1,0,none⟩ = some (.int .i64 n.kind)∧w'.cell? ⟨w.heap.size+1+1,1,none⟩ = some (.int .i64 n.index)∧w'.cell? ⟨w.heap.size+1+1,2,none⟩ = some (.int .i64 n.type.kind)∧w'.cell? ⟨w.heap.size+1+1,3,none⟩ = some (.slice B2 n.type.args.length d2)∧w'.cell? ⟨w.heap.size+1+1,4,none⟩ = some (.slice A2 n.args.length c2))
    (first | with_reducible exact HSK.out _ LV0.out | with_reducible exact HSK.out _ LV1.out | with_reducible exact HSK.out _ LV2.out | with_reducible exact HSK.out _ G3.out | with_reducible exact HSK.out _ G4.out | with_reducible exact HSK.out _ G5.out)
    (first
      | (go_at_call 163
         (with_reducible refine (vnat_any (W.alloc (Obj.cells #[.int .i64 s.kind,.int .i64 s.index,.int .i64 s.type.kind,.slice B0 s.type.args.length d0,.slice A0 s.args.length c0,.int .i64 f.kind,.int .i64 f.index,.int .i64 f.type.kind,.slice B1 f.type.args.length d1,.slice A1 f.args.length c1,.int .i64 n.kind,.int .i64 n.index,.int .i64 n.type.kind,.slice B2 n.type.args.length d2,.slice A2 n.args.length c2] 42)).drew).mono ?_)
         rintro e w3 ⟨rfl,b3⟩
         have B3:=Lib.hid (show Below (W.alloc (Obj.cells #[.int .i64 s.kind,.int .i64 s.index,.int .i64 s.type.kind,.slice B0 s.type.args.length d0,.slice A0 s.args.length c0,.int .i64 f.kind,.int .i64 f.index,.int .i64 f.type.kind,.slice B1 f.type.args.length d1,.slice A1 f.args.length c1,.int .i64 n.kind,.int .i64 n.index,.int .i64 n.type.kind,.slice B2 n.type.args.length d2,.slice A2 n.args.length c2] 42)).heap.size (W.alloc (Obj.cells #[.int .i64 s.kind,.int .i64 s.index,.int .i64 s.type.kind,.slice B0 s.type.args.length d0,.slice A0 s.args.length c0,.int .i64 f.kind,.int .i64 f.index,.int .i64 f.type.kind,.slice B1 f.type.args.length d1,.slice A1 f.args.length c1,.int .i64 n.kind,.int .i64 n.index,.int .i64 n.type.kind,.slice B2 n.type.args.length d2,.slice A2 n.args.length c2] 42)) w3 from ((Below.refl _ _).drew).trans b3)
         have G3:=Lib.hid (LV1.out.trans (B3.out.mono (by simp; omega)))
         have K3:=Lib.hid ((HK1.out.alloc (Obj.cells #[.int .i64 s.kind,.int .i64 s.index,.int .i64 s.type.kind,.slice B0 s.type.args.length d0,.slice A0 s.args.length c0,.int .i64 f.kind,.int .i64 f.index,.int .i64 f.type.kind,.slice B1 f.type.args.length d1,.slice A1 f.args.length c1,.int .i64 n.kind,.int .i64 n.index,.int .i64 n.type.kind,.slice B2 n.type.args.length d2,.slice A2 n.args.length c2] 42)).below B3.out (by simp; omega))
         obtain ⟨m0,m1,m2,m3,m4,x0,x1,x2,x3,x4⟩:=K3.out.facts5
         have G4:=Lib.hid (show Below (w.heap.size+1+1+1) W _ from below_set5' G3.out (p:=(w.heap.size+1+1+1)) (Nat.le_refl _) (.int .i64 6) (.int .i64 0) (.int .i64 1) (.slice none 0 0) (.slice (some ⟨W.heap.size,0,none⟩) 3 3))
         have END1:=Lib.hid (show IsTm (fun b=>lo≤b∧b≠(w.heap.size+1+1+1)∧b<w3.heap.size) w3 (recTm s f n) (.agg #[.int .i64 6,.int .i64 0,.int .i64 1,.slice none 0 0,.slice (some ⟨W.heap.size,0,none⟩) 3 3]) from
           isTm_iff.2 ⟨rfl,rfl,nat_leaf _ _,SL1.out.keep (fun b h=>by have:=B3.out.size; simp only [World.size_alloc] at this; omega) (fun q hq=>B3.out.cell (by simp only [World.size_alloc]; omega))⟩)
         have hz3:=B3.out.size
         simp only [World.size_alloc] at hz3
         clear b3)
      | (go_at_call 163
         (with_reducible refine (vnat_any W.drew).mono ?_)
         rintro e w3 ⟨rfl,b3⟩
         have B3:=Lib.hid (show Below W.heap.size W w3 from V0.out.trans b3)
         have G3:=Lib.hid (B3.out.mono (show (w.heap.size+1+1+1)≤W.heap.size by omega))
         have K3:=Lib.hid ((HK1.out.below B3.out (by omega)).alloc (Obj.cells #[.int .i64 s.kind,.int .i64 s.index,.int .i64 s.type.kind,.slice B0 s.type.args.length d0,.slice A0 s.args.length c0,.int .i64 f.kind,.int .i64 f.index,.int .i64 f.type.kind,.slice B1 f.type.args.length d1,.slice A1 f.args.length c1,.int .i64 n.kind,.int .i64 n.index,.int .i64 n.type.kind,.slice B2 n.type.args.length d2,.slice A2 n.args.length c2] 42))
         obtain ⟨m0,m1,m2,m3,m4,x0,x1,x2,x3,x4⟩:=K3.out.facts5
         have G4:=Lib.hid (G3.out.alloc (by have:=B3.out.size; omega) (Obj.cells #[.int .i64 s.kind,.int .i64 s.index,.int .i64 s.type.kind,.slice B0 s.type.args.length d0,.slice A0 s.args.length c0,.int .i64 f.kind,.int .i64 f.index,.int .i64 f.type.kind,.slice B1 f.type.args.length d1,.slice A1 f.args.length c1,.int .i64 n.kind,.int .i64 n.index,.int .i64 n.type.kind,.slice B2 n.type.args.length d2,.slice A2 n.args.length c2] 42))
         have G5:=Lib.hid (show Below (w.heap.size+1+1+1) W _ from below_set5' G4.out (p:=(w.heap.size+1+1+1)) (Nat.le_refl _) (.int .i64 6) (.int .i64 0) (.int .i64 1) (.slice none 0 0) (.slice (some ⟨w3.heap.size,0,none⟩) 3 3))
         have hz3:=B3.out.size
         have T0:=Lib.hid (show IsTm (fun b=>lo≤b∧b<w.heap.size) w3 s _ from IsTm.keep (fun _ h=>h) (fun q hq=>B3.out.cell (by have:=hq.2; omega)) _ HT0.out)
         have T1:=Lib.hid (show IsTm (fun b=>lo≤b∧b<w.heap.size) w3 f _ from IsTm.keep (fun _ h=>h) (fun q hq=>B3.out.cell (by have:=hq.2; omega)) _ HT1.out)
         have T2:=Lib.hid (show IsTm (fun b=>lo≤b∧b<w.heap.size) w3 n _ from IsTm.keep (fun _ h=>h) (fun q hq=>B3.out.cell (by have:=hq.2; omega)) _ HT2.out)
         have SL2:=Lib.hid (show TmR.Sl (fun b=>(lo≤b∧b<w.heap.size)∨b=w3.heap.size) (w3.alloc (Obj.cells #[.int .i64 s.kind,.int .i64 s.index,.int .i64 s.type.kind,.slice B0 s.type.args.length d0,.slice A0 s.args.length c0,.int .i64 f.kind,.int .i64 f.index,.int .i64 f.type.kind,.slice B1 f.type.args.length d1,.slice A1 f.args.length c1,.int .i64 n.kind,.int .i64 n.index,.int .i64 n.type.kind,.slice B2 n.type.args.length d2,.slice A2 n.args.length c2] 42)) [s,f,n] (.slice (some ⟨w3.heap.size,0,none⟩) 3 3) from Rep.Sl.built (R:=TmR) (l:=[s,f,n]) (Rep.Ch.append (R:=TmR) (l:=[s]) (Rep.Ch.one (R:=TmR) (vs:=[.int .i64 s.kind,.int .i64 s.index,.int .i64 s.type.kind,.slice B0 s.type.args.length d0,.slice A0 s.args.length c0]) T0.out) (Rep.Ch.append (R:=TmR) (l:=[f]) (Rep.Ch.one (R:=TmR) (vs:=[.int .i64 f.kind,.int .i64 f.index,.int .i64 f.type.kind,.slice B1 f.type.args.length d1,.slice A1 f.args.length c1]) T1.out) (Rep.Ch.one (R:=TmR) (vs:=[.int .i64 n.kind,.int .i64 n.index,.int .i64 n.type.kind,.slice B2 n.type.args.length d2,.slice A2 n.args.length c2]) T2.out))) (fun b h=>by have:=h.2; omega) _ (fun b h=>.inl h) (.inr rfl))
         have END2:=Lib.hid (show IsTm (fun b=>lo≤b∧b≠(w.heap.size+1+1+1)∧b<(w3.alloc (Obj.cells #[.int .i64 s.kind,.int .i64 s.index,.int .i64 s.type.kind,.slice B0 s.type.args.length d0,.slice A0 s.args.length c0,.int .i64 f.kind,.int .i64 f.index,.int .i64 f.type.kind,.slice B1 f.type.args.length d1,.slice A1 f.args.length c1,.int .i64 n.kind,.int .i64 n.index,.int .i64 n.type.kind,.slice B2 n.type.args.length d2,.slice A2 n.args.length c2] 42)).heap.size) (w3.alloc (Obj.cells #[.int .i64 s.kind,.int .i64 s.index,.int .i64 s.type.kind,.slice B0 s.type.args.length d0,.slice A0 s.args.length c0,.int .i64 f.kind,.int .i64 f.index,.int .i64 f.type.kind,.slice B1 f.type.args.length d1,.slice A1 f.args.length c1,.int .i64 n.kind,.int .i64 n.index,.int .i64 n.type.kind,.slice B2 n.type.args.length d2,.slice A2 n.args.length c2] 42)) (recTm s f n) (.agg #[.int .i64 6,.int .i64 0,.int .i64 1,.slice none 0 0,.slice (some ⟨w3.heap.size,0,none⟩) 3 3]) from
           isTm_iff.2 ⟨rfl,rfl,nat_leaf _ _,SL2.out.keep (fun b h=>by simp only [World.size_alloc]; omega) (fun _ _=>rfl)⟩)
         clear b3))
  all_goals go_wp2_with fail
  · obtain ⟨z0,z1,z2,z3,z4⟩:=(K3.out.set5 (.int .i64 6) (.int .i64 0) (.int .i64 1) (.slice none 0 0) (.slice (some ⟨w3.heap.size,0,none⟩) 3 3)).cells5
    refine bodyPost_ret (v:=.agg #[.int .i64 6,.int .i64 0,.int .i64 1,.slice none 0 0,.slice (some ⟨w3.heap.size,0,none⟩) 3 3]) (by simp [results,Tryz.results143,go_sem,z0,z1,z2,z3,z4]) rfl ?_
    exact set5_node _ (by omega) (HB.out.trans ((B3.out.alloc (by omega) _).mono (by omega))) END2.out
  · obtain ⟨z0,z1,z2,z3,z4⟩:=(K3.out.set5 (.int .i64 6) (.int .i64 0) (.int .i64 1) (.slice none 0 0) (.slice (some ⟨W.heap.size,0,none⟩) 3 3)).cells5
    refine bodyPost_ret (v:=.agg #[.int .i64 6,.int .i64 0,.int .i64 1,.slice none 0 0,.slice (some ⟨W.heap.size,0,none⟩) 3 3]) (by simp [results,Tryz.results143,go_sem,z0,z1,z2,z3,z4]) rfl ?_
    exact set5_node _ (by omega) (HB.out.trans ((((Below.refl _ W).alloc (Nat.le_refl _) _).trans (B3.out.mono (by simp))).mono (by omega))) END1.out
end Go.Proofs.YthlknhkemmdocaaGreatDoor
namespace Go.Proofs.YthlknhkemmdocaaGreatDoor
open Go.RowKit

def NodeV (k:Int) (s:Value) (w:World) (e:Ending) (w':World):Prop:=e=.returned (.agg #[.int .i64 k,.int .i64 0,.int .i64 0,.slice none 0 0,s])∧Below w.heap.size w w'
theorem node_any (k:Int) (A:Option Addr) (n c:Nat) (w:World) :
    Calls Tryz.prog 164 #[.int .i64 k,.slice A n c] w (NodeV k (.slice A n c) w):=by
  go_enter Tryz.func164,Tryz.ntmps164
  go_wp2_with fail
  have hb:=(Below.refl w.heap.size w).alloc (Nat.le_refl _) (Obj.cells #[.int .i64 k,.int .i64 0,.int .i64 0,.slice none 0 0,.slice A n c] 42)
  refine bodyPost_ret (v:=.agg #[.int .i64 k,.int .i64 0,.int .i64 0,.slice none 0 0,.slice A n c]) (by simp [results,Tryz.results164,go_sem]) rfl ⟨rfl,?_⟩
  exact hb
end Go.Proofs.YthlknhkemmdocaaGreatDoor
namespace Go.Proofs.YthlknhkemmdocaaGreatDoor
open Go.RowKit

def appTm (f:Tm) (l:List Tm):Tm:=l.foldl (fun f a=>.mk 3 0 .zero [f,a]) f
theorem appTm_take {f:Tm} {l:List Tm} {j:Nat} (hj:j<l.length):appTm f (l.take (j+1))=.mk 3 0 .zero [appTm f (l.take j),l[j]]:=by
  unfold appTm
  rw [List.take_succ_eq_append_getElem hj,List.foldl_append]
  rfl

theorem box55_facts (w:World) (x0 x1 x2 x3 x4:Value):∃ W,W=(w.alloc (Obj.cells #[x0,x1,x2,x3,x4] 42)).alloc (Obj.cells #[.int .i64 0,.int .i64 0,.int .i64 0,.slice none 0 0,.slice none 0 0] 42) ∧
    Below w.heap.size w W∧W.heap.size=w.heap.size+2∧Blk W w.heap.size 42 #[x0,x1,x2,x3,x4]∧Blk W (w.heap.size+1) 42 #[.int .i64 0,.int .i64 0,.int .i64 0,.slice none 0 0,.slice none 0 0]:=by
  obtain ⟨b1,z1,k1⟩:=new_blk (Below.refl w.heap.size w) (Nat.le_refl _) #[x0,x1,x2,x3,x4] 42
  generalize w.alloc (Obj.cells #[x0,x1,x2,x3,x4] 42)=W1 at b1 z1 k1 ⊢
  obtain ⟨b2,z2,k2⟩:=new_blk b1 b1.size #[.int .i64 0,.int .i64 0,.int .i64 0,.slice none 0 0,.slice none 0 0] 42
  have k1:=k1.alloc (Obj.cells #[.int .i64 0,.int .i64 0,.int .i64 0,.slice none 0 0,.slice none 0 0] 42)
  rw [z1] at k2
  exact ⟨_,rfl,b2,by omega,k1,k2⟩

def AppRel (S:Nat→Prop) (w:World) (f:Tm) (l:List Tm) (j:Nat) (wr:World):Prop:=
  ∃ B d A c,Blk wr w.heap.size 42 #[.int .i64 (appTm f (l.take j)).kind,.int .i64 (appTm f (l.take j)).index,.int .i64 (appTm f (l.take j)).type.kind,.slice B (appTm f (l.take j)).type.args.length d,.slice A (appTm f (l.take j)).args.length c] ∧
    IsTm (fun b=>(S b∨w.heap.size+2≤b)∧b<wr.heap.size) wr (appTm f (l.take j)) (.agg #[.int .i64 (appTm f (l.take j)).kind,.int .i64 (appTm f (l.take j)).index,.int .i64 (appTm f (l.take j)).type.kind,.slice B (appTm f (l.take j)).type.args.length d,.slice A (appTm f (l.take j)).args.length c]) ∧
    Blk wr (w.heap.size+1) 42 #[.int .i64 0,.int .i64 0,.int .i64 0,.slice none 0 0,.slice none 0 0]∧Below w.heap.size w wr

end Go.Proofs.YthlknhkemmdocaaGreatDoor
namespace Go.Proofs.YthlknhkemmdocaaGreatDoor
open Go.RowKit

/-- The same, where another function makes the term. -/
theorem app_node_step {S:Nat→Prop} {w wr:World} {f:Tm} {l:List Tm} {j:Nat} {w2:World} {g0 g1 g2 g3 g4 a0 a1 a2 a3 a4:Value} (hS:∀ b,S b→b<w.heap.size) (hj:j<l.length) (hb:Blk wr w.heap.size 42 #[g0,g1,g2,g3,g4])
    (hf:IsTm (fun b=>(S b∨w.heap.size+2≤b)∧b<wr.heap.size) wr (appTm f (l.take j)) (.agg #[g0,g1,g2,g3,g4])) (ha:IsTm S wr l[j] (.agg #[a0,a1,a2,a3,a4]))
    (k1:Blk wr (w.heap.size+1) 42 #[.int .i64 0,.int .i64 0,.int .i64 0,.slice none 0 0,.slice none 0 0]) (hbel:Below w.heap.size w wr) {m:Nat} (hm:m=wr.heap.size+1) (hb2:Below ((wr.alloc (.cells #[a0,a1,a2,a3,a4] 42)).alloc (.cells #[g0,g1,g2,g3,g4,a0,a1,a2,a3,a4] 42)).heap.size ((wr.alloc (.cells #[a0,a1,a2,a3,a4] 42)).alloc (.cells #[g0,g1,g2,g3,g4,a0,a1,a2,a3,a4] 42)) w2) :
    AppRel S w f l (j+1) ((((((w2.setCell ⟨w.heap.size,0,none⟩ (.int .i64 3)).setCell ⟨w.heap.size,1,none⟩ (.int .i64 0)).setCell ⟨w.heap.size,2,none⟩ (.int .i64 0)).setCell ⟨w.heap.size,3,none⟩ (.slice none 0 0)).setCell
      ⟨w.heap.size,4,none⟩ (.slice (some ⟨m,0,none⟩) 2 2))):=by
  have hz:=hbel.size
  have hz1:=k1.lt
  have s1:=World.size_alloc wr (.cells #[a0,a1,a2,a3,a4] 42)
  have g1':wr.grownBy (wr.alloc (.cells #[a0,a1,a2,a3,a4] 42)) none:=World.grownBy_alloc _ _ _
  generalize wr.alloc (.cells #[a0,a1,a2,a3,a4] 42)=W1 at s1 g1' hb2 ⊢
  have s2:=World.size_alloc W1 (.cells #[g0,g1,g2,g3,g4,a0,a1,a2,a3,a4] 42)
  have g2':wr.grownBy (W1.alloc (.cells #[g0,g1,g2,g3,g4,a0,a1,a2,a3,a4] 42)) none:=only_trans g1' (World.grownBy_alloc _ _ _)
  have kb:=Blk.new W1 42 #[g0,g1,g2,g3,g4,a0,a1,a2,a3,a4]
  rw [s1,← hm] at kb
  generalize W1.alloc (.cells #[g0,g1,g2,g3,g4,a0,a1,a2,a3,a4] 42)=W1 at s2 g2' kb hb2 ⊢
  have g2':wr.grownBy w2 none:=only_trans g2' (only_of_below hb2 none)
  have kb:=kb.below hb2 (by omega)
  have s2:wr.heap.size+2≤w2.heap.size:=by have:=hb2.size; omega
  have hg:=only_set5 w2 w.heap.size (.int .i64 3) (.int .i64 0) (.int .i64 0) (.slice none 0 0) (.slice (some ⟨m,0,none⟩) 2 2)
  have kx:=(hb.grown g2' (by simp)).set5 (.int .i64 3) (.int .i64 0) (.int .i64 0) (.slice none 0 0) (.slice (some ⟨m,0,none⟩) 2 2)
  have hs:=hg.size
  have hkeep:∀ p:Addr,p.block≠w.heap.size→p.block<wr.heap.size→World.cell? _ p=wr.cell? p:=fun p h1 h2=>(World.cell?_of_block (hg.block p.block (by omega) (by simp; omega))).trans (World.cell?_of_block (g2'.block p.block h2 (by simp)))
  unfold AppRel
  rw [appTm_take hj]
  refine ⟨none,0,some ⟨m,0,none⟩,2,kx,isTm_iff.2 ⟨rfl,rfl,IsTy.leaf _ _ _,?_⟩,(k1.grown g2' (by simp)).grown hg (by simp),(hbel.grown g2' hz (by simp)).grown hg (by have:=g2'.size; omega) (fun k e=>by cases e; exact Nat.le_refl _)⟩
  refine Rep.Sl.of_blk (R:=TmR) (S:=fun b=>(S b∨w.heap.size+2≤b)∧b<wr.heap.size) (kb.grown hg (by simp; omega)) (tm_cons (IsTm.keep (fun _ h=>h) (fun p hp=>hkeep p (hp.1.elim (fun h=>by have:=hS _ h; omega) (fun h=>by omega)) hp.2) _ hf)
    (tm_one (IsTm.keep (fun b h=>⟨.inl h,by have:=hS b h; omega⟩) (fun p hp=>hkeep p (by have:=hS _ hp; omega) (by have:=hS _ hp; omega)) _ ha))) (fun b h=>⟨h.1,by omega⟩) (by omega) rfl
set_option maxRecDepth 100000 in
set_option maxHeartbeats 4000000 in
theorem vapp_any (lo:Nat) (f:Tm) (l:List Tm) (v s:Value) (w:World) (hlo:lo≤w.heap.size) (hln:l.length≤4096) (hf:TmFrom lo w f v) (hl:TmR.Sl (fun b=>lo≤b∧b<w.heap.size) w l s) :
    Calls Tryz.prog 140 #[v,s] w (MakesTm lo (appTm f l) w):=by
  have HT:=Lib.hid hf
  have HL:=Lib.hid hl
  obtain ⟨B,d,A,c,rfl,_⟩:=IsTm.form hf
  obtain ⟨A0,c0,rfl⟩:=hl.form
  obtain ⟨W,hW,hb,hz,k0,k1⟩:=box55_facts w (.int .i64 f.kind) (.int .i64 f.index) (.int .i64 f.type.kind) (.slice B f.type.args.length d) (.slice A f.args.length c)
  clear hf hl
  go_enter Tryz.func140,Tryz.ntmps140
  go_wp2_with fail
  rw [← hW]
  clear hW
  have HSS:=Lib.hid (show ∀ b,(lo≤b∧b<w.heap.size)→b<w.heap.size from fun _ h=>h.2)
  have HB:=Lib.hid hb
  go_loopw [9] (fun ix wq=>∃ j:Nat,j≤l.length∧ix=.int .i64 j∧AppRel (fun b=>lo≤b∧b<w.heap.size) w f l j wq) (fun ix _=>l.length - (intOf ix).toNat)
  case atStart=>exact ⟨0,by omega,rfl,B,d,A,c,k0,IsTm.keep (fun b h=>⟨.inl h,by have:=h.2; omega⟩) (fun p hp=>hb.cell hp.2) _ HT.out,k1,hb⟩
  case round=>
    obtain ⟨j,hj,rfl,B2,d2,A2,c2,kx,hx,ky,hBq⟩:=hrel
    have hqs:=hBq.size
    have hql:=ky.lt
    by_cases hlt:j<l.length
    · have hl1:TmR.Sl (fun b=>lo≤b∧b<w.heap.size) wr l (.slice A0 l.length c0):=HL.out.keep (fun _ h=>h) (fun p hp=>hBq.cell hp.2)
      obtain ⟨a,rfl,ha,hat⟩:=hl1.get j hlt
      obtain ⟨B1,d1,A1,c1,q0,q1,q2,q3,q4,hxa⟩:=at_tm hat
      simp only [show TmR.n=5 from rfl] at q0 q1 q2 q3 q4
      have u0:=fun o=>(kx.alloc o).facts5.1
      have u1:=fun o=>(kx.alloc o).facts5.2.1
      have u2:=fun o=>(kx.alloc o).facts5.2.2.1
      have u3:=fun o=>(kx.alloc o).facts5.2.2.2.1
      have u4:=fun o=>(kx.alloc o).facts5.2.2.2.2.1
      have v0:=fun o o'=>((kx.alloc o).alloc o').facts5.1
      have v1:=fun o o'=>((kx.alloc o).alloc o').facts5.2.1
      have v2:=fun o o'=>((kx.alloc o).alloc o').facts5.2.2.1
      have v3:=fun o o'=>((kx.alloc o).alloc o').facts5.2.2.2.1
      have v4:=fun o o'=>((kx.alloc o).alloc o').facts5.2.2.2.2.1
      have HXA:=Lib.hid hxa
      have HX:=Lib.hid hx
      have KX:=Lib.hid kx
      have KY:=Lib.hid ky
      have HQ:=Lib.hid hBq
      clear hl1 hat hxa hx kx ky hBq k0 k1 hb
      go_wp2_with fail
      refine (node_any 3 _ 2 2 _).mono ?_
      rintro e w2 ⟨rfl,hb2⟩
      have AFTER:=Lib.hid (app_node_step HSS.out hlt KX.out HX.out HXA.out KY.out HQ.out rfl hb2)
      obtain ⟨_,_,_,_,_,f0,f1,f2,f3,f4⟩:=((KX.out.alloc (.cells #[.int .i64 l[j].kind,.int .i64 l[j].index,.int .i64 l[j].type.kind,.slice B1 l[j].type.args.length d1,.slice A1 l[j].args.length c1] 42)).alloc (.cells #[.int .i64 (appTm f (l.take j)).kind,.int .i64 (appTm f (l.take j)).index,.int .i64 (appTm f (l.take j)).type.kind,.slice B2 (appTm f (l.take j)).type.args.length d2,.slice A2 (appTm f (l.take j)).args.length c2,.int .i64 l[j].kind,.int .i64 l[j].index,.int .i64 l[j].type.kind,.slice B1 l[j].type.args.length d1,.slice A1 l[j].args.length c1] 42)).below hb2 (by have:=KX.out.lt; simp; omega) |>.facts5
      clear hb2
      go_wp2_with fail
      exact ⟨⟨j+1,by omega,by go_num,AFTER.out⟩,by simp [intOf]; omega⟩
    · have hjl:j=l.length:=by omega
      subst hjl
      rw [List.take_length] at kx hx
      obtain ⟨q0,q1,q2,q3,q4⟩:=kx.cells5
      obtain ⟨r0,r1,r2,r3,r4,f0,f1,f2,f3,f4⟩:=ky.facts5
      have HX:=Lib.hid hx
      clear hx
      go_wp2_with fail
      obtain ⟨z0,z1,z2,z3,z4⟩:=(ky.set5 (.int .i64 (appTm f l).kind) (.int .i64 (appTm f l).index) (.int .i64 (appTm f l).type.kind) (.slice B2 (appTm f l).type.args.length d2) (.slice A2 (appTm f l).args.length c2)).cells5
      refine bodyPost_ret (v:=.agg #[.int .i64 (appTm f l).kind,.int .i64 (appTm f l).index,.int .i64 (appTm f l).type.kind,.slice B2 (appTm f l).type.args.length d2,.slice A2 (appTm f l).args.length c2]) (by simp [results,Tryz.results140,go_sem,z0,z1,z2,z3,z4]) rfl ?_
      refine set5_node _ (by omega) hBq (IsTm.keep (fun b h=>?_) (fun _ _=>rfl) _ HX.out)
      have h1:=h.1
      have h2:=h.2
      constructor <;> omega
end Go.Proofs.YthlknhkemmdocaaGreatDoor
namespace Go.Proofs.YthlknhkemmdocaaGreatDoor
open Go.RowKit

theorem TmFrom.low {lo lo':Nat} {w:World} {t:Tm} {v:Value} (h:TmFrom lo w t v) (hl:lo'≤lo):TmFrom lo' w t v:=IsTm.keep (fun _ h=>⟨by omega,h.2⟩) (fun _ _=>rfl) _ h
set_option maxRecDepth 100000 in
set_option maxHeartbeats 1000000 in
theorem vpred_any (w:World):Calls Tryz.prog 141 #[] w (MakesTm w.heap.size predTm w):=by
  go_enter Tryz.func141,Tryz.ntmps141
  go_wp2_with fail
  obtain ⟨b0,z0,k0⟩:=new_blk (Below.refl w.heap.size w) (Nat.le_refl _) #[.int .i64 0,.int .i64 0,.int .i64 0,.slice none 0 0,.slice none 0 0] 42
  generalize w.alloc (Obj.cells #[.int .i64 0,.int .i64 0,.int .i64 0,.slice none 0 0,.slice none 0 0] 42)=W0 at b0 z0 k0 ⊢
  have Q0:=Lib.hid (Below.refl W0.heap.size W0)
  have HZ:=Lib.hid z0
  have K0:=Lib.hid k0
  have HB:=Lib.hid b0
  clear z0 k0 b0
  refine (node_any 4 none 0 0 _).mono ?_
  rintro e W1 ⟨rfl,s⟩
  have Q1:=Lib.hid (Q0.out.trans (s.mono Q0.out.size))
  have t1:=Lib.hid (show TmFrom (w.heap.size+1) W1 (.mk 4 0 .zero []) (.agg #[.int .i64 4,.int .i64 0,.int .i64 0,.slice none 0 0,.slice none 0 0]) from isTm_iff.2 ⟨rfl,rfl,IsTy.leaf _ _ _,Rep.Sl.nil _ _⟩)
  clear s
  go_wp2_with fail
  refine (vvar_any (w.heap.size+1) 1 _).mono ?_
  rintro e W2 ⟨T2,v2,hT2,rfl,t2,s⟩
  have Q2:=Lib.hid (Q1.out.trans (s.mono Q1.out.size))
  have t1:=Lib.hid (t1.out.keep s)
  have t2:=Lib.hid t2
  have E2:=Lib.hid hT2
  clear s hT2
  go_wp2_with fail
  refine (vlam_any (w.heap.size+1) T2 v2 _ (by have h1:=Q2.out.size; have h2:=HZ.out; omega) t2.out).mono ?_
  rintro e W3 ⟨T3,v3,hT3,rfl,t3,s⟩
  have Q3:=Lib.hid (Q2.out.trans (s.mono Q2.out.size))
  have t1:=Lib.hid (t1.out.keep s)
  have t3:=Lib.hid t3
  have E3:=Lib.hid hT3
  clear s hT3
  go_wp2_with fail
  refine (vlam_any (w.heap.size+1) T3 v3 _ (by have h1:=Q3.out.size; have h2:=HZ.out; omega) t3.out).mono ?_
  rintro e W4 ⟨T4,v4,hT4,rfl,t4,s⟩
  have Q4:=Lib.hid (Q3.out.trans (s.mono Q3.out.size))
  have t1:=Lib.hid (t1.out.keep s)
  have t4:=Lib.hid t4
  have E4:=Lib.hid hT4
  clear s hT4
  go_wp2_with fail
  refine (vvar_any (w.heap.size+1) 0 _).mono ?_
  rintro e W5 ⟨T5,v5,hT5,rfl,t5,s⟩
  have Q5:=Lib.hid (Q4.out.trans (s.mono Q4.out.size))
  have t1:=Lib.hid (t1.out.keep s)
  have t4:=Lib.hid (t4.out.keep s)
  have t5:=Lib.hid t5
  have E5:=Lib.hid hT5
  clear s hT5
  go_wp2_with fail
  refine (vrec_any (w.heap.size+1) _ T4 T5 _ v4 v5 _ (by have h1:=Q5.out.size; have h2:=HZ.out; omega) t1.out t4.out t5.out).mono ?_
  rintro e W6 ⟨T6,v6,hT6,rfl,t6,s⟩
  have Q6:=Lib.hid (Q5.out.trans (s.mono Q5.out.size))
  have t6:=Lib.hid t6
  have E6:=Lib.hid hT6
  clear s hT6
  go_wp2_with fail
  refine (vlam_any (w.heap.size+1) T6 v6 _ (by have h1:=Q6.out.size; have h2:=HZ.out; omega) t6.out).mono ?_
  rintro e W7 ⟨T7,v7,hT7,rfl,t7,s⟩
  have Q7:=Lib.hid (Q6.out.trans (s.mono Q6.out.size))
  have t7:=Lib.hid t7
  have E7:=Lib.hid hT7
  clear s hT7
  have END:=Lib.hid (show T7=predTm by rw [E7.out,E6.out,E5.out,E4.out,E3.out,E2.out]; rfl)
  obtain ⟨B7,d7,A7,c7,rfl,_⟩:=IsTm.form t7.out
  have k1:=K0.out.below Q7.out K0.out.lt
  obtain ⟨_,_,_,_,_,f0,f1,f2,f3,f4⟩:=k1.facts5
  go_wp2_with fail
  obtain ⟨z0,z1,z2,z3,z4⟩:=(k1.set5 (.int .i64 T7.kind) (.int .i64 T7.index) (.int .i64 T7.type.kind) (.slice B7 T7.type.args.length d7) (.slice A7 T7.args.length c7)).cells5
  refine bodyPost_ret (v:=.agg #[.int .i64 T7.kind,.int .i64 T7.index,.int .i64 T7.type.kind,.slice B7 T7.type.args.length d7,.slice A7 T7.args.length c7]) (by simp [results,Tryz.results141,go_sem,z0,z1,z2,z3,z4]) rfl ?_
  rw [← END.out]
  exact set5_node T7 (Nat.le_refl _) (HB.out.trans (Q7.out.mono HB.out.size)) (IsTm.keep (fun b h=>⟨by have:=h.1; omega,by have:=h.1; omega,h.2⟩) (fun _ _=>rfl) _ t7.out)
end Go.Proofs.YthlknhkemmdocaaGreatDoor
namespace Go.Proofs.YthlknhkemmdocaaGreatDoor
open Go.RowKit

set_option maxRecDepth 100000 in
set_option maxHeartbeats 4000000 in
theorem vsub_any (w:World):Calls Tryz.prog 115 #[] w (MakesTm w.heap.size subTm w):=by
  go_enter Tryz.func115,Tryz.ntmps115
  go_wp2_with fail
  obtain ⟨b0,z0,k0⟩:=new_blk (Below.refl w.heap.size w) (Nat.le_refl _) #[.int .i64 0,.int .i64 0,.int .i64 0,.slice none 0 0,.slice none 0 0] 42
  generalize w.alloc (Obj.cells #[.int .i64 0,.int .i64 0,.int .i64 0,.slice none 0 0,.slice none 0 0] 42)=W0 at b0 z0 k0 ⊢
  have Q0:=Lib.hid (Below.refl W0.heap.size W0)
  have HZ:=Lib.hid z0
  have K0:=Lib.hid k0
  have HB:=Lib.hid b0
  clear z0 k0 b0
  refine (vpred_any _).mono ?_
  rintro e W1 ⟨T1,v1,hT1,rfl,t1,s⟩
  have Q1:=Lib.hid (Q0.out.trans (s.mono Q0.out.size))
  have t1:=Lib.hid (TmFrom.low t1 (lo':=(w.heap.size+1)) (by have:=HZ.out; omega))
  have E1:=Lib.hid hT1
  clear s hT1
  go_wp2_with fail
  refine (vvar_any (w.heap.size+1) 0 _).mono ?_
  rintro e W2 ⟨T2,v2,hT2,rfl,t2,s⟩
  have Q2:=Lib.hid (Q1.out.trans (s.mono Q1.out.size))
  have t1:=Lib.hid (t1.out.keep s)
  have t2:=Lib.hid t2
  have E2:=Lib.hid hT2
  clear s hT2
  obtain ⟨B2,d2,A2,c2,rfl,_⟩:=IsTm.form t2.out
  go_wp2_with fail
  have SL:=Lib.hid (show TmR.Sl (fun b=>(w.heap.size+1)≤b∧b<(W2.alloc (Obj.cells #[.int .i64 T2.kind,.int .i64 T2.index,.int .i64 T2.type.kind,.slice B2 T2.type.args.length d2,.slice A2 T2.args.length c2] 42)).heap.size) (W2.alloc (Obj.cells #[.int .i64 T2.kind,.int .i64 T2.index,.int .i64 T2.type.kind,.slice B2 T2.type.args.length d2,.slice A2 T2.args.length c2] 42)) [T2] (.slice (some ⟨W2.heap.size,0,none⟩) 1 1) from built_one (R:=TmR) (xs:=[.int .i64 T2.kind,.int .i64 T2.index,.int .i64 T2.type.kind,.slice B2 T2.type.args.length d2,.slice A2 T2.args.length c2]) t2.out (by have h1:=Q2.out.size; have h2:=HZ.out; omega))
  refine (vapp_any (w.heap.size+1) T1 [T2] v1 _ _ (by have h1:=Q2.out.size; have h2:=HZ.out; simp only [World.size_alloc]; omega) (by simp) (t1.out.keep ((Below.refl _ _).alloc (Nat.le_refl _) _)) SL.out).mono ?_
  rintro e W3 ⟨T3,v3,hT3,rfl,t3,s⟩
  have Q3:=Lib.hid ((Q2.out.alloc Q2.out.size _).trans (s.mono (by have:=Q2.out.size; simp only [World.size_alloc]; omega)))
  have t3:=Lib.hid t3
  have E3:=Lib.hid hT3
  clear s hT3
  go_wp2_with fail
  refine (vlam_any (w.heap.size+1) T3 v3 _ (by have h1:=Q3.out.size; have h2:=HZ.out; omega) t3.out).mono ?_
  rintro e W4 ⟨T4,v4,hT4,rfl,t4,s⟩
  have Q4:=Lib.hid (Q3.out.trans (s.mono Q3.out.size))
  have t4:=Lib.hid t4
  have E4:=Lib.hid hT4
  clear s hT4
  go_wp2_with fail
  refine (vlam_any (w.heap.size+1) T4 v4 _ (by have h1:=Q4.out.size; have h2:=HZ.out; omega) t4.out).mono ?_
  rintro e W5 ⟨T5,v5,hT5,rfl,t5,s⟩
  have Q5:=Lib.hid (Q4.out.trans (s.mono Q4.out.size))
  have t5:=Lib.hid t5
  have E5:=Lib.hid hT5
  clear s hT5
  have END5:=Lib.hid (show T5=lamTm (lamTm (appTm predTm [varTm 0])) by rw [E5.out,E4.out,E3.out,E2.out,E1.out])
  obtain ⟨B5,d5,A5,c5,rfl,_⟩:=IsTm.form t5.out
  go_upto_region 2 with fail
  obtain ⟨bN,zN,kN⟩:=new_blk (Below.refl W5.heap.size W5) (Nat.le_refl _) #[.int .i64 T5.kind,.int .i64 T5.index,.int .i64 T5.type.kind,.slice B5 T5.type.args.length d5,.slice A5 T5.args.length c5] 42
  generalize W5.alloc (Obj.cells #[.int .i64 T5.kind,.int .i64 T5.index,.int .i64 T5.type.kind,.slice B5 T5.type.args.length d5,.slice A5 T5.args.length c5] 42)=W at bN zN kN ⊢
  have QW:=Lib.hid (Q5.out.trans (bN.mono Q5.out.size))
  have tN:=Lib.hid (t5.out.keep bN)
  have KN:=Lib.hid kN
  have h5:=Q5.out.size
  have hw0:=HZ.out
  have HSK:=Lib.hid fun (w':World) (h:Below W.heap.size W w')=>(KN.out.below h KN.out.lt).cells5
  obtain ⟨y0,y1,y2,y3,y4⟩:=HSK.out W (Below.refl _ _)
  have LV0:=Lib.hid ((Below.refl W.heap.size W).drew)
  clear bN kN
  go_region_held3 (fun w'=>w'.cell? ⟨W5.heap.size,0,none⟩ = some (.int .i64 T5.kind)∧w'.cell? ⟨W5.heap.size,1,none⟩ = some (.int .i64 T5.index)∧w'.cell? ⟨W5.heap.size,2,none⟩ = some (.int .i64 T5.type.kind)∧w'.cell? ⟨W5.heap.size,3,none⟩ = some (.slice B5 T5.type.args.length d5)∧w'.cell? ⟨W5.heap.size,4,none⟩ = some (.slice A5 T5.args.length c5))
    (first | with_reducible exact HSK.out _ LV0.out | with_reducible exact HSK.out _ LV1.out | with_reducible exact HSK.out _ LV2.out | with_reducible exact HSK.out _ LV3.out | with_reducible exact HSK.out _ LV4.out | with_reducible exact HSK.out _ LV5.out | with_reducible exact HSK.out _ LV6.out | with_reducible exact SKF.out)
    (first
      | (go_at_call 142
         (with_reducible refine (vvar_any (w.heap.size+1) 1 W.drew).mono ?_)
         rintro e U1 ⟨V1,u1,hV1,rfl,r1,s⟩
         have r1:=Lib.hid r1
         have LV1:=Lib.hid (LV0.out.trans s)
         have LV2:=Lib.hid (LV1.out.drew)
         have HV1:=Lib.hid hV1
         clear s hV1)
      | (go_at_call 142
         (with_reducible refine (vvar_any (w.heap.size+1) 0 U1.drew).mono ?_)
         rintro e U2 ⟨V2,u2,hV2,rfl,r2,s⟩
         have LV3:=Lib.hid (LV2.out.trans (s.mono LV2.out.size))
         have r1:=Lib.hid (r1.out.keep (((Below.refl _ _).drew).trans s))
         have r2:=Lib.hid r2
         have HV2:=Lib.hid hV2
         clear s hV2)
      | (go_at_call 142
         (with_reducible refine (vvar_any (w.heap.size+1) 0 U1).mono ?_)
         rintro e U2 ⟨V2,u2,hV2,rfl,r2,s⟩
         have LV3:=Lib.hid (LV1.out.trans (s.mono LV1.out.size))
         have r1:=Lib.hid (r1.out.keep s)
         have r2:=Lib.hid r2
         have HV2:=Lib.hid hV2
         clear s hV2)
      | (go_at_call 143
         (with_reducible refine (vrec_any (w.heap.size+1) V1 T5 V2 u1 _ u2 U2 (by have h1:=LV3.out.size; have h2:=zN; omega) r1.out (tN.out.keep LV3.out) r2.out).mono ?_)
         rintro e U3 ⟨V3,u3,hV3,rfl,r3,s⟩
         have LV4:=Lib.hid (LV3.out.trans (s.mono LV3.out.size))
         have r3:=Lib.hid r3
         have HV3:=Lib.hid hV3
         clear s hV3)
      | (go_at_call 139
         (with_reducible refine (vlam_any (w.heap.size+1) V3 u3 U3 (by have h1:=LV4.out.size; have h2:=zN; omega) r3.out).mono ?_)
         rintro e U4 ⟨V4,u4,hV4,rfl,r4,s⟩
         have LV5:=Lib.hid (LV4.out.trans (s.mono LV4.out.size))
         have r4:=Lib.hid r4
         have HV4:=Lib.hid hV4
         clear s hV4)
      | (go_at_call 139
         (with_reducible refine (vlam_any (w.heap.size+1) V4 u4 U4 (by have h1:=LV5.out.size; have h2:=zN; omega) r4.out).mono ?_)
         rintro e U5 ⟨V5,u5,hV5,rfl,r5,s⟩
         have LV6:=Lib.hid (LV5.out.trans (s.mono LV5.out.size))
         have r5:=Lib.hid r5
         have END:=Lib.hid (show V5=subTm by rw [hV5,HV4.out,HV3.out,HV2.out,HV1.out,END5.out]; rfl)
         clear s hV5
         obtain ⟨B9,d9,A9,c9,rfl,_⟩:=IsTm.form r5.out
         have QU:=Lib.hid (QW.out.trans (LV6.out.mono QW.out.size))
         have K9:=Lib.hid (K0.out.below QU.out K0.out.lt)
         obtain ⟨m0,m1,m2,m3,m4,x0,x1,x2,x3,x4⟩:=K9.out.facts5
         have SKF:=Lib.hid (((KN.out.below LV6.out KN.out.lt).grown (only_set5 U5 w.heap.size (.int .i64 V5.kind) (.int .i64 V5.index) (.int .i64 V5.type.kind) (.slice B9 V5.type.args.length d9) (.slice A9 V5.args.length c9)) (by simp; omega)).cells5)))
  all_goals go_wp2_with fail
  all_goals
    obtain ⟨z0,z1,z2,z3,z4⟩:=(K9.out.set5 (.int .i64 V5.kind) (.int .i64 V5.index) (.int .i64 V5.type.kind) (.slice B9 V5.type.args.length d9) (.slice A9 V5.args.length c9)).cells5
    refine bodyPost_ret (v:=.agg #[.int .i64 V5.kind,.int .i64 V5.index,.int .i64 V5.type.kind,.slice B9 V5.type.args.length d9,.slice A9 V5.args.length c9]) (by simp [results,Tryz.results115,go_sem,z0,z1,z2,z3,z4]) rfl ?_
    rw [← END.out]
    exact set5_node V5 (Nat.le_refl _) (HB.out.trans (QU.out.mono HB.out.size)) (IsTm.keep (fun b h=>⟨by have:=h.1; omega,by have:=h.1; omega,h.2⟩) (fun _ _=>rfl) _ r5.out)
end Go.Proofs.YthlknhkemmdocaaGreatDoor
