/- mk.Context: a short context. -/
import Derived.Test.YtipfnkajdooiiaaGreatDoorQMakeT
namespace Go.Proofs.YtipfnkajdooiiaaGreatDoor
open Go.RowKit

/-- A turn of a block that was not there. -/
theorem only_then {a b c:World} {row row':Option Nat} (h:a.grownBy b row) (k:b.grownBy c row') (hr:∀ i,row' = some i→a.heap.size≤i):a.grownBy c row:=
 ⟨k.os.trans h.os,k.tape.trans h.tape,k.output.trans h.output,Nat.le_trans h.size k.size,fun i hi hx=>(k.block i (Nat.lt_of_lt_of_le hi h.size) (fun e=>by have:=hr i e.symm; omega)).trans (h.block i hi hx)⟩

/-- A slice as it can be made: nil, or somewhere. -/
def Formed (v:Value):Prop:=v=.slice none 0 0∨∃ (a:Addr) (n c:Nat),v=.slice (some a) n c∧n≤c
theorem own_formed {α:Type} {R:Rep α} {S:Nat→Prop} {base:Nat} {v:Value} {l:List α} {w:World} (h:R.Own S base v l w):Formed v:=by
 obtain ⟨xs,hown,_⟩:=h
 rcases hown.2 with ⟨rfl,hn⟩ | ⟨g,cap,cur,rfl,_,_,hle,_⟩
 · exact .inl rfl
 · exact .inr ⟨_,_,_,rfl,hle⟩

/-- What mk.Context answers. -/
def CtxR (g:Nat) (w:World) (e:Ending) (w':World):Prop:=
 ∃ G v,e=.returned v∧G.length≤3∧(∀ T ∈ G,T.ok=true∧T.nodes≤3)∧TyR.Sl (fun b=>w.heap.size≤b∧b<w'.heap.size) w' G v∧Formed v∧(G=[]→v=.slice none 0 0)∧Deck w' g∧w.grownBy w' (some g)

set_option maxRecDepth 100000 in
set_option maxHeartbeats 1000000 in
theorem mkContext_any (g:Nat) (w:World) (hd:Deck w g) :
   Calls Tryz.prog 11 #[.pointer (some ⟨g,0,none⟩)] w (CtxR g w):=by
 have hgw:=hd.lt
 go_enter Tryz.func11,Tryz.ntmps11
 go_wp2_with fail
 refine (next_any g 4 _ (by omega) (by omega) (by first | exact hd | exact (hd.grown (World.grownBy_alloc w _ none) (by simp)))).mono ?_
 rintro e w1 ⟨r,rfl,hr0,hr7,hd1,hg1⟩
 have HD:=Lib.hid hd1
 clear hd1
 have hgw1:w.grownBy w1 (some g):=hg1
 clear hg1
 go_wp2_with fail
 go_loopw [3,4] (fun s kx wr=>∃ (L:List Ty) (k:Nat),kx=.int .i64 k∧L.length+k≤3∧(∀ T ∈ L,T.ok=true∧T.nodes≤3)∧TyR.Own (w.heap.size≤·) w.heap.size s L wr∧(L=[]→s=.slice none 0 0)∧Deck wr g∧w.grownBy wr (some g))
   (fun _ kx _=>(intOf kx).toNat)
 case atStart=>exact ⟨[],r.toNat,by rw [Int.toNat_of_nonneg hr0],by simp; omega,by simp,Rep.Own.nil _ _ _,fun _=>rfl,HD.out,hgw1⟩
 case round=>
   obtain ⟨L,k,rfl,hL,hok,hown,hnil,hdr,hgr⟩:=hrel
   have HNIL:=Lib.hid hnil
   have HO:=Lib.hid hown
   have HDR:=Lib.hid hdr
   have HOK:=Lib.hid hok
   clear hown hdr hok hnil
   by_cases hk:0<k
   · have e1:decide ((k:Int) > 0)=true:=by simp; omega
     go_wp2_with fail
     refine (type_any 1 1 g wr (by omega) (by omega) (by omega) HDR.out).mono ?_
     rintro e w2 ⟨T,v,rfl,okT,szT,tyT,hd2,hg2⟩
     obtain ⟨A2,c2,rfl⟩:=tyT.form
     have hs1:=hgr.size
     have hs2:=hg2.size
     have hown1:=HO.out.far hg2 hgw (by omega)
     obtain ⟨xs,hxo,hxc⟩:=hown1
     have hxo1:=hxo.alloc (Obj.cells #[.int .i64 T.kind,.slice A2 T.args.length c2] 30)
     obtain ⟨i0,hi,hz0,hz1,hz2⟩:=info_parts info_type
     have HLT:=Lib.hid HO.out.lt
     have HXC:=Lib.hid (And.intro hxc (And.intro tyT hd2))
     clear hxc tyT hd2
     go_wp2_with (at_builtin; go_loud (refine wpList_append_own_at _ rfl _ _ 27 rfl w.heap.size 30 i0 _ 2 32 Tryz.underlying27 hi hz0 hz1 hz2 rfl (by decide) u3 L.length xs rfl hxo1 ⟨w2.heap.size,0,none⟩ 1 1 [_,_] rfl rfl (cells_new _ _ _) (by simp [Value.oneCell']) (by simp only [maxLen]; omega) (by omega) (by simp; omega) ?_); intro v3 w3 hown3 hg3 hnil3 hat3)
     obtain ⟨hxc,tyT,hd2⟩:=HXC.out
     have hal:=World.grownBy_alloc w2 (Obj.cells #[.int .i64 T.kind,.slice A2 T.args.length c2] 30) (some g)
     have hlt:=HLT.out
     refine ⟨⟨L ++ [T],k - 1,by go_num,by simp; omega,?_,?_,fun e=>by simp at e,?_,?_⟩,by simp [intOf]; omega⟩
     · intro U hU
       rcases List.mem_append.1 hU with h | h
       · exact HOK.out U h
       · rw [List.mem_singleton.1 h]; exact ⟨okT,by simp at szT; omega⟩
     · refine Rep.Own.more (R:=TyR) (m:=[T]) hxo1 (hxc.keep (fun b hb=>⟨hb.1,by have:=hb.2.1; simp; omega,hb.2.2⟩) (fun p hp=>World.cell?_alloc_lt _ _ _ hp.2.1))
         (Rep.Ch.one (R:=TyR) (vs:=[_,_]) (IsTy.keep (fun b hb=>⟨by have:=hb.1; omega,by have:=hb.2; simp; omega,fun e=>by have h1:=hlt _ e; have h2:=hb.1; omega⟩) (fun p hp=>World.cell?_alloc_lt _ _ _ hp.2) _ tyT)) hown3 hg3 hat3
     · exact (hd2.grown (World.grownBy_alloc w2 _ none) (by simp)).grown hg3 (fun k e=>by have:=hlt k e; omega)
     · exact only_then (only_trans (only_trans hgr hg2) hal) hg3 (fun k e=>(hlt k e).1)
   · have e1:decide ((k:Int) > 0)=false:=by simp; omega
     obtain ⟨A3,c3,rfl⟩:=HO.out.form
     go_wp2_with fail
     refine bodyPost_ret (v:=.slice A3 L.length c3) (by simp [results,Tryz.results11,go_sem]) rfl ⟨L,_,rfl,by omega,HOK.out,HO.out.sl.keep (fun b hb=>⟨hb.1.elim id id,hb.2⟩) (fun _ _=>rfl),own_formed HO.out,HNIL.out,HDR.out,hgr⟩
end Go.Proofs.YtipfnkajdooiiaaGreatDoor
