/- The number of nodes of a term. -/
import Derived.Test.YtipfnkajdooiiaaGreatDoorQTerm
import Derived.Test.YtipfnkajdooiiaaGreatDoorQFormedT
import Derived.Sort.LoopGhostIn
namespace Go.Proofs.YtipfnkajdooiiaaGreatDoor
open Go.RowKit

mutual
def Tm.size:Tm→Nat
 | .mk _ _ _ l=>1+sizeAllT l
def sizeAllT:List Tm→Nat
 | []=>0
 | t :: r=>t.size+sizeAllT r
end
theorem sizeT_eq (t:Tm):t.size=1+sizeAllT t.args:=by cases t; rfl
theorem sizeAllT_append:∀ (l r:List Tm),sizeAllT (l ++ r)=sizeAllT l+sizeAllT r
 | [],r=>by simp [sizeAllT]
 | t :: l,r=>by simp only [List.cons_append,sizeAllT,sizeAllT_append l r]; omega
theorem sizeT_pos (t:Tm):1≤t.size:=by rw [sizeT_eq]; omega
theorem sizeAllT_len:∀ (l:List Tm),l.length≤sizeAllT l
 | []=>by simp [sizeAllT]
 | t :: r=>by
   have:=sizeAllT_len r
   have:=sizeT_pos t
   simp only [sizeAllT,List.length_cons]
   omega
mutual
theorem size_bulk:∀ t:Tm,t.size≤t.bulk
 | .mk k i T l=>by have:=sizeAll_bulk l; simp only [Tm.size,Tm.bulk]; omega
theorem sizeAll_bulk:∀ l:List Tm,sizeAllT l≤bulkAll l
 | []=>by simp [sizeAllT,bulkAll]
 | t :: r=>by have:=size_bulk t; have:=sizeAll_bulk r; simp only [sizeAllT,bulkAll]; omega
end
end Go.Proofs.YtipfnkajdooiiaaGreatDoor
namespace Go.Proofs.YtipfnkajdooiiaaGreatDoor
open Go.RowKit

mutual
/-- All nodes are as they must be. -/
def Tm.ok:Tm→Bool
 | .mk k i T l=>(Tm.mk k i T l).formed && okAllT l
def okAllT:List Tm→Bool
 | []=>true
 | t :: r=>t.ok && okAllT r
end
theorem okT_eq (t:Tm):t.ok=(t.formed && okAllT t.args):=by cases t; rfl
theorem okAllT_append:∀ (l r:List Tm),okAllT (l ++ r)=(okAllT l && okAllT r)
 | [],r=>by simp [okAllT]
 | t :: l,r=>by simp only [List.cons_append,okAllT,okAllT_append l r,Bool.and_assoc]
theorem okAllT_get {l:List Tm} (h:okAllT l=true):∀ i (hi:i<l.length),l[i].ok=true:=by
 induction l with
 | nil=>intro i hi; simp at hi
 | cons t r ih=>
   simp only [okAllT,Bool.and_eq_true] at h
   intro i hi
   cases i with
   | zero=>exact h.1
   | succ i=>exact ih h.2 i (by simpa using hi)

/-- The error of Check, and the number that Size returns. -/
def Tm.err (t:Tm):Int:=if t.ok then if t.size≤4096 then 0 else 4 else 2
def Tm.count (t:Tm):Int:=if t.ok∧t.size≤4096 then t.size else 0
theorem errT_zero {t:Tm}:t.err=0↔t.ok=true∧t.size≤4096:=by
 unfold Tm.err; split <;> rename_i h
 · split <;> simp_all
 · simp_all
theorem errT_count {t:Tm} (h:t.err=0):t.count=t.size:=by
 have:=errT_zero.1 h
 simp [Tm.count,this]

def SizeRT (t:Tm) (w:World) (e:Ending) (w':World):Prop:=e=.returned (.tuple #[.int .i64 t.count,.int .i64 t.err])∧Below w.heap.size w w'

/-- The last term of a slice of the call's own, as the walk asks for it. -/
theorem own_last_tm {S:Nat→Prop} {base:Nat} {v:Value} {ts:List Tm} {x:Tm} {w:World} (h:TmR.Own S base v (ts ++ [x]) w):∃ (g cap:Nat) (B:Option Addr) (d:Nat) (A:Option Addr) (c:Nat),
   v=.slice (some ⟨g,0,none⟩) (ts.length+1) cap∧base≤g∧g<w.heap.size∧ts.length+1≤cap ∧
   w.cell? ⟨g,ts.length * 5,none⟩ = some (.int .i64 x.kind)∧w.cell? ⟨g,ts.length * 5+1,none⟩ = some (.int .i64 x.index)∧w.cell? ⟨g,ts.length * 5+2,none⟩ = some (.int .i64 x.type.kind) ∧
   w.cell? ⟨g,ts.length * 5+3,none⟩ = some (.slice B x.type.args.length d)∧w.cell? ⟨g,ts.length * 5+4,none⟩ = some (.slice A x.args.length c) ∧
   IsTm (fun b=>S b∧b<w.heap.size) w x (.agg #[.int .i64 x.kind,.int .i64 x.index,.int .i64 x.type.kind,.slice B x.type.args.length d,.slice A x.args.length c]) ∧
   TmR.Own S base (.slice (some ⟨g,0,none⟩) ts.length cap) ts w:=by
 obtain ⟨g,cap,vs,rfl,hg0,hg1,hcap,hcell,hx,ho⟩:=h.last
 have hx':IsTm (fun b=>S b∧b<w.heap.size∧g≠b) w x (.agg vs.toArray):=hx
 obtain ⟨B,d,A,c,e,_⟩:=hx'.form
 simp only [Value.agg.injEq] at e
 have e':=congrArg Array.toList e
 simp only at e'
 subst e'
 exact ⟨g,cap,B,d,A,c,rfl,hg0,hg1,hcap,hcell 0 _ rfl,hcell 1 _ rfl,hcell 2 _ rfl,hcell 3 _ rfl,hcell 4 _ rfl,IsTm.keep (fun b hb=>⟨hb.1,hb.2.1⟩) (fun _ _=>rfl) _ hx',ho⟩

/-- The cells of a slice that is there. -/
theorem sl_cells {S:Nat→Prop} {w:World} {l:List Tm} {a:Addr} {n c:Nat} (h:TmR.Sl S w l (.slice (some a) n c)):∃ news,TmR.Ch S w l news∧∀ j u,news[j]? = some u→w.cell? (a.add j)=some u:=by
 cases l with
 | nil=>exact ⟨[],Rep.Ch.nil _ _,fun j u h=>by simp at h⟩
 | cons x r=>
   obtain ⟨A,c',e,h⟩:=h
   simp at e
   obtain ⟨a',h1,_,h2⟩:=h (by simp)
   rw [← e.1] at h1
   cases h1
   exact h2.cells

/-- Few nodes, those of types counted; or few nodes of valid terms. -/
def FitsAll (l:List Tm):Prop:=bulkAll l≤400000∨(okAllT l=true∧sizeAllT l≤400000)
theorem fits_init {ts:List Tm} {x:Tm} (h:FitsAll (ts ++ [x])):FitsAll ts:=by
 rcases h with h | ⟨h,k⟩
 · rw [bulkAll_append] at h; exact .inl (by omega)
 · rw [okAllT_append,Bool.and_eq_true] at h; rw [sizeAllT_append] at k; exact .inr ⟨h.1,by omega⟩
theorem fits_more {ts:List Tm} {x:Tm} (h:FitsAll (ts ++ [x])):FitsAll (ts ++ x.args):=by
 rcases h with h | ⟨h,k⟩
 · refine .inl ?_; rw [bulkAll_append] at h ⊢; simp only [bulkAll,bulk_eq x] at h; omega
 · refine .inr ⟨?_,?_⟩
   · rw [okAllT_append,Bool.and_eq_true] at h ⊢
     simp only [okAllT,Bool.and_true,okT_eq x,Bool.and_eq_true] at h
     exact ⟨h.1,h.2.2⟩
   · rw [sizeAllT_append] at k ⊢; simp only [sizeAllT,sizeT_eq x] at k; omega
theorem fits_last {ts:List Tm} {x:Tm} (h:FitsAll (ts ++ [x])):x.args.length≤400000∧x.type.nodes≤400000∧ts.length+1≤400000:=by
 have hxe:=bulk_eq x
 have hxa:=bulkAll_len x.args
 have hll:=bulkAll_len (ts ++ [x])
 have hsa:=sizeAllT_len x.args
 have hsl:=sizeAllT_len (ts ++ [x])
 simp only [List.length_append,List.length_cons,List.length_nil] at hll hsl
 rcases h with h | ⟨h,k⟩
 · have h':=h
   rw [bulkAll_append] at h'
   simp only [bulkAll] at h'
   exact ⟨by omega,by omega,by omega⟩
 · rw [okAllT_append,Bool.and_eq_true] at h
   have k':=k
   rw [sizeAllT_append] at k'
   simp only [sizeAllT,sizeT_eq x] at k'
   refine ⟨by omega,?_,by omega⟩
   simp only [okAllT,Bool.and_true,okT_eq x,Bool.and_eq_true] at h
   have hf:=h.2.1
   simp only [Tm.formed,Bool.and_eq_true] at hf
   have h6:=hf.2
   split at h6
   · have:=(err_zero.1 (by simpa using h6)).2
     omega
   · simp only [Bool.and_eq_true,beq_iff_eq] at h6
     cases hT:x.type with
     | mk a r=>
       rw [hT] at h6
       have:r=[]:=List.eq_nil_of_length_eq_zero h6.2
       subst this
       simp [Ty.nodes,nodesAll]
theorem fits_size {t:Tm} (h:FitsAll [t]):t.size≤400000:=by
 rcases h with h | ⟨_,h⟩
 · have:=size_bulk t
   simp only [bulkAll] at h
   omega
 · simp only [sizeAllT] at h
   omega

def SizeRel (w:World) (t:Tm) (k:Nat) (cnt s:Value) (wr:World):Prop:=
 ∃ (st:List Tm) (n:Nat),cnt=.int .i64 (n:Int)∧TmR.Own (· < w.heap.size) (w.heap.size+1) s st wr∧okAllT st=t.ok∧n+sizeAllT st=t.size∧FitsAll st∧sizeAllT st=k∧Below w.heap.size w wr∧w.heap.size+1≤wr.heap.size

set_option maxRecDepth 100000 in
set_option maxHeartbeats 2000000 in
theorem sizeT_fits (t:Tm) (v:Value) (w:World) (hsz:FitsAll [t]) (htab:Tab w) (hT:IsTm (· < w.heap.size) w t v) :
   Calls Tryz.prog 134 #[v] w (SizeRT t w):=by
 obtain ⟨B,d,A,c,rfl,_,_⟩:=hT.parts
 have HT:=Lib.hid hT
 have HTab:=Lib.hid htab
 clear hT htab
 go_enter Tryz.func134,Tryz.ntmps134
 go_wp2_with fail
 obtain ⟨b1,z1,k0⟩:=new_blk (Below.refl w.heap.size w) (Nat.le_refl _) #[.int .i64 t.kind,.int .i64 t.index,.int .i64 t.type.kind,.slice B t.type.args.length d,.slice A t.args.length c] 42
 go_loopg [4,5] t.size (fun k cnt s wr=>SizeRel w t k cnt s wr)
 case atStart=>
   have e:(w.alloc (Obj.cells #[.int .i64 t.kind,.int .i64 t.index,.int .i64 t.type.kind,.slice B t.type.args.length d,.slice A t.args.length c] 42)).heap.size=w.heap.size+1:=z1
   refine ⟨[t],0,rfl,?_,by simp [okAllT],by simp [sizeAllT],hsz,by simp [sizeAllT],b1.alloc b1.size _,by simp⟩
   have h0:IsTm (· < w.heap.size) _ t _:=IsTm.keep (fun b h=>h) (fun p hp=>b1.cell hp) _ HT.out
   have h1:=Rep.Own.built (R:=TmR) (base:=w.heap.size+1) (Rep.Ch.one (R:=TmR) (vs:=[_,_,_,_,_]) h0) (fun b hb=>by have:b<w.heap.size:=hb; omega) (by omega) (by simp [maxLen]) (by simp)
   rw [e] at h1
   exact h1
 case round=>
   obtain ⟨st,n,rfl,hown,hok,hsum,hbk,hk,hbel,hz⟩:=hrel
   clear b1 z1 k0
   rcases List.eq_nil_or_concat st with rfl | ⟨ts,x,rfl⟩
   · obtain ⟨A3,c3,rfl⟩:=hown.form
     have hn:n=t.size:=by simpa [sizeAllT] using hsum
     have hok':t.ok=true:=by simpa [okAllT] using hok.symm
     subst hn
     have hbd:=size_bulk t
     by_cases hle:t.size≤4096
     · have e4:decide ((4096:Int)<(t.size:Int))=false:=by simp; omega
       go_wp2_with fail
       go_ret2
       exact ⟨by simp [Tm.count,Tm.err,hok',hle],hbel⟩
     · have e4:decide ((4096:Int)<(t.size:Int))=true:=by simp; omega
       go_wp2_with fail
       go_ret2
       exact ⟨by simp [Tm.count,Tm.err,hok',hle],hbel⟩
   · simp only [List.concat_eq_append] at hown hok hsum hbk hk
     obtain ⟨g,cap,B1,d1,A1,c1,rfl,hg0,hg1,hcap,q0,q1,q2,q3,q4,hx,hown2⟩:=own_last_tm hown
     obtain ⟨hxal,hxtn,hlen⟩:=fits_last hbk
     have hbd:=fits_size hsz
     have hnn:n+1≤400000:=by
       have:=sizeT_pos x
       rw [sizeAllT_append] at hsum
       simp only [sizeAllT] at hsum
       omega
     have HX:=Lib.hid hx
     have HO:=Lib.hid hown2
     have HF:=Lib.hid (And.intro hok (And.intro hsum (And.intro hbk hk)))
     clear hx hown2 hok hsum hbk hk hown hbd
     go_wp2_with fail
     have hbx:=Blk.new wr 42 #[.int .i64 x.kind,.int .i64 x.index,.int .i64 x.type.kind,.slice B1 x.type.args.length d1,.slice A1 x.args.length c1]
     have htab1:=(HTab.out.after hbel).alloc (Obj.cells #[.int .i64 x.kind,.int .i64 x.index,.int .i64 x.type.kind,.slice B1 x.type.args.length d1,.slice A1 x.args.length c1] 42)
     have hx1:IsTm (· < w.heap.size) (wr.alloc (Obj.cells #[.int .i64 x.kind,.int .i64 x.index,.int .i64 x.type.kind,.slice B1 x.type.args.length d1,.slice A1 x.args.length c1] 42)) x
         (.agg #[.int .i64 x.kind,.int .i64 x.index,.int .i64 x.type.kind,.slice B1 x.type.args.length d1,.slice A1 x.args.length c1]):=
       IsTm.keep (fun b hb=>hb.1) (fun p hp=>World.cell?_alloc_lt _ _ _ hp.2) _ HX.out
     have z1:=World.size_alloc wr (Obj.cells #[.int .i64 x.kind,.int .i64 x.index,.int .i64 x.type.kind,.slice B1 x.type.args.length d1,.slice A1 x.args.length c1] 42)
     have hb1:=hbel.alloc hbel.size (Obj.cells #[.int .i64 x.kind,.int .i64 x.index,.int .i64 x.type.kind,.slice B1 x.type.args.length d1,.slice A1 x.args.length c1] 42)
     have ho1:=HO.out.below (below_box wr (Obj.cells #[.int .i64 x.kind,.int .i64 x.index,.int .i64 x.type.kind,.slice B1 x.type.args.length d1,.slice A1 x.args.length c1] 42))
     have HX1:=Lib.hid hx1
     have HTab1:=Lib.hid htab1
     have HO1:=Lib.hid ho1
     clear HX HO hx1 htab1 ho1 hbel q0 q1 q2 q3 q4
     generalize wr.alloc (Obj.cells #[.int .i64 x.kind,.int .i64 x.index,.int .i64 x.type.kind,.slice B1 x.type.args.length d1,.slice A1 x.args.length c1] 42)=W1 at hbx HX1 HTab1 HO1 hb1 z1 ⊢
     have hbs:=hb1.size
     refine (formedT_any x _ W1 (IsTm.keep (fun b hb=>Nat.lt_of_lt_of_le hb hbs) (fun _ _=>rfl) _ HX1.out) HTab1.out (by omega) hxtn).mono ?_
     rintro e W2 ⟨rfl,hb2⟩
     have hb2':Below w.heap.size w W2:=hb1.trans (hb2.mono hbs)
     have hs2:=hb2.size
     by_cases hxf:x.formed=true
     · rw [hxf]
       have HXF:=Lib.hid hxf
       clear hxf
       obtain ⟨_,_,_,_,p4,_,_,_,_,_⟩:=(hbx.below hb2 (by omega)).facts5
       have hx2:IsTm (· < w.heap.size) W2 x _:=IsTm.keep (fun b hb=>hb) (fun p hp=>hb2.cell (by omega)) _ HX1.out
       have hargs:TmR.Sl (· < w.heap.size) W2 x.args (.slice A1 x.args.length c1):=by
         cases x; exact (isTm_iff.1 hx2).2.2.2
       clear hx2
       cases A1 with
       | none=>
         have hnil:=hargs.none_nil
         have hnl:x.args.length=0:=by rw [hnil]; rfl
         rw [hnl] at p4
         have HN:=Lib.hid hnil
         clear hargs hnil
         go_wp2_with fail
         go_roundg (sizeAllT ts)
         case rel=>
           obtain ⟨f1,f2,f3,f4⟩:=HF.out
           have hxo:x.ok=true:=by rw [okT_eq,HXF.out,HN.out]; rfl
           have hxs:x.size=1:=by rw [sizeT_eq,HN.out]; rfl
           refine ⟨ts,n+1,by go_num,HO1.out.below hb2,?_,?_,?_,rfl,hb2',by omega⟩
           · rw [← f1,okAllT_append]; simp [okAllT,hxo]
           · rw [← f2,sizeAllT_append]; simp only [sizeAllT,hxs]; omega
           · exact fits_init f3
         case measure=>
           obtain ⟨f1,f2,f3,f4⟩:=HF.out
           have:=sizeT_pos x
           rw [sizeAllT_append] at f4; simp only [sizeAllT] at f4; omega
       | some a=>
         obtain ⟨news,hch,hnc⟩:=sl_cells hargs
         obtain ⟨xs,hown,hxs⟩:=HO1.out.below hb2
         obtain ⟨i0,hi,hz0,hz1,hz2⟩:=info_parts info_term
         have HCH:=Lib.hid hch
         have HNC:=Lib.hid hnc
         have HXS:=Lib.hid hxs
         have hno:=hch.oneCells
         have hnl:news.length=x.args.length * 5:=hch.1
         clear hch hnc hxs hargs
         go_wp2_with (at_builtin; go_loud (refine wpList_append_own_at _ rfl _ _ 31 rfl (w.heap.size+1) 42 i0 _ 5 72 Tryz.underlying31 hi hz0 hz1 hz2 rfl (by decide) _ ts.length xs rfl hown a x.args.length c1 news rfl hnl HNC.out hno (by simp only [maxLen]; omega) (by omega) (by omega) ?_); intro v2 w2 hown2 hg2 hnil2 hat2)
         go_roundg (sizeAllT (ts ++ x.args))
         case rel=>
           obtain ⟨f1,f2,f3,f4⟩:=HF.out
           refine ⟨ts ++ x.args,n+1,by go_num,?_,?_,?_,?_,rfl,hb2'.grown hg2 (by omega) (fun k e=>by cases e; show w.heap.size≤g; omega),by have:=hg2.size; omega⟩
           · exact Rep.Own.more (R:=TmR) hown HXS.out (HCH.out.keep (fun b hb=>⟨hb,by have:b<w.heap.size:=hb; omega,fun e=>by cases e; have:g<w.heap.size:=hb; omega⟩) (fun _ _=>rfl)) hown2 hg2 hat2
           · rw [← f1,okAllT_append,okAllT_append]; simp [okAllT,okT_eq x,HXF.out]
           · rw [← f2,sizeAllT_append,sizeAllT_append]; simp only [sizeAllT,sizeT_eq x]; omega
           · exact fits_more f3
         case measure=>
           obtain ⟨f1,f2,f3,f4⟩:=HF.out
           rw [sizeAllT_append] at f4 ⊢; simp only [sizeAllT,sizeT_eq x] at f4; omega
     · have hxf':x.formed=false:=by simpa using hxf
       rw [hxf']
       have HXF:=Lib.hid hxf'
       clear hxf hxf'
       go_wp2_with fail
       go_ret2
       have hok':t.ok=false:=by
         rw [← HF.out.1,okAllT_append]
         simp [okAllT,okT_eq x,HXF.out]
       exact ⟨by simp [Tm.count,Tm.err,hok'],hb2'⟩

theorem sizeT_any (t:Tm) (v:Value) (w:World) (hsz:t.bulk≤400000) (htab:Tab w) (hT:IsTm (· < w.heap.size) w t v) :
   Calls Tryz.prog 134 #[v] w (SizeRT t w):=sizeT_fits t v w (.inl (by simpa [bulkAll] using hsz)) htab hT

set_option maxHeartbeats 400000 in
theorem checkT_fits (t:Tm) (v:Value) (w:World) (hsz:FitsAll [t]) (htab:Tab w) (hT:IsTm (· < w.heap.size) w t v) :
   Calls Tryz.prog 146 #[v] w fun e w'=>e=.returned (.int .i64 t.err)∧Below w.heap.size w w':=by
 obtain ⟨B,d,A,c,rfl,_,_⟩:=hT.parts
 have hb:=below_box w (.cells #[.int .i64 t.kind,.int .i64 t.index,.int .i64 t.type.kind,.slice B t.type.args.length d,.slice A t.args.length c] 42)
 have hT1:=hT.boxed hb
 have htab1:=htab.after hb
 have HT:=Lib.hid (And.intro hT1 htab1)
 clear hT hT1 htab htab1
 go_enter Tryz.func146,Tryz.ntmps146
 go_wp2_with (go_at_call 134; refine (sizeT_fits t _ _ hsz HT.out.2 HT.out.1).mono ?_; rintro e w' ⟨rfl,hb2⟩)
 go_ret
 exact ⟨rfl,hb.trans (hb2.mono (by simp))⟩
theorem checkT_any (t:Tm) (v:Value) (w:World) (hsz:t.bulk≤400000) (htab:Tab w) (hT:IsTm (· < w.heap.size) w t v) :
   Calls Tryz.prog 146 #[v] w fun e w'=>e=.returned (.int .i64 t.err)∧Below w.heap.size w w':=checkT_fits t v w (.inl (by simpa [bulkAll] using hsz)) htab hT
end Go.Proofs.YtipfnkajdooiiaaGreatDoor
