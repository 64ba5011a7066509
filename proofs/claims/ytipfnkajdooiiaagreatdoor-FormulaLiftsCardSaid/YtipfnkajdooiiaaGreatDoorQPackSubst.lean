/- Lifting and putting in: types, sizes, forms. -/
import Derived.Test.YtipfnkajdooiiaaGreatDoorQMade
import Derived.Test.YtipfnkajdooiiaaGreatDoorQPackTyp
import Derived.OwnWalk
import Derived.Test.YtipfnkajdooiiaaGreatDoorQTerm
namespace Go.Proofs.YtipfnkajdooiiaaGreatDoor
open Go.RowKit

mutual
/-- Each free variable that is at least m is greater by n. -/
def Tm.lift:Tm→Nat→Nat→Tm
 | .mk k i T l,m,n=>.mk k (if k=1∧(m:Int)≤i then i+n else i) T (liftAll l (if k=2 then m+1 else m) n)
def liftAll:List Tm→Nat→Nat→List Tm
 | [],_,_=>[]
 | t :: r,m,n=>t.lift m n :: liftAll r m n
end
mutual
/-- The term s, lifted, in place of the variable m, which stands below as many others; each greater one is one less. -/
def Tm.put:Tm→Nat→Tm→Tm
 | .mk k i T l,m,s=>if k=1 then (if i=(m:Int) then s.lift 0 m else if (m:Int)<i then .mk k (i - 1) T l else .mk k i T l) else .mk k i T (putAll l (if k=2 then m+1 else m) s)
def putAll:List Tm→Nat→Tm→List Tm
 | [],_,_=>[]
 | t :: r,m,s=>t.put m s :: putAll r m s
end

theorem liftAll_len:∀ (l:List Tm) (m n:Nat),(liftAll l m n).length=l.length
 | [],_,_=>by simp [liftAll]
 | t :: r,m,n=>by simp [liftAll,liftAll_len r m n]
theorem putAll_len:∀ (l:List Tm) (m:Nat) (s:Tm),(putAll l m s).length=l.length
 | [],_,_=>by simp [putAll]
 | t :: r,m,s=>by simp [putAll,putAll_len r m s]

mutual
theorem lift_size:∀ (t:Tm) (m n:Nat),(t.lift m n).size=t.size
 | .mk k i T l,m,n=>by simp only [Tm.lift,Tm.size,liftAll_size l]
theorem liftAll_size:∀ (l:List Tm) (m n:Nat),sizeAllT (liftAll l m n)=sizeAllT l
 | [],_,_=>by simp [liftAll]
 | t :: r,m,n=>by simp only [liftAll,sizeAllT,lift_size t,liftAll_size r]
end
mutual
theorem lift_bulk:∀ (t:Tm) (m n:Nat),(t.lift m n).bulk=t.bulk
 | .mk k i T l,m,n=>by simp only [Tm.lift,Tm.bulk,liftAll_bulk l]
theorem liftAll_bulk:∀ (l:List Tm) (m n:Nat),bulkAll (liftAll l m n)=bulkAll l
 | [],_,_=>by simp [liftAll]
 | t :: r,m,n=>by simp only [liftAll,bulkAll,lift_bulk t,liftAll_bulk r]
end
mutual
theorem lift_ok:∀ (t:Tm) (m n:Nat),t.ok=true→(t.lift m n).ok=true
 | .mk k i T l,m,n,h=>by
   rw [Tm.ok,Bool.and_eq_true] at h
   rw [Tm.lift,Tm.ok,Bool.and_eq_true]
   refine ⟨?_,liftAll_ok l _ n h.2⟩
   have hf:=h.1
   simp only [Tm.formed,Tm.kind,Tm.index,Tm.type,Tm.args,liftAll_len] at hf ⊢
   simp only [Bool.and_eq_true,beq_iff_eq,Bool.or_eq_true] at hf ⊢
   obtain ⟨⟨⟨⟨⟨h1,h2⟩,h3⟩,h4⟩,h5⟩,h6⟩:=hf
   refine ⟨⟨⟨⟨⟨h1,h2⟩,h3⟩,?_⟩,?_⟩,h6⟩
   · have h4':0≤i:=of_decide_eq_true h4
     exact decide_eq_true (by split <;> omega)
   · rcases h5 with h5 | h5
     · exact .inl h5
     · by_cases hk:k=1
       · exact .inl hk
       · rw [if_neg (fun e=>hk e.1)]; exact .inr h5
theorem liftAll_ok:∀ (l:List Tm) (m n:Nat),okAllT l=true→okAllT (liftAll l m n)=true
 | [],_,_,_=>by simp [liftAll,okAllT]
 | t :: r,m,n,h=>by
   simp only [okAllT,Bool.and_eq_true] at h
   simp only [liftAll,okAllT,Bool.and_eq_true]
   exact ⟨lift_ok t m n h.1,liftAll_ok r m n h.2⟩
end

/-- The variable i of a context, counted from behind. -/
theorem ctx_var {A B:List Ty} {i:Nat} (h:i<(A ++ B).length):(A ++ B)[(A ++ B).length - 1 - i]'(by omega)=if hb:i<B.length then B[B.length - 1 - i]'(by omega) else A[A.length - 1 - (i - B.length)]'(by simp at h; omega):=by
 have hl:(A ++ B).length=A.length+B.length:=by simp
 split
 · rename_i hb
   rw [List.getElem_append_right (by omega)]
   congr 1
   omega
 · rename_i hb
   rw [List.getElem_append_left (by simp at h; omega)]
   congr 1
   omega

mutual
/-- A lifted term has its type in the longer context. -/
theorem lift_typ (P I:List Ty):∀ (t:Tm) (Q:List Ty) {U:Ty},t.ok=true→t.typ (P ++ Q)=.ok U→(t.lift Q.length I.length).typ (P ++ I ++ Q)=.ok U
 | .mk k i T l,Q,U,hok,h=>by
   rw [Tm.ok,Bool.and_eq_true] at hok
   have hi0:0≤i:=(formed_kind hok.1).2.2.2.1
   rw [Tm.lift]
   by_cases h1:k=1
   · subst h1
     unfold Tm.typ at h ⊢
     rw [if_pos rfl] at h ⊢
     obtain ⟨n,rfl⟩:∃ n:Nat,i=(n:Int):=⟨i.toNat,by omega⟩
     simp only [Int.toNat_natCast] at h
     split at h
     · rename_i hn
       simp only [List.length_append] at hn
       rw [ctx_var (by simp; omega)] at h
       by_cases hq:n<Q.length
       · rw [dif_pos hq] at h
         rw [if_neg (by omega)]
         simp only [Int.toNat_natCast]
         rw [dif_pos (by simp; omega),ctx_var (by simp; omega),dif_pos hq]
         exact h
       · rw [dif_neg hq] at h
         rw [if_pos ⟨rfl,by omega⟩]
         have e:((n:Int)+(I.length:Nat)).toNat=n+I.length:=by omega
         simp only [e]
         rw [dif_pos (by simp; omega),ctx_var (by simp; omega),dif_neg (by omega),ctx_var (by simp; omega),dif_neg (by omega)]
         rw [← h]
         congr 2
         omega
     · cases h
   · have h2:¬ (k=1∧((Q.length:Nat):Int)≤i):=fun e=>h1 e.1
     rw [if_neg h2]
     unfold Tm.typ at h ⊢
     rw [if_neg h1] at h ⊢
     by_cases hk:k=2
     · rw [if_pos hk] at h ⊢
       rw [if_pos hk]
       rw [List.append_assoc] at h
       cases hps:typAll l (P ++ (Q ++ [T])) with
       | error e=>rw [hps] at h; cases h
       | ok ps=>
         rw [hps] at h
         have hr:=liftAll_typ P I l (Q ++ [T]) hok.2 hps
         rw [show (Q ++ [T]).length=Q.length+1 by simp,← List.append_assoc] at hr
         rw [hr]
         exact h
     · rw [if_neg hk] at h ⊢
       rw [if_neg hk]
       cases hps:typAll l (P ++ Q) with
       | error e=>rw [hps] at h; cases h
       | ok ps=>
         rw [hps] at h
         rw [liftAll_typ P I l Q hok.2 hps]
         exact h
theorem liftAll_typ (P I:List Ty):∀ (l:List Tm) (Q:List Ty) {ps:List Ty},okAllT l=true→typAll l (P ++ Q)=.ok ps→typAll (liftAll l Q.length I.length) (P ++ I ++ Q)=.ok ps
 | [],Q,ps,_,h=>by simp only [typAll,liftAll] at h ⊢; exact h
 | t :: r,Q,ps,hok,h=>by
   simp only [okAllT,Bool.and_eq_true] at hok
   simp only [typAll,liftAll] at h ⊢
   cases hx:t.typ (P ++ Q) with
   | error e=>rw [hx] at h; cases h
   | ok y=>
     rw [hx] at h
     rw [lift_typ P I t Q hok.1 hx]
     simp only at h ⊢
     cases hr:typAll r (P ++ Q) with
     | error e=>rw [hr] at h; cases h
     | ok us=>
       rw [hr] at h
       rw [liftAll_typ P I r Q hok.2 hr]
       exact h
end

mutual
/-- How large a term becomes. -/
theorem put_size (s:Tm):∀ (t:Tm) (m:Nat),t.ok=true→(t.put m s).size+t.occ m=t.size+t.occ m * s.size
 | .mk k i T l,m,h=>by
   rw [Tm.ok,Bool.and_eq_true] at h
   by_cases hk:k=1
   · subst hk
     have hl:l=[]:=by
       have:=(formed_kind h.1).2.2.1
       simp [arities,Tm.args,Tm.kind] at this
       exact this
     subst hl
     rw [Tm.put,if_pos rfl]
     simp only [Tm.occ,if_pos]
     by_cases hi:i=(m:Int)
     · rw [if_pos hi,if_pos hi,lift_size]; simp only [Tm.size,sizeAllT]; omega
     · rw [if_neg hi,if_neg hi]
       split <;> simp only [Tm.size,sizeAllT] <;> omega
   · rw [Tm.put,if_neg hk]
     have:=putAll_size s l (if k=2 then m+1 else m) h.2
     simp only [Tm.occ,if_neg hk,Tm.size]
     omega
theorem putAll_size (s:Tm):∀ (l:List Tm) (m:Nat),okAllT l=true→sizeAllT (putAll l m s)+occAll l m=sizeAllT l+occAll l m * s.size
 | [],_,_=>by simp [putAll,sizeAllT,occAll]
 | t :: r,m,h=>by
   simp only [okAllT,Bool.and_eq_true] at h
   have h1:=put_size s t m h.1
   have h2:=putAll_size s r m h.2
   simp only [putAll,sizeAllT,occAll,Nat.add_mul]
   omega
end
end Go.Proofs.YtipfnkajdooiiaaGreatDoor
namespace Go.Proofs.YtipfnkajdooiiaaGreatDoor
open Go.RowKit

theorem within_any (n:Int) (w:World) (hn:-1000000≤n) (hm:n≤1000000000):Calls Tryz.prog 147 #[.int .i64 n] w fun e w'=>e=.returned (.bool (decide (0≤n∧n≤4096)))∧w=w':=by
 by_cases h0:0≤n
 · have e1:decide (0≤n∧n≤4096)=decide (n≤4096):=by simp [h0]
   rw [e1]
   go_enter Tryz.func147,Tryz.ntmps147
   go_wp2_with fail
   go_ret
   exact ⟨rfl,rfl⟩
 · have e1:decide (0≤n∧n≤4096)=false:=by simp; omega
   have e2:decide (0≤n)=false:=by simp; omega
   rw [e1]
   go_enter Tryz.func147,Tryz.ntmps147
   go_wp2_with fail
   go_ret
   exact ⟨rfl,rfl⟩

theorem below_any (k i:Int) (x y z:Value) (d:Nat) (w:World) (hd:d≤100000000):Calls Tryz.prog 239 #[.agg #[.int .i64 k,.int .i64 i,x,y,z],.int .i64 d] w fun e w'=>e=.returned (.int .i64 ((if k=2 then d+1 else d:Nat):Int))∧Below w.heap.size w w':=by
 by_cases hk:k=2
 · subst hk
   go_enter Tryz.func239,Tryz.ntmps239
   go_wp2_with fail
   go_ret
   exact ⟨by simp,(Below.refl _ _).alloc (Nat.le_refl _) _⟩
 · have e1:(k == 2)=false:=by simpa using hk
   rw [if_neg hk]
   clear hk
   go_enter Tryz.func239,Tryz.ntmps239
   go_wp2_with fail
   go_ret
   exact ⟨rfl,(Below.refl _ _).alloc (Nat.le_refl _) _⟩

set_option maxRecDepth 100000 in
set_option maxHeartbeats 1000000 in
/-- A variable that Lift may change. -/
theorem lift1_any (i m n:Int) (d:Nat) (tk:Int) (B A:Option Addr) (nb cb na ca:Nat) (p q:Addr) (w:World) (hi:0≤i∧i≤1000000000) (hm:0≤m∧m≤1000000) (hn:0≤n∧n≤1000000) (hd:d≤100000000) (hp:p.block<w.heap.size) (hq:q.block<w.heap.size) (cp:w.cell? p=some (.int .i64 m)) (cq:w.cell? q=some (.int .i64 n)) :
   Calls Tryz.prog 204 #[.agg #[.int .i64 1,.int .i64 i,.int .i64 tk,.slice B nb cb,.slice A na ca],.int .i64 d,.pointer (some p),.pointer (some q)] w fun e w'=>
     e=.returned (.agg #[.int .i64 1,.int .i64 (if m+d≤i then i+n else i),.int .i64 tk,.slice B nb cb,.slice A na ca])∧Below w.heap.size w w':=by
 go_enter Tryz.func204,Tryz.ntmps204
 go_upto_region 1 with fail
 obtain ⟨b1,z1,k0⟩:=new_blk (Below.refl w.heap.size w) (Nat.le_refl _) #[.int .i64 1,.int .i64 i,.int .i64 tk,.slice B nb cb,.slice A na ca] 42
 generalize w.alloc (Obj.cells #[.int .i64 1,.int .i64 i,.int .i64 tk,.slice B nb cb,.slice A na ca] 42)=W1 at b1 z1 k0 ⊢
 obtain ⟨b2,z2,k1⟩:=new_blk b1 b1.size #[.int .i64 0,.int .i64 0,.int .i64 0,.slice none 0 0,.slice none 0 0] 42
 have k0:=k0.alloc (Obj.cells #[.int .i64 0,.int .i64 0,.int .i64 0,.slice none 0 0,.slice none 0 0] 42)
 generalize W1.alloc (Obj.cells #[.int .i64 0,.int .i64 0,.int .i64 0,.slice none 0 0,.slice none 0 0] 42)=W at b2 z2 k0 k1 ⊢
 rw [z1] at k1 z2
 have HB:=Lib.hid (And.intro b2 z2)
 have cp:=(b2.cell hp).trans cp
 have cq:=(b2.cell hq).trans cq
 obtain ⟨r0,r1,r2,r3,r4,g0,g1,g2,g3,g4⟩:=k0.facts5
 by_cases hc:m+d≤i
 · skip
   have e1:decide (i≥m+(d:Int))=true:=decide_eq_true (by omega)
   have k0':Blk (W.setCell ⟨w.heap.size,1,none⟩ (.int .i64 (i+n))) w.heap.size 42 #[.int .i64 1,.int .i64 (i+n),.int .i64 tk,.slice B nb cb,.slice A na ca]:=by simpa using k0.set_ 1 (.int .i64 (i+n))
   have k1':=k1.far (p:=⟨w.heap.size,1,none⟩) (by simp) (.int .i64 (i+n))
   have HK:=Lib.hid (And.intro k0' k1')
   have e1':decide (m+(d:Int)≤i)=true:=decide_eq_true hc
   clear b1 z1 b2 z2 k0 k1 k0' k1'
   go_upto_region 3 with fail
   obtain ⟨k0',k1'⟩:=HK.out
   have hs:=only_setCell (only_refl W (some w.heap.size)) (p:=⟨w.heap.size,1,none⟩) (.inl rfl) (.int .i64 (i+n))
   generalize W.setCell ⟨w.heap.size,1,none⟩ (.int .i64 (i+n))=W2 at k0' k1' hs ⊢
   obtain ⟨s0,s1,s2,s3,s4,_,_,_,_,_⟩:=k0'.facts5
   obtain ⟨_,_,_,_,_,f0,f1,f2,f3,f4⟩:=k1'.facts5
   clear r0 r1 r2 r3 r4 g0 g1 g2 g3 g4 cp cq
   go_wp2_with fail
   obtain ⟨y0,y1,y2,y3,y4⟩:=(k1'.set5 (.int .i64 1) (.int .i64 (i+n)) (.int .i64 tk) (.slice B nb cb) (.slice A na ca)).cells5
   have hg:=only_set5 W2 (w.heap.size+1) (.int .i64 1) (.int .i64 (i+n)) (.int .i64 tk) (.slice B nb cb) (.slice A na ca)
   refine bodyPost_ret (v:=.agg #[.int .i64 1,.int .i64 (i+n),.int .i64 tk,.slice B nb cb,.slice A na ca]) (by simp [results,Tryz.results204,go_sem,y0,y1,y2,y3,y4]) rfl ⟨rfl,?_⟩
   have hb2:=HB.out.1.grown hs HB.out.1.size (fun k e=>by cases e; exact Nat.le_refl _)
   exact hb2.grown hg hb2.size (fun k e=>by cases e; omega)
 · skip
   have e1:decide (i≥m+(d:Int))=false:=decide_eq_false (by omega)
   have HK:=Lib.hid k1
   obtain ⟨_,_,_,_,_,f0,f1,f2,f3,f4⟩:=k1.facts5
   have e1':decide (m+(d:Int)≤i)=false:=decide_eq_false hc
   clear b1 z1 b2 z2 k0 k1
   go_wp2_with fail
   have k1':=HK.out
   obtain ⟨y0,y1,y2,y3,y4⟩:=(k1'.set5 (.int .i64 1) (.int .i64 i) (.int .i64 tk) (.slice B nb cb) (.slice A na ca)).cells5
   have hg:=only_set5 W (w.heap.size+1) (.int .i64 1) (.int .i64 i) (.int .i64 tk) (.slice B nb cb) (.slice A na ca)
   refine bodyPost_ret (v:=.agg #[.int .i64 1,.int .i64 i,.int .i64 tk,.slice B nb cb,.slice A na ca]) (by simp [results,Tryz.results204,go_sem,y0,y1,y2,y3,y4]) rfl ⟨rfl,?_⟩
   exact HB.out.1.grown hg HB.out.1.size (fun k e=>by cases e; omega)

/-- A copy of a list of terms: the call's own. -/
def CloneTR (S:Nat→Prop) (l:List Tm) (w:World) (e:Ending) (w':World):Prop:=∃ c,e=.returned c∧TmR.Own S w.heap.size c l w'∧Below w.heap.size w w'

set_option maxRecDepth 100000 in
set_option maxHeartbeats 2000000 in
theorem cloneT_in (S:Nat→Prop) (g:List Tm) (s:Value) (w:World) (hS:∀ b,S b→b<w.heap.size) (hlen:g.length≤1000000) (hl:TmR.Sl S w g s) :
   Calls Tryz.prog 186 #[s] w (CloneTR S g w):=by
 have heq:=fun (w:World) (a:Option Addr) (n c:Nat)=>Lib.run_eql_slice_nil (P:=Tryz.prog) w 31 _ a n c 0 0 Tryz.underlying31
 obtain ⟨i0,hi,hz0,hz1,hz2⟩:=info_parts info_term
 by_cases hg:g=[]
 · subst hg
   obtain ⟨A,c,rfl,_⟩:=hl
   cases A with
   | none=>
     go_enter Tryz.func186,Tryz.ntmps186
     go_wp2_with fail
     go_ret
     exact ⟨_,rfl,Rep.Own.nil _ _ _,Below.refl _ _⟩
   | some a=>
     have hown0:(w.alloc (.cells #[] 42)).ownsRow w.heap.size 42 5 (.slice (some ⟨w.heap.size,0,none⟩) 0 0) 0 []:=⟨rfl,.inr ⟨w.heap.size,0,#[],rfl,Nat.le_refl _,heap_alloc_new w _,Nat.le_refl _,by simp [maxLen],rfl,rfl⟩⟩
     go_enter Tryz.func186,Tryz.ntmps186
     go_wp2_with (at_builtin; go_loud (refine wpList_append_fits_any _ rfl _ _ 31 rfl w.heap.size 42 i0 5 Tryz.underlying31 hi hz1 w.heap.size 0 0 [] rfl hown0 (some a) 0 c [] rfl rfl (fun e=>by cases e) (fun b e j u hu=>by simp at hu) (fun u hu=>by simp at hu) (Nat.le_refl _) ?_); intro w1 hown1 hgr1)
     go_ret
     exact ⟨_,rfl,⟨[],by have h:=hown1; simp at h; exact h,Rep.Ch.nil _ _⟩,((Below.refl _ _).alloc (Nat.le_refl _) _).grown hgr1 (by simp) (fun k e=>by cases e; exact Nat.le_refl _)⟩
 · obtain ⟨A,c,rfl,h⟩:=hl
   obtain ⟨a,rfl,ha,harr⟩:=h hg
   obtain ⟨news,hch,hnc⟩:=harr.cells
   have hno:=hch.oneCells
   have hnl:news.length=g.length * 5:=hch.1
   have hpos:0<g.length:=List.length_pos_iff.2 hg
   have hnc':∀ j u,news[j]? = some u→(w.alloc (.cells #[] 42)).cell? (a.add j)=some u:=fun j u hu=>(World.cell?_alloc_lt _ _ _ (by rw [add_block]; exact hS _ ha)).trans (hnc j u hu)
   have HN:=Lib.hid (And.intro hnc hnc')
   have HC:=Lib.hid hch
   have HS:=Lib.hid hS
   clear hnc hnc' hch h harr
   go_enter Tryz.func186,Tryz.ntmps186
   go_wp2_with (at_builtin; go_loud (refine wpList_append_grows _ rfl _ _ 31 rfl 42 i0 _ 5 72 Tryz.underlying31 hi hz0 hz1 hz2 rfl (by decide) (some ⟨w.heap.size,0,none⟩) 0 0 [] rfl (fun e=>by cases e) rfl (fun b e j u hu=>by simp at hu) a g.length c news rfl hnl HN.out.2 hno (by omega) (by simp only [maxLen]; omega) (by omega) ?_); intro v1 w1 hown1 hgr1)
   go_ret
   have hgF:w.grownBy w1 none:=only_trans (World.grownBy_alloc _ _ _) hgr1
   have hbF:=(Below.refl w.heap.size w).grown hgF (Nat.le_refl _) (fun k e=>by cases e)
   have hlt:=hown1.lt
   refine ⟨_,rfl,?_,hbF⟩
   have h2:TmR.Own S (w.heap.size+1) v1 g w1:=⟨news,by have h:=hown1; simp at h; exact h,HC.out.keep (fun b h=>⟨h,Nat.lt_of_lt_of_le (HS.out b h) hbF.size,fun e=>by have h1:=(hlt b e).1; have h2:=HS.out b h; simp at h1; omega⟩) (fun p hp=>hbF.cell (HS.out _ hp))⟩
   exact h2.mono (fun b h _=>h) (by omega)
end Go.Proofs.YtipfnkajdooiiaaGreatDoor
namespace Go.Proofs.YtipfnkajdooiiaaGreatDoor
open Go.RowKit

mutual
/-- No index is greater than a number. -/
def Tm.low:Tm→Int→Bool
 | .mk _ i _ l,n=>decide (i≤n) && lowAll l n
def lowAll:List Tm→Int→Bool
 | [],_=>true
 | t :: r,n=>t.low n && lowAll r n
end
theorem lowAll_get {n:Int}:∀ {l:List Tm},lowAll l n=true→∀ i (hi:i<l.length),l[i].low n=true
 | [],_,i,hi=>by simp at hi
 | t :: r,h,i,hi=>by
   simp only [lowAll,Bool.and_eq_true] at h
   cases i with
   | zero=>exact h.1
   | succ i=>exact lowAll_get h.2 i (by simpa using hi)
end Go.Proofs.YtipfnkajdooiiaaGreatDoor
namespace Go.Proofs.YtipfnkajdooiiaaGreatDoor
open Go.RowKit

/-- A row's cells can be written. -/
theorem row_cells {w:World} {base:Nat} {t:TypeId} {g cap n:Nat} {xs:List Value} (h:w.ownsRow base t 5 (.slice (some ⟨g,0,none⟩) n cap) n xs) {j:Nat} (hj:j<n) :
   ∀ o,j * 5≤o→o<j * 5+5→(∃ u,w.cell? ⟨g,o,none⟩ = some u)∧w.frozen? ⟨g,o,none⟩ = false:=by
 rcases h.2 with ⟨e,_⟩ | ⟨g',cap',cur,e,hb,hg,hn,hm,hs,_⟩
 · cases e
 · simp only [Value.slice.injEq,Option.some.injEq,Addr.mk.injEq] at e
   obtain ⟨⟨rfl,_,_⟩,_,rfl⟩:=e
   intro o h1 h2
   have hlt:o<cur.size:=by rw [hs]; omega
   refine ⟨⟨cur[o],?_⟩,?_⟩
   · rw [cell_of_row w g o cur t (0,0) hg,Array.getElem?_eq_getElem hlt]
   · simp [World.frozen?,hg]

/-- An element of a row of the call's own is written anew. -/
theorem row_set5 {S:Nat→Prop} {base g cap j:Nat} {w:World} {l:List Tm} {U:Tm} {xs:List Value} {x0 x1 x2 x3 x4:Value} (hj:j<l.length) (hxo:w.ownsRow base 42 5 (.slice (some ⟨g,0,none⟩) l.length cap) l.length xs)
   (hxc:TmR.Ch (fun b=>S b∧b<w.heap.size∧(Value.slice (some ⟨g,0,none⟩) l.length cap).ownBlock≠some b) w l xs) (hU:IsTm (fun b=>S b∧b<w.heap.size∧g≠b) w U (.agg #[x0,x1,x2,x3,x4])) :
   TmR.Own S base (.slice (some ⟨g,0,none⟩) l.length cap) (l.set j U) (((((w.setCell ⟨g,j * 5,none⟩ x0).setCell ⟨g,j * 5+1,none⟩ x1).setCell ⟨g,j * 5+2,none⟩ x2).setCell ⟨g,j * 5+3,none⟩ x3).setCell ⟨g,j * 5+4,none⟩ x4) ∧
     w.grownBy (((((w.setCell ⟨g,j * 5,none⟩ x0).setCell ⟨g,j * 5+1,none⟩ x1).setCell ⟨g,j * 5+2,none⟩ x2).setCell ⟨g,j * 5+3,none⟩ x3).setCell ⟨g,j * 5+4,none⟩ x4) (some g):=by
 obtain ⟨o1,g1⟩:=hxo.stored (j * 5) x0
 obtain ⟨o2,g2⟩:=o1.stored (j * 5+1) x1
 obtain ⟨o3,g3⟩:=o2.stored (j * 5+2) x2
 obtain ⟨o4,g4⟩:=o3.stored (j * 5+3) x3
 obtain ⟨o5,g5⟩:=o4.stored (j * 5+4) x4
 have hg:=only_trans (only_trans (only_trans (only_trans g1 g2) g3) g4) g5
 refine ⟨?_,hg⟩
 have hxl:xs.length=l.length * 5:=hxo.1
 have hc:=Rep.Ch.set_ (R:=TmR) (vs:=[x0,x1,x2,x3,x4]) (ys:=((((xs.set (j * 5) x0).set (j * 5+1) x1).set (j * 5+2) x2).set (j * 5+3) x3).set (j * 5+4) x4) hxc j hj (show TmR.is _ w U [x0,x1,x2,x3,x4] from IsTm.keep (fun b h=>⟨h.1,h.2.1,fun e=>h.2.2 (by simpa [Value.ownBlock] using e)⟩) (fun _ _=>rfl) _ hU) (by simp)
   (fun k u hu=>by
     show (((((xs.set (j * 5) x0).set (j * 5+1) x1).set (j * 5+2) x2).set (j * 5+3) x3).set (j * 5+4) x4)[j * 5+k]? = some u
     match k,hu with
     | 0,hu=>
       simp at hu; subst hu
       show (((((xs.set (j * 5) x0).set (j * 5+1) x1).set (j * 5+2) x2).set (j * 5+3) x3).set (j * 5+4) x4)[j * 5]? = some x0
       rw [List.getElem?_set_ne (by omega),List.getElem?_set_ne (by omega),List.getElem?_set_ne (by omega),List.getElem?_set_ne (by omega),List.getElem?_set_self (by omega)]
     | 1,hu=>simp at hu; subst hu; rw [List.getElem?_set_ne (by omega),List.getElem?_set_ne (by omega),List.getElem?_set_ne (by omega),List.getElem?_set_self (by simp; omega)]
     | 2,hu=>simp at hu; subst hu; rw [List.getElem?_set_ne (by omega),List.getElem?_set_ne (by omega),List.getElem?_set_self (by simp; omega)]
     | 3,hu=>simp at hu; subst hu; rw [List.getElem?_set_ne (by omega),List.getElem?_set_self (by simp; omega)]
     | 4,hu=>simp at hu; subst hu; rw [List.getElem?_set_self (by simp; omega)]
     | k+5,hu=>simp at hu)
   (fun k hk=>by
     have hk':k<j * 5∨j * 5+5≤k:=hk
     rw [List.getElem?_set_ne (by omega),List.getElem?_set_ne (by omega),List.getElem?_set_ne (by omega),List.getElem?_set_ne (by omega),List.getElem?_set_ne (by omega)])
 refine ⟨_,by rw [List.length_set]; exact o5,hc.keep (fun b h=>⟨h.1,Nat.lt_of_lt_of_le h.2.1 hg.size,h.2.2⟩) (fun p hp=>World.cell?_of_block (hg.block p.block hp.2.1 (fun e=>hp.2.2 (by simpa [Value.ownBlock] using e.symm))))⟩

theorem turn_row5 (w:World) (g o:Nat) (a b c d e:Value):Turn (· = g) w (((((w.setCell ⟨g,o,none⟩ a).setCell ⟨g,o+1,none⟩ b).setCell ⟨g,o+2,none⟩ c).setCell ⟨g,o+3,none⟩ d).setCell ⟨g,o+4,none⟩ e):=
 ((((Turn.setCell (X:=(· = g)) w ⟨g,o,none⟩ a rfl).trans (Turn.setCell (X:=(· = g)) _ ⟨g,o+1,none⟩ b rfl)).trans (Turn.setCell (X:=(· = g)) _ ⟨g,o+2,none⟩ c rfl)).trans (Turn.setCell (X:=(· = g)) _ ⟨g,o+3,none⟩ d rfl)).trans (Turn.setCell (X:=(· = g)) _ ⟨g,o+4,none⟩ e rfl)
theorem liftAll_take {l:List Tm} {j m n:Nat} (hj:j<l.length):(liftAll (l.take j) m n ++ l.drop j).set j (l[j].lift m n)=liftAll (l.take (j+1)) m n ++ l.drop (j+1):=by
 have app:∀ (a b:List Tm),liftAll (a ++ b) m n=liftAll a m n ++ liftAll b m n:=fun a b=>by
   induction a with
   | nil=>simp [liftAll]
   | cons x r ih=>simp [liftAll,ih]
 rw [List.take_succ_eq_append_getElem hj,app]
 have hl:(liftAll (l.take j) m n).length=j:=by rw [liftAll_len]; simp; omega
 rw [List.set_append_right _ _ (by omega),hl,Nat.sub_self,List.drop_eq_getElem_cons hj,List.set_cons_zero,List.append_assoc]
 simp only [liftAll,List.cons_append,List.nil_append]

/-- What a lifted term is, in memory. -/
def LiftR (S:Nat→Prop) (T:Tm) (w:World) (e:Ending) (w':World):Prop:=∃ v',e=.returned v'∧IsTm (fun b=>(S b∨w.heap.size≤b)∧b<w'.heap.size) w' T v'∧Below w.heap.size w w'

set_option maxRecDepth 100000 in
set_option maxHeartbeats 4000000 in
theorem changedLift_any (N:Nat):∀ (t:Tm) (v:Value) (d m n:Nat) (p q:Addr) (S:Nat→Prop) (w:World),t.bulk≤N→t.ok=true→t.low 1000000000=true→d+N≤1000000→m≤900000→n≤900000→(∀ b,S b→b<w.heap.size)→p.block<w.heap.size→q.block<w.heap.size→w.cell? p=some (.int .i64 m)→w.cell? q=some (.int .i64 n)→IsTm S w t v →
   Calls Tryz.prog 203 #[v,.int .i64 d,.func (.func 204) #[] #[.pointer (some p),.pointer (some q)]] w (LiftR S (t.lift (m+d) n) w):=by
 induction N with
 | zero=>intro t; have:=bulk_pos t; omega
 | succ N ih=>
   rintro ⟨k,i,T,l⟩ v d m n p q S w hN hok hlow hd hm hn hS hp hq cp cq hT
   have IH:=Lib.hid ih
   clear ih
   obtain ⟨B,d0,A,a0,rfl,hty,hl⟩:=hT.mk_parts
   rw [Tm.ok,Bool.and_eq_true] at hok
   obtain ⟨hf,hokl⟩:=hok
   obtain ⟨f1,f2,f3,f4,f5,f6,f7⟩:=formed_kind hf
   simp only [Tm.kind,Tm.index,Tm.type,Tm.args] at f1 f2 f3 f4 f5 f6 f7
   rw [Tm.low,Bool.and_eq_true] at hlow
   have hi1:i≤1000000000:=of_decide_eq_true hlow.1
   have HL:=Lib.hid (And.intro hokl hlow.2)
   have HF3:=Lib.hid f3
   simp only [Tm.bulk] at hN
   clear f1 f2 f3 f5 f6 f7 hf hokl hlow
   have HS:=Lib.hid hS
   have HT:=Lib.hid (And.intro hty hl)
   clear hty hl hT hS
   go_enter Tryz.func203,Tryz.ntmps203
   go_upto_region 1 with fail
   obtain ⟨b1,z1,k0⟩:=new_blk (Below.refl w.heap.size w) (Nat.le_refl _) #[.int .i64 k,.int .i64 i,.int .i64 T.kind,.slice B T.args.length d0,.slice A l.length a0] 42
   generalize w.alloc (Obj.cells #[.int .i64 k,.int .i64 i,.int .i64 T.kind,.slice B T.args.length d0,.slice A l.length a0] 42)=W1 at b1 z1 k0 ⊢
   obtain ⟨b2,z2,k1⟩:=new_blk b1 b1.size #[.int .i64 0,.int .i64 0,.int .i64 0,.slice none 0 0,.slice none 0 0] 42
   have k0:=k0.alloc (Obj.cells #[.int .i64 0,.int .i64 0,.int .i64 0,.slice none 0 0,.slice none 0 0] 42)
   generalize W1.alloc (Obj.cells #[.int .i64 0,.int .i64 0,.int .i64 0,.slice none 0 0,.slice none 0 0] 42)=W at b2 z2 k0 k1 ⊢
   rw [z1] at k1 z2
   have HB:=Lib.hid (And.intro b2 z2)
   have HP:=Lib.hid (And.intro ((b2.cell hp).trans cp) ((b2.cell hq).trans cq))
   have hpW:p.block<W.heap.size:=Nat.lt_of_lt_of_le hp b2.size
   have hqW:q.block<W.heap.size:=Nat.lt_of_lt_of_le hq b2.size
   obtain ⟨r0,r1,r2,r3,r4,g0,g1,g2,g3,g4⟩:=k0.facts5
   have HK:=Lib.hid (And.intro k0 k1)
   clear b1 z1 b2 z2 k0 k1 cp cq
   by_cases hk:k=1
   · subst hk
     obtain rfl:l=[]:=by have h:=HF3.out; simp [arities] at h; exact h
     go_wp2_with fail
     refine (lift1_any i m n d T.kind B A _ d0 _ a0 p q W ⟨f4,hi1⟩ (by omega) (by omega) (by omega) hpW hqW HP.out.1 HP.out.2).mono ?_
     rintro e w1 ⟨rfl,hb1⟩
     have k1:=HK.out.2.below hb1 HK.out.2.lt
     obtain ⟨_,_,_,_,_,f0,f1,f2,f3,f4'⟩:=k1.facts5
     have HK1:=Lib.hid k1
     have HB1:=Lib.hid hb1
     have he:=Lib.hid (show (if (m:Int)+(d:Int)≤i then i+(n:Int) else i)=(if ((m+d:Nat):Int)≤i then i+(n:Int) else i) by simp)
     generalize (if (m:Int)+(d:Int)≤i then i+(n:Int) else i)=i' at he ⊢
     clear k1 hb1 r0 r1 r2 r3 r4 g0 g1 g2 g3 g4
     go_wp2_with fail
     obtain ⟨y0,y1,y2,y3,y4⟩:=(HK1.out.set5 (.int .i64 1) (.int .i64 i') (.int .i64 T.kind) (.slice B T.args.length d0) (.slice A 0 a0)).cells5
     have hg:=only_set5 w1 (w.heap.size+1) (.int .i64 1) (.int .i64 i') (.int .i64 T.kind) (.slice B T.args.length d0) (.slice A 0 a0)
     have hb:=HB.out.1
     have hz:=HB.out.2
     have hb1:=HB1.out
     have hbw:Below w.heap.size w w1:=hb.trans (hb1.mono hb.size)
     refine bodyPost_ret (v:=.agg #[.int .i64 1,.int .i64 i',.int .i64 T.kind,.slice B T.args.length d0,.slice A 0 a0]) (by simp [results,Tryz.results203,go_sem,y0,y1,y2,y3,y4]) rfl ⟨_,rfl,?_,hbw.grown hg hbw.size (fun k e=>by cases e; omega)⟩
     have e':(if (1:Int)=1∧((m+d:Nat):Int)≤i then i+(n:Int) else i)=i':=by have h:=he.out; simp only [true_and]; exact h.symm
     rw [Tm.lift,e',show liftAll [] (if (1:Int)=2 then m+d+1 else m+d) n=[] from by simp only [liftAll]]
     refine isTm_iff.2 ⟨rfl,rfl,IsTy.keep (fun b h=>⟨.inl h,Nat.lt_of_lt_of_le (HS.out b h) (Nat.le_trans hbw.size hg.size)⟩) (fun r hr=>?_) _ HT.out.1,?_⟩
     · have:=HS.out _ hr
       exact (World.cell?_of_block (hg.block r.block (Nat.lt_of_lt_of_le this hbw.size) (by simp; omega))).trans (hbw.cell this)
     · exact ⟨A,a0,rfl,fun h=>(h rfl).elim⟩
   · have e1:(k == 1)=false:=by simpa using hk
     have hll:=bulkAll_len l
     have HKN:=Lib.hid hk
     clear hk
     go_wp2_with fail
     refine (cloneT_in S l _ W (fun b h=>Nat.lt_of_lt_of_le (HS.out b h) HB.out.1.size) (by omega) (HT.out.2.keep (fun _ h=>h) (fun p hp=>HB.out.1.cell (HS.out _ hp)))).mono ?_
     rintro e w1 ⟨c,rfl,hown,hb1⟩
     obtain ⟨Ac,cc,rfl⟩:=hown.form
     have HO:=Lib.hid (hown.mono (S':=fun b=>S b∨W.heap.size≤b) (fun b h _=>.inl h) (Nat.le_refl _))
     have HB1:=Lib.hid hb1
     clear hown hb1 r0 r1 r2 r3 r4 g0 g1 g2 g3 g4
     go_wp2_with fail
     go_loopw [22] (fun ix wr=>∃ j:Nat,j≤l.length∧ix=.int .i64 j∧TmR.Own (fun b=>S b∨W.heap.size≤b) W.heap.size (.slice Ac l.length cc) (liftAll (l.take j) (if k=2 then m+d+1 else m+d) n ++ l.drop j) wr∧Below W.heap.size W wr)
       (fun ix _=>l.length - (intOf ix).toNat)
     case atStart=>exact ⟨0,by omega,rfl,by simpa [liftAll] using HO.out,HB1.out⟩
     case round=>
       obtain ⟨j,hj,rfl,hown,hbr⟩:=hrel
       have HO:=Lib.hid hown
       have HBR:=Lib.hid hbr
       clear hown hbr
       have hlen:(liftAll (l.take j) (if k=2 then m+d+1 else m+d) n ++ l.drop j).length=l.length:=by rw [List.length_append,liftAll_len]; simp; omega
       have HLN:=Lib.hid hlen
       clear hlen
       by_cases hlt:j<l.length
       · obtain ⟨xs,hxo,hxc⟩:=HO.out
         rw [HLN.out] at hxo
         obtain ⟨g,cap,hv,hg0,hg1⟩:=hxo.form (by omega)
         simp only [Value.slice.injEq] at hv
         obtain ⟨rfl,_,rfl⟩:=hv
         have hel:(liftAll (l.take j) (if k=2 then m+d+1 else m+d) n ++ l.drop j)[j]'(by have:=HLN.out; omega)=l[j]:=by
           rw [List.getElem_append_right (by rw [liftAll_len]; simp; omega)]
           simp only [liftAll_len,List.length_take,List.getElem_drop]
           congr 1
           omega
         obtain ⟨vs,hvs,hx⟩:=hxc.get j (by have:=HLN.out; omega)
         rw [hel] at hx
         obtain ⟨Bx,ex,Ax,cx,e5,_⟩:=IsTm.form hx
         simp only [Value.agg.injEq] at e5
         have e5':=congrArg Array.toList e5
         simp only at e5'
         subst e5'
         have hcell:∀ i u,[Value.int .i64 l[j].kind,.int .i64 l[j].index,.int .i64 l[j].type.kind,.slice Bx l[j].type.args.length ex,.slice Ax l[j].args.length cx][i]? = some u→wr.cell? ⟨g,j * 5+i,none⟩ = some u:=fun i u h=>by
           have:=hxo.cells rfl _ _ (hvs i u h)
           have e:(⟨g,0,none⟩:Addr).add (j * 5+i)=⟨g,j * 5+i,none⟩:=by unfold Addr.add; split <;> simp_all
           rw [← e]; exact this
         have q0:=hcell 0 _ rfl
         have q1:=hcell 1 _ rfl
         have q2:=hcell 2 _ rfl
         have q3:=hcell 3 _ rfl
         have q4:=hcell 4 _ rfl
         rw [Nat.add_zero] at q0
         have HX:=Lib.hid (And.intro hxo (And.intro hxc (And.intro hx (And.intro HLN.out hel))))
         clear hxo hxc hx hel hcell hvs e5
         go_upto_region 7 with fail
         obtain ⟨bR,zR,kR⟩:=new_blk (Below.refl wr.heap.size wr) (Nat.le_refl _) #[.int .i64 l[j].kind,.int .i64 l[j].index,.int .i64 l[j].type.kind,.slice Bx l[j].type.args.length ex,.slice Ax l[j].args.length cx] 42
         have k0R:Blk (wr.alloc (Obj.cells #[.int .i64 l[j].kind,.int .i64 l[j].index,.int .i64 l[j].type.kind,.slice Bx l[j].type.args.length ex,.slice Ax l[j].args.length cx] 42)) w.heap.size 42 #[.int .i64 k,.int .i64 i,.int .i64 T.kind,.slice B T.args.length d0,.slice A l.length a0]:=(HK.out.1.below HBR.out HK.out.1.lt).alloc _
         generalize wr.alloc (Obj.cells #[.int .i64 l[j].kind,.int .i64 l[j].index,.int .i64 l[j].type.kind,.slice Bx l[j].type.args.length ex,.slice Ax l[j].args.length cx] 42)=R at bR zR kR k0R ⊢
         have hWw:=HB.out.2
         have hWr:=HBR.out.size
         have HSK:=Lib.hid fun (w':World) (h:Turn (· = g) R w')=>And.intro ((h.blk kR (by omega)).facts5.1) (And.intro ((h.blk kR (by omega)).facts5.2.1) (And.intro ((h.blk kR (by omega)).facts5.2.2.1) (And.intro ((h.blk kR (by omega)).facts5.2.2.2.1) (And.intro ((h.blk kR (by omega)).facts5.2.2.2.2.1) (And.intro ((h.blk k0R (by omega)).facts5.1) (And.intro ((h.blk k0R (by omega)).facts5.2.1) (And.intro ((h.blk k0R (by omega)).facts5.2.2.1) (And.intro ((h.blk k0R (by omega)).facts5.2.2.2.1) ((h.blk k0R (by omega)).facts5.2.2.2.2.1)))))))))
         obtain ⟨y0,y1,y2,y3,y4,y5,y6,y7,y8,y9⟩:=HSK.out R (Turn.refl _ _)
         have QD:=Lib.hid (show Turn (· = g) R R.drew from Turn.drew R)
         have BR:=Lib.hid bR
         have HPR:=Lib.hid (And.intro ((bR.cell (Nat.lt_of_lt_of_le hpW hWr)).trans ((HBR.out.cell hpW).trans HP.out.1)) ((bR.cell (Nat.lt_of_lt_of_le hqW hWr)).trans ((HBR.out.cell hqW).trans HP.out.2)))
         have hbj:=bulkAll_get l j hlt
         obtain ⟨d',hd'⟩:∃ d':Nat,d' = (if k=2 then d+1 else d):=⟨_,rfl⟩
         have hmd:m+d' = (if k=2 then m+d+1 else m+d):=by rw [hd']; split <;> omega
         have HMD:=Lib.hid hmd
         have hdd:d'≤d+1:=by rw [hd']; split <;> omega
         have HD':=Lib.hid hd'
         have hwb:Int.toNat (j:Int)=j:=by omega
         clear hmd hd' zR q0 q1 q2 q3 q4 hwb
         go_region_held3 (fun w'=>w'.cell? ⟨wr.heap.size,0,none⟩ = some (.int .i64 l[j].kind)∧w'.cell? ⟨wr.heap.size,1,none⟩ = some (.int .i64 l[j].index)∧w'.cell? ⟨wr.heap.size,2,none⟩ = some (.int .i64 l[j].type.kind)∧w'.cell? ⟨wr.heap.size,3,none⟩ = some (.slice Bx l[j].type.args.length ex)∧w'.cell? ⟨wr.heap.size,4,none⟩ = some (.slice Ax l[j].args.length cx)∧w'.cell? ⟨w.heap.size,0,none⟩ = some (.int .i64 k)∧w'.cell? ⟨w.heap.size,1,none⟩ = some (.int .i64 i)∧w'.cell? ⟨w.heap.size,2,none⟩ = some (.int .i64 T.kind)∧w'.cell? ⟨w.heap.size,3,none⟩ = some (.slice B T.args.length d0)∧w'.cell? ⟨w.heap.size,4,none⟩ = some (.slice A l.length a0))
           (first | with_reducible exact HSK.out _ QD.out | with_reducible exact HSK.out _ T5.out | with_reducible exact HSK.out _ T6.out | with_reducible exact HSK.out _ TF.out)
           (first
             | (go_at_call 203
                have P6:=IH.out l[j] _ d' m n p q (fun b=>(S b∨W.heap.size≤b)∧b<wr.heap.size∧g≠b) w5 (by omega) (okAllT_get HL.out.1 j hlt) (lowAll_get HL.out.2 j hlt) (by omega) hm hn (fun b h=>Nat.lt_of_lt_of_le h.2.1 (Nat.le_trans BR.out.size B5.out.size)) (by have:=BR.out.size; have:=B5.out.size; omega) (by have:=BR.out.size; have:=B5.out.size; omega)
                  ((B5.out.cell (by have:=BR.out.size; omega)).trans HPR.out.1) ((B5.out.cell (by have:=BR.out.size; omega)).trans HPR.out.2) (IsTm.keep (S':=fun b=>(S b∨W.heap.size≤b)∧b<wr.heap.size∧g≠b) (fun b h=>⟨h.1,h.2.1,fun e=>h.2.2 (by simp [Value.ownBlock,e])⟩) (fun r hr=>(B5.out.cell (Nat.lt_of_lt_of_le hr.2.1 BR.out.size)).trans (BR.out.cell hr.2.1)) _ HX.out.2.2.1)
                (with_reducible refine P6.mono ?_)
                rintro e w6 ⟨v6,rfl,t6,r6⟩
                clear P6
                obtain ⟨B6,e6,A6,c6,rfl,_⟩:=IsTm.form t6
                have T6:=Lib.hid (show Turn (· = g) R w6 from T5.out.trans (Turn.call r6))
                have B6':=Lib.hid (BR.out.trans ((B5.out.trans (r6.mono B5.out.size)).mono BR.out.size))
                have X6:=Lib.hid t6
                have hown6:=HO.out.below B6'.out
                obtain ⟨xs6,hxo6,hxc6⟩:=hown6
                rw [HLN.out] at hxo6
                have HX6:=Lib.hid (And.intro hxo6 hxc6)
                obtain ⟨⟨u0,h0⟩,f0⟩:=row_cells hxo6 hlt (j * 5) (by omega) (by omega)
                obtain ⟨⟨u1,h1⟩,f1⟩:=row_cells hxo6 hlt (j * 5+1) (by omega) (by omega)
                obtain ⟨⟨u2,h2⟩,f2⟩:=row_cells hxo6 hlt (j * 5+2) (by omega) (by omega)
                obtain ⟨⟨u3,h3⟩,f3⟩:=row_cells hxo6 hlt (j * 5+3) (by omega) (by omega)
                obtain ⟨⟨u4,h4⟩,f4⟩:=row_cells hxo6 hlt (j * 5+4) (by omega) (by omega)
                have TF:=Lib.hid (T6.out.trans (turn_row5 w6 g (j * 5) (.int .i64 (l[j].lift (m+d') n).kind) (.int .i64 (l[j].lift (m+d') n).index) (.int .i64 (l[j].lift (m+d') n).type.kind) (.slice B6 (l[j].lift (m+d') n).type.args.length e6) (.slice A6 (l[j].lift (m+d') n).args.length c6)))
                clear t6 r6 hxo6 hxc6)
             | (go_at_call 239
                have P5:=below_any k i (.int .i64 T.kind) (.slice B T.args.length d0) (.slice A l.length a0) d R.drew (by omega)
                rw [← HD'.out] at P5
                (with_reducible refine P5.mono ?_)
                rintro e w5 ⟨rfl,r5⟩
                clear P5
                have T5:=Lib.hid (QD.out.trans (Turn.call r5))
                have B5:=Lib.hid (show Below R.heap.size R w5 from ((Below.refl _ R).drew).trans r5)
                clear r5))
         have AFTER:=Lib.hid (show TmR.Own (fun b=>S b∨W.heap.size≤b) W.heap.size (.slice (some ⟨g,0,none⟩) l.length cc) (liftAll (l.take (j+1)) (if k=2 then m+d+1 else m+d) n ++ l.drop (j+1)) (((((w6.setCell ⟨g,j * 5,none⟩ (.int .i64 (l[j].lift (m+d') n).kind)).setCell ⟨g,j * 5+1,none⟩ (.int .i64 (l[j].lift (m+d') n).index)).setCell ⟨g,j * 5+2,none⟩ (.int .i64 (l[j].lift (m+d') n).type.kind)).setCell ⟨g,j * 5+3,none⟩ (.slice B6 (l[j].lift (m+d') n).type.args.length e6)).setCell ⟨g,j * 5+4,none⟩ (.slice A6 (l[j].lift (m+d') n).args.length c6)) ∧
             Below W.heap.size W (((((w6.setCell ⟨g,j * 5,none⟩ (.int .i64 (l[j].lift (m+d') n).kind)).setCell ⟨g,j * 5+1,none⟩ (.int .i64 (l[j].lift (m+d') n).index)).setCell ⟨g,j * 5+2,none⟩ (.int .i64 (l[j].lift (m+d') n).type.kind)).setCell ⟨g,j * 5+3,none⟩ (.slice B6 (l[j].lift (m+d') n).type.args.length e6)).setCell ⟨g,j * 5+4,none⟩ (.slice A6 (l[j].lift (m+d') n).args.length c6)) from by
           have hs5:=B5.out.size
           have hsR:=BR.out.size
           have h:=row_set5 (S:=fun b=>S b∨W.heap.size≤b) (base:=W.heap.size) (g:=g) (cap:=cc) (j:=j) (w:=w6) (l:=liftAll (l.take j) (if k=2 then m+d+1 else m+d) n ++ l.drop j) (U:=l[j].lift (m+d') n) (xs:=xs6)
             (x0:=.int .i64 (l[j].lift (m+d') n).kind) (x1:=.int .i64 (l[j].lift (m+d') n).index) (x2:=.int .i64 (l[j].lift (m+d') n).type.kind) (x3:=.slice B6 (l[j].lift (m+d') n).type.args.length e6) (x4:=.slice A6 (l[j].lift (m+d') n).args.length c6)
             (by rw [HLN.out]; exact hlt) (by rw [HLN.out]; exact HX6.out.1) (by rw [HLN.out]; exact HX6.out.2)
             (IsTm.keep (fun b h=>⟨h.1.elim (fun x=>x.1) (fun x=>.inr (by omega)),h.2,h.1.elim (fun x=>x.2.2) (fun x=>by omega)⟩) (fun _ _=>rfl) _ X6.out)
           rw [HLN.out] at h
           have e:(liftAll (l.take j) (if k=2 then m+d+1 else m+d) n ++ l.drop j).set j (l[j].lift (m+d') n)=liftAll (l.take (j+1)) (if k=2 then m+d+1 else m+d) n ++ l.drop (j+1):=by rw [HMD.out]; exact liftAll_take hlt
           rw [e] at h
           have b6:=HBR.out.trans (B6'.out.mono HBR.out.size)
           exact ⟨h.1,b6.grown h.2 b6.size (fun k e=>by cases e; exact hg0)⟩)
         clear h0 h1 h2 h3 h4 f0 f1 f2 f3 f4 y0 y1 y2 y3 y4 y5 y6 y7 y8 y9
         go_wp2_with fail
         exact ⟨⟨j+1,by omega,by go_num,AFTER.out.1,AFTER.out.2⟩,by simp [intOf]; omega⟩
       · have hj':j=l.length:=by omega
         subst hj'
         have k0w:=HK.out.1.below HBR.out HK.out.1.lt
         have k1w:=HK.out.2.below HBR.out HK.out.2.lt
         obtain ⟨r0,r1,r2,r3,r4,g0,g1,g2,g3,g4⟩:=k0w.facts5
         have k0':Blk (wr.setCell ⟨w.heap.size,4,none⟩ (.slice Ac l.length cc)) w.heap.size 42 #[.int .i64 k,.int .i64 i,.int .i64 T.kind,.slice B T.args.length d0,.slice Ac l.length cc]:=by simpa using k0w.set_ 4 (.slice Ac l.length cc)
         have k1':=k1w.far (p:=⟨w.heap.size,4,none⟩) (by simp) (.slice Ac l.length cc)
         have HKS:=Lib.hid (And.intro k0' k1')
         clear k0w k1w k0' k1'
         go_upto_region 10 with fail
         obtain ⟨k0',k1'⟩:=HKS.out
         have hs:=only_setCell (only_refl wr (some w.heap.size)) (p:=⟨w.heap.size,4,none⟩) (.inl rfl) (.slice Ac l.length cc)
         have hz:=HB.out.2
         have hown1:=HO.out.far hs (by omega) (fun h=>h.elim (fun h=>by have:=HS.out _ h; omega) (fun h=>by omega))
         have hb1:Below w.heap.size w (wr.setCell ⟨w.heap.size,4,none⟩ (.slice Ac l.length cc)):=(HB.out.1.trans (HBR.out.mono HB.out.1.size)).grown hs (HB.out.1.trans (HBR.out.mono HB.out.1.size)).size (fun k e=>by cases e; exact Nat.le_refl _)
         generalize wr.setCell ⟨w.heap.size,4,none⟩ (.slice Ac l.length cc)=W2 at k0' k1' hs hown1 hb1 ⊢
         obtain ⟨s0,s1,s2,s3,s4,_,_,_,_,_⟩:=k0'.facts5
         obtain ⟨_,_,_,_,_,f0,f1,f2,f3,f4⟩:=k1'.facts5
         have HE:=Lib.hid (And.intro k1' (And.intro hown1 hb1))
         clear r0 r1 r2 r3 r4 g0 g1 g2 g3 g4 k0' k1' hs hown1 hb1
         go_wp2_with fail
         obtain ⟨y0,y1,y2,y3,y4⟩:=(HE.out.1.set5 (.int .i64 k) (.int .i64 i) (.int .i64 T.kind) (.slice B T.args.length d0) (.slice Ac l.length cc)).cells5
         have hg:=only_set5 W2 (w.heap.size+1) (.int .i64 k) (.int .i64 i) (.int .i64 T.kind) (.slice B T.args.length d0) (.slice Ac l.length cc)
         have hown2:=HE.out.2.1.far hg (by omega) (fun h=>h.elim (fun h=>by have:=HS.out _ h; omega) (fun h=>by omega))
         have hb2:=HE.out.2.2
         refine bodyPost_ret (v:=.agg #[.int .i64 k,.int .i64 i,.int .i64 T.kind,.slice B T.args.length d0,.slice Ac l.length cc]) (by simp [results,Tryz.results203,go_sem,y0,y1,y2,y3,y4]) rfl ⟨_,rfl,?_,hb2.grown hg hb2.size (fun k e=>by cases e; omega)⟩
         rw [Tm.lift,if_neg (fun h=>HKN.out h.1)]
         refine isTm_iff.2 ⟨rfl,rfl,IsTy.keep (fun b h=>⟨.inl h,Nat.lt_of_lt_of_le (HS.out b h) (Nat.le_trans hb2.size hg.size)⟩) (fun r hr=>?_) _ HT.out.1,?_⟩
         · have:=HS.out _ hr
           exact (World.cell?_of_block (hg.block r.block (Nat.lt_of_lt_of_le this hb2.size) (by simp; omega))).trans (hb2.cell this)
         · rw [List.take_length,List.drop_length,List.append_nil] at hown2
           exact Rep.Sl.keep (fun b h=>⟨h.1.elim (fun x=>x.imp id (fun y=>by omega)) (fun y=>.inr (by omega)),h.2⟩) (fun _ _=>rfl) hown2.sl
end Go.Proofs.YtipfnkajdooiiaaGreatDoor
namespace Go.Proofs.YtipfnkajdooiiaaGreatDoor
open Go.RowKit

set_option maxRecDepth 100000 in
set_option maxHeartbeats 2000000 in
theorem lift_any (t:Tm) (v:Value) (m n:Nat) (S:Nat→Prop) (w:World) (hb:t.bulk≤900000) (hok:t.ok=true) (hlow:t.low 1000000000=true) (hm:m≤900000) (hn:n≤900000) (hS:∀ b,S b→b<w.heap.size) (hT:IsTm S w t v) :
   Calls Tryz.prog 149 #[v,.int .i64 m,.int .i64 n] w (LiftR S (t.lift m n) w):=by
 obtain ⟨B,d,A,c,rfl,_⟩:=IsTm.form hT
 go_enter Tryz.func149,Tryz.ntmps149
 go_upto_region 1 with fail
 obtain ⟨b1,z1,k0⟩:=new_blk (Below.refl w.heap.size w) (Nat.le_refl _) #[.int .i64 t.kind,.int .i64 t.index,.int .i64 t.type.kind,.slice B t.type.args.length d,.slice A t.args.length c] 42
 generalize w.alloc (Obj.cells #[.int .i64 t.kind,.int .i64 t.index,.int .i64 t.type.kind,.slice B t.type.args.length d,.slice A t.args.length c] 42)=W1 at b1 z1 k0 ⊢
 obtain ⟨b2,z2,k1⟩:=new_blk b1 b1.size #[.int .i64 m] 3
 have k0:=k0.alloc (Obj.cells #[.int .i64 m] 3)
 generalize W1.alloc (Obj.cells #[.int .i64 m] 3)=W2 at b2 z2 k0 k1 ⊢
 rw [z1] at k1 z2
 obtain ⟨b3,z3,k2⟩:=new_blk b2 b2.size #[.int .i64 n] 3
 have k0:=k0.alloc (Obj.cells #[.int .i64 n] 3)
 have k1:=k1.alloc (Obj.cells #[.int .i64 n] 3)
 generalize W2.alloc (Obj.cells #[.int .i64 n] 3)=W3 at b3 z3 k0 k1 k2 ⊢
 rw [z2] at k2 z3
 obtain ⟨b4,z4,k3⟩:=new_blk b3 b3.size #[.int .i64 0,.int .i64 0,.int .i64 0,.slice none 0 0,.slice none 0 0] 42
 have k0:=k0.alloc (Obj.cells #[.int .i64 0,.int .i64 0,.int .i64 0,.slice none 0 0,.slice none 0 0] 42)
 have k1:=k1.alloc (Obj.cells #[.int .i64 0,.int .i64 0,.int .i64 0,.slice none 0 0,.slice none 0 0] 42)
 have k2:=k2.alloc (Obj.cells #[.int .i64 0,.int .i64 0,.int .i64 0,.slice none 0 0,.slice none 0 0] 42)
 generalize W3.alloc (Obj.cells #[.int .i64 0,.int .i64 0,.int .i64 0,.slice none 0 0,.slice none 0 0] 42)=W at b4 z4 k0 k1 k2 k3 ⊢
 rw [z3] at k3 z4
 obtain ⟨r0,r1,r2,r3,r4,_,_,_,_,_⟩:=k0.facts5
 have hp:=k1.facts1.1
 have hq:=k2.facts1.1
 have HC:=Lib.hid (changedLift_any 900000)
 have HB:=Lib.hid (And.intro b4 z4)
 have HK:=Lib.hid k3
 have HT:=Lib.hid (IsTm.keep (fun _ h=>h) (fun r hr=>b4.cell (hS _ hr)) _ hT)
 have HS:=Lib.hid hS
 have HP:=Lib.hid (And.intro hp hq)
 clear b1 z1 b2 z2 b3 z3 b4 z4 k0 k1 k2 k3 hT hS hp hq
 go_wp2_with fail
 refine (HC.out t _ 0 m n ⟨w.heap.size+1,0,none⟩ ⟨w.heap.size+1+1,0,none⟩ S W (by omega) hok hlow (by omega) hm hn (fun b h=>Nat.lt_of_lt_of_le (HS.out b h) HB.out.1.size) (by have:=HB.out.2; simp; omega) (by have:=HB.out.2; simp; omega) HP.out.1 HP.out.2 HT.out).mono ?_
 rintro e w' ⟨v',rfl,ht,hb'⟩
 obtain ⟨B6,e6,A6,c6,rfl,_⟩:=IsTm.form ht
 rw [Nat.add_zero] at ht
 have k3':=HK.out.below hb' HK.out.lt
 obtain ⟨_,_,_,_,_,f0,f1,f2,f3,f4⟩:=k3'.facts5
 have HE:=Lib.hid (And.intro k3' (And.intro ht hb'))
 clear k3' ht hb' r0 r1 r2 r3 r4
 go_wp2_with fail
 obtain ⟨y0,y1,y2,y3,y4⟩:=(HE.out.1.set5 (.int .i64 (t.lift m n).kind) (.int .i64 (t.lift m n).index) (.int .i64 (t.lift m n).type.kind) (.slice B6 (t.lift m n).type.args.length e6) (.slice A6 (t.lift m n).args.length c6)).cells5
 have hg:=only_set5 w' (w.heap.size+1+1+1) (.int .i64 (t.lift m n).kind) (.int .i64 (t.lift m n).index) (.int .i64 (t.lift m n).type.kind) (.slice B6 (t.lift m n).type.args.length e6) (.slice A6 (t.lift m n).args.length c6)
 have hz:=HB.out.2
 have hb2:=HB.out.1.trans (HE.out.2.2.mono HB.out.1.size)
 refine bodyPost_ret (v:=.agg #[.int .i64 (t.lift m n).kind,.int .i64 (t.lift m n).index,.int .i64 (t.lift m n).type.kind,.slice B6 (t.lift m n).type.args.length e6,.slice A6 (t.lift m n).args.length c6]) (by simp [results,Tryz.results149,go_sem,y0,y1,y2,y3,y4]) rfl ⟨_,rfl,?_,hb2.grown hg hb2.size (fun k e=>by cases e; omega)⟩
 exact IsTm.keep (fun b h=>⟨h.1.imp id (fun x=>by omega),Nat.lt_of_lt_of_le h.2 hg.size⟩) (fun p hp=>World.cell?_of_block (hg.block p.block hp.2 (fun e=>by
   have e':p.block=w.heap.size+1+1+1:=by have h:=Option.some.inj e; omega
   exact hp.1.elim (fun h=>by have:=HS.out _ h; omega) (fun h=>by omega)))) _ HE.out.2.1
end Go.Proofs.YtipfnkajdooiiaaGreatDoor
namespace Go.Proofs.YtipfnkajdooiiaaGreatDoor
open Go.RowKit

/-- A variable node in the call's result. -/
theorem var_result {S:Nat→Prop} {w W W2:World} {g:Nat} {i:Int} {T:Ty} {B A:Option Addr} {d0 a0:Nat} (hS:∀ b,S b→b<w.heap.size) (hT:IsTy S w T (.agg #[.int .i64 T.kind,.slice B T.args.length d0]))
   (hb:Below w.heap.size w W2) (hg:W2.grownBy W (some g)) (hwg:w.heap.size≤g) :
   IsTm (fun b=>(S b∨w.heap.size≤b)∧b<W.heap.size) W (.mk 1 i T []) (.agg #[.int .i64 1,.int .i64 i,.int .i64 T.kind,.slice B T.args.length d0,.slice A 0 a0]):=by
 refine isTm_iff.2 ⟨rfl,rfl,IsTy.keep (fun b h=>⟨.inl h,Nat.lt_of_lt_of_le (hS b h) (Nat.le_trans hb.size hg.size)⟩) (fun r hr=>?_) _ hT,?_⟩
 · have:=hS _ hr
   exact (World.cell?_of_block (hg.block r.block (Nat.lt_of_lt_of_le this hb.size) (by simp; omega))).trans (hb.cell this)
 · exact ⟨A,a0,rfl,fun h=>(h rfl).elim⟩

/-- What may be put in. -/
def Goodput (s:Tm):Prop:=s.bulk≤900000∧s.ok=true∧s.low 1000000000=true

set_option maxRecDepth 100000 in
set_option maxHeartbeats 2000000 in
theorem put1_any (i:Int) (T:Ty) (s:Tm) (m d:Nat) (B A Bs As:Option Addr) (d0 a0 ds cs:Nat) (p:Addr) (Q:Nat) (S:Nat→Prop) (w:World) (hi:0≤i∧i≤1000000000) (hmd:m+d≤800000) (hS:∀ b,S b→b<w.heap.size) (hp:p.block<w.heap.size) (hQ:Q<w.heap.size)
   (cp:w.cell? p=some (.int .i64 m)) (kq:Blk w Q 42 #[.int .i64 s.kind,.int .i64 s.index,.int .i64 s.type.kind,.slice Bs s.type.args.length ds,.slice As s.args.length cs]) (hgood:i=((m+d:Nat):Int)→Goodput s) (hT:IsTy S w T (.agg #[.int .i64 T.kind,.slice B T.args.length d0])) (hs:IsTm S w s (.agg #[.int .i64 s.kind,.int .i64 s.index,.int .i64 s.type.kind,.slice Bs s.type.args.length ds,.slice As s.args.length cs])) :
   Calls Tryz.prog 205 #[.agg #[.int .i64 1,.int .i64 i,.int .i64 T.kind,.slice B T.args.length d0,.slice A 0 a0],.int .i64 d,.pointer (some p),.pointer (some ⟨Q,0,none⟩)] w (LiftR S ((Tm.mk 1 i T []).put (m+d) s) w):=by
 have hPU:(Tm.mk 1 i T []).put (m+d) s=if i=((m+d:Nat):Int) then s.lift 0 (m+d) else if ((m+d:Nat):Int)<i then .mk 1 (i - 1) T [] else .mk 1 i T []:=by rw [Tm.put,if_pos rfl]
 generalize (Tm.mk 1 i T []).put (m+d) s=U at hPU ⊢
 go_enter Tryz.func205,Tryz.ntmps205
 go_upto_region 1 with fail
 obtain ⟨b1,z1,k0⟩:=new_blk (Below.refl w.heap.size w) (Nat.le_refl _) #[.int .i64 1,.int .i64 i,.int .i64 T.kind,.slice B T.args.length d0,.slice A 0 a0] 42
 generalize w.alloc (Obj.cells #[.int .i64 1,.int .i64 i,.int .i64 T.kind,.slice B T.args.length d0,.slice A 0 a0] 42)=W1 at b1 z1 k0 ⊢
 obtain ⟨b2,z2,k1⟩:=new_blk b1 b1.size #[.int .i64 0,.int .i64 0,.int .i64 0,.slice none 0 0,.slice none 0 0] 42
 have k0:=k0.alloc (Obj.cells #[.int .i64 0,.int .i64 0,.int .i64 0,.slice none 0 0,.slice none 0 0] 42)
 generalize W1.alloc (Obj.cells #[.int .i64 0,.int .i64 0,.int .i64 0,.slice none 0 0,.slice none 0 0] 42)=W at b2 z2 k0 k1 ⊢
 rw [z1] at k1 z2
 have HB:=Lib.hid (And.intro b2 z2)
 have cp:=(b2.cell hp).trans cp
 have kq:=kq.below b2 hQ
 have HS:=Lib.hid hS
 have HT:=Lib.hid hT
 have HX:=Lib.hid (IsTm.keep (fun _ h=>h) (fun r hr=>b2.cell (hS _ hr)) _ hs)
 obtain ⟨r0,r1,r2,r3,r4,g0,g1,g2,g3,g4⟩:=k0.facts5
 obtain ⟨q0,q1,q2,q3,q4,_,_,_,_,_⟩:=kq.facts5
 have HK:=Lib.hid k1
 have HG:=Lib.hid hgood
 clear hS hT hs hgood
 by_cases hc:i=((m+d:Nat):Int)
 · obtain ⟨hsb,hok,hlow⟩:=HG.out hc
   have e1:(i == (m:Int)+(d:Int))=true:=by simp; omega
   rw [if_pos hc] at hPU
   clear hc k0 k1 kq b1 z1 b2 z2
   go_wp2_with fail
   refine (lift_any s _ 0 (m+d) S W hsb hok hlow (by omega) (by omega) (fun b h=>Nat.lt_of_lt_of_le (HS.out b h) HB.out.1.size) HX.out).mono ?_
   rintro e w' ⟨v',rfl,ht,hb'⟩
   obtain ⟨B6,e6,A6,c6,rfl,_⟩:=IsTm.form ht
   have k3':=HK.out.below hb' HK.out.lt
   obtain ⟨_,_,_,_,_,f0,f1,f2,f3,f4⟩:=k3'.facts5
   have HE:=Lib.hid (And.intro k3' (And.intro ht hb'))
   clear k3' ht hb' r0 r1 r2 r3 r4 g0 g1 g2 g3 g4 q0 q1 q2 q3 q4
   go_wp2_with fail
   obtain ⟨y0,y1,y2,y3,y4⟩:=(HE.out.1.set5 (.int .i64 (s.lift 0 (m+d)).kind) (.int .i64 (s.lift 0 (m+d)).index) (.int .i64 (s.lift 0 (m+d)).type.kind) (.slice B6 (s.lift 0 (m+d)).type.args.length e6) (.slice A6 (s.lift 0 (m+d)).args.length c6)).cells5
   have hg:=only_set5 w' (w.heap.size+1) (.int .i64 (s.lift 0 (m+d)).kind) (.int .i64 (s.lift 0 (m+d)).index) (.int .i64 (s.lift 0 (m+d)).type.kind) (.slice B6 (s.lift 0 (m+d)).type.args.length e6) (.slice A6 (s.lift 0 (m+d)).args.length c6)
   have hz:=HB.out.2
   have hb2:=HB.out.1.trans (HE.out.2.2.mono HB.out.1.size)
   refine bodyPost_ret (v:=.agg #[.int .i64 (s.lift 0 (m+d)).kind,.int .i64 (s.lift 0 (m+d)).index,.int .i64 (s.lift 0 (m+d)).type.kind,.slice B6 (s.lift 0 (m+d)).type.args.length e6,.slice A6 (s.lift 0 (m+d)).args.length c6]) (by simp [results,Tryz.results205,go_sem,y0,y1,y2,y3,y4]) rfl ⟨_,rfl,?_,hb2.grown hg hb2.size (fun k e=>by cases e; omega)⟩
   rw [hPU]
   exact IsTm.keep (fun b h=>⟨h.1.imp id (fun x=>by omega),Nat.lt_of_lt_of_le h.2 hg.size⟩) (fun p hp=>World.cell?_of_block (hg.block p.block hp.2 (fun e=>by
     have e':p.block=w.heap.size+1:=by have h:=Option.some.inj e; omega
     exact hp.1.elim (fun h=>by have:=HS.out _ h; omega) (fun h=>by omega)))) _ HE.out.2.1
 · have e1:(i == (m:Int)+(d:Int))=false:=by simp; omega
   rw [if_neg hc] at hPU
   by_cases hgt:((m+d:Nat):Int)<i
   · have e2:decide (i > (m:Int)+(d:Int))=true:=decide_eq_true (by omega)
     have e2':decide ((m:Int)+(d:Int)<i)=true:=decide_eq_true (by omega)
     rw [if_pos hgt] at hPU
     have k0':Blk (W.setCell ⟨w.heap.size,1,none⟩ (.int .i64 (i - 1))) w.heap.size 42 #[.int .i64 1,.int .i64 (i - 1),.int .i64 T.kind,.slice B T.args.length d0,.slice A 0 a0]:=by simpa using k0.set_ 1 (.int .i64 (i - 1))
     have k1':=k1.far (p:=⟨w.heap.size,1,none⟩) (by simp) (.int .i64 (i - 1))
     have HK2:=Lib.hid (And.intro k0' k1')
     clear b1 z1 b2 z2 k0 k1 k0' k1' kq q0 q1 q2 q3 q4 hc hgt
     go_upto_region 5 with fail
     obtain ⟨k0',k1'⟩:=HK2.out
     have hs:=only_setCell (only_refl W (some w.heap.size)) (p:=⟨w.heap.size,1,none⟩) (.inl rfl) (.int .i64 (i - 1))
     generalize W.setCell ⟨w.heap.size,1,none⟩ (.int .i64 (i - 1))=W2 at k0' k1' hs ⊢
     obtain ⟨s0,s1,s2,s3,s4,_,_,_,_,_⟩:=k0'.facts5
     obtain ⟨_,_,_,_,_,f0,f1,f2,f3,f4⟩:=k1'.facts5
     have HE:=Lib.hid (And.intro k1' (HB.out.1.grown hs HB.out.1.size (fun k e=>by cases e; exact Nat.le_refl _)))
     clear r0 r1 r2 r3 r4 g0 g1 g2 g3 g4 cp k0' k1' hs
     go_wp2_with fail
     obtain ⟨y0,y1,y2,y3,y4⟩:=(HE.out.1.set5 (.int .i64 1) (.int .i64 (i - 1)) (.int .i64 T.kind) (.slice B T.args.length d0) (.slice A 0 a0)).cells5
     have hg:=only_set5 W2 (w.heap.size+1) (.int .i64 1) (.int .i64 (i - 1)) (.int .i64 T.kind) (.slice B T.args.length d0) (.slice A 0 a0)
     refine bodyPost_ret (v:=.agg #[.int .i64 1,.int .i64 (i - 1),.int .i64 T.kind,.slice B T.args.length d0,.slice A 0 a0]) (by simp [results,Tryz.results205,go_sem,y0,y1,y2,y3,y4]) rfl ⟨_,rfl,by rw [hPU]; exact var_result HS.out HT.out HE.out.2 hg (by omega),HE.out.2.grown hg HE.out.2.size (fun k e=>by cases e; omega)⟩
   · have e2:decide (i > (m:Int)+(d:Int))=false:=decide_eq_false (by omega)
     have e2':decide ((m:Int)+(d:Int)<i)=false:=decide_eq_false (by omega)
     rw [if_neg hgt] at hPU
     obtain ⟨_,_,_,_,_,f0,f1,f2,f3,f4⟩:=k1.facts5
     clear b1 z1 b2 z2 k0 k1 kq q0 q1 q2 q3 q4 hc hgt
     go_wp2_with fail
     obtain ⟨y0,y1,y2,y3,y4⟩:=(HK.out.set5 (.int .i64 1) (.int .i64 i) (.int .i64 T.kind) (.slice B T.args.length d0) (.slice A 0 a0)).cells5
     have hg:=only_set5 W (w.heap.size+1) (.int .i64 1) (.int .i64 i) (.int .i64 T.kind) (.slice B T.args.length d0) (.slice A 0 a0)
     refine bodyPost_ret (v:=.agg #[.int .i64 1,.int .i64 i,.int .i64 T.kind,.slice B T.args.length d0,.slice A 0 a0]) (by simp [results,Tryz.results205,go_sem,y0,y1,y2,y3,y4]) rfl ⟨_,rfl,by rw [hPU]; exact var_result HS.out HT.out HB.out.1 hg (by omega),HB.out.1.grown hg HB.out.1.size (fun k e=>by cases e; omega)⟩
end Go.Proofs.YtipfnkajdooiiaaGreatDoor
namespace Go.Proofs.YtipfnkajdooiiaaGreatDoor
open Go.RowKit

theorem putAll_take {l:List Tm} {j m:Nat} {n:Tm} (hj:j<l.length):(putAll (l.take j) m n ++ l.drop j).set j (l[j].put m n)=putAll (l.take (j+1)) m n ++ l.drop (j+1):=by
 have app:∀ (a b:List Tm),putAll (a ++ b) m n=putAll a m n ++ putAll b m n:=fun a b=>by
   induction a with
   | nil=>simp [putAll]
   | cons x r ih=>simp [putAll,ih]
 rw [List.take_succ_eq_append_getElem hj,app]
 have hl:(putAll (l.take j) m n).length=j:=by rw [putAll_len]; simp; omega
 rw [List.set_append_right _ _ (by omega),hl,Nat.sub_self,List.drop_eq_getElem_cons hj,List.set_cons_zero,List.append_assoc]
 simp only [putAll,List.cons_append,List.nil_append]

theorem occ_part:∀ (l:List Tm) (j:Nat) (hj:j<l.length) (n:Nat),l[j].occ n≤occAll l n
 | t :: r,0,_,n=>by simp only [List.getElem_cons_zero,occAll]; omega
 | t :: r,j+1,hj,n=>by
   have:=occ_part r j (by simpa using hj) n
   simp only [List.getElem_cons_succ,occAll]
   omega

set_option maxRecDepth 100000 in
set_option maxHeartbeats 4000000 in
theorem changedPut_any (s:Tm) (Bs As:Option Addr) (ds cs:Nat) (N:Nat):∀ (t:Tm) (v:Value) (d m:Nat) (p:Addr) (Q:Nat) (S:Nat→Prop) (w:World),t.bulk≤N→t.ok=true→t.low 1000000000=true→(t.occ (m+d)≠0→Goodput s)→d+N≤400000→m≤400000→(∀ b,S b→b<w.heap.size)→p.block<w.heap.size→Q<w.heap.size→w.cell? p=some (.int .i64 m)→Blk w Q 42 #[.int .i64 s.kind,.int .i64 s.index,.int .i64 s.type.kind,.slice Bs s.type.args.length ds,.slice As s.args.length cs]→IsTm S w s (.agg #[.int .i64 s.kind,.int .i64 s.index,.int .i64 s.type.kind,.slice Bs s.type.args.length ds,.slice As s.args.length cs])→IsTm S w t v →
   Calls Tryz.prog 203 #[v,.int .i64 d,.func (.func 205) #[] #[.pointer (some p),.pointer (some ⟨Q,0,none⟩)]] w (LiftR S (t.put (m+d) s) w):=by
 induction N with
 | zero=>intro t; have:=bulk_pos t; omega
 | succ N ih=>
   rintro ⟨k,i,T,l⟩ v d m p Q S w hN hok hlow hgood hd hm hS hp hQ cp kq hsm hT
   have HG:=Lib.hid hgood
   clear hgood
   have IH:=Lib.hid ih
   clear ih
   obtain ⟨B,d0,A,a0,rfl,hty,hl⟩:=hT.mk_parts
   rw [Tm.ok,Bool.and_eq_true] at hok
   obtain ⟨hf,hokl⟩:=hok
   obtain ⟨f1,f2,f3,f4,f5,f6,f7⟩:=formed_kind hf
   simp only [Tm.kind,Tm.index,Tm.type,Tm.args] at f1 f2 f3 f4 f5 f6 f7
   rw [Tm.low,Bool.and_eq_true] at hlow
   have hi1:i≤1000000000:=of_decide_eq_true hlow.1
   have HL:=Lib.hid (And.intro hokl hlow.2)
   have HF3:=Lib.hid f3
   simp only [Tm.bulk] at hN
   clear f1 f2 f3 f5 f6 f7 hf hokl hlow
   have HS:=Lib.hid hS
   have HT:=Lib.hid (And.intro hty hl)
   clear hty hl hT hS
   go_enter Tryz.func203,Tryz.ntmps203
   go_upto_region 1 with fail
   obtain ⟨b1,z1,k0⟩:=new_blk (Below.refl w.heap.size w) (Nat.le_refl _) #[.int .i64 k,.int .i64 i,.int .i64 T.kind,.slice B T.args.length d0,.slice A l.length a0] 42
   generalize w.alloc (Obj.cells #[.int .i64 k,.int .i64 i,.int .i64 T.kind,.slice B T.args.length d0,.slice A l.length a0] 42)=W1 at b1 z1 k0 ⊢
   obtain ⟨b2,z2,k1⟩:=new_blk b1 b1.size #[.int .i64 0,.int .i64 0,.int .i64 0,.slice none 0 0,.slice none 0 0] 42
   have k0:=k0.alloc (Obj.cells #[.int .i64 0,.int .i64 0,.int .i64 0,.slice none 0 0,.slice none 0 0] 42)
   generalize W1.alloc (Obj.cells #[.int .i64 0,.int .i64 0,.int .i64 0,.slice none 0 0,.slice none 0 0] 42)=W at b2 z2 k0 k1 ⊢
   rw [z1] at k1 z2
   have HB:=Lib.hid (And.intro b2 z2)
   have HP:=Lib.hid (And.intro ((b2.cell hp).trans cp) (And.intro (kq.below b2 hQ) (IsTm.keep (S':=S) (fun _ h=>h) (fun r hr=>b2.cell (HS.out _ hr)) _ hsm)))
   have hpW:p.block<W.heap.size:=Nat.lt_of_lt_of_le hp b2.size
   have hQW:Q<W.heap.size:=Nat.lt_of_lt_of_le hQ b2.size
   obtain ⟨r0,r1,r2,r3,r4,g0,g1,g2,g3,g4⟩:=k0.facts5
   have HK:=Lib.hid (And.intro k0 k1)
   clear b1 z1 b2 z2 k0 k1 cp kq hsm
   by_cases hk:k=1
   · subst hk
     obtain rfl:l=[]:=by have h:=HF3.out; simp [arities] at h; exact h
     go_wp2_with fail
     refine (put1_any i T s m d B A Bs As d0 a0 ds cs p Q S W ⟨f4,hi1⟩ (by omega) (fun b h=>Nat.lt_of_lt_of_le (HS.out b h) HB.out.1.size) hpW hQW HP.out.1 HP.out.2.1 (fun e=>HG.out (by rw [Tm.occ,if_pos rfl,if_pos e]; decide)) (IsTy.keep (fun _ h=>h) (fun r hr=>HB.out.1.cell (HS.out _ hr)) _ HT.out.1) HP.out.2.2).mono ?_
     rintro e w1 ⟨v1,rfl,ht1,hb1⟩
     obtain ⟨B6,e6,A6,c6,rfl,_⟩:=IsTm.form ht1
     have k1:=HK.out.2.below hb1 HK.out.2.lt
     obtain ⟨_,_,_,_,_,f0,f1,f2,f3,f4'⟩:=k1.facts5
     have HE:=Lib.hid (And.intro k1 (And.intro ht1 hb1))
     clear k1 hb1 ht1 r0 r1 r2 r3 r4 g0 g1 g2 g3 g4
     go_wp2_with fail
     obtain ⟨y0,y1,y2,y3,y4⟩:=(HE.out.1.set5 (.int .i64 ((Tm.mk 1 i T []).put (m+d) s).kind) (.int .i64 ((Tm.mk 1 i T []).put (m+d) s).index) (.int .i64 ((Tm.mk 1 i T []).put (m+d) s).type.kind) (.slice B6 ((Tm.mk 1 i T []).put (m+d) s).type.args.length e6) (.slice A6 ((Tm.mk 1 i T []).put (m+d) s).args.length c6)).cells5
     have hg:=only_set5 w1 (w.heap.size+1) (.int .i64 ((Tm.mk 1 i T []).put (m+d) s).kind) (.int .i64 ((Tm.mk 1 i T []).put (m+d) s).index) (.int .i64 ((Tm.mk 1 i T []).put (m+d) s).type.kind) (.slice B6 ((Tm.mk 1 i T []).put (m+d) s).type.args.length e6) (.slice A6 ((Tm.mk 1 i T []).put (m+d) s).args.length c6)
     have hz:=HB.out.2
     have hb2:=HB.out.1.trans (HE.out.2.2.mono HB.out.1.size)
     refine bodyPost_ret (v:=.agg #[.int .i64 ((Tm.mk 1 i T []).put (m+d) s).kind,.int .i64 ((Tm.mk 1 i T []).put (m+d) s).index,.int .i64 ((Tm.mk 1 i T []).put (m+d) s).type.kind,.slice B6 ((Tm.mk 1 i T []).put (m+d) s).type.args.length e6,.slice A6 ((Tm.mk 1 i T []).put (m+d) s).args.length c6]) (by simp [results,Tryz.results203,go_sem,y0,y1,y2,y3,y4]) rfl ⟨_,rfl,?_,hb2.grown hg hb2.size (fun k e=>by cases e; omega)⟩
     exact IsTm.keep (fun b h=>⟨h.1.imp id (fun x=>by omega),Nat.lt_of_lt_of_le h.2 hg.size⟩) (fun p hp=>World.cell?_of_block (hg.block p.block hp.2 (fun e=>by
       have e':p.block=w.heap.size+1:=by have h:=Option.some.inj e; omega
       exact hp.1.elim (fun h=>by have:=HS.out _ h; omega) (fun h=>by omega)))) _ HE.out.2.1
   · have HK1:=Lib.hid hk
     have e1:(k == 1)=false:=by simpa using hk
     have hll:=bulkAll_len l
     have HKN:=Lib.hid hk
     clear hk
     go_wp2_with fail
     refine (cloneT_in S l _ W (fun b h=>Nat.lt_of_lt_of_le (HS.out b h) HB.out.1.size) (by omega) (HT.out.2.keep (fun _ h=>h) (fun p hp=>HB.out.1.cell (HS.out _ hp)))).mono ?_
     rintro e w1 ⟨c,rfl,hown,hb1⟩
     obtain ⟨Ac,cc,rfl⟩:=hown.form
     have HO:=Lib.hid (hown.mono (S':=fun b=>S b∨W.heap.size≤b) (fun b h _=>.inl h) (Nat.le_refl _))
     have HB1:=Lib.hid hb1
     clear hown hb1 r0 r1 r2 r3 r4 g0 g1 g2 g3 g4
     go_wp2_with fail
     go_loopw [22] (fun ix wr=>∃ j:Nat,j≤l.length∧ix=.int .i64 j∧TmR.Own (fun b=>S b∨W.heap.size≤b) W.heap.size (.slice Ac l.length cc) (putAll (l.take j) (if k=2 then m+d+1 else m+d) s ++ l.drop j) wr∧Below W.heap.size W wr)
       (fun ix _=>l.length - (intOf ix).toNat)
     case atStart=>exact ⟨0,by omega,rfl,by simpa [putAll] using HO.out,HB1.out⟩
     case round=>
       obtain ⟨j,hj,rfl,hown,hbr⟩:=hrel
       have HO:=Lib.hid hown
       have HBR:=Lib.hid hbr
       clear hown hbr
       have hlen:(putAll (l.take j) (if k=2 then m+d+1 else m+d) s ++ l.drop j).length=l.length:=by rw [List.length_append,putAll_len]; simp; omega
       have HLN:=Lib.hid hlen
       clear hlen
       by_cases hlt:j<l.length
       · obtain ⟨xs,hxo,hxc⟩:=HO.out
         rw [HLN.out] at hxo
         obtain ⟨g,cap,hv,hg0,hg1⟩:=hxo.form (by omega)
         simp only [Value.slice.injEq] at hv
         obtain ⟨rfl,_,rfl⟩:=hv
         have hel:(putAll (l.take j) (if k=2 then m+d+1 else m+d) s ++ l.drop j)[j]'(by have:=HLN.out; omega)=l[j]:=by
           rw [List.getElem_append_right (by rw [putAll_len]; simp; omega)]
           simp only [putAll_len,List.length_take,List.getElem_drop]
           congr 1
           omega
         obtain ⟨vs,hvs,hx⟩:=hxc.get j (by have:=HLN.out; omega)
         rw [hel] at hx
         obtain ⟨Bx,ex,Ax,cx,e5,_⟩:=IsTm.form hx
         simp only [Value.agg.injEq] at e5
         have e5':=congrArg Array.toList e5
         simp only at e5'
         subst e5'
         have hcell:∀ i u,[Value.int .i64 l[j].kind,.int .i64 l[j].index,.int .i64 l[j].type.kind,.slice Bx l[j].type.args.length ex,.slice Ax l[j].args.length cx][i]? = some u→wr.cell? ⟨g,j * 5+i,none⟩ = some u:=fun i u h=>by
           have:=hxo.cells rfl _ _ (hvs i u h)
           have e:(⟨g,0,none⟩:Addr).add (j * 5+i)=⟨g,j * 5+i,none⟩:=by unfold Addr.add; split <;> simp_all
           rw [← e]; exact this
         have q0:=hcell 0 _ rfl
         have q1:=hcell 1 _ rfl
         have q2:=hcell 2 _ rfl
         have q3:=hcell 3 _ rfl
         have q4:=hcell 4 _ rfl
         rw [Nat.add_zero] at q0
         have HX:=Lib.hid (And.intro hxo (And.intro hxc (And.intro hx (And.intro HLN.out hel))))
         clear hxo hxc hx hel hcell hvs e5
         go_upto_region 7 with fail
         obtain ⟨bR,zR,kR⟩:=new_blk (Below.refl wr.heap.size wr) (Nat.le_refl _) #[.int .i64 l[j].kind,.int .i64 l[j].index,.int .i64 l[j].type.kind,.slice Bx l[j].type.args.length ex,.slice Ax l[j].args.length cx] 42
         have k0R:Blk (wr.alloc (Obj.cells #[.int .i64 l[j].kind,.int .i64 l[j].index,.int .i64 l[j].type.kind,.slice Bx l[j].type.args.length ex,.slice Ax l[j].args.length cx] 42)) w.heap.size 42 #[.int .i64 k,.int .i64 i,.int .i64 T.kind,.slice B T.args.length d0,.slice A l.length a0]:=(HK.out.1.below HBR.out HK.out.1.lt).alloc _
         generalize wr.alloc (Obj.cells #[.int .i64 l[j].kind,.int .i64 l[j].index,.int .i64 l[j].type.kind,.slice Bx l[j].type.args.length ex,.slice Ax l[j].args.length cx] 42)=R at bR zR kR k0R ⊢
         have hWw:=HB.out.2
         have hWr:=HBR.out.size
         have HSK:=Lib.hid fun (w':World) (h:Turn (· = g) R w')=>And.intro ((h.blk kR (by omega)).facts5.1) (And.intro ((h.blk kR (by omega)).facts5.2.1) (And.intro ((h.blk kR (by omega)).facts5.2.2.1) (And.intro ((h.blk kR (by omega)).facts5.2.2.2.1) (And.intro ((h.blk kR (by omega)).facts5.2.2.2.2.1) (And.intro ((h.blk k0R (by omega)).facts5.1) (And.intro ((h.blk k0R (by omega)).facts5.2.1) (And.intro ((h.blk k0R (by omega)).facts5.2.2.1) (And.intro ((h.blk k0R (by omega)).facts5.2.2.2.1) ((h.blk k0R (by omega)).facts5.2.2.2.2.1)))))))))
         obtain ⟨y0,y1,y2,y3,y4,y5,y6,y7,y8,y9⟩:=HSK.out R (Turn.refl _ _)
         have QD:=Lib.hid (show Turn (· = g) R R.drew from Turn.drew R)
         have BR:=Lib.hid bR
         have HPR:=Lib.hid (And.intro ((bR.cell (Nat.lt_of_lt_of_le hpW hWr)).trans ((HBR.out.cell hpW).trans HP.out.1)) (And.intro ((HP.out.2.1.below HBR.out hQW).below bR (Nat.lt_of_lt_of_le hQW hWr)) (IsTm.keep (S':=fun b=>(S b∨W.heap.size≤b)∧b<wr.heap.size∧g≠b) (fun b h=>⟨.inl h,by have:=HS.out b h; omega,by have:=HS.out b h; omega⟩) (fun r hr=>(bR.cell (by have:=HS.out _ hr; omega)).trans (HBR.out.cell (by have:=HS.out _ hr; omega))) _ HP.out.2.2)))
         have hbj:=bulkAll_get l j hlt
         obtain ⟨d',hd'⟩:∃ d':Nat,d' = (if k=2 then d+1 else d):=⟨_,rfl⟩
         have hmd:m+d' = (if k=2 then m+d+1 else m+d):=by rw [hd']; split <;> omega
         have HMD:=Lib.hid hmd
         have hdd:d'≤d+1:=by rw [hd']; split <;> omega
         have HD':=Lib.hid hd'
         have HGJ:=Lib.hid (show l[j].occ (m+d')≠0→Goodput s from fun e=>HG.out (by rw [Tm.occ,if_neg HK1.out,← hmd]; have:=occ_part l j hlt (m+d'); omega))
         have hwb:Int.toNat (j:Int)=j:=by omega
         clear hmd hd' zR q0 q1 q2 q3 q4 hwb
         go_region_held3 (fun w'=>w'.cell? ⟨wr.heap.size,0,none⟩ = some (.int .i64 l[j].kind)∧w'.cell? ⟨wr.heap.size,1,none⟩ = some (.int .i64 l[j].index)∧w'.cell? ⟨wr.heap.size,2,none⟩ = some (.int .i64 l[j].type.kind)∧w'.cell? ⟨wr.heap.size,3,none⟩ = some (.slice Bx l[j].type.args.length ex)∧w'.cell? ⟨wr.heap.size,4,none⟩ = some (.slice Ax l[j].args.length cx)∧w'.cell? ⟨w.heap.size,0,none⟩ = some (.int .i64 k)∧w'.cell? ⟨w.heap.size,1,none⟩ = some (.int .i64 i)∧w'.cell? ⟨w.heap.size,2,none⟩ = some (.int .i64 T.kind)∧w'.cell? ⟨w.heap.size,3,none⟩ = some (.slice B T.args.length d0)∧w'.cell? ⟨w.heap.size,4,none⟩ = some (.slice A l.length a0))
           (first | with_reducible exact HSK.out _ QD.out | with_reducible exact HSK.out _ T5.out | with_reducible exact HSK.out _ T6.out | with_reducible exact HSK.out _ TF.out)
           (first
             | (go_at_call 203
                have P6:=IH.out l[j] _ d' m p Q (fun b=>(S b∨W.heap.size≤b)∧b<wr.heap.size∧g≠b) w5 (by omega) (okAllT_get HL.out.1 j hlt) (lowAll_get HL.out.2 j hlt) HGJ.out (by omega) hm (fun b h=>Nat.lt_of_lt_of_le h.2.1 (Nat.le_trans BR.out.size B5.out.size)) (by have:=BR.out.size; have:=B5.out.size; omega) (by have:=BR.out.size; have:=B5.out.size; omega)
                  ((B5.out.cell (by have:=BR.out.size; omega)).trans HPR.out.1) (HPR.out.2.1.below B5.out (by have:=BR.out.size; omega)) (IsTm.keep (fun _ h=>h) (fun r hr=>B5.out.cell (Nat.lt_of_lt_of_le hr.2.1 BR.out.size)) _ HPR.out.2.2) (IsTm.keep (S':=fun b=>(S b∨W.heap.size≤b)∧b<wr.heap.size∧g≠b) (fun b h=>⟨h.1,h.2.1,fun e=>h.2.2 (by simp [Value.ownBlock,e])⟩) (fun r hr=>(B5.out.cell (Nat.lt_of_lt_of_le hr.2.1 BR.out.size)).trans (BR.out.cell hr.2.1)) _ HX.out.2.2.1)
                (with_reducible refine P6.mono ?_)
                rintro e w6 ⟨v6,rfl,t6,r6⟩
                clear P6
                obtain ⟨B6,e6,A6,c6,rfl,_⟩:=IsTm.form t6
                have T6:=Lib.hid (show Turn (· = g) R w6 from T5.out.trans (Turn.call r6))
                have B6':=Lib.hid (BR.out.trans ((B5.out.trans (r6.mono B5.out.size)).mono BR.out.size))
                have X6:=Lib.hid t6
                have hown6:=HO.out.below B6'.out
                obtain ⟨xs6,hxo6,hxc6⟩:=hown6
                rw [HLN.out] at hxo6
                have HX6:=Lib.hid (And.intro hxo6 hxc6)
                obtain ⟨⟨u0,h0⟩,f0⟩:=row_cells hxo6 hlt (j * 5) (by omega) (by omega)
                obtain ⟨⟨u1,h1⟩,f1⟩:=row_cells hxo6 hlt (j * 5+1) (by omega) (by omega)
                obtain ⟨⟨u2,h2⟩,f2⟩:=row_cells hxo6 hlt (j * 5+2) (by omega) (by omega)
                obtain ⟨⟨u3,h3⟩,f3⟩:=row_cells hxo6 hlt (j * 5+3) (by omega) (by omega)
                obtain ⟨⟨u4,h4⟩,f4⟩:=row_cells hxo6 hlt (j * 5+4) (by omega) (by omega)
                have TF:=Lib.hid (T6.out.trans (turn_row5 w6 g (j * 5) (.int .i64 (l[j].put (m+d') s).kind) (.int .i64 (l[j].put (m+d') s).index) (.int .i64 (l[j].put (m+d') s).type.kind) (.slice B6 (l[j].put (m+d') s).type.args.length e6) (.slice A6 (l[j].put (m+d') s).args.length c6)))
                clear t6 r6 hxo6 hxc6)
             | (go_at_call 239
                have P5:=below_any k i (.int .i64 T.kind) (.slice B T.args.length d0) (.slice A l.length a0) d R.drew (by omega)
                rw [← HD'.out] at P5
                (with_reducible refine P5.mono ?_)
                rintro e w5 ⟨rfl,r5⟩
                clear P5
                have T5:=Lib.hid (QD.out.trans (Turn.call r5))
                have B5:=Lib.hid (show Below R.heap.size R w5 from ((Below.refl _ R).drew).trans r5)
                clear r5))
         have AFTER:=Lib.hid (show TmR.Own (fun b=>S b∨W.heap.size≤b) W.heap.size (.slice (some ⟨g,0,none⟩) l.length cc) (putAll (l.take (j+1)) (if k=2 then m+d+1 else m+d) s ++ l.drop (j+1)) (((((w6.setCell ⟨g,j * 5,none⟩ (.int .i64 (l[j].put (m+d') s).kind)).setCell ⟨g,j * 5+1,none⟩ (.int .i64 (l[j].put (m+d') s).index)).setCell ⟨g,j * 5+2,none⟩ (.int .i64 (l[j].put (m+d') s).type.kind)).setCell ⟨g,j * 5+3,none⟩ (.slice B6 (l[j].put (m+d') s).type.args.length e6)).setCell ⟨g,j * 5+4,none⟩ (.slice A6 (l[j].put (m+d') s).args.length c6)) ∧
             Below W.heap.size W (((((w6.setCell ⟨g,j * 5,none⟩ (.int .i64 (l[j].put (m+d') s).kind)).setCell ⟨g,j * 5+1,none⟩ (.int .i64 (l[j].put (m+d') s).index)).setCell ⟨g,j * 5+2,none⟩ (.int .i64 (l[j].put (m+d') s).type.kind)).setCell ⟨g,j * 5+3,none⟩ (.slice B6 (l[j].put (m+d') s).type.args.length e6)).setCell ⟨g,j * 5+4,none⟩ (.slice A6 (l[j].put (m+d') s).args.length c6)) from by
           have hs5:=B5.out.size
           have hsR:=BR.out.size
           have h:=row_set5 (S:=fun b=>S b∨W.heap.size≤b) (base:=W.heap.size) (g:=g) (cap:=cc) (j:=j) (w:=w6) (l:=putAll (l.take j) (if k=2 then m+d+1 else m+d) s ++ l.drop j) (U:=l[j].put (m+d') s) (xs:=xs6)
             (x0:=.int .i64 (l[j].put (m+d') s).kind) (x1:=.int .i64 (l[j].put (m+d') s).index) (x2:=.int .i64 (l[j].put (m+d') s).type.kind) (x3:=.slice B6 (l[j].put (m+d') s).type.args.length e6) (x4:=.slice A6 (l[j].put (m+d') s).args.length c6)
             (by rw [HLN.out]; exact hlt) (by rw [HLN.out]; exact HX6.out.1) (by rw [HLN.out]; exact HX6.out.2)
             (IsTm.keep (fun b h=>⟨h.1.elim (fun x=>x.1) (fun x=>.inr (by omega)),h.2,h.1.elim (fun x=>x.2.2) (fun x=>by omega)⟩) (fun _ _=>rfl) _ X6.out)
           rw [HLN.out] at h
           have e:(putAll (l.take j) (if k=2 then m+d+1 else m+d) s ++ l.drop j).set j (l[j].put (m+d') s)=putAll (l.take (j+1)) (if k=2 then m+d+1 else m+d) s ++ l.drop (j+1):=by rw [HMD.out]; exact putAll_take hlt
           rw [e] at h
           have b6:=HBR.out.trans (B6'.out.mono HBR.out.size)
           exact ⟨h.1,b6.grown h.2 b6.size (fun k e=>by cases e; exact hg0)⟩)
         clear h0 h1 h2 h3 h4 f0 f1 f2 f3 f4 y0 y1 y2 y3 y4 y5 y6 y7 y8 y9
         go_wp2_with fail
         exact ⟨⟨j+1,by omega,by go_num,AFTER.out.1,AFTER.out.2⟩,by simp [intOf]; omega⟩
       · have hj':j=l.length:=by omega
         subst hj'
         have k0w:=HK.out.1.below HBR.out HK.out.1.lt
         have k1w:=HK.out.2.below HBR.out HK.out.2.lt
         obtain ⟨r0,r1,r2,r3,r4,g0,g1,g2,g3,g4⟩:=k0w.facts5
         have k0':Blk (wr.setCell ⟨w.heap.size,4,none⟩ (.slice Ac l.length cc)) w.heap.size 42 #[.int .i64 k,.int .i64 i,.int .i64 T.kind,.slice B T.args.length d0,.slice Ac l.length cc]:=by simpa using k0w.set_ 4 (.slice Ac l.length cc)
         have k1':=k1w.far (p:=⟨w.heap.size,4,none⟩) (by simp) (.slice Ac l.length cc)
         have HKS:=Lib.hid (And.intro k0' k1')
         clear k0w k1w k0' k1'
         go_upto_region 10 with fail
         obtain ⟨k0',k1'⟩:=HKS.out
         have hs:=only_setCell (only_refl wr (some w.heap.size)) (p:=⟨w.heap.size,4,none⟩) (.inl rfl) (.slice Ac l.length cc)
         have hz:=HB.out.2
         have hown1:=HO.out.far hs (by omega) (fun h=>h.elim (fun h=>by have:=HS.out _ h; omega) (fun h=>by omega))
         have hb1:Below w.heap.size w (wr.setCell ⟨w.heap.size,4,none⟩ (.slice Ac l.length cc)):=(HB.out.1.trans (HBR.out.mono HB.out.1.size)).grown hs (HB.out.1.trans (HBR.out.mono HB.out.1.size)).size (fun k e=>by cases e; exact Nat.le_refl _)
         generalize wr.setCell ⟨w.heap.size,4,none⟩ (.slice Ac l.length cc)=W2 at k0' k1' hs hown1 hb1 ⊢
         obtain ⟨s0,s1,s2,s3,s4,_,_,_,_,_⟩:=k0'.facts5
         obtain ⟨_,_,_,_,_,f0,f1,f2,f3,f4⟩:=k1'.facts5
         have HE:=Lib.hid (And.intro k1' (And.intro hown1 hb1))
         clear r0 r1 r2 r3 r4 g0 g1 g2 g3 g4 k0' k1' hs hown1 hb1
         go_wp2_with fail
         obtain ⟨y0,y1,y2,y3,y4⟩:=(HE.out.1.set5 (.int .i64 k) (.int .i64 i) (.int .i64 T.kind) (.slice B T.args.length d0) (.slice Ac l.length cc)).cells5
         have hg:=only_set5 W2 (w.heap.size+1) (.int .i64 k) (.int .i64 i) (.int .i64 T.kind) (.slice B T.args.length d0) (.slice Ac l.length cc)
         have hown2:=HE.out.2.1.far hg (by omega) (fun h=>h.elim (fun h=>by have:=HS.out _ h; omega) (fun h=>by omega))
         have hb2:=HE.out.2.2
         refine bodyPost_ret (v:=.agg #[.int .i64 k,.int .i64 i,.int .i64 T.kind,.slice B T.args.length d0,.slice Ac l.length cc]) (by simp [results,Tryz.results203,go_sem,y0,y1,y2,y3,y4]) rfl ⟨_,rfl,?_,hb2.grown hg hb2.size (fun k e=>by cases e; omega)⟩
         rw [Tm.put,if_neg HKN.out]
         refine isTm_iff.2 ⟨rfl,rfl,IsTy.keep (fun b h=>⟨.inl h,Nat.lt_of_lt_of_le (HS.out b h) (Nat.le_trans hb2.size hg.size)⟩) (fun r hr=>?_) _ HT.out.1,?_⟩
         · have:=HS.out _ hr
           exact (World.cell?_of_block (hg.block r.block (Nat.lt_of_lt_of_le this hb2.size) (by simp; omega))).trans (hb2.cell this)
         · rw [List.take_length,List.drop_length,List.append_nil] at hown2
           exact Rep.Sl.keep (fun b h=>⟨h.1.elim (fun x=>x.imp id (fun y=>by omega)) (fun y=>.inr (by omega)),h.2⟩) (fun _ _=>rfl) hown2.sl
end Go.Proofs.YtipfnkajdooiiaaGreatDoor
namespace Go.Proofs.YtipfnkajdooiiaaGreatDoor
open Go.RowKit

set_option maxRecDepth 100000 in
set_option maxHeartbeats 2000000 in
theorem put_when (t s:Tm) (v u:Value) (m:Nat) (S:Nat→Prop) (w:World) (hb:t.bulk≤400000) (hok:t.ok=true) (hlow:t.low 1000000000=true) (hgood:t.occ m≠0→Goodput s) (hm:m≤400000) (hS:∀ b,S b→b<w.heap.size) (hT:IsTm S w t v) (hU:IsTm S w s u) :
   Calls Tryz.prog 151 #[v,.int .i64 m,u] w (LiftR S (t.put m s) w):=by
 have HG:=Lib.hid (show t.occ (m+0)≠0→Goodput s from by rw [Nat.add_zero]; exact hgood)
 clear hgood
 obtain ⟨B,d,A,c,rfl,_⟩:=IsTm.form hT
 obtain ⟨Bs,ds,As,cs,rfl,_⟩:=IsTm.form hU
 go_enter Tryz.func151,Tryz.ntmps151
 go_upto_region 1 with fail
 obtain ⟨b1,z1,k0⟩:=new_blk (Below.refl w.heap.size w) (Nat.le_refl _) #[.int .i64 t.kind,.int .i64 t.index,.int .i64 t.type.kind,.slice B t.type.args.length d,.slice A t.args.length c] 42
 generalize w.alloc (Obj.cells #[.int .i64 t.kind,.int .i64 t.index,.int .i64 t.type.kind,.slice B t.type.args.length d,.slice A t.args.length c] 42)=W1 at b1 z1 k0 ⊢
 obtain ⟨b2,z2,k1⟩:=new_blk b1 b1.size #[.int .i64 m] 3
 have k0:=k0.alloc (Obj.cells #[.int .i64 m] 3)
 generalize W1.alloc (Obj.cells #[.int .i64 m] 3)=W2 at b2 z2 k0 k1 ⊢
 rw [z1] at k1 z2
 obtain ⟨b3,z3,k2⟩:=new_blk b2 b2.size #[.int .i64 s.kind,.int .i64 s.index,.int .i64 s.type.kind,.slice Bs s.type.args.length ds,.slice As s.args.length cs] 42
 have k0:=k0.alloc (Obj.cells #[.int .i64 s.kind,.int .i64 s.index,.int .i64 s.type.kind,.slice Bs s.type.args.length ds,.slice As s.args.length cs] 42)
 have k1:=k1.alloc (Obj.cells #[.int .i64 s.kind,.int .i64 s.index,.int .i64 s.type.kind,.slice Bs s.type.args.length ds,.slice As s.args.length cs] 42)
 generalize W2.alloc (Obj.cells #[.int .i64 s.kind,.int .i64 s.index,.int .i64 s.type.kind,.slice Bs s.type.args.length ds,.slice As s.args.length cs] 42)=W3 at b3 z3 k0 k1 k2 ⊢
 rw [z2] at k2 z3
 obtain ⟨b4,z4,k3⟩:=new_blk b3 b3.size #[.int .i64 0,.int .i64 0,.int .i64 0,.slice none 0 0,.slice none 0 0] 42
 have k0:=k0.alloc (Obj.cells #[.int .i64 0,.int .i64 0,.int .i64 0,.slice none 0 0,.slice none 0 0] 42)
 have k1:=k1.alloc (Obj.cells #[.int .i64 0,.int .i64 0,.int .i64 0,.slice none 0 0,.slice none 0 0] 42)
 have k2:=k2.alloc (Obj.cells #[.int .i64 0,.int .i64 0,.int .i64 0,.slice none 0 0,.slice none 0 0] 42)
 generalize W3.alloc (Obj.cells #[.int .i64 0,.int .i64 0,.int .i64 0,.slice none 0 0,.slice none 0 0] 42)=W at b4 z4 k0 k1 k2 k3 ⊢
 rw [z3] at k3 z4
 obtain ⟨r0,r1,r2,r3,r4,_,_,_,_,_⟩:=k0.facts5
 have hp:=k1.facts1.1
 have HC:=Lib.hid (changedPut_any s Bs As ds cs 400000)
 have HB:=Lib.hid (And.intro b4 z4)
 have HK:=Lib.hid k3
 have HT:=Lib.hid (IsTm.keep (fun _ h=>h) (fun r hr=>b4.cell (hS _ hr)) _ hT)
 have HS:=Lib.hid hS
 have HP:=Lib.hid (And.intro hp (And.intro k2 (IsTm.keep (S':=S) (fun _ h=>h) (fun r hr=>b4.cell (HS.out _ hr)) _ hU)))
 clear b1 z1 b2 z2 b3 z3 b4 z4 k0 k1 k2 k3 hT hU hS hp
 go_wp2_with fail
 refine (HC.out t _ 0 m ⟨w.heap.size+1,0,none⟩ (w.heap.size+1+1) S W (by omega) hok hlow HG.out (by omega) hm (fun b h=>Nat.lt_of_lt_of_le (HS.out b h) HB.out.1.size) (by have:=HB.out.2; simp; omega) (by have:=HB.out.2; simp; omega) HP.out.1 HP.out.2.1 HP.out.2.2 HT.out).mono ?_
 rintro e w' ⟨v',rfl,ht,hb'⟩
 obtain ⟨B6,e6,A6,c6,rfl,_⟩:=IsTm.form ht
 rw [Nat.add_zero] at ht
 have k3':=HK.out.below hb' HK.out.lt
 obtain ⟨_,_,_,_,_,f0,f1,f2,f3,f4⟩:=k3'.facts5
 have HE:=Lib.hid (And.intro k3' (And.intro ht hb'))
 clear k3' ht hb' r0 r1 r2 r3 r4
 go_wp2_with fail
 obtain ⟨y0,y1,y2,y3,y4⟩:=(HE.out.1.set5 (.int .i64 (t.put m s).kind) (.int .i64 (t.put m s).index) (.int .i64 (t.put m s).type.kind) (.slice B6 (t.put m s).type.args.length e6) (.slice A6 (t.put m s).args.length c6)).cells5
 have hg:=only_set5 w' (w.heap.size+1+1+1) (.int .i64 (t.put m s).kind) (.int .i64 (t.put m s).index) (.int .i64 (t.put m s).type.kind) (.slice B6 (t.put m s).type.args.length e6) (.slice A6 (t.put m s).args.length c6)
 have hz:=HB.out.2
 have hb2:=HB.out.1.trans (HE.out.2.2.mono HB.out.1.size)
 refine bodyPost_ret (v:=.agg #[.int .i64 (t.put m s).kind,.int .i64 (t.put m s).index,.int .i64 (t.put m s).type.kind,.slice B6 (t.put m s).type.args.length e6,.slice A6 (t.put m s).args.length c6]) (by simp [results,Tryz.results151,go_sem,y0,y1,y2,y3,y4]) rfl ⟨_,rfl,?_,hb2.grown hg hb2.size (fun k e=>by cases e; omega)⟩
 exact IsTm.keep (fun b h=>⟨h.1.imp id (fun x=>by omega),Nat.lt_of_lt_of_le h.2 hg.size⟩) (fun p hp=>World.cell?_of_block (hg.block p.block hp.2 (fun e=>by
   have e':p.block=w.heap.size+1+1+1:=by have h:=Option.some.inj e; omega
   exact hp.1.elim (fun h=>by have:=HS.out _ h; omega) (fun h=>by omega)))) _ HE.out.2.1
theorem put_any (t s:Tm) (v u:Value) (m:Nat) (S:Nat→Prop) (w:World) (hb:t.bulk≤400000) (hok:t.ok=true) (hlow:t.low 1000000000=true) (hsb:s.bulk≤900000) (hsok:s.ok=true) (hslow:s.low 1000000000=true) (hm:m≤400000) (hS:∀ b,S b→b<w.heap.size) (hT:IsTm S w t v) (hU:IsTm S w s u) :
   Calls Tryz.prog 151 #[v,.int .i64 m,u] w (LiftR S (t.put m s) w):=put_when t s v u m S w hb hok hlow (fun _=>⟨hsb,hsok,hslow⟩) hm hS hT hU
end Go.Proofs.YtipfnkajdooiiaaGreatDoor
namespace Go.Proofs.YtipfnkajdooiiaaGreatDoor
open Go.RowKit

mutual
/-- The index of each variable, with the number of Lams above it. -/
def Tm.vars:Tm→Nat→List (Int × Nat)
 | .mk k i _ l,d=>if k=1 then [(i,d)] else varsAll l (if k=2 then d+1 else d)
def varsAll:List Tm→Nat→List (Int × Nat)
 | [],_=>[]
 | t :: r,d=>t.vars d ++ varsAll r d
end
theorem vars_mk (k i:Int) (T:Ty) (l:List Tm) (d:Nat):(Tm.mk k i T l).vars d=if k=1 then [(i,d)] else varsAll l (if k=2 then d+1 else d):=by rw [Tm.vars]
theorem varsAll_append:∀ (l r:List Tm) (d:Nat),varsAll (l ++ r) d=varsAll l d ++ varsAll r d
 | [],r,d=>by simp [varsAll]
 | t :: l,r,d=>by simp only [List.cons_append,varsAll,varsAll_append l r d,List.append_assoc]
theorem varsAll_take {l:List Tm} {j:Nat} (hj:j<l.length) (d:Nat):varsAll (l.take (j+1)) d=varsAll (l.take j) d ++ l[j].vars d:=by
 rw [List.take_succ_eq_append_getElem hj,varsAll_append]
 simp [varsAll]
theorem varsAll_split {l:List Tm} {j:Nat} (hj:j<l.length) (d:Nat):varsAll l d=varsAll (l.take j) d ++ (l[j].vars d ++ varsAll (l.drop (j+1)) d):=by
 have h:l=l.take (j+1) ++ l.drop (j+1):=(List.take_append_drop _ _).symm
 conv=>lhs; rw [h]
 rw [varsAll_append,varsAll_take hj,List.append_assoc]
mutual
theorem vars_bulk:∀ (t:Tm) (d:Nat),(t.vars d).length≤t.bulk
 | .mk k i T l,d=>by
   rw [Tm.vars]
   simp only [Tm.bulk]
   split
   · simp
     omega
   · have:=varsAll_bulk l (if k=2 then d+1 else d)
     omega
theorem varsAll_bulk:∀ (l:List Tm) (d:Nat),(varsAll l d).length≤bulkAll l
 | [],d=>by simp [varsAll]
 | t :: r,d=>by
   have:=vars_bulk t d
   have:=varsAll_bulk r d
   simp only [varsAll,bulkAll,List.length_append]
   omega
end
mutual
/-- As many of them are the variable m as it has places. -/
theorem vars_occ (m:Nat):∀ (t:Tm) (d:Nat),(t.vars d).countP (fun x=>decide (x.1=((m+x.2:Nat):Int)))=t.occ (m+d)
 | .mk k i T l,d=>by
   rw [Tm.vars,Tm.occ]
   split
   · rename_i h
     by_cases hi:i=((m+d:Nat):Int)
     · rw [if_pos hi,List.countP_cons_of_pos (by simpa using hi)]; simp
     · rw [if_neg hi,List.countP_cons_of_neg (by simpa using hi)]; simp
   · rename_i h
     rw [varsAll_occ m l]
     by_cases hk:k=2
     · rw [if_pos hk,if_pos hk]; rfl
     · rw [if_neg hk,if_neg hk]
theorem varsAll_occ (m:Nat):∀ (l:List Tm) (d:Nat),(varsAll l d).countP (fun x=>decide (x.1=((m+x.2:Nat):Int)))=occAll l (m+d)
 | [],d=>by simp [varsAll,occAll]
 | t :: r,d=>by rw [varsAll,List.countP_append,vars_occ m t,varsAll_occ m r,occAll]
end
mutual
theorem vars_low {n:Int}:∀ (t:Tm) (d:Nat),t.low n=true→∀ x ∈ t.vars d,x.1≤n
 | .mk k i T l,d,h,x,hx=>by
   rw [Tm.low,Bool.and_eq_true] at h
   rw [Tm.vars] at hx
   split at hx
   · simp at hx
     subst hx
     exact of_decide_eq_true h.1
   · exact varsAll_low l _ h.2 x hx
theorem varsAll_low {n:Int}:∀ (l:List Tm) (d:Nat),lowAll l n=true→∀ x ∈ varsAll l d,x.1≤n
 | [],d,_,x,hx=>by simp [varsAll] at hx
 | t :: r,d,h,x,hx=>by
   simp only [lowAll,Bool.and_eq_true] at h
   simp only [varsAll,List.mem_append] at hx
   exact hx.elim (vars_low t d h.1 x) (varsAll_low r d h.2 x)
end
mutual
theorem vars_nat:∀ (t:Tm) (d:Nat),t.ok=true→∀ x ∈ t.vars d,0≤x.1
 | .mk k i T l,d,h,x,hx=>by
   rw [Tm.ok,Bool.and_eq_true] at h
   rw [Tm.vars] at hx
   split at hx
   · simp at hx
     subst hx
     exact (formed_kind h.1).2.2.2.1
   · exact varsAll_nat l _ h.2 x hx
theorem varsAll_nat:∀ (l:List Tm) (d:Nat),okAllT l=true→∀ x ∈ varsAll l d,0≤x.1
 | [],d,_,x,hx=>by simp [varsAll] at hx
 | t :: r,d,h,x,hx=>by
   simp only [okAllT,Bool.and_eq_true] at h
   simp only [varsAll,List.mem_append] at hx
   exact hx.elim (vars_nat t d h.1 x) (varsAll_nat r d h.2 x)
end
mutual
/-- Depths stay below the number of nodes. -/
theorem vars_deep:∀ (t:Tm) (d:Nat),∀ x ∈ t.vars d,d≤x.2∧x.2<d+t.bulk
 | .mk k i T l,d,x,hx=>by
   rw [Tm.vars] at hx
   simp only [Tm.bulk]
   split at hx
   · simp at hx
     subst hx
     simp only
     omega
   · have:=varsAll_deep l _ x hx
     by_cases hk:k=2
     · rw [if_pos hk] at this; omega
     · rw [if_neg hk] at this; omega
theorem varsAll_deep:∀ (l:List Tm) (d:Nat),∀ x ∈ varsAll l d,d≤x.2∧x.2<d+bulkAll l
 | [],d,x,hx=>by simp [varsAll] at hx
 | t :: r,d,x,hx=>by
   simp only [varsAll,List.mem_append] at hx
   simp only [bulkAll]
   have:=bulk_pos t
   rcases hx with hx | hx
   · have:=vars_deep t d x hx; omega
   · have:=varsAll_deep r d x hx; omega
end

mutual
theorem low_mono {n m:Int} (h:n≤m):∀ (t:Tm),t.low n=true→t.low m=true
 | .mk k i T l,hl=>by
   rw [Tm.low,Bool.and_eq_true] at hl ⊢
   have:=of_decide_eq_true hl.1
   exact ⟨decide_eq_true (by omega),lowAll_mono h l hl.2⟩
theorem lowAll_mono {n m:Int} (h:n≤m):∀ (l:List Tm),lowAll l n=true→lowAll l m=true
 | [],_=>by simp [lowAll]
 | t :: r,hl=>by
   simp only [lowAll,Bool.and_eq_true] at hl ⊢
   exact ⟨low_mono h t hl.1,lowAll_mono h r hl.2⟩
end
mutual
/-- What has a type in a context has variables of the context, below its own Lams. -/
theorem typ_low:∀ (t:Tm) (G:List Ty) {U:Ty},t.ok=true→t.typ G=.ok U→t.low ((G.length:Int)+t.size)=true
 | .mk k i T l,G,U,hok,h=>by
   rw [Tm.ok,Bool.and_eq_true] at hok
   obtain ⟨_,_,_,hi0,hi1,_⟩:=formed_kind hok.1
   simp only [Tm.kind,Tm.index] at hi0 hi1
   rw [Tm.low,Bool.and_eq_true]
   unfold Tm.typ at h
   by_cases h1:k=1
   · subst h1
     rw [if_pos rfl] at h
     split at h
     · rename_i hn
       have hl:l=[]:=by
         have:=(formed_kind hok.1).2.2.1
         simp [arities,Tm.args,Tm.kind] at this
         exact this
       subst hl
       refine ⟨decide_eq_true (by simp only [Tm.size]; omega),by simp [lowAll]⟩
     · cases h
   · rw [if_neg h1] at h
     have hi:i=0:=by rcases hi1 with e | e; exact (h1 e).elim; exact e
     refine ⟨decide_eq_true (by omega),?_⟩
     by_cases hk:k=2
     · rw [if_pos hk] at h
       cases hps:typAll l (G ++ [T]) with
       | error e=>rw [hps] at h; cases h
       | ok ps=>
         refine lowAll_mono ?_ l (typAll_low l (G ++ [T]) hok.2 hps)
         simp only [Tm.size,List.length_append,List.length_cons,List.length_nil]
         omega
     · rw [if_neg hk] at h
       cases hps:typAll l G with
       | error e=>rw [hps] at h; cases h
       | ok ps=>
         refine lowAll_mono ?_ l (typAll_low l G hok.2 hps)
         simp only [Tm.size]
         omega
theorem typAll_low:∀ (l:List Tm) (G:List Ty) {ps:List Ty},okAllT l=true→typAll l G=.ok ps→lowAll l ((G.length:Int)+sizeAllT l)=true
 | [],_,_,_,_=>by simp [lowAll]
 | t :: r,G,ps,hok,h=>by
   simp only [okAllT,Bool.and_eq_true] at hok
   simp only [typAll] at h
   cases hx:t.typ G with
   | error e=>rw [hx] at h; cases h
   | ok y=>
     rw [hx] at h
     simp only at h
     cases hr:typAll r G with
     | error e=>rw [hr] at h; cases h
     | ok us=>
       simp only [lowAll,Bool.and_eq_true,sizeAllT]
       exact ⟨low_mono (by omega) t (typ_low t G hok.1 hx),lowAll_mono (by omega) r (typAll_low r G hok.2 hr)⟩
end
end Go.Proofs.YtipfnkajdooiiaaGreatDoor
namespace Go.Proofs.YtipfnkajdooiiaaGreatDoor
open Go.RowKit Go.Shelf

attribute [local go_sem] Oper.semAt_some

/-- At the wide fence the depth does not matter. -/
theorem yieldAt_wide {m m':Nat} {P:Program} {l:Nat} {args:Array Value} {W:World} {R:Ending→World→Prop} (h:YieldAt Fence.wide m P l args W R):YieldAt Fence.wide m' P l args W R:=by
 obtain ⟨fn,tmps,assign,body,hy,hR⟩:=h
 exact ⟨fn,tmps,assign,body,hy,hR.1,fun c cs _=>hR.2 c cs (room_wide _)⟩

/-- What a walk over variables comes to. -/
def VisitR (n₀ B:Nat) (J:List (Int × Nat)→World→Prop) (Jx:World→Prop) (pre:List (Int × Nat)) (w:World) (e:Ending) (w':World):Prop:=
 ∃ b:Bool,e=.returned (.bool b)∧(b=true→J pre w')∧(b=false→Jx w')∧Kept n₀ B w w'

theorem Kept.blk {n₀ B:Nat} {w w':World} (h:Kept n₀ B w w') {g:Nat} {t:TypeId} {cs:Array Value} (hb:Blk w g t cs) (hg:B≤g):Blk w' g t cs:=hb.carry (h.block g hb.lt (.inr hg))
theorem Kept.cell {n₀ B:Nat} {w w':World} (h:Kept n₀ B w w') {p:Addr} (hp:p.block<n₀) (hz:p.block<w.heap.size):w'.cell? p=w.cell? p:=World.cell?_of_block (h.block p.block hz (.inl hp))
theorem vars_prefix {l:List Tm} {j d:Nat} {pre xs:List (Int × Nat)} (hj:j<l.length) (h:pre ++ varsAll l d <+: xs):(pre ++ varsAll (l.take j) d) ++ l[j].vars d <+: xs:=by
 refine List.IsPrefix.trans ?_ h
 rw [varsAll_split hj d,← List.append_assoc,← List.append_assoc]
 exact List.prefix_append _ _

set_option maxRecDepth 100000 in
set_option maxHeartbeats 4000000 in
theorem visit_any (n₀ B l:Nat) (J:List (Int × Nat)→World→Prop) (Jx:World→Prop) (xs:List (Int × Nat)) (hnB:n₀≤B) (hJ:∀ pre,Low B (J pre))
   (hY:∀ pre (x:Int × Nat) W1,J pre W1→pre ++ [x] <+: xs→B≤W1.heap.size→YieldAt Fence.wide 0 Tryz.prog l #[.int .i64 x.1,.int .i64 x.2] W1 fun e W'=>
     (e=.returned (.bool true)∧J (pre ++ [x]) W'∧Kept n₀ B W1 W')∨(e=.returned (.bool false)∧Jx W'∧Kept n₀ B W1 W'))
   (N:Nat):∀ (t:Tm) (v:Value) (d:Nat) (pre:List (Int × Nat)) (w:World),t.bulk≤N→d+N≤1000000→B≤w.heap.size→IsTm (· < n₀) w t v→J pre w→pre ++ t.vars d <+: xs →
   Calls Tryz.prog 238 #[v,.int .i64 d,.func (.yield l) #[] #[]] w (VisitR n₀ B J Jx (pre ++ t.vars d) w):=by
 induction N with
 | zero=>intro t; have:=bulk_pos t; omega
 | succ N ih=>
   rintro ⟨k,i,T,la⟩ v d pre w hN hd hB hT h0 hpre
   have IH:=Lib.hid ih
   clear ih
   obtain ⟨Bt,d0,A,a0,rfl,hty,hl⟩:=hT.mk_parts
   simp only [Tm.bulk] at hN
   have b1:=below_box w (Obj.cells #[.int .i64 k,.int .i64 i,.int .i64 T.kind,.slice Bt T.args.length d0,.slice A la.length a0] 42)
   by_cases hk:k=1
   · subst hk
     rw [vars_mk,if_pos rfl] at hpre ⊢
     obtain ⟨fn,tmps,assign,body,hy,hR⟩:=yieldAt_wide (m':=2) (hY pre (i,d) (w.alloc (Obj.cells #[.int .i64 1,.int .i64 i,.int .i64 T.kind,.slice Bt T.args.length d0,.slice A la.length a0] 42)) (hJ pre _ _ h0 (b1.mono hB)) hpre (by simp; omega))
     have HR:=Lib.hid hR
     have HKP:=Lib.hid (show Kept n₀ B w (w.alloc (Obj.cells #[.int .i64 1,.int .i64 i,.int .i64 T.kind,.slice Bt T.args.length d0,.slice A la.length a0] 42)) from Kept.of_below b1 (Nat.le_refl _))
     clear hR hT hl hty h0 hpre hY hJ b1
     refine (callsIn_wide (n:=3)).1 (callsIn_of_wp Tryz.func238 rfl trivial ?_ rfl)
     simp only [Tryz.ntmps238,List.size_toArray,List.length_cons,List.length_nil,Nat.reduceAdd,Nat.reduceSub,Array.replicate_succ,Array.replicate_zero,List.push_toArray,List.append_toArray,List.nil_append,List.cons_append]
     gi_wp2
     refine HR.out.mono ?_
     rintro e W' (⟨rfl,hJ',hkp⟩ | ⟨rfl,hJx',hkp⟩)
     · gi_wp2
       go_ret
       exact ⟨true,rfl,fun _=>hJ',fun h=>(by cases h),HKP.out.trans hkp⟩
     · gi_wp2
       go_ret
       exact ⟨false,rfl,fun h=>(by cases h),fun _=>hJx',HKP.out.trans hkp⟩
   · have e1:(k == 1)=false:=by simpa using hk
     rw [vars_mk,if_neg hk] at hpre ⊢
     obtain ⟨d',hd'⟩:∃ d':Nat,d' = (if k=2 then d+1 else d):=⟨_,rfl⟩
     rw [← hd'] at hpre ⊢
     have hdd:d'≤d+1:=by rw [hd']; split <;> omega
     have HD':=Lib.hid hd'
     have hll:=bulkAll_len la
     have HPRE:=Lib.hid hpre
     have HJ:=Lib.hid hJ
     have HL:=Lib.hid hl
     have H0:=Lib.hid h0
     clear hk hd' hpre hJ hl hty hT b1 h0 hY
     go_enter Tryz.func238,Tryz.ntmps238
     go_upto_region 1 with fail
     obtain ⟨b1,z1,k0⟩:=new_blk (Below.refl w.heap.size w) (Nat.le_refl _) #[.int .i64 k,.int .i64 i,.int .i64 T.kind,.slice Bt T.args.length d0,.slice A la.length a0] 42
     generalize w.alloc (Obj.cells #[.int .i64 k,.int .i64 i,.int .i64 T.kind,.slice Bt T.args.length d0,.slice A la.length a0] 42)=W at b1 z1 k0 ⊢
     have HW:=Lib.hid (And.intro b1 z1)
     have HK0:=Lib.hid k0
     have hzW:w.heap.size<W.heap.size:=by omega
     obtain ⟨r0,r1,r2,r3,r4,g0,g1,g2,g3,g4⟩:=k0.facts5
     clear b1 z1 k0
     go_wp2_with fail
     go_loopw [20] (fun ix wr=>∃ j:Nat,j≤la.length∧ix=.int .i64 j∧J (pre ++ varsAll (la.take j) d') wr∧Kept n₀ B W wr)
       (fun ix _=>la.length - (intOf ix).toNat)
     case atStart=>exact ⟨0,by omega,rfl,by simpa [varsAll] using HJ.out _ _ _ H0.out (HW.out.1.mono hB),Kept.refl _ _ _⟩
     case round=>
       obtain ⟨j,hj,rfl,hJr,hkr⟩:=hrel
       have HJR:=Lib.hid hJr
       have HKR:=Lib.hid hkr
       clear hJr hkr
       by_cases hlt:j<la.length
       · have hlr:TmR.Sl (· < n₀) wr la (.slice A la.length a0):=HL.out.keep (fun _ h=>h) (fun p hp=>(HKR.out.cell hp (by have:p.block<n₀:=hp; omega)).trans (HW.out.1.cell (by have:p.block<n₀:=hp; omega)))
         obtain ⟨a,rfl,ha,hat⟩:=hlr.get j hlt
         obtain ⟨B1,d1,A1,c1,q0,q1,q2,q3,q4,hx⟩:=at_tm hat
         change wr.cell? (a.add (j * 5))=_ at q0
         simp only [show TmR.n=5 from rfl] at q1 q2 q3 q4
         have HX:=Lib.hid hx
         have hbj:=bulkAll_get la j hlt
         clear hx hat hlr r0 r1 r2 r3 r4 g0 g1 g2 g3 g4
         go_upto_region 6 with fail
         obtain ⟨bR,zR,kR⟩:=new_blk (Below.refl wr.heap.size wr) (Nat.le_refl _) #[.int .i64 la[j].kind,.int .i64 la[j].index,.int .i64 la[j].type.kind,.slice B1 la[j].type.args.length d1,.slice A1 la[j].args.length c1] 42
         have k0R:Blk (wr.alloc (Obj.cells #[.int .i64 la[j].kind,.int .i64 la[j].index,.int .i64 la[j].type.kind,.slice B1 la[j].type.args.length d1,.slice A1 la[j].args.length c1] 42)) w.heap.size 42 #[.int .i64 k,.int .i64 i,.int .i64 T.kind,.slice Bt T.args.length d0,.slice (some a) la.length a0]:=(HKR.out.blk HK0.out hB).alloc _
         generalize wr.alloc (Obj.cells #[.int .i64 la[j].kind,.int .i64 la[j].index,.int .i64 la[j].type.kind,.slice B1 la[j].type.args.length d1,.slice A1 la[j].args.length c1] 42)=R at bR zR kR k0R ⊢
         have hWr:=HKR.out.size
         have hBw:B≤wr.heap.size:=by omega
         have HSK:=Lib.hid fun (w':World) (h:Kept n₀ B R w')=>And.intro (h.blk kR hBw).facts5.1 (And.intro (h.blk kR hBw).facts5.2.1 (And.intro (h.blk kR hBw).facts5.2.2.1 (And.intro (h.blk kR hBw).facts5.2.2.2.1 (And.intro (h.blk kR hBw).facts5.2.2.2.2.1 (And.intro (h.blk k0R hB).facts5.1 (And.intro (h.blk k0R hB).facts5.2.1 (And.intro (h.blk k0R hB).facts5.2.2.1 (And.intro (h.blk k0R hB).facts5.2.2.2.1 (h.blk k0R hB).facts5.2.2.2.2.1))))))))
         obtain ⟨y0,y1,y2,y3,y4,y5,y6,y7,y8,y9⟩:=HSK.out R (Kept.refl _ _ _)
         have QD:=Lib.hid (show Kept n₀ B R R.drew from ⟨rfl,rfl,rfl,Nat.le_refl _,fun _ _ _=>rfl⟩)
         have BR:=Lib.hid (show Kept n₀ B wr R from Kept.of_below bR (Nat.le_refl _))
         have JR:=Lib.hid (HJ.out _ _ _ HJR.out (bR.mono hBw))
         have PRJ:=Lib.hid (vars_prefix hlt HPRE.out)
         have hzR:wr.heap.size<R.heap.size:=by omega
         have hwb:Int.toNat (j:Int)=j:=by omega
         have BB:=Lib.hid bR
         clear zR bR kR k0R q0 q1 q2 q3 q4 hwb
         go_region_held3 (fun w'=>w'.cell? ⟨wr.heap.size,0,none⟩ = some (.int .i64 la[j].kind)∧w'.cell? ⟨wr.heap.size,1,none⟩ = some (.int .i64 la[j].index)∧w'.cell? ⟨wr.heap.size,2,none⟩ = some (.int .i64 la[j].type.kind)∧w'.cell? ⟨wr.heap.size,3,none⟩ = some (.slice B1 la[j].type.args.length d1)∧w'.cell? ⟨wr.heap.size,4,none⟩ = some (.slice A1 la[j].args.length c1)∧w'.cell? ⟨w.heap.size,0,none⟩ = some (.int .i64 k)∧w'.cell? ⟨w.heap.size,1,none⟩ = some (.int .i64 i)∧w'.cell? ⟨w.heap.size,2,none⟩ = some (.int .i64 T.kind)∧w'.cell? ⟨w.heap.size,3,none⟩ = some (.slice Bt T.args.length d0)∧w'.cell? ⟨w.heap.size,4,none⟩ = some (.slice (some a) la.length a0))
           (first | with_reducible exact HSK.out _ QD.out | with_reducible exact HSK.out _ T5.out | with_reducible exact HSK.out _ T6.out)
           (first
             | (go_at_call 238
                have P6:=IH.out la[j] _ d' (pre ++ varsAll (la.take j) d') w5 (by omega) (by omega) (by have:=B5.out.size; omega) (HX.out.keep (fun _ h=>h) (fun p hp=>(B5.out.cell (by have:p.block<n₀:=hp; omega)).trans (BB.out.cell (by have:p.block<n₀:=hp; omega)))) (HJ.out _ _ _ JR.out (B5.out.mono (by omega))) PRJ.out
                (with_reducible refine P6.mono ?_)
                rintro e w6 ⟨b,rfl,jt,jf,r6⟩
                clear P6
                have T6:=Lib.hid (T5.out.trans r6)
                have J6:=Lib.hid (And.intro jt jf)
                clear jt jf r6)
             | (go_at_call 239
                have P5:=below_any k i (.int .i64 T.kind) (.slice Bt T.args.length d0) (.slice (some a) la.length a0) d R.drew (by omega)
                rw [← HD'.out] at P5
                (with_reducible refine P5.mono ?_)
                rintro e w5 ⟨rfl,r5⟩
                clear P5
                have B5:=Lib.hid (show Below R.heap.size R w5 from ((Below.refl _ R).drew).trans r5)
                have T5:=Lib.hid (show Kept n₀ B R w5 from QD.out.trans (Kept.of_below r5 (Nat.le_refl _)))
                clear r5))
         clear y0 y1 y2 y3 y4 y5 y6 y7 y8 y9
         have KF:=Lib.hid ((HKR.out.trans BR.out).trans T6.out)
         cases b with
         | true=>
           go_wp2_with fail
           have hj6:=J6.out.1 rfl
           rw [List.append_assoc,← varsAll_take hlt] at hj6
           exact ⟨⟨j+1,by omega,by go_num,hj6,KF.out⟩,by simp [intOf]; omega⟩
         | false=>
           go_wp2_with fail
           go_ret
           exact ⟨false,rfl,fun h=>(by cases h),fun _=>(by simpa using J6.out.2),(Kept.of_below HW.out.1 (Nat.le_refl _)).trans KF.out⟩
       · have hjl:j=la.length:=by omega
         subst hjl
         have hJe:=HJR.out
         rw [List.take_length] at hJe
         have HJE:=Lib.hid hJe
         clear hJe r0 r1 r2 r3 r4 g0 g1 g2 g3 g4
         go_wp2_with fail
         go_ret
         exact ⟨true,rfl,fun _=>HJE.out,fun h=>(by cases h),(Kept.of_below HW.out.1 (Nat.le_refl _)).trans HKR.out⟩
end Go.Proofs.YtipfnkajdooiiaaGreatDoor
namespace Go.Proofs.YtipfnkajdooiiaaGreatDoor
open Go.RowKit Go.Shelf

attribute [local go_sem] Oper.semAt_some

theorem alloc3_facts (w:World) (c1 c2 c3:Array Value) (t1 t2 t3:TypeId):∃ W,W=((w.alloc (.cells c1 t1)).alloc (.cells c2 t2)).alloc (.cells c3 t3) ∧
   Below w.heap.size w W∧W.heap.size=w.heap.size+3∧Blk W w.heap.size t1 c1∧Blk W (w.heap.size+1) t2 c2∧Blk W (w.heap.size+1+1) t3 c3:=by
 obtain ⟨b1,z1,k1⟩:=new_blk (Below.refl w.heap.size w) (Nat.le_refl _) c1 t1
 generalize w.alloc (.cells c1 t1)=W1 at b1 z1 k1 ⊢
 obtain ⟨b2,z2,k2⟩:=new_blk b1 b1.size c2 t2
 have k1:=k1.alloc (.cells c2 t2)
 generalize W1.alloc (.cells c2 t2)=W2 at b2 z2 k1 k2 ⊢
 rw [z1] at k2 z2
 obtain ⟨b3,z3,k3⟩:=new_blk b2 b2.size c3 t3
 rw [z2] at k3
 exact ⟨_,rfl,b3,by omega,k1.alloc _,k2.alloc _,k3⟩
theorem alloc4_facts (w:World) (c1 c2 c3 c4:Array Value) (t1 t2 t3 t4:TypeId):∃ W,W=(((w.alloc (.cells c1 t1)).alloc (.cells c2 t2)).alloc (.cells c3 t3)).alloc (.cells c4 t4) ∧
   Below w.heap.size w W∧W.heap.size=w.heap.size+4∧Blk W w.heap.size t1 c1∧Blk W (w.heap.size+1) t2 c2∧Blk W (w.heap.size+1+1) t3 c3∧Blk W (w.heap.size+1+1+1) t4 c4:=by
 obtain ⟨W,hW,b,z,k1,k2,k3⟩:=alloc3_facts w c1 c2 c3 t1 t2 t3
 rw [← hW]
 obtain ⟨b4,z4,k4⟩:=new_blk b b.size c4 t4
 rw [z] at k4
 exact ⟨_,rfl,b4,by omega,k1.alloc _,k2.alloc _,k3.alloc _,k4⟩

/-- A variable stands as two numbers. -/
def EncVar (x:Int × Nat) (args:Array Value) (_:World):Prop:=args=#[.int .i64 x.1,.int .i64 x.2]

theorem variables_any (x0 x1 x2 x3 x4:Value) (w:World):Calls Tryz.prog 202 #[.agg #[x0,x1,x2,x3,x4]] w fun e w'=>
   e=.returned (.func (.func 237) #[] #[.pointer (some ⟨w.heap.size,0,none⟩)])∧w.alloc (.cells #[x0,x1,x2,x3,x4] 42)=w':=by
 have hmf:=makeFunc_run
 go_enter Tryz.func202,Tryz.ntmps202
 go_wp2_with fail
 go_ret
 exact ⟨rfl,rfl⟩

set_option maxRecDepth 100000 in
set_option maxHeartbeats 2000000 in
theorem vars_iter (n n₀ bt:Nat) (t:Tm) (B A:Option Addr) (d c:Nat) (w:World) (hn₀:n₀≤w.heap.size)
   (hT:IsTm (· < n₀) w t (.agg #[.int .i64 t.kind,.int .i64 t.index,.int .i64 t.type.kind,.slice B t.type.args.length d,.slice A t.args.length c])) (hsz:t.bulk≤400000)
   (hb:Blk w bt 42 #[.int .i64 t.kind,.int .i64 t.index,.int .i64 t.type.kind,.slice B t.type.args.length d,.slice A t.args.length c]) :
   Iterates Tryz.prog n n₀ 237 #[.pointer (some ⟨bt,0,none⟩)] EncVar (t.vars 0) w:=by
 intro l J Jx W hW hJ hJx hY h0
 have hB:=hb.below hW hb.lt
 obtain ⟨q0,q1,q2,q3,q4,_,_,_,_,_⟩:=hB.facts5
 have hs:=hW.size
 have P:=visit_any n₀ W.heap.size l J Jx (t.vars 0) (by omega) hJ (fun pre x W1 h hp hB=>yieldAt_wide (hY pre x #[.int .i64 x.1,.int .i64 x.2] W1 h hp hB rfl)) t.bulk t _ 0 [] W (Nat.le_refl _) (by omega) (Nat.le_refl _)
   (hT.keep (fun _ h=>h) (fun p hp=>hW.cell (by have:p.block<n₀:=hp; omega))) h0 (List.prefix_refl _)
 have HP:=Lib.hid P
 clear P hY hJ hJx h0 hT hB hb
 refine callsIn_wide.2 ?_
 simp only [List.append_toArray,List.cons_append,List.nil_append]
 go_enter Tryz.func237,Tryz.ntmps237
 go_wp2_with fail
 refine HP.out.mono ?_
 rintro e w' ⟨b,rfl,jt,jf,hk⟩
 go_wp2_with fail
 go_end0
 refine ⟨⟨_,rfl⟩,?_⟩
 cases b with
 | true=>exact .inl (jt rfl)
 | false=>exact .inr (jf rfl)

def FarI (w:World) (_pre:List (Int × Nat)) (W:World):Prop:=Below w.heap.size w W∧Blk W (w.heap.size+1) 4 #[.bool false]
theorem farI_low {w:World} {B:Nat} (hB:w.heap.size+3≤B) (pre:List (Int × Nat)):Low B (FarI w pre):=by
 rintro W W' ⟨h0,h1⟩ hb
 exact ⟨h0.trans (hb.mono (by omega)),h1.below hb (by omega)⟩

set_option maxRecDepth 100000 in
set_option maxHeartbeats 2000000 in
theorem far_any (t:Tm) (v:Value) (w:World) (hsz:t.bulk≤400000) (hlow:t.low 536870912=true) (hT:IsTm (· < w.heap.size) w t v) :
   Calls Tryz.prog 148 #[v] w fun e w'=>e=.returned (.bool false)∧Below w.heap.size w w':=by
 obtain ⟨Bt,d,A,c,rfl,_⟩:=hT.form
 refine (callsIn_wide (n:=3)).1 (callsIn_of_wp_marks Tryz.func148 rfl trivial ?_ rfl)
 simp only [Tryz.ntmps148,List.size_toArray,List.length_cons,List.length_nil,Nat.reduceAdd,Nat.reduceSub,Array.replicate_succ,Array.replicate_zero,List.push_toArray,List.append_toArray,List.nil_append,List.cons_append]
 gi_wp2_with (refine ⟨trivial,?_⟩; gi_at_call 202; refine (callsIn_wide.2 (variables_any _ _ _ _ _ _)).mono ?_; rintro e w' ⟨rfl,rfl⟩)
 obtain ⟨W0,hW0,hb,hz,k1,k2,k3⟩:=alloc3_facts w #[.int .i64 t.kind,.int .i64 t.index,.int .i64 t.type.kind,.slice Bt t.type.args.length d,.slice A t.args.length c] #[.bool false] #[.int .i64 t.kind,.int .i64 t.index,.int .i64 t.type.kind,.slice Bt t.type.args.length d,.slice A t.args.length c] 42 4 42
 rw [← hW0]
 clear hW0
 have hT0:=hT.keep (S':=(· < w.heap.size)) (fun _ h=>h) (fun p hp=>hb.cell hp)
 refine range_wp (by omega) (gf:=237) (lb:=#[.pointer (some ⟨w.heap.size+1+1,0,none⟩)]) rfl (enters_of Tryz.func237 (by kernel_rfl) rfl) (n₀:=w.heap.size) (by omega)
   (enc:=EncVar) (xs:=t.vars 0) (fun x args W h=>by rw [show args=_ from h]; rfl)
   (vars_iter _ _ _ t Bt A d c W0 (by omega) hT0 hsz k3)
   (FarI w) (fun _ _=>False) (fun pre=>farI_low (by omega) pre) (fun c W W' h _=>h) ⟨hb,k2⟩ ?round ?done ?stop
 case round=>
   rintro pre x args W ⟨j0,j1⟩ hpre hW hx
   have hx':args=#[.int .i64 x.1,.int .i64 x.2]:=hx
   subst hx'
   gi_wp2
   refine ⟨Below.refl _ _,?_⟩
   rintro W₂ hg ⟨i0,i1⟩
   have hm:x ∈ t.vars 0:=hpre.subset (by simp)
   have hlx:=vars_low t 0 hlow x hm
   have e1:decide (x.1 > 536870912)=false:=decide_eq_false (by omega)
   have e2:decide (536870912<x.1)=false:=decide_eq_false (by omega)
   clear hg hm
   gi_wp2
   exact ⟨Kept.refl _ _ _,i0,i1⟩
 case done=>
   rintro W ⟨j0,j1⟩ hzW hD
   obtain ⟨q1,f1⟩:=j1.facts1
   gi_wp2
   have z1:=((j1.set1 (.bool false)).putObj (D:=W0.heap.size) (.deferred none) (by omega)).facts1.1
   refine marks_end (v:=.bool false) ?_ (by simp [results,Tryz.results148,go_sem,z1]) ⟨rfl,below_put (j0.setCell (p:=⟨_,0,none⟩) (by first | (simp; done) | (simp; omega)) _) _ (Nat.le_refl _) (by omega)⟩
   rw [Below.heap_setCell _ _ _ _ (by simp; omega)]
   exact hD
 case stop=>
   rintro c W h
   exact h.elim

def PlcI (m:Nat) (w:World) (pre:List (Int × Nat)) (W:World):Prop:=
 Below w.heap.size w W∧Blk W (w.heap.size+1) 3 #[.int .i64 m]∧Blk W (w.heap.size+1+1) 3 #[.int .i64 ((pre.countP (fun x=>decide (x.1=((m+x.2:Nat):Int))):Nat):Int)]
theorem plcI_low {m:Nat} {w:World} {B:Nat} (hB:w.heap.size+4≤B) (pre:List (Int × Nat)):Low B (PlcI m w pre):=by
 rintro W W' ⟨h0,h1,h2⟩ hb
 exact ⟨h0.trans (hb.mono (by omega)),h1.below hb (by omega),h2.below hb (by omega)⟩

set_option maxRecDepth 100000 in
set_option maxHeartbeats 2000000 in
theorem occurs_any (t:Tm) (v:Value) (m:Nat) (w:World) (hsz:t.bulk≤400000) (hok:t.ok=true) (hlow:t.low 1000000000=true) (hm:m≤1000000) (hT:IsTm (· < w.heap.size) w t v) :
   Calls Tryz.prog 150 #[v,.int .i64 m] w fun e w'=>e=.returned (.int .i64 (t.occ m:Nat))∧Below w.heap.size w w':=by
 obtain ⟨Bt,d,A,c,rfl,_⟩:=hT.form
 refine (callsIn_wide (n:=3)).1 (callsIn_of_wp_marks Tryz.func150 rfl trivial ?_ rfl)
 simp only [Tryz.ntmps150,List.size_toArray,List.length_cons,List.length_nil,Nat.reduceAdd,Nat.reduceSub,Array.replicate_succ,Array.replicate_zero,List.push_toArray,List.append_toArray,List.nil_append,List.cons_append]
 gi_wp2_with (refine ⟨trivial,?_⟩; gi_at_call 202; refine (callsIn_wide.2 (variables_any _ _ _ _ _ _)).mono ?_; rintro e w' ⟨rfl,rfl⟩)
 obtain ⟨W0,hW0,hb,hz,k1,k2,k3,k4⟩:=alloc4_facts w #[.int .i64 t.kind,.int .i64 t.index,.int .i64 t.type.kind,.slice Bt t.type.args.length d,.slice A t.args.length c] #[.int .i64 m] #[.int .i64 0] #[.int .i64 t.kind,.int .i64 t.index,.int .i64 t.type.kind,.slice Bt t.type.args.length d,.slice A t.args.length c] 42 3 3 42
 rw [← hW0]
 clear hW0
 have hT0:=hT.keep (S':=(· < w.heap.size)) (fun _ h=>h) (fun p hp=>hb.cell hp)
 refine range_wp (by omega) (gf:=237) (lb:=#[.pointer (some ⟨w.heap.size+1+1+1,0,none⟩)]) rfl (enters_of Tryz.func237 (by kernel_rfl) rfl) (n₀:=w.heap.size) (by omega)
   (enc:=EncVar) (xs:=t.vars 0) (fun x args W h=>by rw [show args=_ from h]; rfl)
   (vars_iter _ _ _ t Bt A d c W0 (by omega) hT0 hsz k4)
   (PlcI m w) (fun _ _=>False) (fun pre=>plcI_low (by omega) pre) (fun c W W' h _=>h) ⟨hb,k2,by simpa using k3⟩ ?round ?done ?stop
 case round=>
   rintro pre x args W ⟨j0,j1,j2⟩ hpre hW hx
   have hx':args=#[.int .i64 x.1,.int .i64 x.2]:=hx
   subst hx'
   gi_wp2
   refine ⟨Below.refl _ _,?_⟩
   rintro W₂ hg ⟨i0,i1,i2⟩
   have hmem:x ∈ t.vars 0:=hpre.subset (by simp)
   have hlx:=vars_low t 0 hlow x hmem
   have hnx:=vars_nat t 0 hok x hmem
   have hdx:=(vars_deep t 0 x hmem).2
   have hln:=hpre.length_le
   have hvb:=vars_bulk t 0
   have hcl:=List.countP_le_length (p:=fun x:Int × Nat=>decide (x.1=((m+x.2:Nat):Int))) (l:=pre)
   simp only [List.length_append,List.length_cons,List.length_nil] at hln
   obtain ⟨xi,xd⟩:=x
   simp only at hlx hnx hdx
   have hct:∀ b:Bool,decide (xi=((m+xd:Nat):Int))=b→(pre ++ [(xi,xd)]).countP (fun x=>decide (x.1=((m+x.2:Nat):Int)))=pre.countP (fun x=>decide (x.1=((m+x.2:Nat):Int)))+(if b then 1 else 0):=by
     intro b hb
     rw [List.countP_append,List.countP_cons,List.countP_nil]
     simp only [hb]
     cases b <;> simp
   have HCT:=Lib.hid hct
   generalize hcc:pre.countP (fun x:Int × Nat=>decide (x.1=((m+x.2:Nat):Int)))=cc at *
   have HCC:=Lib.hid hcc
   obtain ⟨q1,_⟩:=i1.facts1
   obtain ⟨q2,f2⟩:=i2.facts1
   clear hg hmem hpre hct hcc
   by_cases he:xi=(m:Int)+(xd:Int)
   · have e1:(xi == (m:Int)+(xd:Int))=true:=by simpa using he
     have HCN:=Lib.hid (HCT.out true (by simp; omega))
     clear he
     gi_wp2
     refine ⟨Kept.of_grownBy (only_setCell (only_refl W₂ (some (w.heap.size+1+1))) (.inl rfl) _) (fun k e=>by cases e; omega),i0.setCell (p:=⟨_,0,none⟩) (by first | (simp; done) | (simp; omega)) _,i1.far (by simp) _,?_⟩
     rw [HCN.out]
     simpa using i2.set1 (.int .i64 ((cc:Int)+1))
   · have e1:(xi == (m:Int)+(xd:Int))=false:=by simpa using he
     have HCN:=Lib.hid (HCT.out false (by simp; omega))
     clear he
     gi_wp2
     refine ⟨Kept.refl _ _ _,i0,i1,?_⟩
     rw [HCN.out]
     simpa using i2
 case done=>
   rintro W ⟨j0,j1,j2⟩ hzW hD
   have hvb:=vars_bulk t 0
   have hcl:=List.countP_le_length (p:=fun x:Int × Nat=>decide (x.1=((m+x.2:Nat):Int))) (l:=t.vars 0)
   have ho:=vars_occ m t 0
   rw [ho] at j2 hcl
   rw [Nat.add_zero] at j2 hcl
   obtain ⟨q2,f2⟩:=j2.facts1
   clear ho
   gi_wp2
   refine marks_end (v:=.int .i64 (t.occ m:Nat)) hD (by simp [results,Tryz.results150,go_sem]) ⟨rfl,below_put j0 _ (Nat.le_refl _) (by omega)⟩
 case stop=>
   rintro c W h
   exact h.elim
end Go.Proofs.YtipfnkajdooiiaaGreatDoor
namespace Go.Proofs.YtipfnkajdooiiaaGreatDoor
open Go.RowKit

/-- A term is returned, without an error; it lies in S or in new blocks. -/
def GivesTm (S:Nat→Prop) (T:Tm) (w:World) (e:Ending) (w':World):Prop:=
 ∃ v',e=.returned (.tuple #[v',.int .i64 0])∧IsTm (fun b=>(S b∨w.heap.size≤b)∧b<w'.heap.size) w' T v'∧Below w.heap.size w w'

theorem within_ok (n:Int) (w:World) (h0:0≤n) (h1:n≤4096):Calls Tryz.prog 147 #[.int .i64 n] w fun e w'=>e=.returned (.bool true)∧w=w':=by
 have h:=within_any n w (by omega) (by omega)
 rw [decide_eq_true ⟨h0,h1⟩] at h
 exact h
theorem checkT_ok {t:Tm} {v:Value} {w:World} (he:t.err=0) (hsz:t.bulk≤400000) (htab:Tab w) (hT:IsTm (· < w.heap.size) w t v) :
   Calls Tryz.prog 146 #[v] w fun e w'=>e=.returned (.int .i64 0)∧Below w.heap.size w w':=by
 have h:=checkT_any t v w hsz htab hT
 rw [he] at h
 exact h
theorem sizeT_ok {T:Tm} {v:Value} {w:World} (he:T.err=0) (hb:T.bulk≤400000) (htab:Tab w) (hT:IsTm (· < w.heap.size) w T v) :
   Calls Tryz.prog 134 #[v] w fun e w'=>e=.returned (.tuple #[.int .i64 (T.size:Int),.int .i64 0])∧Below w.heap.size w w':=by
 refine (sizeT_any T v w hb htab hT).mono ?_
 rintro e w' ⟨rfl,h⟩
 exact ⟨by rw [errT_count he,he],h⟩

/-- The result is stored, and the call ends. -/
theorem gives_end {S:Nat→Prop} {T:Tm} {w W W2:World} {g:Nat} {x0 x1 x2 x3 x4:Value} (hS:∀ b,S b→b<w.heap.size) (hg:w.heap.size≤g) (hb:Below w.heap.size w W) (hgr:W.grownBy W2 (some g))
   {lo:Nat} (hlo:g<lo) (ht:IsTm (fun b=>(S b∨lo≤b)∧b<W.heap.size) W T (.agg #[x0,x1,x2,x3,x4])) :
   GivesTm S T w (.returned (.tuple #[.agg #[x0,x1,x2,x3,x4],.int .i64 0])) W2:=by
 refine ⟨_,rfl,IsTm.keep (fun b h=>⟨h.1.imp id (fun x=>by omega),Nat.lt_of_lt_of_le h.2 hgr.size⟩) (fun p hp=>World.cell?_of_block (hgr.block p.block hp.2 (fun e=>?_))) _ ht,hb.grown hgr hb.size (fun k e=>by cases e; exact hg)⟩
 have e':p.block=g:=by simpa using e
 exact hp.1.elim (fun h=>by have:=hS _ h; omega) (fun h=>by omega)

set_option maxRecDepth 100000 in
set_option maxHeartbeats 2000000 in
theorem liftTop_any (t:Tm) (v:Value) (m n:Nat) (S:Nat→Prop) (w:World) (hb:t.bulk≤390000) (he:t.err=0) (hlow:t.low 536870912=true) (hm:m≤4096) (hn:n≤4096) (htab:Tab w) (hS:∀ b,S b→b<w.heap.size) (hT:IsTm S w t v) :
   Calls Tryz.prog 61 #[v,.int .i64 m,.int .i64 n] w (GivesTm S (t.lift m n) w):=by
 obtain ⟨B,d,A,c,rfl,_⟩:=IsTm.form hT
 have hok:=(errT_zero.1 he).1
 have HOK:=Lib.hid (And.intro hok (And.intro hlow he))
 clear hok hlow he
 go_enter Tryz.func61,Tryz.ntmps61
 go_upto_region 1 with fail
 obtain ⟨b1,z1,k0⟩:=new_blk (Below.refl w.heap.size w) (Nat.le_refl _) #[.int .i64 t.kind,.int .i64 t.index,.int .i64 t.type.kind,.slice B t.type.args.length d,.slice A t.args.length c] 42
 generalize w.alloc (Obj.cells #[.int .i64 t.kind,.int .i64 t.index,.int .i64 t.type.kind,.slice B t.type.args.length d,.slice A t.args.length c] 42)=W1 at b1 z1 k0 ⊢
 obtain ⟨b2,z2,k1⟩:=new_blk b1 b1.size #[.int .i64 0,.int .i64 0,.int .i64 0,.slice none 0 0,.slice none 0 0] 42
 have k0:=k0.alloc (Obj.cells #[.int .i64 0,.int .i64 0,.int .i64 0,.slice none 0 0,.slice none 0 0] 42)
 generalize W1.alloc (Obj.cells #[.int .i64 0,.int .i64 0,.int .i64 0,.slice none 0 0,.slice none 0 0] 42)=W at b2 z2 k0 k1 ⊢
 rw [z1] at k1 z2
 have HB:=Lib.hid (And.intro b2 z2)
 have HK:=Lib.hid (And.intro k0 k1)
 have HS:=Lib.hid hS
 have HT:=Lib.hid (IsTm.keep (fun _ h=>h) (fun r hr=>b2.cell (hS _ hr)) _ hT)
 have HTab:=Lib.hid (htab.after b2)
 obtain ⟨r0,r1,r2,r3,r4,_,_,_,_,_⟩:=k0.facts5
 clear b1 z1 b2 z2 k0 k1 hT hS htab
 go_wp2_with fail
 refine (checkT_ok (t:=t) (w:=W) HOK.out.2.2 (by omega) HTab.out (IsTm.keep (fun b h=>Nat.lt_of_lt_of_le (HS.out b h) HB.out.1.size) (fun _ _=>rfl) _ HT.out)).mono ?_
 rintro e w1 ⟨rfl,hc1⟩
 have k0':=HK.out.1.below hc1 HK.out.1.lt
 obtain ⟨s0,s1,s2,s3,s4,_,_,_,_,_⟩:=k0'.facts5
 have HC1:=Lib.hid hc1
 clear hc1 k0' r0 r1 r2 r3 r4
 go_wp2_with fail
 refine (within_ok m w1 (by omega) (by omega)).mono ?_
 rintro e w1' ⟨rfl,rfl⟩
 go_wp2_with fail
 refine (within_ok n w1 (by omega) (by omega)).mono ?_
 rintro e w1' ⟨rfl,rfl⟩
 go_wp2_with fail
 have T1:=Lib.hid (IsTm.keep (S':=S) (fun _ h=>h) (fun p hp=>HC1.out.cell (Nat.lt_of_lt_of_le (HS.out _ hp) HB.out.1.size)) _ HT.out)
 refine (far_any t _ w1 (by omega) HOK.out.2.1 (IsTm.keep (fun b h=>Nat.lt_of_lt_of_le (HS.out b h) (Nat.le_trans HB.out.1.size HC1.out.size)) (fun _ _=>rfl) _ T1.out)).mono ?_
 rintro e w2 ⟨rfl,hc2⟩
 have HC2:=Lib.hid (show Below W.heap.size W w2 from HC1.out.trans (hc2.mono HC1.out.size))
 have k0':=HK.out.1.below HC2.out HK.out.1.lt
 obtain ⟨r0,r1,r2,r3,r4,_,_,_,_,_⟩:=k0'.facts5
 clear hc2 k0' s0 s1 s2 s3 s4
 go_wp2_with fail
 refine (lift_any t _ m n S w2 (by omega) HOK.out.1 (low_mono (by omega) t HOK.out.2.1) (by omega) (by omega) (fun b h=>Nat.lt_of_lt_of_le (HS.out b h) (Nat.le_trans HB.out.1.size HC2.out.size)) (IsTm.keep (fun _ h=>h) (fun p hp=>HC2.out.cell (Nat.lt_of_lt_of_le (HS.out _ hp) HB.out.1.size)) _ HT.out)).mono ?_
 rintro e w3 ⟨v',rfl,ht,hb'⟩
 obtain ⟨B6,e6,A6,c6,rfl,_⟩:=IsTm.form ht
 have hz:=HB.out.2
 have hzc:=HC2.out.size
 have HC3:=Lib.hid (show Below W.heap.size W w3 from HC2.out.trans (hb'.mono HC2.out.size))
 have k1':=HK.out.2.below HC3.out HK.out.2.lt
 obtain ⟨_,_,_,_,_,f0,f1,f2,f3,f4⟩:=k1'.facts5
 have HE:=Lib.hid (And.intro k1' ht)
 clear k1' ht hb' r0 r1 r2 r3 r4
 go_wp2_with fail
 obtain ⟨y0,y1,y2,y3,y4⟩:=(HE.out.1.set5 (.int .i64 (t.lift m n).kind) (.int .i64 (t.lift m n).index) (.int .i64 (t.lift m n).type.kind) (.slice B6 (t.lift m n).type.args.length e6) (.slice A6 (t.lift m n).args.length c6)).cells5
 have hg:=only_set5 w3 (w.heap.size+1) (.int .i64 (t.lift m n).kind) (.int .i64 (t.lift m n).index) (.int .i64 (t.lift m n).type.kind) (.slice B6 (t.lift m n).type.args.length e6) (.slice A6 (t.lift m n).args.length c6)
 exact bodyPost_ret (v:=.tuple #[.agg #[.int .i64 (t.lift m n).kind,.int .i64 (t.lift m n).index,.int .i64 (t.lift m n).type.kind,.slice B6 (t.lift m n).type.args.length e6,.slice A6 (t.lift m n).args.length c6],.int .i64 0]) (by simp [results,Tryz.results61,go_sem,y0,y1,y2,y3,y4]) rfl
   (gives_end HS.out (by omega) (HB.out.1.trans (HC3.out.mono HB.out.1.size)) hg (lo:=w2.heap.size) (by omega) HE.out.2)

/-- What Put comes to. -/
def PutR (S:Nat→Prop) (T:Tm) (w:World) (e:Ending) (w':World):Prop:=
 if T.size≤4096 then GivesTm S T w e w' else e=.returned (.tuple #[.agg #[.int .i64 0,.int .i64 0,.int .i64 0,.slice none 0 0,.slice none 0 0],.int .i64 4])∧Below w.heap.size w w'

theorem occ_size (t:Tm) (m:Nat):t.occ m≤t.bulk:=by
 have h1:=vars_occ m t 0
 rw [Nat.add_zero] at h1
 have h2:=List.countP_le_length (p:=fun x:Int × Nat=>decide (x.1=((m+x.2:Nat):Int))) (l:=t.vars 0)
 have:=vars_bulk t 0
 omega
theorem put_fits {t s:Tm} {m:Nat} (ht:t.ok=true):((t.size:Int)+(t.occ m:Nat) * ((s.size:Int) - 1))=((t.put m s).size:Int):=by
 have h:=put_size s t m ht
 have h1:((t.put m s).size:Int)+(t.occ m:Nat)=(t.size:Int)+(t.occ m:Nat) * (s.size:Int):=by exact_mod_cast h
 rw [Int.mul_sub,Int.mul_one]
 omega

set_option maxRecDepth 100000 in
set_option maxHeartbeats 4000000 in
theorem putTop_any (t s:Tm) (v u:Value) (m:Nat) (S:Nat→Prop) (w:World) (hb:t.bulk≤390000) (hsb:s.bulk≤390000) (he:t.err=0) (hse:s.err=0) (hlow:t.low 536870912=true) (hslow:s.low 536870912=true) (hm:m≤4096) (htab:Tab w) (hS:∀ b,S b→b<w.heap.size) (hT:IsTm S w t v) (hU:IsTm S w s u) :
   Calls Tryz.prog 65 #[v,.int .i64 m,u] w (PutR S (t.put m s) w):=by
 obtain ⟨B,d,A,c,rfl,_⟩:=IsTm.form hT
 obtain ⟨Bs,ds,As,cs,rfl,_⟩:=IsTm.form hU
 have hok:=errT_zero.1 he
 have hsok:=errT_zero.1 hse
 have hts:=hok.2
 have hss:=hsok.2
 have hs1:=sizeT_pos s
 have hoc:=occ_size t m
 have hq:(t.occ m:Nat) * ((s.size:Int) - 1)≤400000 * 4096:=by
   refine Int.le_trans (Int.mul_le_mul_of_nonneg_right (show ((t.occ m:Nat):Int)≤400000 by omega) (by omega)) ?_
   omega
 have hq0:0≤((t.occ m:Nat):Int) * ((s.size:Int) - 1):=Int.mul_nonneg (by omega) (by omega)
 have HFIT:=Lib.hid (put_fits (t:=t) (s:=s) (m:=m) hok.1)
 have HOK:=Lib.hid (And.intro hok.1 (And.intro hlow he))
 have HSOK:=Lib.hid (And.intro hsok.1 (And.intro hslow hse))
 clear hok hlow he hsok hslow hse
 go_enter Tryz.func65,Tryz.ntmps65
 go_upto_region 1 with fail
 obtain ⟨W,hW,b3,z3,k0,k1,k2⟩:=alloc3_facts w #[.int .i64 t.kind,.int .i64 t.index,.int .i64 t.type.kind,.slice B t.type.args.length d,.slice A t.args.length c] #[.int .i64 s.kind,.int .i64 s.index,.int .i64 s.type.kind,.slice Bs s.type.args.length ds,.slice As s.args.length cs] #[.int .i64 0,.int .i64 0,.int .i64 0,.slice none 0 0,.slice none 0 0] 42 42 42
 rw [← hW]
 have HB:=Lib.hid (And.intro b3 z3)
 have HK:=Lib.hid (And.intro k0 (And.intro k1 k2))
 have HS:=Lib.hid hS
 have HT:=Lib.hid (IsTm.keep (S':=S) (fun _ h=>h) (fun r hr=>b3.cell (hS _ hr)) _ hT)
 have HU:=Lib.hid (IsTm.keep (S':=S) (fun _ h=>h) (fun r hr=>b3.cell (hS _ hr)) _ hU)
 have HTab:=Lib.hid (htab.after b3)
 obtain ⟨r0,r1,r2,r3,r4,_,_,_,_,_⟩:=k0.facts5
 clear b3 z3 k0 k1 k2 hT hU hS htab hW
 -- what a later world holds
 have TT:=Lib.hid fun (w':World) (h:Below W.heap.size W w')=>And.intro (IsTm.keep (S':=fun b=>b<w'.heap.size) (fun b x=>Nat.lt_of_lt_of_le (HS.out b x) (Nat.le_trans HB.out.1.size h.size)) (fun p hp=>h.cell (Nat.lt_of_lt_of_le (HS.out _ hp) HB.out.1.size)) _ HT.out)
   (IsTm.keep (S':=fun b=>b<w'.heap.size) (fun b x=>Nat.lt_of_lt_of_le (HS.out b x) (Nat.le_trans HB.out.1.size h.size)) (fun p hp=>h.cell (Nat.lt_of_lt_of_le (HS.out _ hp) HB.out.1.size)) _ HU.out)
 go_wp2_with fail
 refine (sizeT_ok (T:=t) (w:=W) HOK.out.2.2 (by omega) HTab.out (TT.out _ (Below.refl _ _)).1).mono ?_
 rintro e w1 ⟨rfl,hc1⟩
 have HC1:=Lib.hid hc1
 obtain ⟨s0,s1,s2,s3,s4,_,_,_,_,_⟩:=(HK.out.2.1.below hc1 HK.out.2.1.lt).facts5
 clear hc1 r0 r1 r2 r3 r4
 go_wp2_with fail
 refine (within_ok m w1 (by omega) (by omega)).mono ?_
 rintro e w1' ⟨rfl,rfl⟩
 go_wp2_with fail
 refine (sizeT_ok (T:=s) (w:=w1) HSOK.out.2.2 (by omega) (HTab.out.after HC1.out) (TT.out _ HC1.out).2).mono ?_
 rintro e w2 ⟨rfl,hc2⟩
 have HC2:=Lib.hid (show Below W.heap.size W w2 from HC1.out.trans (hc2.mono HC1.out.size))
 obtain ⟨r0,r1,r2,r3,r4,_,_,_,_,_⟩:=(HK.out.1.below HC2.out HK.out.1.lt).facts5
 clear hc2 s0 s1 s2 s3 s4
 go_wp2_with fail
 refine (far_any t _ w2 (by omega) HOK.out.2.1 (TT.out _ HC2.out).1).mono ?_
 rintro e w3 ⟨rfl,hc3⟩
 have HC3:=Lib.hid (show Below W.heap.size W w3 from HC2.out.trans (hc3.mono HC2.out.size))
 obtain ⟨s0,s1,s2,s3,s4,_,_,_,_,_⟩:=(HK.out.2.1.below HC3.out HK.out.2.1.lt).facts5
 clear hc3 r0 r1 r2 r3 r4
 go_wp2_with fail
 refine (far_any s _ w3 (by omega) HSOK.out.2.1 (TT.out _ HC3.out).2).mono ?_
 rintro e w4 ⟨rfl,hc4⟩
 have HC4:=Lib.hid (show Below W.heap.size W w4 from HC3.out.trans (hc4.mono HC3.out.size))
 obtain ⟨r0,r1,r2,r3,r4,_,_,_,_,_⟩:=(HK.out.1.below HC4.out HK.out.1.lt).facts5
 clear hc4 s0 s1 s2 s3 s4
 go_wp2_with fail
 refine (occurs_any t _ m w4 (by omega) HOK.out.1 (low_mono (by omega) t HOK.out.2.1) (by omega) (TT.out _ HC4.out).1).mono ?_
 rintro e w5 ⟨rfl,hc5⟩
 have HC5:=Lib.hid (show Below W.heap.size W w5 from HC4.out.trans (hc5.mono HC4.out.size))
 obtain ⟨q0,q1,q2,q3,q4,_,_,_,_,_⟩:=(HK.out.1.below HC5.out HK.out.1.lt).facts5
 obtain ⟨s0,s1,s2,s3,s4,_,_,_,_,_⟩:=(HK.out.2.1.below HC5.out HK.out.2.1.lt).facts5
 obtain ⟨_,_,_,_,_,f0,f1,f2,f3,f4⟩:=(HK.out.2.2.below HC5.out HK.out.2.2.lt).facts5
 have HZ:=Lib.hid (And.intro HB.out.2 HC5.out.size)
 clear hc5 r0 r1 r2 r3 r4
 by_cases hle:(t.put m s).size≤4096
 · have e1:decide ((t.size:Int)+((t.occ m:Nat):Int) * ((s.size:Int) - 1) > 4096)=false:=decide_eq_false (by have:=HFIT.out; omega)
   have e2:decide (4096<(t.size:Int)+((t.occ m:Nat):Int) * ((s.size:Int) - 1))=false:=decide_eq_false (by have:=HFIT.out; omega)
   have HLE:=Lib.hid hle
   clear hle f0 f1 f2 f3 f4
   go_wp2_with fail
   refine (put_any t s _ _ m S w5 (by omega) HOK.out.1 (low_mono (by omega) t HOK.out.2.1) (by omega) HSOK.out.1 (low_mono (by omega) s HSOK.out.2.1) (by omega) (fun b h=>Nat.lt_of_lt_of_le (HS.out b h) (Nat.le_trans HB.out.1.size HC5.out.size)) (IsTm.keep (fun _ h=>h) (fun p hp=>HC5.out.cell (Nat.lt_of_lt_of_le (HS.out _ hp) HB.out.1.size)) _ HT.out) (IsTm.keep (fun _ h=>h) (fun p hp=>HC5.out.cell (Nat.lt_of_lt_of_le (HS.out _ hp) HB.out.1.size)) _ HU.out)).mono ?_
   rintro e w6 ⟨v',rfl,ht,hb'⟩
   obtain ⟨B6,e6,A6,c6,rfl,_⟩:=IsTm.form ht
   have HC6:=Lib.hid (show Below W.heap.size W w6 from HC5.out.trans (hb'.mono HC5.out.size))
   have k1':=HK.out.2.2.below HC6.out HK.out.2.2.lt
   obtain ⟨_,_,_,_,_,f0,f1,f2,f3,f4⟩:=k1'.facts5
   have HE:=Lib.hid (And.intro k1' ht)
   clear k1' ht hb' q0 q1 q2 q3 q4 s0 s1 s2 s3 s4
   go_wp2_with fail
   obtain ⟨y0,y1,y2,y3,y4⟩:=(HE.out.1.set5 (.int .i64 (t.put m s).kind) (.int .i64 (t.put m s).index) (.int .i64 (t.put m s).type.kind) (.slice B6 (t.put m s).type.args.length e6) (.slice A6 (t.put m s).args.length c6)).cells5
   have hg:=only_set5 w6 (w.heap.size+1+1) (.int .i64 (t.put m s).kind) (.int .i64 (t.put m s).index) (.int .i64 (t.put m s).type.kind) (.slice B6 (t.put m s).type.args.length e6) (.slice A6 (t.put m s).args.length c6)
   have hz:=HZ.out
   refine bodyPost_ret (v:=.tuple #[.agg #[.int .i64 (t.put m s).kind,.int .i64 (t.put m s).index,.int .i64 (t.put m s).type.kind,.slice B6 (t.put m s).type.args.length e6,.slice A6 (t.put m s).args.length c6],.int .i64 0]) (by simp [results,Tryz.results65,go_sem,y0,y1,y2,y3,y4]) rfl ?_
   unfold PutR
   rw [if_pos HLE.out]
   exact gives_end HS.out (by omega) (HB.out.1.trans (HC6.out.mono HB.out.1.size)) hg (lo:=w5.heap.size) (by omega) HE.out.2
 · have e1:decide ((t.size:Int)+((t.occ m:Nat):Int) * ((s.size:Int) - 1) > 4096)=true:=decide_eq_true (by have:=HFIT.out; omega)
   have e2:decide (4096<(t.size:Int)+((t.occ m:Nat):Int) * ((s.size:Int) - 1))=true:=decide_eq_true (by have:=HFIT.out; omega)
   have HLE:=Lib.hid hle
   have HE:=Lib.hid (HK.out.2.2.below HC5.out HK.out.2.2.lt)
   clear hle
   go_wp2_with fail
   obtain ⟨y0,y1,y2,y3,y4⟩:=(HE.out.set5 (.int .i64 0) (.int .i64 0) (.int .i64 0) (.slice none 0 0) (.slice none 0 0)).cells5
   have hg:=only_set5 w5 (w.heap.size+1+1) (.int .i64 0) (.int .i64 0) (.int .i64 0) (.slice none 0 0) (.slice none 0 0)
   have hz:=HZ.out
   refine bodyPost_ret (v:=.tuple #[.agg #[.int .i64 0,.int .i64 0,.int .i64 0,.slice none 0 0,.slice none 0 0],.int .i64 4]) (by simp [results,Tryz.results65,go_sem,y0,y1,y2,y3,y4]) rfl ?_
   unfold PutR
   rw [if_neg HLE.out]
   have hbw:Below w.heap.size w w5:=HB.out.1.trans (HC5.out.mono HB.out.1.size)
   exact ⟨rfl,hbw.grown hg hbw.size (fun k e=>by cases e; omega)⟩
end Go.Proofs.YtipfnkajdooiiaaGreatDoor
