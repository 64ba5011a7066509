/- formula.asTerm: a formula as a term; of an equation; slices of terms that were just made. -/
import Derived.Test.YtipfnkajdooiiaaGreatDoorQPackReg2
import Derived.Test.YtipfnkajdooiiaaGreatDoorQPackFml
import Derived.Test.YtipfnkajdooiiaaGreatDoorQPackSubst
import Derived.Test.YtipfnkajdooiiaaGreatDoorQTerm
namespace Go.Proofs.YtipfnkajdooiiaaGreatDoor
open Go.RowKit

mutual
def Fm.asTm:Fm→Tm
 | .mk k T ts l=>if k=1 then .mk 10 0 .zero ts else if k=2∨k=3 then .mk 10 0 .zero (asTmAll l) else .mk 2 0 T (asTmAll l)
def asTmAll:List Fm→List Tm
 | []=>[]
 | f :: r=>f.asTm :: asTmAll r
end
theorem asTmAll_len:∀ l:List Fm,(asTmAll l).length=l.length
 | []=>rfl
 | f :: r=>by simp [asTmAll,asTmAll_len r]
/-- What is said of formula.asTerm. -/
def AsTm (f:Fm):Prop:=∀ (S:Nat→Prop) (v:Value) (w:World),(∀ b,S b→b<w.heap.size)→IsFm S w f v →
 Calls Tryz.prog 142 #[v] w fun e w'=>∃ v',e=.returned v'∧IsTm (fun b=>(S b∨w.heap.size≤b)∧b<w'.heap.size) w' f.asTm v'∧Below w.heap.size w w'
set_option maxRecDepth 100000 in
set_option maxHeartbeats 4000000 in
theorem asTm_eq (s t:Tm):AsTm (.mk 1 .zero [s,t] []):=by
 intro S v w hS hF
 obtain ⟨B,d,C,e0,A,c,rfl,hT,hm,_⟩:=hF.parts
 simp only [Fm.kind,Fm.type,Fm.terms,Fm.args,List.length_cons,List.length_nil,Nat.zero_add,Nat.reduceAdd] at hm ⊢
 obtain ⟨W,hW,b3,z3,k0,k1,k2⟩:=three_blks w #[.int .i64 1,.int .i64 Ty.zero.kind,.slice B Ty.zero.args.length d,.slice C 2 e0,.slice A 0 c] #[.int .i64 0,.int .i64 0,.int .i64 0,.slice none 0 0,.slice none 0 0] #[.int .i64 10,.int .i64 0,.int .i64 0,.slice none 0 0,.slice C 2 e0] 34 42 42
 have HM:=Lib.hid hm
 have HB:=Lib.hid (And.intro b3 z3)
 have HS:=Lib.hid hS
 have HK:=Lib.hid (And.intro k1 k2)
 obtain ⟨p0,p1,p2,p3,p4,_⟩:=k0.facts5
 obtain ⟨q0,q1,q2,q3,q4,_⟩:=k2.facts5
 obtain ⟨_,_,_,_,_,f0,f1,f2,f3,f4⟩:=k1.facts5
 clear hF hT hm b3 z3 k0 k1 k2 hS
 go_enter Tryz.func142,Tryz.ntmps142
 go_upto_region 2 with fail
 rw [← hW]
 clear hW
 go_wp2_with fail
 obtain ⟨z0,z1,z2,z3,z4⟩:=(HK.out.1.set5 (.int .i64 10) (.int .i64 0) (.int .i64 0) (.slice none 0 0) (.slice C 2 e0)).cells5
 have hg:=only_set5 W (w.heap.size+1) (.int .i64 10) (.int .i64 0) (.int .i64 0) (.slice none 0 0) (.slice C 2 e0)
 refine bodyPost_ret (v:=.agg #[.int .i64 10,.int .i64 0,.int .i64 0,.slice none 0 0,.slice C 2 e0]) (by simp [results,Tryz.results142,go_sem,z0,z1,z2,z3,z4]) rfl ⟨_,rfl,?_,HB.out.1.grown hg HB.out.1.size (fun g e=>by cases e; omega)⟩
 have hz:=HB.out.2
 rw [show (Fm.mk 1 .zero [s,t] []).asTm=.mk 10 0 .zero [s,t] from by simp only [Fm.asTm,if_true]]
 exact isTm_iff.2 ⟨rfl,rfl,IsTy.leaf _ _ _,HM.out.keep (fun b h=>⟨.inl h,by have:=HS.out b h; have:=hg.size; omega⟩) (fun q hq=>(World.cell?_of_block (hg.block q.block (by have:=HS.out _ hq; omega) (by have:=HS.out _ hq; simp; omega))).trans (HB.out.1.cell (HS.out _ hq)))⟩
theorem mk_terms1 (w:World):(Instr.makeSlice 31 (.int .i64 1) (.int .i64 1)).run Tryz.prog w=.ok (.slice (some ⟨w.heap.size,0,none⟩) 1 1) (w.alloc (.cells #[.int .i64 0,.int .i64 0,.int .i64 0,.slice none 0 0,.slice none 0 0] 42)):=by kernel_rfl
theorem mk_terms2 (w:World):(Instr.makeSlice 31 (.int .i64 2) (.int .i64 2)).run Tryz.prog w=.ok (.slice (some ⟨w.heap.size,0,none⟩) 2 2) (w.alloc (.cells #[.int .i64 0,.int .i64 0,.int .i64 0,.slice none 0 0,.slice none 0 0,.int .i64 0,.int .i64 0,.int .i64 0,.slice none 0 0,.slice none 0 0] 42)):=by kernel_rfl
theorem zeroTm_is (S:Nat→Prop) (w:World):IsTm S w (.mk 0 0 .zero []) (.agg #[.int .i64 0,.int .i64 0,.int .i64 0,.slice none 0 0,.slice none 0 0]):=isTm_iff.2 ⟨rfl,rfl,IsTy.leaf _ _ _,Rep.Sl.nil _ _⟩
theorem own_zero1 (S:Nat→Prop) (w:World) (base:Nat) (hb:base≤w.heap.size):TmR.Own S base (.slice (some ⟨w.heap.size,0,none⟩) 1 1) [.mk 0 0 .zero []] (w.alloc (.cells #[.int .i64 0,.int .i64 0,.int .i64 0,.slice none 0 0,.slice none 0 0] 42)):=
 ⟨_,⟨rfl,.inr ⟨w.heap.size,1,#[.int .i64 0,.int .i64 0,.int .i64 0,.slice none 0 0,.slice none 0 0],rfl,hb,(Blk.new w 42 #[.int .i64 0,.int .i64 0,.int .i64 0,.slice none 0 0,.slice none 0 0]),by decide,by decide,rfl,rfl⟩⟩,tm_ch1 (zeroTm_is _ _)⟩
theorem own_zero2 (S:Nat→Prop) (w:World) (base:Nat) (hb:base≤w.heap.size):TmR.Own S base (.slice (some ⟨w.heap.size,0,none⟩) 2 2) [.mk 0 0 .zero [],.mk 0 0 .zero []] (w.alloc (.cells #[.int .i64 0,.int .i64 0,.int .i64 0,.slice none 0 0,.slice none 0 0,.int .i64 0,.int .i64 0,.int .i64 0,.slice none 0 0,.slice none 0 0] 42)):=
 ⟨_,⟨rfl,.inr ⟨w.heap.size,2,#[.int .i64 0,.int .i64 0,.int .i64 0,.slice none 0 0,.slice none 0 0,.int .i64 0,.int .i64 0,.int .i64 0,.slice none 0 0,.slice none 0 0],rfl,hb,(Blk.new w 42 #[.int .i64 0,.int .i64 0,.int .i64 0,.slice none 0 0,.slice none 0 0,.int .i64 0,.int .i64 0,.int .i64 0,.slice none 0 0,.slice none 0 0]),by decide,by decide,rfl,rfl⟩⟩,tm_ch2 (zeroTm_is _ _) (zeroTm_is _ _)⟩
end Go.Proofs.YtipfnkajdooiiaaGreatDoor
namespace Go.Proofs.YtipfnkajdooiiaaGreatDoor
open Go.RowKit

theorem child_t {S:Nat→Prop} {w:World} {l:List Tm} {A:Option Addr} {n c:Nat} (h:TmR.Sl S w l (.slice A n c)) (j:Nat) (hj:j<l.length):∃ a B d A' c',A=some a∧S a.block ∧
   w.cell? (a.add (j * 5))=some (.int .i64 l[j].kind)∧w.cell? ⟨(a.add (j * 5)).block,(a.add (j * 5)).off+1,none⟩ = some (.int .i64 l[j].index) ∧
   w.cell? ⟨(a.add (j * 5)).block,(a.add (j * 5)).off+2,none⟩ = some (.int .i64 l[j].type.kind)∧w.cell? ⟨(a.add (j * 5)).block,(a.add (j * 5)).off+3,none⟩ = some (.slice B l[j].type.args.length d) ∧
   w.cell? ⟨(a.add (j * 5)).block,(a.add (j * 5)).off+4,none⟩ = some (.slice A' l[j].args.length c') ∧
   IsTm S w l[j] (.agg #[.int .i64 l[j].kind,.int .i64 l[j].index,.int .i64 l[j].type.kind,.slice B l[j].type.args.length d,.slice A' l[j].args.length c']):=by
 obtain ⟨a,rfl,ha,hat⟩:=h.get j hj
 obtain ⟨B1,d1,A1,c1,q0,q1,q2,q3,q4,hx⟩:=at_tm hat
 exact ⟨a,B1,d1,A1,c1,rfl,ha,q0,q1,q2,q3,q4,hx⟩
end Go.Proofs.YtipfnkajdooiiaaGreatDoor
namespace Go.Proofs.YtipfnkajdooiiaaGreatDoor
open Go.RowKit

theorem child_f {S:Nat→Prop} {w:World} {l:List Fm} {A:Option Addr} {n c:Nat} (h:FmR.Sl S w l (.slice A n c)) (j:Nat) (hj:j<l.length):∃ a B d P p A' c',A=some a∧S a.block ∧
   w.cell? (a.add (j * 5))=some (.int .i64 l[j].kind)∧w.cell? ⟨(a.add (j * 5)).block,(a.add (j * 5)).off+1,none⟩ = some (.int .i64 l[j].type.kind) ∧
   w.cell? ⟨(a.add (j * 5)).block,(a.add (j * 5)).off+2,none⟩ = some (.slice B l[j].type.args.length d)∧w.cell? ⟨(a.add (j * 5)).block,(a.add (j * 5)).off+3,none⟩ = some (.slice P l[j].terms.length p) ∧
   w.cell? ⟨(a.add (j * 5)).block,(a.add (j * 5)).off+4,none⟩ = some (.slice A' l[j].args.length c') ∧
   IsFm S w l[j] (.agg #[.int .i64 l[j].kind,.int .i64 l[j].type.kind,.slice B l[j].type.args.length d,.slice P l[j].terms.length p,.slice A' l[j].args.length c']):=by
 obtain ⟨a,rfl,ha,hat⟩:=h.get j hj
 obtain ⟨B1,d1,P1,p1,A1,c1,q0,q1,q2,q3,q4,hx⟩:=at_fm hat
 exact ⟨a,B1,d1,P1,p1,A1,c1,rfl,ha,q0,q1,q2,q3,q4,hx⟩
end Go.Proofs.YtipfnkajdooiiaaGreatDoor
namespace Go.Proofs.YtipfnkajdooiiaaGreatDoor
open Go.RowKit

section
variable {ops : Array Oper} {o : Oper} {a : Act} {w : World}
theorem run_fieldT3 {x:Operand} (ho:o.op=.fieldAddr 42 x 3) {q:Nat} (hx:a.eval x=.pointer (some ⟨q,0,none⟩)):(execOp a.eval o).run Tryz.prog w=.ok (.value (.pointer (some ⟨q,4,none⟩))) w:=by
 simp only [execOp,ho,hx]
 go_simp
theorem run_loadTs {x:Operand} (ho:o.op=.load 31 x) {q:Addr} {v:Value} (hx:a.eval x=.pointer (some q)) (c0:w.cell? q=some v):(execOp a.eval o).run Tryz.prog w=.ok (.value v) w:=by
 simp only [execOp,ho,hx]
 go_simp
theorem run_indexTm {x y:Operand} (ho:o.op=.indexAddr 31 x y) {g n c k:Nat} (hx:a.eval x=.slice (some ⟨g,0,none⟩) n c) (hy:a.eval y=.int .i64 (k:Int)) (hk:k<n):(execOp a.eval o).run Tryz.prog w=.ok (.value (.pointer (some ⟨g,k * 5,none⟩))) w:=by
 have h0:(k:Int)<(n:Int):=by omega
 simp only [execOp,ho,hx,hy]
 go_simp
theorem run_store5At {x y:Operand} (ho:o.op=.store 42 x y) {q p:Nat} {u0 u1 u2 u3 u4 x0 x1 x2 x3 x4:Value} (hx:a.eval x=.pointer (some ⟨q,p,none⟩)) (hy:a.eval y=.agg #[x0,x1,x2,x3,x4]) (h1:x0.oneCell' = true) (h2:x1.oneCell' = true) (h3:x2.oneCell' = true) (h4:x3.oneCell' = true) (h5:x4.oneCell' = true)
   (c0:w.cell? ⟨q,p,none⟩ = some u0) (c1:w.cell? ⟨q,p+1,none⟩ = some u1) (c2:w.cell? ⟨q,p+2,none⟩ = some u2) (c3:w.cell? ⟨q,p+3,none⟩ = some u3) (c4:w.cell? ⟨q,p+4,none⟩ = some u4)
   (f0:w.frozen? ⟨q,p,none⟩ = false) (f1:w.frozen? ⟨q,p+1,none⟩ = false) (f2:w.frozen? ⟨q,p+2,none⟩ = false) (f3:w.frozen? ⟨q,p+3,none⟩ = false) (f4:w.frozen? ⟨q,p+4,none⟩ = false) :
   (execOp a.eval o).run Tryz.prog w=.ok .skip (((((w.setCell ⟨q,p,none⟩ x0).setCell ⟨q,p+1,none⟩ x1).setCell ⟨q,p+2,none⟩ x2).setCell ⟨q,p+3,none⟩ x3).setCell ⟨q,p+4,none⟩ x4):=by
 have s0:=fun p m w=>run_store Tryz.prog w p x0 m h1
 have s1:=fun p m w=>run_store Tryz.prog w p x1 m h2
 have s2:=fun p m w=>run_store Tryz.prog w p x2 m h3
 have s3:=fun p m w=>run_store Tryz.prog w p x3 m h4
 have s4:=fun p m w=>run_store Tryz.prog w p x4 m h5
 simp only [execOp,ho,hx,hy]
 go_simp
end
theorem asTmAll_get:∀ (l:List Fm) (j:Nat) (h:j<l.length) (h':j<(asTmAll l).length),(asTmAll l)[j]=l[j].asTm
 | [],j,h,_=>by simp at h
 | f :: r,0,_,_=>rfl
 | f :: r,j+1,h,h'=>asTmAll_get r j (by simpa using h) (by simpa [asTmAll] using h')
theorem asTm_set (l:List Fm) (j:Nat) (h:j<l.length):((asTmAll l).take j ++ List.replicate (l.length - j) (.mk 0 0 .zero []:Tm)).set j (l[j]'h).asTm=(asTmAll l).take (j+1) ++ List.replicate (l.length - (j+1)) (.mk 0 0 .zero []:Tm):=by
 have h':j<(asTmAll l).length:=by rw [asTmAll_len]; exact h
 have h1:((asTmAll l).take j).length=j:=by rw [List.length_take]; omega
 rw [List.set_append_right _ _ (by omega),h1,Nat.sub_self,List.take_succ_eq_append_getElem h',asTmAll_get l j h h',show l.length - j=(l.length - (j+1))+1 from by omega,List.replicate_succ,List.set_cons_zero]
 simp
theorem set3_facts {w:World} {p:Nat} {t:TypeId} {c0 c1 c2 c3 c4:Value} (k:Blk w p t #[c0,c1,c2,c3,c4]) (x0 x2 x3:Value) :
   ∃ W,W=(((w.setCell ⟨p,0,none⟩ x0).setCell ⟨p,2,none⟩ x2).setCell ⟨p,3,none⟩ x3).drew∧w.grownBy W (some p)∧W.heap.size=w.heap.size∧Blk W p t #[x0,c1,x2,x3,c4]:=by
 obtain ⟨W1,h1,h2,h3,h4⟩:∃ W,W=((w.setCell ⟨p,0,none⟩ x0).setCell ⟨p,2,none⟩ x2).setCell ⟨p,3,none⟩ x3∧w.grownBy W (some p)∧W.heap.size=w.heap.size∧Blk W p t #[x0,c1,x2,x3,c4]:=
   ⟨_,rfl,only_trans (only_setCell (p:=⟨p,0,none⟩) (only_refl w (some p)) (.inl rfl) x0) (only_set23 _ p x2 x3),by simp,by simpa using ((k.set_ 0 x0).set_ 2 x2).set_ 3 x3⟩
 rw [← h1]
 exact ⟨W1.drew,rfl,⟨h2.os,h2.tape,h2.output,h2.size,h2.block⟩,h3,h4.drew⟩
def asA (i j:Nat):Bool:=([0,1,0,0,8,31,63].getD i 0).testBit j
def asF (S:Nat→Prop) (base p:Nat) (SV XV:Value) (j:Nat) (U:Tm) (i:Nat) (V:Nat→Value) (_:Nat→Unit):RFact:=
 match i with
 | 0=>.pure (V 0=.pointer (some ⟨p,4,none⟩))
 | 1=>.pure (V 1=SV)
 | 2=>.pure (V 2=.int .i64 (j:Int))
 | 3=>.pure (V 3=XV)
 | 4=>.pub (fun S1 w=>IsTm (fun b=>S1 b∧(S b∨base≤b)) w U (V 4)∧True) fun hS hc h=>⟨IsTm.keep (fun b hb=>⟨hS b hb.1,hb.2⟩) (fun q hq=>hc q hq.1) _ h.1,h.2⟩
 | _=>.pure True
set_option maxRecDepth 100000 in
set_option maxHeartbeats 8000000 in
theorem asTm_two (k:Int) (fa fb:Fm) (hk:k=2∨k=3) (ha:AsTm fa) (hb:AsTm fb):AsTm (.mk k .zero [] [fa,fb]):=by
 intro S v w hS hF
 obtain ⟨B,d,C,e0,A,c,rfl,hT,_,hl⟩:=hF.parts
 simp only [Fm.kind,Fm.type,Fm.terms,Fm.args,List.length_cons,List.length_nil,Nat.zero_add,Nat.reduceAdd] at hl hT ⊢
 obtain ⟨W,hW,b3,z3,k0,k1,k2⟩:=three_blks w #[.int .i64 k,.int .i64 Ty.zero.kind,.slice B Ty.zero.args.length d,.slice C 0 e0,.slice A 2 c] #[.int .i64 0,.int .i64 0,.int .i64 0,.slice none 0 0,.slice none 0 0] #[.int .i64 10,.int .i64 0,.int .i64 0,.slice none 0 0,.slice C 0 e0] 34 42 42
 have HL:=Lib.hid hl
 have HTT:=Lib.hid hT
 have HB:=Lib.hid (And.intro b3 z3)
 have HS:=Lib.hid hS
 have HK:=Lib.hid (And.intro k0 (And.intro k1 k2))
 have IH:=Lib.hid (show ∀ x ∈ [fa,fb],AsTm x from fun x hx=>by rcases List.mem_cons.1 hx with rfl | hx; exact ha; rw [List.mem_singleton.1 hx]; exact hb)
 obtain ⟨p0,p1,p2,p3,p4,_⟩:=k0.facts5
 obtain ⟨q0,q1,q2,q3,q4,f0,f1,f2,f3,f4⟩:=k2.facts5
 have hmk:=mk_terms2 W
 clear hF hT hl b3 z3 k0 k1 k2 hS
 obtain ⟨WS,hWS⟩:∃ WS,WS=W.setCell ⟨w.heap.size+1+1,4,none⟩ (.slice (some ⟨W.heap.size,0,none⟩) 2 2):=⟨_,rfl⟩
 have hws:WS.heap.size=W.heap.size:=by rw [hWS]; simp
 have hgw:W.grownBy WS (some (w.heap.size+1+1)):=by rw [hWS]; exact only_setCell (only_refl _ _) (.inl rfl) _
 obtain ⟨W9,hW9⟩:∃ W9,W9=WS.alloc (.cells #[.int .i64 0,.int .i64 0,.int .i64 0,.slice none 0 0,.slice none 0 0,.int .i64 0,.int .i64 0,.int .i64 0,.slice none 0 0,.slice none 0 0] 42):=⟨_,rfl⟩
 have hz3:=HB.out.2
 have hgo:W9.heap.size=W.heap.size+1:=by rw [hW9]; simp [hws]
 have K0:=Lib.hid (show Blk W9 w.heap.size _ _ from by rw [hW9]; exact (HK.out.1.grown hgw (by simp; omega)).alloc _)
 have K1:=Lib.hid (show Blk W9 (w.heap.size+1) _ _ from by rw [hW9]; exact (HK.out.2.1.grown hgw (by simp)).alloc _)
 have K3:=Lib.hid (show Blk W9 (w.heap.size+1+1) 42 #[.int .i64 10,.int .i64 0,.int .i64 0,.slice none 0 0,.slice (some ⟨W.heap.size,0,none⟩) 2 2] from by rw [hW9,hWS]; simpa using (HK.out.2.2.set_ 4 (.slice (some ⟨W.heap.size,0,none⟩) 2 2)).alloc _)
 have HWZ:=Lib.hid (show W.heap.size=w.heap.size+3∧W9.heap.size=W.heap.size+1 from ⟨hz3,hgo⟩)
 have HOLD:=Lib.hid (show ∀ q:Addr,q.block<w.heap.size→W9.cell? q=w.cell? q from fun q hq=>by rw [hW9]; exact (World.cell?_alloc_lt _ _ _ (by rw [hws]; omega)).trans ((World.cell?_of_block (hgw.block q.block (by omega) (by simp; omega))).trans (HB.out.1.cell hq)))
 have HBW:=Lib.hid (show Below w.heap.size w W9 from by rw [hW9]; exact (HB.out.1.grown hgw HB.out.1.size (fun g e=>by cases e; omega)).alloc (by rw [hws]; exact HB.out.1.size) _)
 have HOZ:=Lib.hid (show TmR.Own (fun b=>S b∨W9.heap.size≤b) W.heap.size (.slice (some ⟨W.heap.size,0,none⟩) 2 2) [.mk 0 0 .zero [],.mk 0 0 .zero []] W9 from by
   have h:=own_zero2 (fun b=>S b∨W9.heap.size≤b) WS W.heap.size (by omega)
   rw [hws,← hW9] at h
   exact h)
 have HTY:=Lib.hid (show IsTy S w Ty.zero (.agg #[.int .i64 0,.slice none 0 0]) from IsTy.leaf _ _ _)
 have HW9:=Lib.hid hW9
 have HWS:=Lib.hid hWS
 clear hW9 hgw hz3 hgo hws hWS
 have hk12:∀ k',k' = 2∨k' = 3→(Fm.mk k' .zero [] [fa,fb]).asTm=.mk 10 0 .zero (asTmAll [fa,fb]):=fun k' h=>by rw [Fm.asTm,if_neg (by omega),if_pos h]
 rcases hk with rfl | rfl
 all_goals
   have hz3:=HB.out.2
   go_enter Tryz.func142,Tryz.ntmps142
   go_upto_region 2 with fail
   rw [← hW]
   clear hW
   go_upto_region 11 with fail
   rw [← hz3,← HWS.out,← HW9.out]
   obtain ⟨p0,p1,p2,p3,p4,_⟩:=K0.out.facts5
   clear q0 q1 q2 q3 q4 f0 f1 f2 f3 f4 hmk HW9 HWS K0 hz3
   generalize W9=W1 at K1 K3 HWZ HOLD HBW HOZ p0 p1 p2 p3 p4 ⊢
   go_wp2_with fail
   go_loopw [31] (fun ix wr=>∃ j:Nat,j≤2∧ix=.int .i64 j∧TmR.Own (fun b=>S b∨W1.heap.size≤b) W.heap.size (.slice (some ⟨W.heap.size,0,none⟩) 2 2) ((asTmAll [fa,fb]).take j ++ List.replicate (2 - j) (.mk 0 0 .zero [])) wr∧Turn (· = W.heap.size) W1 wr) (fun ix _=>2 - (intOf ix).toNat)
   case atStart=>exact ⟨0,by omega,rfl,HOZ.out,Turn.refl _ _⟩
   case round=>
     obtain ⟨j,hj,rfl,hown,ht⟩:=hrel
     by_cases hlt:j<2
     · obtain ⟨X,hX⟩:∃ X,X=[fa,fb][j]'hlt:=⟨_,rfl⟩
       have hlr:FmR.Sl S wr [fa,fb] (.slice A 2 c):=HL.out.keep (fun _ h=>h) (fun q hq=>(World.cell?_of_block (ht.block q.block (by have:=HS.out _ hq; have:=HWZ.out; omega) (by have:=HS.out _ hq; have:=HWZ.out; omega))).trans (HOLD.out q (HS.out _ hq)))
       obtain ⟨aq,B5,d5,C5,e5,A5,c5,eaq,hSa,q0,q1,q2,q3,q4,hx⟩:=child_f hlr j hlt
       subst eaq
       rw [← hX] at q0 q1 q2 q3 q4 hx
       have HIH:=Lib.hid (show AsTm X by rw [hX]; exact IH.out _ (List.getElem_mem hlt))
       have HO:=Lib.hid hown
       have HT:=Lib.hid ht
       have HX:=Lib.hid (And.intro hX hx)
       have hbr:Below W1.heap.size W1 wr∨True:=.inr trivial
       have k3r:=ht.blk K3.out (by have:=HWZ.out; omega)
       have HR3:=Lib.hid k3r
       clear hX hx hown hlr hbr k3r
       go_upto_region 14 with fail
       obtain ⟨R,hR,bR,zR,kR⟩:∃ R,R=wr.alloc (.cells #[.int .i64 X.kind,.int .i64 X.type.kind,.slice B5 X.type.args.length d5,.slice C5 X.terms.length e5,.slice A5 X.args.length c5] 34)∧Below wr.heap.size wr R∧R.heap.size=wr.heap.size+1∧Blk R wr.heap.size 34 #[.int .i64 X.kind,.int .i64 X.type.kind,.slice B5 X.type.args.length d5,.slice C5 X.terms.length e5,.slice A5 X.args.length c5]:=⟨_,rfl,(Below.refl _ _).alloc (Nat.le_refl _) _,by simp,Blk.new _ _ _⟩
       rw [← hR]
       have hsr:∀ b,S b→b<R.drew.heap.size:=fun b h=>by have h1:=HS.out b h; have h2:=ht.size; have h3:=HWZ.out; show b<R.heap.size; omega
       have HSR:=Lib.hid hsr
       have K3R:=Lib.hid (HR3.out.below bR HR3.out.lt)
       have K5R:=Lib.hid kR
       have TX:=Lib.hid (show IsFm S R.drew X _ from IsFm.keep (w':=R.drew) (fun _ h=>h) (fun q hq=>bR.cell (by have h1:=HS.out _ hq; have h2:=ht.size; have h3:=HWZ.out; omega)) _ HX.out.2)
       have HBR:=Lib.hid (And.intro bR zR)
       obtain ⟨base,hbase⟩:∃ n,n=R.drew.heap.size:=⟨_,rfl⟩
       have HBS:=Lib.hid hbase
       clear hR bR zR kR hsr hbase q0 q1 q2 q3 q4
       refine wp_region_any (by kernel_rfl) ?_
       change wpAny _ _ _ _ _ _ _ (World.drew _)
       refine wpAny_tail (by kernel_rfl) (by kernel_rfl) () asA (by kernel_rfl) (fun _=>none) (asF S base (w.heap.size+1+1) (.slice (some ⟨W.heap.size,0,none⟩) 2 2) (.agg #[.int .i64 X.kind,.int .i64 X.type.kind,.slice B5 X.type.args.length d5,.slice C5 X.terms.length e5,.slice A5 X.args.length c5]) j X.asTm) 5 (by decide) (by kernel_rfl) (fun _=>False) (fun _=>False) (fun _=>True) _ _ (fun _ h=>h.elim) (fun _ h=>h) trivial ⟨?_,?_,?_,?_,?_,trivial⟩ ?_
       · intro V G L a w1 hp K hK
         exact step_run rfl (run_fieldT3 rfl (hp.slot0 3 (.pointer (some ⟨w.heap.size+1+1,0,none⟩)) rfl rfl)) (hK _ () _ (Post.still rfl trivial hp.lt fun L' _=>rfl))
       · intro V G L a w1 hp K hK
         have f0:V 0=.pointer (some ⟨w.heap.size+1+1,4,none⟩):=hp.fact 0 rfl
         have e0:=hp.slot 0 36 rfl rfl rfl
         rw [f0] at e0
         exact step_run rfl (run_loadTs rfl e0 (hp.blk0 K3R.out.drew id).facts5.2.2.2.2.1) (hK _ () _ (Post.still rfl trivial hp.lt fun L' _=>rfl))
       · intro V G L a w1 hp K hK
         exact step_run rfl (run_move rfl (hp.slot0 4 _ rfl rfl)) (hK _ () _ (Post.still rfl trivial hp.lt fun L' _=>rfl))
       · intro V G L a w1 hp K hK
         exact step_run rfl (run_load5F rfl (hp.slot0 5 _ rfl rfl) (hp.blk0 K5R.out.drew id)) (hK _ () _ (Post.still rfl trivial hp.lt fun L' _=>rfl))
       · intro V G L a w1 hp K hK
         have f3:V 3=_:=hp.fact 3 rfl
         have e3:=hp.slot 3 39 rfl rfl rfl
         rw [f3] at e3
         have hsz:=hp.grown.size
         refine step_call rfl _ _ _ rfl _ (by simp only [List.map_toArray,List.map_cons,List.map_nil,e3]) (enters_of Tryz.func142 (by kernel_rfl) rfl) (HIH.out S _ w1 (fun b h=>Nat.lt_of_lt_of_le (HSR.out b h) hsz) (IsFm.keep (w:=R.drew) (fun _ h=>h) (fun q hq=>hp.cell q ⟨id,HSR.out _ hq⟩) _ TX.out)) ?_
         rintro e w' ⟨v,rfl,hv,hb⟩
         exact ⟨_,rfl,hK _ () _ (Post.of rfl (Turn.call hb) trivial hp.lt fun L' hg hn=>⟨IsTm.keep (fun b h=>⟨h.1.elim (fun x=>hg b (hp.good b ⟨id,HSR.out b x⟩)) (fun x=>hn b x h.2),h.1.imp id (fun x=>Nat.le_trans (hp.base_le (Nat.le_of_eq HBS.out)) x)⟩) (fun _ _=>rfl) _ hv,trivial⟩)⟩
       · intro V G L a w6 hp ha
         have f4:IsTm (fun b=>Good L w6 b∧(S b∨base≤b)) w6 X.asTm (V 4)∧True:=hp.fact 4 rfl
         have f1:V 1=_:=hp.fact 1 rfl
         have f2:V 2=_:=hp.fact 2 rfl
         have e1:=hp.slot 1 37 rfl rfl rfl
         have e2:=hp.slot 2 38 rfl rfl rfl
         have e4:=hp.slot 4 40 rfl rfl rfl
         rw [f1] at e1
         rw [f2] at e2
         have hg:=hp.grown
         obtain ⟨U,hU⟩:∃ U,U=X.asTm:=⟨_,rfl⟩
         rw [← hU] at f4
         obtain ⟨B9,d9,A9,c9,h9,_⟩:=f4.1.form
         rw [h9] at e4 f4
         have b6:Below wr.heap.size wr w6:=HBR.out.1.trans (Below.mono (show Below R.heap.size R w6 from ⟨hg.os,hg.tape,hg.output,hg.size,fun k hk=>hg.block k hk id⟩) HBR.out.1.size)
         have hown6:=HO.out.below b6
         obtain ⟨xs6,hxo6,hxc6⟩:=hown6
         have hlen:((asTmAll [fa,fb]).take j ++ List.replicate (2 - j) (.mk 0 0 .zero []:Tm)).length=2:=by
           rw [List.length_append,List.length_take,asTmAll_len,List.length_replicate]; simp only [List.length_cons,List.length_nil]; omega
         obtain ⟨l6,hl6⟩:∃ l6,l6=((asTmAll [fa,fb]).take j ++ List.replicate (2 - j) (.mk 0 0 .zero []:Tm)):=⟨_,rfl⟩
         rw [← hl6] at hxo6 hxc6 hlen
         rw [hlen] at hxo6
         refine tail_run rfl (run_indexTm rfl e1 e2 hlt) ?_
         obtain ⟨⟨u0,h0⟩,g0⟩:=row_cells hxo6 hlt (j * 5) (by omega) (by omega)
         obtain ⟨⟨u1,h1⟩,g1⟩:=row_cells hxo6 hlt (j * 5+1) (by omega) (by omega)
         obtain ⟨⟨u2,h2⟩,g2⟩:=row_cells hxo6 hlt (j * 5+2) (by omega) (by omega)
         obtain ⟨⟨u3,h3⟩,g3⟩:=row_cells hxo6 hlt (j * 5+3) (by omega) (by omega)
         obtain ⟨⟨u4,h4⟩,g4⟩:=row_cells hxo6 hlt (j * 5+4) (by omega) (by omega)
         have e4':(a.put (some 41) (.pointer (some ⟨W.heap.size,j * 5,none⟩))).eval (.tmp 40)=.agg #[.int .i64 U.kind,.int .i64 U.index,.int .i64 U.type.kind,.slice B9 U.type.args.length d9,.slice A9 U.args.length c9]:=by
           rw [← e4]; show (a.put _ _).tmps.getD 40 undef=a.tmps.getD 40 undef
           simp [Act.put,Array.getD_eq_getD_getElem?]
         have hsize:41<a.tmps.size:=by rw [ha]; exact of_decide_eq_true (by kernel_rfl)
         have e5':(a.put (some 41) (.pointer (some ⟨W.heap.size,j * 5,none⟩))).eval (.tmp 41)=.pointer (some ⟨W.heap.size,j * 5,none⟩):=by
           show (a.put _ _).tmps.getD 41 undef=_
           simp [Act.put,Array.getD_eq_getD_getElem?,hsize]
         refine tail_skip rfl (run_store5At rfl e5' e4' rfl rfl rfl rfl rfl h0 h1 h2 h3 h4 g0 g1 g2 g3 g4) ?_
         refine tail_end ?_
         have hs:=row_set5 (S:=fun b=>S b∨W1.heap.size≤b) (base:=W.heap.size) (g:=W.heap.size) (cap:=2) (j:=j) (w:=w6) (l:=l6) (U:=U) (xs:=xs6) (x0:=.int .i64 U.kind) (x1:=.int .i64 U.index) (x2:=.int .i64 U.type.kind) (x3:=.slice B9 U.type.args.length d9) (x4:=.slice A9 U.args.length c9)
           (by rw [hlen]; exact hlt) (by rw [hlen]; exact hxo6) (by rw [hlen]; exact hxc6)
           (IsTm.keep (fun b h=>⟨h.2.imp id (fun x=>by have h5:=HBS.out; have h6:=HBR.out.2; have h7:=HT.out.size; have h8:base=R.heap.size:=h5; omega),h.1.2,fun e=>h.2.elim (fun x=>by have h5:=HS.out b x; have h6:=HWZ.out; omega) (fun x=>by have h5:=HBS.out; have h6:=HBR.out.2; have h7:=HT.out.size; have h8:base=R.heap.size:=h5; have h9:=HWZ.out; omega)⟩) (fun _ _=>rfl) _ f4.1)
         rw [hlen] at hs
         have hset:l6.set j U=(asTmAll [fa,fb]).take (j+1) ++ List.replicate (2 - (j+1)) (.mk 0 0 .zero []:Tm):=by
           rw [hl6,hU,HX.out.1]; exact asTm_set [fa,fb] j hlt
         rw [hset] at hs
         have HEND:=Lib.hid (And.intro hs.1 (show Turn (· = W.heap.size) W1 _ from (HT.out.trans (Turn.call b6)).trans (Turn.grown hs.2 fun k e=>by cases e; rfl)))
         rw [ha]
         simp only [putFrom,dstOf,Act.put,List.getElem?_toArray,List.getElem?_cons_zero,List.getElem?_cons_succ,List.setIfInBounds_toArray,List.set_cons_zero,List.set_cons_succ,f1,f2,h9]
         clear hp ha f4 f1 f2 e1 e2 e4 hg b6 hxo6 hxc6 h0 h1 h2 h3 h4 g0 g1 g2 g3 g4 e4' e5' hs hset hl6 hlen h9 hU hsize
         generalize V 0=v0
         generalize V 3=v3
         go_wp2_with fail
         exact ⟨⟨j+1,by omega,by go_num,HEND.out.1,HEND.out.2⟩,by simp [intOf]; omega⟩
     · obtain rfl:j=2:=by omega
       have k3r:=ht.blk K3.out (by have:=HWZ.out; omega)
       have k1r:=ht.blk K1.out (by have:=HWZ.out; omega)
       obtain ⟨q0,q1,q2,q3,q4,_⟩:=k3r.facts5
       obtain ⟨_,_,_,_,_,f0,f1,f2,f3,f4⟩:=k1r.facts5
       have HE:=Lib.hid (And.intro k1r (And.intro hown ht))
       clear hown ht k3r k1r
       go_wp2_with fail
       obtain ⟨z0,z1,z2,z3,z4⟩:=(HE.out.1.set5 (.int .i64 10) (.int .i64 0) (.int .i64 0) (.slice none 0 0) (.slice (some ⟨W.heap.size,0,none⟩) 2 2)).cells5
       have hg:=only_set5 wr (w.heap.size+1) (.int .i64 10) (.int .i64 0) (.int .i64 0) (.slice none 0 0) (.slice (some ⟨W.heap.size,0,none⟩) 2 2)
       refine bodyPost_ret (v:=.agg #[.int .i64 10,.int .i64 0,.int .i64 0,(.slice none 0 0),.slice (some ⟨W.heap.size,0,none⟩) 2 2]) (by simp [results,Tryz.results142,go_sem,z0,z1,z2,z3,z4]) rfl ⟨_,rfl,?_,?_⟩
       · have hz:=HWZ.out
         have ho:=HE.out.2.1
         have hts:=HE.out.2.2.size
         rw [show (asTmAll [fa,fb]).take 2 ++ List.replicate (2 - 2) (.mk 0 0 .zero []:Tm)=asTmAll [fa,fb] from by simp [asTmAll]] at ho
         rw [hk12 _ (by decide)]
         refine isTm_iff.2 ⟨rfl,rfl,?_,?_⟩
         · exact IsTy.keep (fun b h=>⟨.inl h,by have:=HS.out b h; have:=hg.size; omega⟩) (fun q hq=>(World.cell?_of_block (hg.block q.block (by have:=HS.out _ hq; omega) (by have:=HS.out _ hq; simp; omega))).trans ((World.cell?_of_block (HE.out.2.2.block q.block (by have:=HS.out _ hq; omega) (by have:=HS.out _ hq; omega))).trans (HOLD.out q (HS.out _ hq)))) _ HTY.out
         · exact Rep.Sl.keep (fun b h=>⟨h.1.elim (fun x=>x.imp id (fun y=>by omega)) (fun x=>.inr (by have e':W.heap.size=b:=Option.some.inj x; omega)),Nat.lt_of_lt_of_le h.2 hg.size⟩) (fun q hq=>World.cell?_of_block (hg.block q.block hq.2 (by have h1:=hq.1; simp; rcases h1 with (h1 | h1) | h1; (have:=HS.out _ h1; omega); omega; (have e':W.heap.size=q.block:=Option.some.inj h1; omega)))) (Own.slw ho)
       · have h1:Below w.heap.size w wr:=HBW.out.trans (HE.out.2.2.toBelow (fun k hk e=>by have:=HWZ.out; omega) HBW.out.size)
         exact h1.grown hg h1.size (fun g e=>by cases e; omega)
set_option maxRecDepth 100000 in
set_option maxHeartbeats 8000000 in
theorem asTm_quant (k:Int) (T:Ty) (fb:Fm) (hk:k=4∨k=5∨k=6∨k=7) (hb:AsTm fb):AsTm (.mk k T [] [fb]):=by
 intro S v w hS hF
 obtain ⟨B,d,C,e0,A,c,rfl,hT,_,hl⟩:=hF.parts
 simp only [Fm.kind,Fm.type,Fm.terms,Fm.args,List.length_cons,List.length_nil,Nat.zero_add] at hl hT ⊢
 obtain ⟨W0,hW0,b3,z3,k0,k1,k2⟩:=three_blks w #[.int .i64 k,.int .i64 T.kind,.slice B T.args.length d,.slice C 0 e0,.slice A 1 c] #[.int .i64 0,.int .i64 0,.int .i64 0,.slice none 0 0,.slice none 0 0] #[.int .i64 10,.int .i64 0,.int .i64 0,.slice none 0 0,.slice C 0 e0] 34 42 42
 have HL:=Lib.hid hl
 have HTT:=Lib.hid hT
 have HB0:=Lib.hid (And.intro b3 z3)
 have HS:=Lib.hid hS
 have HK0:=Lib.hid (And.intro k0 (And.intro k1 k2))
 have IH:=Lib.hid (show ∀ x ∈ [fb],AsTm x from fun x hx=>by rw [List.mem_singleton.1 hx]; exact hb)
 obtain ⟨p0,p1,p2,p3,p4,_⟩:=k0.facts5
 obtain ⟨q0,q1,q2,q3,q4,f0,f1,f2,f3,f4⟩:=k2.facts5
 clear hF hT hl b3 z3 k0 k1 k2 hS
 have HTY:=HTT
 have hk12:∀ k':Int,k' = 4∨k' = 5∨k' = 6∨k' = 7→(Fm.mk k' T [] [fb]).asTm=.mk 2 0 T (asTmAll [fb]):=fun k' h=>by rw [Fm.asTm,if_neg (by omega),if_neg (by omega)]
 rcases hk with rfl | rfl | rfl | rfl
 all_goals
   have hz3:=HB0.out.2
   go_enter Tryz.func142,Tryz.ntmps142
   go_upto_region 2 with fail
   rw [← hW0]
   clear hW0
   go_upto_region 9 with fail
   go_region
   go_upto_region 10 with fail
   obtain ⟨W,hWW,hgq,hzq,kk2⟩:=set3_facts HK0.out.2.2 (.int .i64 2) (.int .i64 T.kind) (.slice B T.args.length d)
   rw [← hWW]
   clear hWW
   have hb3:Below w.heap.size w W:=HB0.out.1.grown hgq HB0.out.1.size (fun g e=>by cases e; omega)
   have hzw:W.heap.size=w.heap.size+3:=by rw [hzq]; exact HB0.out.2
   have HB:=Lib.hid (And.intro hb3 hzw)
   have HK:=Lib.hid (And.intro (HK0.out.1.grown hgq (by simp; omega)) (And.intro (HK0.out.2.1.grown hgq (by simp)) kk2))
   obtain ⟨p0,p1,p2,p3,p4,_⟩:=HK.out.1.facts5
   obtain ⟨q0,q1,q2,q3,q4,f0,f1,f2,f3,f4⟩:=kk2.facts5
   have hmk:=mk_terms1 W
   clear hgq hzq hb3 hzw kk2 hz3
   obtain ⟨WS,hWS⟩:∃ WS,WS=W.setCell ⟨w.heap.size+1+1,4,none⟩ (.slice (some ⟨W.heap.size,0,none⟩) 1 1):=⟨_,rfl⟩
   have hws:WS.heap.size=W.heap.size:=by rw [hWS]; simp
   have hgw:W.grownBy WS (some (w.heap.size+1+1)):=by rw [hWS]; exact only_setCell (only_refl _ _) (.inl rfl) _
   obtain ⟨W9,hW9⟩:∃ W9,W9=WS.alloc (.cells #[.int .i64 0,.int .i64 0,.int .i64 0,.slice none 0 0,.slice none 0 0] 42):=⟨_,rfl⟩
   have hz3:=HB.out.2
   have hgo:W9.heap.size=W.heap.size+1:=by rw [hW9]; simp [hws]
   have K0:=Lib.hid (show Blk W9 w.heap.size _ _ from by rw [hW9]; exact (HK.out.1.grown hgw (by simp; omega)).alloc _)
   have K1:=Lib.hid (show Blk W9 (w.heap.size+1) _ _ from by rw [hW9]; exact (HK.out.2.1.grown hgw (by simp)).alloc _)
   have K3:=Lib.hid (show Blk W9 (w.heap.size+1+1) 42 #[.int .i64 2,.int .i64 0,.int .i64 T.kind,(.slice B T.args.length d),.slice (some ⟨W.heap.size,0,none⟩) 1 1] from by rw [hW9,hWS]; simpa using (HK.out.2.2.set_ 4 (.slice (some ⟨W.heap.size,0,none⟩) 1 1)).alloc _)
   have HWZ:=Lib.hid (show W.heap.size=w.heap.size+3∧W9.heap.size=W.heap.size+1 from ⟨hz3,hgo⟩)
   have HOLD:=Lib.hid (show ∀ q:Addr,q.block<w.heap.size→W9.cell? q=w.cell? q from fun q hq=>by rw [hW9]; exact (World.cell?_alloc_lt _ _ _ (by rw [hws]; omega)).trans ((World.cell?_of_block (hgw.block q.block (by omega) (by simp; omega))).trans (HB.out.1.cell hq)))
   have HBW:=Lib.hid (show Below w.heap.size w W9 from by rw [hW9]; exact (HB.out.1.grown hgw HB.out.1.size (fun g e=>by cases e; omega)).alloc (by rw [hws]; exact HB.out.1.size) _)
   have HOZ:=Lib.hid (show TmR.Own (fun b=>S b∨W9.heap.size≤b) W.heap.size (.slice (some ⟨W.heap.size,0,none⟩) 1 1) [.mk 0 0 .zero []] W9 from by
     have h:=own_zero1 (fun b=>S b∨W9.heap.size≤b) WS W.heap.size (by omega)
     rw [hws,← hW9] at h
     exact h)
   have HW9:=Lib.hid hW9
   have HWS:=Lib.hid hWS
   clear hW9 hgw hgo hws hWS
   go_upto_region 11 with fail
   rw [← hz3,← HWS.out,← HW9.out]
   obtain ⟨p0,p1,p2,p3,p4,_⟩:=K0.out.facts5
   clear q0 q1 q2 q3 q4 f0 f1 f2 f3 f4 hmk HW9 HWS K0 hz3
   generalize W9=W1 at K1 K3 HWZ HOLD HBW HOZ p0 p1 p2 p3 p4 ⊢
   go_wp2_with fail
   go_loopw [31] (fun ix wr=>∃ j:Nat,j≤1∧ix=.int .i64 j∧TmR.Own (fun b=>S b∨W1.heap.size≤b) W.heap.size (.slice (some ⟨W.heap.size,0,none⟩) 1 1) ((asTmAll [fb]).take j ++ List.replicate (1 - j) (.mk 0 0 .zero [])) wr∧Turn (· = W.heap.size) W1 wr) (fun ix _=>1 - (intOf ix).toNat)
   case atStart=>exact ⟨0,by omega,rfl,HOZ.out,Turn.refl _ _⟩
   case round=>
     obtain ⟨j,hj,rfl,hown,ht⟩:=hrel
     by_cases hlt:j<1
     · obtain ⟨X,hX⟩:∃ X,X=[fb][j]'hlt:=⟨_,rfl⟩
       have hlr:FmR.Sl S wr [fb] (.slice A 1 c):=HL.out.keep (fun _ h=>h) (fun q hq=>(World.cell?_of_block (ht.block q.block (by have:=HS.out _ hq; have:=HWZ.out; omega) (by have:=HS.out _ hq; have:=HWZ.out; omega))).trans (HOLD.out q (HS.out _ hq)))
       obtain ⟨aq,B5,d5,C5,e5,A5,c5,eaq,hSa,q0,q1,q2,q3,q4,hx⟩:=child_f hlr j hlt
       subst eaq
       rw [← hX] at q0 q1 q2 q3 q4 hx
       have HIH:=Lib.hid (show AsTm X by rw [hX]; exact IH.out _ (List.getElem_mem hlt))
       have HO:=Lib.hid hown
       have HT:=Lib.hid ht
       have HX:=Lib.hid (And.intro hX hx)
       have hbr:Below W1.heap.size W1 wr∨True:=.inr trivial
       have k3r:=ht.blk K3.out (by have:=HWZ.out; omega)
       have HR3:=Lib.hid k3r
       clear hX hx hown hlr hbr k3r
       go_upto_region 14 with fail
       obtain ⟨R,hR,bR,zR,kR⟩:∃ R,R=wr.alloc (.cells #[.int .i64 X.kind,.int .i64 X.type.kind,.slice B5 X.type.args.length d5,.slice C5 X.terms.length e5,.slice A5 X.args.length c5] 34)∧Below wr.heap.size wr R∧R.heap.size=wr.heap.size+1∧Blk R wr.heap.size 34 #[.int .i64 X.kind,.int .i64 X.type.kind,.slice B5 X.type.args.length d5,.slice C5 X.terms.length e5,.slice A5 X.args.length c5]:=⟨_,rfl,(Below.refl _ _).alloc (Nat.le_refl _) _,by simp,Blk.new _ _ _⟩
       rw [← hR]
       have hsr:∀ b,S b→b<R.drew.heap.size:=fun b h=>by have h1:=HS.out b h; have h2:=ht.size; have h3:=HWZ.out; show b<R.heap.size; omega
       have HSR:=Lib.hid hsr
       have K3R:=Lib.hid (HR3.out.below bR HR3.out.lt)
       have K5R:=Lib.hid kR
       have TX:=Lib.hid (show IsFm S R.drew X _ from IsFm.keep (w':=R.drew) (fun _ h=>h) (fun q hq=>bR.cell (by have h1:=HS.out _ hq; have h2:=ht.size; have h3:=HWZ.out; omega)) _ HX.out.2)
       have HBR:=Lib.hid (And.intro bR zR)
       obtain ⟨base,hbase⟩:∃ n,n=R.drew.heap.size:=⟨_,rfl⟩
       have HBS:=Lib.hid hbase
       clear hR bR zR kR hsr hbase q0 q1 q2 q3 q4
       refine wp_region_any (by kernel_rfl) ?_
       change wpAny _ _ _ _ _ _ _ (World.drew _)
       refine wpAny_tail (by kernel_rfl) (by kernel_rfl) () asA (by kernel_rfl) (fun _=>none) (asF S base (w.heap.size+1+1) (.slice (some ⟨W.heap.size,0,none⟩) 1 1) (.agg #[.int .i64 X.kind,.int .i64 X.type.kind,.slice B5 X.type.args.length d5,.slice C5 X.terms.length e5,.slice A5 X.args.length c5]) j X.asTm) 5 (by decide) (by kernel_rfl) (fun _=>False) (fun _=>False) (fun _=>True) _ _ (fun _ h=>h.elim) (fun _ h=>h) trivial ⟨?_,?_,?_,?_,?_,trivial⟩ ?_
       · intro V G L a w1 hp K hK
         exact step_run rfl (run_fieldT3 rfl (hp.slot0 3 (.pointer (some ⟨w.heap.size+1+1,0,none⟩)) rfl rfl)) (hK _ () _ (Post.still rfl trivial hp.lt fun L' _=>rfl))
       · intro V G L a w1 hp K hK
         have f0:V 0=.pointer (some ⟨w.heap.size+1+1,4,none⟩):=hp.fact 0 rfl
         have e0:=hp.slot 0 36 rfl rfl rfl
         rw [f0] at e0
         exact step_run rfl (run_loadTs rfl e0 (hp.blk0 K3R.out.drew id).facts5.2.2.2.2.1) (hK _ () _ (Post.still rfl trivial hp.lt fun L' _=>rfl))
       · intro V G L a w1 hp K hK
         exact step_run rfl (run_move rfl (hp.slot0 4 _ rfl rfl)) (hK _ () _ (Post.still rfl trivial hp.lt fun L' _=>rfl))
       · intro V G L a w1 hp K hK
         exact step_run rfl (run_load5F rfl (hp.slot0 5 _ rfl rfl) (hp.blk0 K5R.out.drew id)) (hK _ () _ (Post.still rfl trivial hp.lt fun L' _=>rfl))
       · intro V G L a w1 hp K hK
         have f3:V 3=_:=hp.fact 3 rfl
         have e3:=hp.slot 3 39 rfl rfl rfl
         rw [f3] at e3
         have hsz:=hp.grown.size
         refine step_call rfl _ _ _ rfl _ (by simp only [List.map_toArray,List.map_cons,List.map_nil,e3]) (enters_of Tryz.func142 (by kernel_rfl) rfl) (HIH.out S _ w1 (fun b h=>Nat.lt_of_lt_of_le (HSR.out b h) hsz) (IsFm.keep (w:=R.drew) (fun _ h=>h) (fun q hq=>hp.cell q ⟨id,HSR.out _ hq⟩) _ TX.out)) ?_
         rintro e w' ⟨v,rfl,hv,hb⟩
         exact ⟨_,rfl,hK _ () _ (Post.of rfl (Turn.call hb) trivial hp.lt fun L' hg hn=>⟨IsTm.keep (fun b h=>⟨h.1.elim (fun x=>hg b (hp.good b ⟨id,HSR.out b x⟩)) (fun x=>hn b x h.2),h.1.imp id (fun x=>Nat.le_trans (hp.base_le (Nat.le_of_eq HBS.out)) x)⟩) (fun _ _=>rfl) _ hv,trivial⟩)⟩
       · intro V G L a w6 hp ha
         have f4:IsTm (fun b=>Good L w6 b∧(S b∨base≤b)) w6 X.asTm (V 4)∧True:=hp.fact 4 rfl
         have f1:V 1=_:=hp.fact 1 rfl
         have f2:V 2=_:=hp.fact 2 rfl
         have e1:=hp.slot 1 37 rfl rfl rfl
         have e2:=hp.slot 2 38 rfl rfl rfl
         have e4:=hp.slot 4 40 rfl rfl rfl
         rw [f1] at e1
         rw [f2] at e2
         have hg:=hp.grown
         obtain ⟨U,hU⟩:∃ U,U=X.asTm:=⟨_,rfl⟩
         rw [← hU] at f4
         obtain ⟨B9,d9,A9,c9,h9,_⟩:=f4.1.form
         rw [h9] at e4 f4
         have b6:Below wr.heap.size wr w6:=HBR.out.1.trans (Below.mono (show Below R.heap.size R w6 from ⟨hg.os,hg.tape,hg.output,hg.size,fun k hk=>hg.block k hk id⟩) HBR.out.1.size)
         have hown6:=HO.out.below b6
         obtain ⟨xs6,hxo6,hxc6⟩:=hown6
         have hlen:((asTmAll [fb]).take j ++ List.replicate (1 - j) (.mk 0 0 .zero []:Tm)).length=1:=by
           rw [List.length_append,List.length_take,asTmAll_len,List.length_replicate]; simp only [List.length_cons,List.length_nil]; omega
         obtain ⟨l6,hl6⟩:∃ l6,l6=((asTmAll [fb]).take j ++ List.replicate (1 - j) (.mk 0 0 .zero []:Tm)):=⟨_,rfl⟩
         rw [← hl6] at hxo6 hxc6 hlen
         rw [hlen] at hxo6
         refine tail_run rfl (run_indexTm rfl e1 e2 hlt) ?_
         obtain ⟨⟨u0,h0⟩,g0⟩:=row_cells hxo6 hlt (j * 5) (by omega) (by omega)
         obtain ⟨⟨u1,h1⟩,g1⟩:=row_cells hxo6 hlt (j * 5+1) (by omega) (by omega)
         obtain ⟨⟨u2,h2⟩,g2⟩:=row_cells hxo6 hlt (j * 5+2) (by omega) (by omega)
         obtain ⟨⟨u3,h3⟩,g3⟩:=row_cells hxo6 hlt (j * 5+3) (by omega) (by omega)
         obtain ⟨⟨u4,h4⟩,g4⟩:=row_cells hxo6 hlt (j * 5+4) (by omega) (by omega)
         have e4':(a.put (some 41) (.pointer (some ⟨W.heap.size,j * 5,none⟩))).eval (.tmp 40)=.agg #[.int .i64 U.kind,.int .i64 U.index,.int .i64 U.type.kind,.slice B9 U.type.args.length d9,.slice A9 U.args.length c9]:=by
           rw [← e4]; show (a.put _ _).tmps.getD 40 undef=a.tmps.getD 40 undef
           simp [Act.put,Array.getD_eq_getD_getElem?]
         have hsize:41<a.tmps.size:=by rw [ha]; exact of_decide_eq_true (by kernel_rfl)
         have e5':(a.put (some 41) (.pointer (some ⟨W.heap.size,j * 5,none⟩))).eval (.tmp 41)=.pointer (some ⟨W.heap.size,j * 5,none⟩):=by
           show (a.put _ _).tmps.getD 41 undef=_
           simp [Act.put,Array.getD_eq_getD_getElem?,hsize]
         refine tail_skip rfl (run_store5At rfl e5' e4' rfl rfl rfl rfl rfl h0 h1 h2 h3 h4 g0 g1 g2 g3 g4) ?_
         refine tail_end ?_
         have hs:=row_set5 (S:=fun b=>S b∨W1.heap.size≤b) (base:=W.heap.size) (g:=W.heap.size) (cap:=1) (j:=j) (w:=w6) (l:=l6) (U:=U) (xs:=xs6) (x0:=.int .i64 U.kind) (x1:=.int .i64 U.index) (x2:=.int .i64 U.type.kind) (x3:=.slice B9 U.type.args.length d9) (x4:=.slice A9 U.args.length c9)
           (by rw [hlen]; exact hlt) (by rw [hlen]; exact hxo6) (by rw [hlen]; exact hxc6)
           (IsTm.keep (fun b h=>⟨h.2.imp id (fun x=>by have h5:=HBS.out; have h6:=HBR.out.2; have h7:=HT.out.size; have h8:base=R.heap.size:=h5; omega),h.1.2,fun e=>h.2.elim (fun x=>by have h5:=HS.out b x; have h6:=HWZ.out; omega) (fun x=>by have h5:=HBS.out; have h6:=HBR.out.2; have h7:=HT.out.size; have h8:base=R.heap.size:=h5; have h9:=HWZ.out; omega)⟩) (fun _ _=>rfl) _ f4.1)
         rw [hlen] at hs
         have hset:l6.set j U=(asTmAll [fb]).take (j+1) ++ List.replicate (1 - (j+1)) (.mk 0 0 .zero []:Tm):=by
           rw [hl6,hU,HX.out.1]; exact asTm_set [fb] j hlt
         rw [hset] at hs
         have HEND:=Lib.hid (And.intro hs.1 (show Turn (· = W.heap.size) W1 _ from (HT.out.trans (Turn.call b6)).trans (Turn.grown hs.2 fun k e=>by cases e; rfl)))
         rw [ha]
         simp only [putFrom,dstOf,Act.put,List.getElem?_toArray,List.getElem?_cons_zero,List.getElem?_cons_succ,List.setIfInBounds_toArray,List.set_cons_zero,List.set_cons_succ,f1,f2,h9]
         clear hp ha f4 f1 f2 e1 e2 e4 hg b6 hxo6 hxc6 h0 h1 h2 h3 h4 g0 g1 g2 g3 g4 e4' e5' hs hset hl6 hlen h9 hU hsize
         generalize V 0=v0
         generalize V 3=v3
         go_wp2_with fail
         exact ⟨⟨j+1,by omega,by go_num,HEND.out.1,HEND.out.2⟩,by simp [intOf]; omega⟩
     · obtain rfl:j=1:=by omega
       have k3r:=ht.blk K3.out (by have:=HWZ.out; omega)
       have k1r:=ht.blk K1.out (by have:=HWZ.out; omega)
       obtain ⟨q0,q1,q2,q3,q4,_⟩:=k3r.facts5
       obtain ⟨_,_,_,_,_,f0,f1,f2,f3,f4⟩:=k1r.facts5
       have HE:=Lib.hid (And.intro k1r (And.intro hown ht))
       clear hown ht k3r k1r
       go_wp2_with fail
       obtain ⟨z0,z1,z2,z3,z4⟩:=(HE.out.1.set5 (.int .i64 2) (.int .i64 0) (.int .i64 T.kind) (.slice B T.args.length d) (.slice (some ⟨W.heap.size,0,none⟩) 1 1)).cells5
       have hg:=only_set5 wr (w.heap.size+1) (.int .i64 2) (.int .i64 0) (.int .i64 T.kind) (.slice B T.args.length d) (.slice (some ⟨W.heap.size,0,none⟩) 1 1)
       refine bodyPost_ret (v:=.agg #[.int .i64 2,.int .i64 0,.int .i64 T.kind,(.slice B T.args.length d),.slice (some ⟨W.heap.size,0,none⟩) 1 1]) (by simp [results,Tryz.results142,go_sem,z0,z1,z2,z3,z4]) rfl ⟨_,rfl,?_,?_⟩
       · have hz:=HWZ.out
         have ho:=HE.out.2.1
         have hts:=HE.out.2.2.size
         rw [show (asTmAll [fb]).take 1 ++ List.replicate (1 - 1) (.mk 0 0 .zero []:Tm)=asTmAll [fb] from by simp [asTmAll]] at ho
         rw [hk12 _ (by decide)]
         refine isTm_iff.2 ⟨rfl,rfl,?_,?_⟩
         · exact IsTy.keep (fun b h=>⟨.inl h,by have:=HS.out b h; have:=hg.size; omega⟩) (fun q hq=>(World.cell?_of_block (hg.block q.block (by have:=HS.out _ hq; omega) (by have:=HS.out _ hq; simp; omega))).trans ((World.cell?_of_block (HE.out.2.2.block q.block (by have:=HS.out _ hq; omega) (by have:=HS.out _ hq; omega))).trans (HOLD.out q (HS.out _ hq)))) _ HTY.out
         · exact Rep.Sl.keep (fun b h=>⟨h.1.elim (fun x=>x.imp id (fun y=>by omega)) (fun x=>.inr (by have e':W.heap.size=b:=Option.some.inj x; omega)),Nat.lt_of_lt_of_le h.2 hg.size⟩) (fun q hq=>World.cell?_of_block (hg.block q.block hq.2 (by have h1:=hq.1; simp; rcases h1 with (h1 | h1) | h1; (have:=HS.out _ h1; omega); omega; (have e':W.heap.size=q.block:=Option.some.inj h1; omega)))) (Own.slw ho)
       · have h1:Below w.heap.size w wr:=HBW.out.trans (HE.out.2.2.toBelow (fun k hk e=>by have:=HWZ.out; omega) HBW.out.size)
         exact h1.grown hg h1.size (fun g e=>by cases e; omega)
/-- The contract of formula.asTerm. -/
theorem asTm_any {f:Fm} (hf:GoodF f):AsTm f:=by
 induction hf with
 | eq s t _ _=>exact asTm_eq s t
 | two k a b hk _ _ iha ihb=>exact asTm_two k a b hk iha ihb
 | quant k T b hk _ _ ih=>exact asTm_quant k T b hk ih
end Go.Proofs.YtipfnkajdooiiaaGreatDoor
namespace Go.Proofs.YtipfnkajdooiiaaGreatDoor
open Go.RowKit

/-- An element of a row of the call's own is written anew. -/
theorem row_set5F {S:Nat→Prop} {base g cap j:Nat} {w:World} {l:List Fm} {U:Fm} {xs:List Value} {x0 x1 x2 x3 x4:Value} (hj:j<l.length) (hxo:w.ownsRow base 34 5 (.slice (some ⟨g,0,none⟩) l.length cap) l.length xs)
   (hxc:FmR.Ch (fun b=>S b∧b<w.heap.size∧(Value.slice (some ⟨g,0,none⟩) l.length cap).ownBlock≠some b) w l xs) (hU:IsFm (fun b=>S b∧b<w.heap.size∧g≠b) w U (.agg #[x0,x1,x2,x3,x4])) :
   FmR.Own S base (.slice (some ⟨g,0,none⟩) l.length cap) (l.set j U) (((((w.setCell ⟨g,j * 5,none⟩ x0).setCell ⟨g,j * 5+1,none⟩ x1).setCell ⟨g,j * 5+2,none⟩ x2).setCell ⟨g,j * 5+3,none⟩ x3).setCell ⟨g,j * 5+4,none⟩ x4) ∧
     w.grownBy (((((w.setCell ⟨g,j * 5,none⟩ x0).setCell ⟨g,j * 5+1,none⟩ x1).setCell ⟨g,j * 5+2,none⟩ x2).setCell ⟨g,j * 5+3,none⟩ x3).setCell ⟨g,j * 5+4,none⟩ x4) (some g):=by
 obtain ⟨o1,g1⟩:=hxo.stored (j * 5) x0
 obtain ⟨o2,g2⟩:=o1.stored (j * 5+1) x1
 obtain ⟨o3,g3⟩:=o2.stored (j * 5+2) x2
 obtain ⟨o4,g4⟩:=o3.stored (j * 5+3) x3
 obtain ⟨o5,g5⟩:=o4.stored (j * 5+4) x4
 have hg:=only_trans (only_trans (only_trans (only_trans g1 g2) g3) g4) g5
 refine ⟨?_,hg⟩
 have hxl:xs.length=l.length * 5:=hxo.1
 have hc:=Rep.Ch.set_ (R:=FmR) (vs:=[x0,x1,x2,x3,x4]) (ys:=((((xs.set (j * 5) x0).set (j * 5+1) x1).set (j * 5+2) x2).set (j * 5+3) x3).set (j * 5+4) x4) hxc j hj (show FmR.is _ w U [x0,x1,x2,x3,x4] from IsFm.keep (fun b h=>⟨h.1,h.2.1,fun e=>h.2.2 (by simpa [Value.ownBlock] using e)⟩) (fun _ _=>rfl) _ hU) (by simp)
   (fun k u hu=>by
     show (((((xs.set (j * 5) x0).set (j * 5+1) x1).set (j * 5+2) x2).set (j * 5+3) x3).set (j * 5+4) x4)[j * 5+k]? = some u
     match k,hu with
     | 0,hu=>
       simp at hu; subst hu
       show (((((xs.set (j * 5) x0).set (j * 5+1) x1).set (j * 5+2) x2).set (j * 5+3) x3).set (j * 5+4) x4)[j * 5]? = some x0
       rw [List.getElem?_set_ne (by omega),List.getElem?_set_ne (by omega),List.getElem?_set_ne (by omega),List.getElem?_set_ne (by omega),List.getElem?_set_self (by omega)]
     | 1,hu=>simp at hu; subst hu; rw [List.getElem?_set_ne (by omega),List.getElem?_set_ne (by omega),List.getElem?_set_ne (by omega),List.getElem?_set_self (by simp; omega)]
     | 2,hu=>simp at hu; subst hu; rw [List.getElem?_set_ne (by omega),List.getElem?_set_ne (by omega),List.getElem?_set_self (by simp; omega)]
     | 3,hu=>simp at hu; subst hu; rw [List.getElem?_set_ne (by omega),List.getElem?_set_self (by simp; omega)]
     | 4,hu=>simp at hu; subst hu; rw [List.getElem?_set_self (by simp; omega)]
     | k+5,hu=>simp at hu)
   (fun k hk=>by
     have hk':k<j * 5∨j * 5+5≤k:=hk
     rw [List.getElem?_set_ne (by omega),List.getElem?_set_ne (by omega),List.getElem?_set_ne (by omega),List.getElem?_set_ne (by omega),List.getElem?_set_ne (by omega)])
 refine ⟨_,by rw [List.length_set]; exact o5,hc.keep (fun b h=>⟨h.1,Nat.lt_of_lt_of_le h.2.1 hg.size,h.2.2⟩) (fun p hp=>World.cell?_of_block (hg.block p.block hp.2.1 (fun e=>hp.2.2 (by simpa [Value.ownBlock] using e.symm))))⟩

def CloneFR (S:Nat→Prop) (l:List Fm) (w:World) (e:Ending) (w':World):Prop:=∃ c,e=.returned c∧FmR.Own S w.heap.size c l w'∧Below w.heap.size w w'
set_option maxRecDepth 100000 in
set_option maxHeartbeats 2000000 in
theorem cloneF_in (S:Nat→Prop) (g:List Fm) (s:Value) (w:World) (hS:∀ b,S b→b<w.heap.size) (hlen:g.length≤1000000) (hl:FmR.Sl S w g s) :
   Calls Tryz.prog 188 #[s] w (CloneFR S g w):=by
 have heq:=fun (w:World) (a:Option Addr) (n c:Nat)=>Lib.run_eql_slice_nil (P:=Tryz.prog) w 32 _ a n c 0 0 Tryz.underlying32
 obtain ⟨i0,hi,hz0,hz1,hz2⟩:=info_parts info_formula
 by_cases hg:g=[]
 · subst hg
   obtain ⟨A,c,rfl,_⟩:=hl
   cases A with
   | none=>
     go_enter Tryz.func188,Tryz.ntmps188
     go_wp2_with fail
     go_ret
     exact ⟨_,rfl,Rep.Own.nil _ _ _,Below.refl _ _⟩
   | some a=>
     have hown0:(w.alloc (.cells #[] 34)).ownsRow w.heap.size 34 5 (.slice (some ⟨w.heap.size,0,none⟩) 0 0) 0 []:=⟨rfl,.inr ⟨w.heap.size,0,#[],rfl,Nat.le_refl _,heap_alloc_new w _,Nat.le_refl _,by simp [maxLen],rfl,rfl⟩⟩
     go_enter Tryz.func188,Tryz.ntmps188
     go_wp2_with (at_builtin; go_loud (refine wpList_append_fits_any _ rfl _ _ 32 rfl w.heap.size 34 i0 5 Tryz.underlying32 hi hz1 w.heap.size 0 0 [] rfl hown0 (some a) 0 c [] rfl rfl (fun e=>by cases e) (fun b e j u hu=>by simp at hu) (fun u hu=>by simp at hu) (Nat.le_refl _) ?_); intro w1 hown1 hgr1)
     go_ret
     exact ⟨_,rfl,⟨[],by have h:=hown1; simp at h; exact h,Rep.Ch.nil _ _⟩,((Below.refl _ _).alloc (Nat.le_refl _) _).grown hgr1 (by simp) (fun k e=>by cases e; exact Nat.le_refl _)⟩
 · obtain ⟨A,c,rfl,h⟩:=hl
   obtain ⟨a,rfl,ha,harr⟩:=h hg
   obtain ⟨news,hch,hnc⟩:=harr.cells
   have hno:=hch.oneCells
   have hnl:news.length=g.length * 5:=hch.1
   have hpos:0<g.length:=List.length_pos_iff.2 hg
   have hnc':∀ j u,news[j]? = some u→(w.alloc (.cells #[] 34)).cell? (a.add j)=some u:=fun j u hu=>(World.cell?_alloc_lt _ _ _ (by rw [add_block]; exact hS _ ha)).trans (hnc j u hu)
   have HN:=Lib.hid (And.intro hnc hnc')
   have HC:=Lib.hid hch
   have HS:=Lib.hid hS
   clear hnc hnc' hch h harr
   go_enter Tryz.func188,Tryz.ntmps188
   go_wp2_with (at_builtin; go_loud (refine wpList_append_grows _ rfl _ _ 32 rfl 34 i0 _ 5 88 Tryz.underlying32 hi hz0 hz1 hz2 rfl (by decide) (some ⟨w.heap.size,0,none⟩) 0 0 [] rfl (fun e=>by cases e) rfl (fun b e j u hu=>by simp at hu) a g.length c news rfl hnl HN.out.2 hno (by omega) (by simp only [maxLen]; omega) (by omega) ?_); intro v1 w1 hown1 hgr1)
   go_ret
   have hgF:w.grownBy w1 none:=only_trans (World.grownBy_alloc _ _ _) hgr1
   have hbF:=(Below.refl w.heap.size w).grown hgF (Nat.le_refl _) (fun k e=>by cases e)
   have hlt:=hown1.lt
   refine ⟨_,rfl,?_,hbF⟩
   have h2:FmR.Own S (w.heap.size+1) v1 g w1:=⟨news,by have h:=hown1; simp at h; exact h,HC.out.keep (fun b h=>⟨h,Nat.lt_of_lt_of_le (HS.out b h) hbF.size,fun e=>by have h1:=(hlt b e).1; have h2:=HS.out b h; simp at h1; omega⟩) (fun p hp=>hbF.cell (HS.out _ hp))⟩
   exact h2.mono (fun b h _=>h) (by omega)
end Go.Proofs.YtipfnkajdooiiaaGreatDoor
namespace Go.Proofs.YtipfnkajdooiiaaGreatDoor
open Go.RowKit

section
variable {ops : Array Oper} {o : Oper} {a : Act} {w : World}
theorem run_indexTmA {x y:Operand} (ho:o.op=.indexAddr 31 x y) {q:Addr} {n c k:Nat} (hx:a.eval x=.slice (some q) n c) (hy:a.eval y=.int .i64 (k:Int)) (hk:k<n):(execOp a.eval o).run Tryz.prog w=.ok (.value (.pointer (some (q.add (k * 5))))) w:=by
 have h0:(k:Int)<(n:Int):=by omega
 simp only [execOp,ho,hx,hy]
 go_simp
theorem run_loadTmAt {x:Operand} (ho:o.op=.load 42 x) {q:Addr} {x0 x1 x2 x3 x4:Value} (hx:a.eval x=.pointer (some q)) (c0:w.cell? q=some x0) (c1:w.cell? ⟨q.block,q.off+1,none⟩ = some x1) (c2:w.cell? ⟨q.block,q.off+2,none⟩ = some x2) (c3:w.cell? ⟨q.block,q.off+3,none⟩ = some x3) (c4:w.cell? ⟨q.block,q.off+4,none⟩ = some x4) :
   (execOp a.eval o).run Tryz.prog w=.ok (.value (.agg #[x0,x1,x2,x3,x4])) w:=by
 simp only [execOp,ho,hx]
 go_simp
theorem run_indexFm {x y:Operand} (ho:o.op=.indexAddr 32 x y) {g n c k:Nat} (hx:a.eval x=.slice (some ⟨g,0,none⟩) n c) (hy:a.eval y=.int .i64 (k:Int)) (hk:k<n):(execOp a.eval o).run Tryz.prog w=.ok (.value (.pointer (some ⟨g,k * 5,none⟩))) w:=by
 have h0:(k:Int)<(n:Int):=by omega
 simp only [execOp,ho,hx,hy]
 go_simp
theorem run_storeFAt {x y:Operand} (ho:o.op=.store 34 x y) {q p:Nat} {u0 u1 u2 u3 u4 x0 x1 x2 x3 x4:Value} (hx:a.eval x=.pointer (some ⟨q,p,none⟩)) (hy:a.eval y=.agg #[x0,x1,x2,x3,x4]) (h1:x0.oneCell' = true) (h2:x1.oneCell' = true) (h3:x2.oneCell' = true) (h4:x3.oneCell' = true) (h5:x4.oneCell' = true)
   (c0:w.cell? ⟨q,p,none⟩ = some u0) (c1:w.cell? ⟨q,p+1,none⟩ = some u1) (c2:w.cell? ⟨q,p+2,none⟩ = some u2) (c3:w.cell? ⟨q,p+3,none⟩ = some u3) (c4:w.cell? ⟨q,p+4,none⟩ = some u4)
   (f0:w.frozen? ⟨q,p,none⟩ = false) (f1:w.frozen? ⟨q,p+1,none⟩ = false) (f2:w.frozen? ⟨q,p+2,none⟩ = false) (f3:w.frozen? ⟨q,p+3,none⟩ = false) (f4:w.frozen? ⟨q,p+4,none⟩ = false) :
   (execOp a.eval o).run Tryz.prog w=.ok .skip (((((w.setCell ⟨q,p,none⟩ x0).setCell ⟨q,p+1,none⟩ x1).setCell ⟨q,p+2,none⟩ x2).setCell ⟨q,p+3,none⟩ x3).setCell ⟨q,p+4,none⟩ x4):=by
 have s0:=fun p m w=>run_store Tryz.prog w p x0 m h1
 have s1:=fun p m w=>run_store Tryz.prog w p x1 m h2
 have s2:=fun p m w=>run_store Tryz.prog w p x2 m h3
 have s3:=fun p m w=>run_store Tryz.prog w p x3 m h4
 have s4:=fun p m w=>run_store Tryz.prog w p x4 m h5
 simp only [execOp,ho,hx,hy]
 go_simp
end
/-- What is said of formula.reread of f and t: it is r. -/
def Reads (f:Fm) (t:Tm) (r:Fm):Prop:=∀ (S:Nat→Prop) (u v:Value) (w:World),(∀ b,S b→b<w.heap.size)→IsFm S w f u→IsTm S w t v →
 Calls Tryz.prog 145 #[u,v] w fun e w'=>∃ x,e=.returned x∧IsFm (fun b=>(S b∨w.heap.size≤b)∧b<w'.heap.size) w' r x∧Below w.heap.size w w'
def rdA (i j:Nat):Bool:=([0,1,0,0,0,16,0,112,240,504,1023,2047].getD i 0).testBit j
def rdF (S:Nat→Prop) (lo g p0 p1:Nat) (SV XV TV YV:Value) (q:Addr) (j:Nat) (U:Fm) (i:Nat) (V:Nat→Value) (_:Nat→Unit):RFact:=
 match i with
 | 0=>.pure (V 0=.pointer (some ⟨p0,4,none⟩))
 | 1=>.pure (V 1=SV)
 | 2=>.pure (V 2=.int .i64 (j:Int))
 | 3=>.pure (V 3=XV)
 | 4=>.pure (V 4=.pointer (some ⟨p1,4,none⟩))
 | 5=>.pure (V 5=TV)
 | 6=>.pure (V 6=.int .i64 (j:Int))
 | 7=>.pure (V 7=.pointer (some q))
 | 8=>.pure (V 8=YV)
 | 9=>.pub (fun S1 w=>IsFm (fun b=>S1 b∧(S b∨(lo≤b∧g≠b))) w U (V 9)∧True) fun hS hc h=>⟨IsFm.keep (fun b hb=>⟨hS b hb.1,hb.2⟩) (fun q hq=>hc q hq.1) _ h.1,h.2⟩
 | _=>.pure True
theorem take_set {α:Type} (R L:List α) (j:Nat) (h:j<L.length) (h':j<R.length):(R.take j ++ L.drop j).set j R[j]=R.take (j+1) ++ L.drop (j+1):=by
 have h1:(R.take j).length=j:=by rw [List.length_take]; omega
 rw [List.set_append_right _ _ (by omega),h1,Nat.sub_self,List.drop_eq_getElem_cons h,List.set_cons_zero,List.take_succ_eq_append_getElem h',List.append_assoc]
 rfl
set_option maxRecDepth 100000 in
set_option maxHeartbeats 8000000 in
theorem reread_node (k:Int) (T:Ty) (ts:List Tm) (L:List Fm) (t:Tm) (RA:List Fm) (hk:k≠1) (hlt':t.args.length=L.length) (hlr':RA.length=L.length) (hL:L.length≤1000) (IH':∀ j (h:j<L.length) (h2:j<t.args.length) (h3:j<RA.length),Reads L[j] t.args[j] RA[j]):Reads (.mk k T ts L) t (.mk k T ts RA):=by
 intro S u v w hS hF hT
 obtain ⟨B,d,C,e0,A,c,rfl,hTy,hm,hl⟩:=hF.parts
 obtain ⟨B1,d1,A1,c1,rfl,_,hta⟩:=hT.parts
 simp only [Fm.kind,Fm.type,Fm.terms,Fm.args] at hTy hm hl ⊢
 obtain ⟨W,hW,b3,z3,k0,k1,k2⟩:=three_blks w #[.int .i64 k,.int .i64 T.kind,.slice B T.args.length d,.slice C ts.length e0,.slice A L.length c] #[.int .i64 t.kind,.int .i64 t.index,.int .i64 t.type.kind,.slice B1 t.type.args.length d1,.slice A1 t.args.length c1] #[.int .i64 0,.int .i64 0,.slice none 0 0,.slice none 0 0,.slice none 0 0] 34 42 34
 have HM:=Lib.hid (And.intro hTy (And.intro hm hl))
 have HTA:=Lib.hid hta
 have HB:=Lib.hid (And.intro b3 z3)
 have HS:=Lib.hid hS
 have HK:=Lib.hid (And.intro k0 (And.intro k1 k2))
 have HLN:=Lib.hid (And.intro hlt' hlr')
 have IH:=Lib.hid IH'
 obtain ⟨p0,p1,p2,p3,p4,_⟩:=k0.facts5
 have e1:(k == 1)=false:=by simpa using hk
 clear hF hT hTy hm hl hta b3 z3 k0 k1 k2 hS hk hlt' hlr' IH'
 go_enter Tryz.func145,Tryz.ntmps145
 go_upto_region 1 with fail
 rw [← hW]
 clear hW
 go_wp2_with fail
 refine (cloneF_in S L _ W (fun b h=>Nat.lt_of_lt_of_le (HS.out b h) HB.out.1.size) (by omega) (HM.out.2.2.keep (fun _ h=>h) (fun q hq=>HB.out.1.cell (HS.out _ hq)))).mono ?_
 rintro e w1 ⟨cl,rfl,hown,hb1⟩
 obtain ⟨Ac,cc,rfl⟩:=hown.form
 obtain ⟨W1,hW1,hg1,hz1,kk0⟩:∃ W1,W1=w1.setCell ⟨w.heap.size,4,none⟩ (.slice Ac L.length cc)∧w1.grownBy W1 (some w.heap.size)∧W1.heap.size=w1.heap.size∧Blk W1 w.heap.size 34 #[.int .i64 k,.int .i64 T.kind,.slice B T.args.length d,.slice C ts.length e0,.slice Ac L.length cc]:=
   ⟨_,rfl,only_setCell (p:=⟨w.heap.size,4,none⟩) (only_refl w1 (some w.heap.size)) (.inl rfl) _,by simp,by simpa using (HK.out.1.below hb1 HK.out.1.lt).set_ 4 (.slice Ac L.length cc)⟩
 have hz3:=HB.out.2
 have K0:=Lib.hid kk0
 have K1:=Lib.hid ((HK.out.2.1.below hb1 HK.out.2.1.lt).grown hg1 (by simp))
 have K2:=Lib.hid ((HK.out.2.2.below hb1 HK.out.2.2.lt).grown hg1 (by simp; omega))
 have HWZ:=Lib.hid (show W.heap.size=w.heap.size+3∧W.heap.size≤W1.heap.size from ⟨hz3,by rw [hz1]; exact hb1.size⟩)
 have hbw1:Below w.heap.size w w1:=HB.out.1.trans (hb1.mono HB.out.1.size)
 have HBW:=Lib.hid (hbw1.grown hg1 hbw1.size (fun g e=>by cases e; omega))
 have HOLD:=Lib.hid (show ∀ q:Addr,q.block<w.heap.size→W1.cell? q=w.cell? q from fun q hq=>HBW.out.cell hq)
 have HOZ:=Lib.hid (show FmR.Own (fun b=>S b∨W1.heap.size≤b) W.heap.size (.slice Ac L.length cc) L W1 from (hown.far hg1 (by omega) (fun h=>by have:=HS.out _ h; omega)).mono (fun b h _=>.inl h) (Nat.le_refl _))
 have HW1:=Lib.hid hW1
 obtain ⟨p0,p1,p2,p3,p4,f0,f1,f2,f3,f4⟩:=(HK.out.1.below hb1 HK.out.1.lt).facts5
 clear hown hb1 hW1 hg1 hz1 kk0 hbw1 hz3
 go_upto_region 5 with fail
 rw [← HW1.out]
 clear p0 p1 p2 p3 p4 f0 f1 f2 f3 f4 HW1
 obtain ⟨p0,p1,p2,p3,p4,_⟩:=K0.out.facts5
 go_wp2_with fail
 go_loopw [21] (fun ix wr=>∃ j:Nat,j≤L.length∧ix=.int .i64 j∧FmR.Own (fun b=>S b∨W1.heap.size≤b) W.heap.size (.slice Ac L.length cc) (RA.take j ++ L.drop j) wr∧Turn (fun b=>(Value.slice Ac L.length cc).ownBlock=some b) W1 wr) (fun ix _=>L.length - (intOf ix).toNat)
 case atStart=>exact ⟨0,by omega,rfl,by simpa using HOZ.out,Turn.refl _ _⟩
 case round=>
   obtain ⟨j,hj,rfl,hown,ht⟩:=hrel
   have hlo:=hown.lt
   by_cases hlt:j<L.length
   · have hlen:(RA.take j ++ L.drop j).length=L.length:=by have:=HLN.out.2; rw [List.length_append,List.length_take,List.length_drop]; omega
     have HO:=Lib.hid hown
     obtain ⟨xs,hxo,hxc⟩:=hown
     rw [hlen] at hxo
     obtain ⟨g,cap,hv,hg0,hgl⟩:=hxo.form (by omega)
     simp only [Value.slice.injEq] at hv
     obtain ⟨rfl,_,rfl⟩:=hv
     have hel:(RA.take j ++ L.drop j)[j]'(by omega)=L[j]:=by
       have h1:(RA.take j).length=j:=by have:=HLN.out.2; rw [List.length_take]; omega
       rw [List.getElem_append_right (by omega)]
       simp only [h1,Nat.sub_self,List.getElem_drop,Nat.add_zero]
     obtain ⟨vs,hvs,hx⟩:=hxc.get j (by omega)
     rw [hel] at hx
     obtain ⟨Bx,ex,Px,px,Ax,cx,e5,_⟩:=IsFm.form hx
     simp only [Value.agg.injEq] at e5
     have e5':=congrArg Array.toList e5
     simp only at e5'
     subst e5'
     have hcell:∀ i u,[Value.int .i64 L[j].kind,.int .i64 L[j].type.kind,.slice Bx L[j].type.args.length ex,.slice Px L[j].terms.length px,.slice Ax L[j].args.length cx][i]? = some u→wr.cell? ⟨g,j * 5+i,none⟩ = some u:=fun i u h=>by
       have:=hxo.cells rfl _ _ (hvs i u h)
       have e:(⟨g,0,none⟩:Addr).add (j * 5+i)=⟨g,j * 5+i,none⟩:=by unfold Addr.add; split <;> simp_all
       rw [← e]; exact this
     have q0:=hcell 0 _ rfl
     have q1:=hcell 1 _ rfl
     have q2:=hcell 2 _ rfl
     have q3:=hcell 3 _ rfl
     have q4:=hcell 4 _ rfl
     rw [Nat.add_zero] at q0
     have hjt:j<t.args.length:=by rw [HLN.out.1]; exact hlt
     have hjr:j<RA.length:=by rw [HLN.out.2]; exact hlt
     have hta:TmR.Sl S wr t.args (.slice A1 t.args.length c1):=HTA.out.keep (fun _ h=>h) (fun q hq=>(World.cell?_of_block (ht.block q.block (by have:=HS.out _ hq; have:=HWZ.out; omega) (fun e=>by have e':g=q.block:=Option.some.inj e; have:=HS.out _ hq; have:=HWZ.out; omega))).trans (HOLD.out q (HS.out _ hq)))
     obtain ⟨aq,By,dy,Ay,cy,eaq,hSa,y0,y1,y2,y3,y4,hy⟩:=child_t hta j hjt
     subst eaq
     have HIH:=Lib.hid (IH.out j hlt hjt hjr)
     have HT:=Lib.hid ht
     have HX:=Lib.hid hx
     have HR0:=Lib.hid (ht.blk K0.out (fun e=>by have e':g=w.heap.size:=Option.some.inj e; have:=HWZ.out; omega))
     have HR1:=Lib.hid (ht.blk K1.out (fun e=>by have e':g=w.heap.size+1:=Option.some.inj e; have:=HWZ.out; omega))
     obtain ⟨Y,hY⟩:∃ Y,Y=t.args[j]:=⟨_,rfl⟩
     rw [← hY] at y0 y1 y2 y3 y4 hy HIH
     have HYC0:=Lib.hid (And.intro hSa (And.intro y0 (And.intro y1 (And.intro y2 (And.intro y3 y4)))))
     have HY0:=Lib.hid hy
     clear hx hcell hvs e5 hxo hxc hel hta hy y0 y1 y2 y3 y4 hSa hY hlo
     go_upto_region 8 with fail
     obtain ⟨R,hR,bR,zR,kR⟩:∃ R,R=wr.alloc (.cells #[.int .i64 L[j].kind,.int .i64 L[j].type.kind,.slice Bx L[j].type.args.length ex,.slice Px L[j].terms.length px,.slice Ax L[j].args.length cx] 34)∧Below wr.heap.size wr R∧R.heap.size=wr.heap.size+1∧Blk R wr.heap.size 34 #[.int .i64 L[j].kind,.int .i64 L[j].type.kind,.slice Bx L[j].type.args.length ex,.slice Px L[j].terms.length px,.slice Ax L[j].args.length cx]:=⟨_,rfl,(Below.refl _ _).alloc (Nat.le_refl _) _,by simp,Blk.new _ _ _⟩
     rw [← hR]
     have hszr:=ht.size
     have hgr:g<wr.heap.size:=by have:=(HO.out.lt g rfl).2; exact this
     have HSR:=Lib.hid (show ∀ b,S b→b<R.drew.heap.size from fun b h=>by have h1:=HS.out b h; have h3:=HWZ.out; show b<R.heap.size; omega)
     have K0R:=Lib.hid (HR0.out.below bR HR0.out.lt)
     have K1R:=Lib.hid (HR1.out.below bR HR1.out.lt)
     have K5R:=Lib.hid kR
     have TX:=Lib.hid (show IsFm (fun b=>S b∨(W1.heap.size≤b∧b<R.drew.heap.size∧g≠b)) R.drew L[j] (.agg #[.int .i64 L[j].kind,.int .i64 L[j].type.kind,.slice Bx L[j].type.args.length ex,.slice Px L[j].terms.length px,.slice Ax L[j].args.length cx]) from IsFm.keep (w':=R.drew) (fun b h=>h.1.imp id (fun x=>⟨x,by have:=h.2.1; show b<R.heap.size; omega,fun e=>h.2.2 (by rw [e]; rfl)⟩)) (fun q hq=>bR.cell hq.2.1) _ HX.out)
     have TY:=Lib.hid (show IsTm S R.drew Y (.agg #[.int .i64 Y.kind,.int .i64 Y.index,.int .i64 Y.type.kind,.slice By Y.type.args.length dy,.slice Ay Y.args.length cy]) from IsTm.keep (w':=R.drew) (fun _ h=>h) (fun q hq=>bR.cell (by have h1:=HS.out _ hq; have h3:=HWZ.out; omega)) _ HY0.out)
     have HYC:=Lib.hid (show (aq.add (j * 5)).block<R.drew.heap.size∧R.drew.cell? (aq.add (j * 5))=some (.int .i64 Y.kind)∧R.drew.cell? ⟨(aq.add (j * 5)).block,(aq.add (j * 5)).off+1,none⟩ = some (.int .i64 Y.index)∧R.drew.cell? ⟨(aq.add (j * 5)).block,(aq.add (j * 5)).off+2,none⟩ = some (.int .i64 Y.type.kind)∧R.drew.cell? ⟨(aq.add (j * 5)).block,(aq.add (j * 5)).off+3,none⟩ = some (.slice By Y.type.args.length dy)∧R.drew.cell? ⟨(aq.add (j * 5)).block,(aq.add (j * 5)).off+4,none⟩ = some (.slice Ay Y.args.length cy) from by
       obtain ⟨h0,y0,y1,y2,y3,y4⟩:=HYC0.out
       have hb:(aq.add (j * 5)).block<wr.heap.size:=by rw [add_block]; have h1:=HS.out _ h0; have h3:=HWZ.out; omega
       exact ⟨by show _<R.heap.size; omega,(bR.cell hb).trans y0,(bR.cell (p:=⟨(aq.add (j * 5)).block,(aq.add (j * 5)).off+1,none⟩) hb).trans y1,(bR.cell (p:=⟨(aq.add (j * 5)).block,(aq.add (j * 5)).off+2,none⟩) hb).trans y2,(bR.cell (p:=⟨(aq.add (j * 5)).block,(aq.add (j * 5)).off+3,none⟩) hb).trans y3,(bR.cell (p:=⟨(aq.add (j * 5)).block,(aq.add (j * 5)).off+4,none⟩) hb).trans y4⟩)
     have HBR:=Lib.hid (And.intro bR zR)
     obtain ⟨base,hbase⟩:∃ n,n=R.drew.heap.size:=⟨_,rfl⟩
     have HBS:=Lib.hid hbase
     have HBG:=Lib.hid (show ∀ b,base≤b→W1.heap.size≤b∧g≠b from fun b h=>by have h1:base=R.heap.size:=hbase; omega)
     clear hR bR zR kR hbase q0 q1 q2 q3 q4
     refine wp_region_any (by kernel_rfl) ?_
     change wpAny _ _ _ _ _ _ _ (World.drew _)
     refine wpAny_tail (by kernel_rfl) (by kernel_rfl) () rdA (by kernel_rfl) (fun _=>none) (rdF S W1.heap.size g w.heap.size (w.heap.size+1) (.slice (some ⟨g,0,none⟩) L.length cc) (.agg #[.int .i64 L[j].kind,.int .i64 L[j].type.kind,.slice Bx L[j].type.args.length ex,.slice Px L[j].terms.length px,.slice Ax L[j].args.length cx]) (.slice (some aq) t.args.length c1) (.agg #[.int .i64 Y.kind,.int .i64 Y.index,.int .i64 Y.type.kind,.slice By Y.type.args.length dy,.slice Ay Y.args.length cy]) (aq.add (j * 5)) j RA[j]) 10 (by decide) (by kernel_rfl) (fun _=>False) (fun _=>False) (fun _=>True) _ _ (fun _ h=>h.elim) (fun _ h=>h) trivial ⟨?_,?_,?_,?_,?_,?_,?_,?_,?_,?_,trivial⟩ ?_
     · intro V G L a w1 hp K hK
       exact step_run rfl (run_fieldF3 rfl (hp.slot0 2 (.pointer (some ⟨w.heap.size,0,none⟩)) rfl rfl)) (hK _ () _ (Post.still rfl trivial hp.lt fun L' _=>rfl))
     · intro V G L a w1 hp K hK
       have f0:V 0=.pointer (some ⟨w.heap.size,4,none⟩):=hp.fact 0 rfl
       have e0:=hp.slot 0 26 rfl rfl rfl
       rw [f0] at e0
       exact step_run rfl (run_loadFs rfl e0 (hp.blk0 K0R.out.drew id).facts5.2.2.2.2.1) (hK _ () _ (Post.still rfl trivial hp.lt fun L' _=>rfl))
     · intro V G L a w1 hp K hK
       exact step_run rfl (run_move rfl (hp.slot0 5 _ rfl rfl)) (hK _ () _ (Post.still rfl trivial hp.lt fun L' _=>rfl))
     · intro V G L a w1 hp K hK
       exact step_run rfl (run_load5F rfl (hp.slot0 6 _ rfl rfl) (hp.blk0 K5R.out.drew id)) (hK _ () _ (Post.still rfl trivial hp.lt fun L' _=>rfl))
     · intro V G L a w1 hp K hK
       exact step_run rfl (run_fieldT3 rfl (hp.slot0 3 (.pointer (some ⟨w.heap.size+1,0,none⟩)) rfl rfl)) (hK _ () _ (Post.still rfl trivial hp.lt fun L' _=>rfl))
     · intro V G L a w1 hp K hK
       have f4:V 4=.pointer (some ⟨w.heap.size+1,4,none⟩):=hp.fact 4 rfl
       have e4:=hp.slot 4 30 rfl rfl rfl
       rw [f4] at e4
       exact step_run rfl (run_loadTs rfl e4 (hp.blk0 K1R.out.drew id).facts5.2.2.2.2.1) (hK _ () _ (Post.still rfl trivial hp.lt fun L' _=>rfl))
     · intro V G L a w1 hp K hK
       exact step_run rfl (run_move rfl (hp.slot0 5 _ rfl rfl)) (hK _ () _ (Post.still rfl trivial hp.lt fun L' _=>rfl))
     · intro V G L a w1 hp K hK
       have f5:V 5=.slice (some aq) t.args.length c1:=hp.fact 5 rfl
       have e5:=hp.slot 5 31 rfl rfl rfl
       rw [f5] at e5
       have f6:V 6=.int .i64 (j:Int):=hp.fact 6 rfl
       have e6:=hp.slot 6 32 rfl rfl rfl
       rw [f6] at e6
       exact step_run rfl (run_indexTmA rfl e5 e6 hjt) (hK _ () _ (Post.still rfl trivial hp.lt fun L' _=>rfl))
     · intro V G L a w1 hp K hK
       have f7:V 7=.pointer (some (aq.add (j * 5))):=hp.fact 7 rfl
       have e7:=hp.slot 7 33 rfl rfl rfl
       rw [f7] at e7
       obtain ⟨hq,y0,y1,y2,y3,y4⟩:=HYC.out
       exact step_run rfl (run_loadTmAt rfl e7 ((hp.cell _ ⟨id,hq⟩).trans y0) ((hp.cell ⟨(aq.add (j * 5)).block,(aq.add (j * 5)).off+1,none⟩ ⟨id,hq⟩).trans y1) ((hp.cell ⟨(aq.add (j * 5)).block,(aq.add (j * 5)).off+2,none⟩ ⟨id,hq⟩).trans y2) ((hp.cell ⟨(aq.add (j * 5)).block,(aq.add (j * 5)).off+3,none⟩ ⟨id,hq⟩).trans y3) ((hp.cell ⟨(aq.add (j * 5)).block,(aq.add (j * 5)).off+4,none⟩ ⟨id,hq⟩).trans y4)) (hK _ () _ (Post.still rfl trivial hp.lt fun L' _=>rfl))
     · intro V G L a w1 hp K hK
       have f3:V 3=_:=hp.fact 3 rfl
       have e3:=hp.slot 3 29 rfl rfl rfl
       rw [f3] at e3
       have f8:V 8=_:=hp.fact 8 rfl
       have e8:=hp.slot 8 34 rfl rfl rfl
       rw [f8] at e8
       have hsz:=hp.grown.size
       refine step_call rfl _ _ _ rfl _ (by simp only [List.map_toArray,List.map_cons,List.map_nil,e3,e8]) (enters_of Tryz.func145 (by kernel_rfl) rfl) (HIH.out (fun b=>S b∨(W1.heap.size≤b∧b<R.drew.heap.size∧g≠b)) _ _ w1 (fun b h=>h.elim (fun h=>Nat.lt_of_lt_of_le (HSR.out b h) hsz) (fun h=>Nat.lt_of_lt_of_le h.2.1 hsz)) (IsFm.keep (w:=R.drew) (fun _ h=>h) (fun q hq=>hp.cell q ⟨id,hq.elim (HSR.out _) (fun h=>h.2.1)⟩) _ TX.out) (IsTm.keep (w:=R.drew) (fun _ h=>.inl h) (fun q hq=>hp.cell q ⟨id,HSR.out _ hq⟩) _ TY.out)) ?_
       rintro e w' ⟨v,rfl,hv,hb⟩
       exact ⟨_,rfl,hK _ () _ (Post.of rfl (Turn.call hb) trivial hp.lt fun L' hg hn=>⟨IsFm.keep (fun b h=>⟨h.1.elim (fun x=>hg b (hp.good b ⟨id,x.elim (HSR.out b) (fun y=>y.2.1)⟩)) (fun x=>hn b x h.2),h.1.elim (fun x=>x.imp id (fun y=>⟨y.1,y.2.2⟩)) (fun x=>.inr (by have h1:=Nat.le_trans (hp.base_le (Nat.le_of_eq HBS.out)) x; exact HBG.out b h1))⟩) (fun _ _=>rfl) _ hv,trivial⟩)⟩
     · intro V G L' a w6 hp ha
       have f9:IsFm (fun b=>Good L' w6 b∧(S b∨(W1.heap.size≤b∧g≠b))) w6 RA[j] (V 9)∧True:=hp.fact 9 rfl
       have f1:V 1=_:=hp.fact 1 rfl
       have f2:V 2=_:=hp.fact 2 rfl
       have e1:=hp.slot 1 27 rfl rfl rfl
       have e2:=hp.slot 2 28 rfl rfl rfl
       have e9:=hp.slot 9 35 rfl rfl rfl
       rw [f1] at e1
       rw [f2] at e2
       have hg:=hp.grown
       obtain ⟨U,hU⟩:∃ U,U=RA[j]:=⟨_,rfl⟩
       rw [← hU] at f9
       obtain ⟨B9,d9,C9,e9',A9,c9,h9,_⟩:=f9.1.form
       rw [h9] at e9 f9
       have b6:Below wr.heap.size wr w6:=HBR.out.1.trans (Below.mono (show Below R.heap.size R w6 from ⟨hg.os,hg.tape,hg.output,hg.size,fun k hk=>hg.block k hk id⟩) HBR.out.1.size)
       obtain ⟨xs6,hxo6,hxc6⟩:=HO.out.below b6
       obtain ⟨l6,hl6⟩:∃ l6,l6=RA.take j ++ L.drop j:=⟨_,rfl⟩
       rw [← hl6] at hxo6 hxc6 hlen
       rw [hlen] at hxo6
       refine tail_run rfl (run_indexFm rfl e1 e2 hlt) ?_
       obtain ⟨⟨u0,h0⟩,g0⟩:=row_cells hxo6 hlt (j * 5) (by omega) (by omega)
       obtain ⟨⟨u1,h1⟩,g1⟩:=row_cells hxo6 hlt (j * 5+1) (by omega) (by omega)
       obtain ⟨⟨u2,h2⟩,g2⟩:=row_cells hxo6 hlt (j * 5+2) (by omega) (by omega)
       obtain ⟨⟨u3,h3⟩,g3⟩:=row_cells hxo6 hlt (j * 5+3) (by omega) (by omega)
       obtain ⟨⟨u4,h4⟩,g4⟩:=row_cells hxo6 hlt (j * 5+4) (by omega) (by omega)
       have hsize:36<a.tmps.size:=by rw [ha]; exact of_decide_eq_true (by kernel_rfl)
       have e4':(a.put (some 36) (.pointer (some ⟨g,j * 5,none⟩))).eval (.tmp 35)=.agg #[.int .i64 U.kind,.int .i64 U.type.kind,.slice B9 U.type.args.length d9,.slice C9 U.terms.length e9',.slice A9 U.args.length c9]:=by
         rw [← e9]; show (a.put _ _).tmps.getD 35 undef=a.tmps.getD 35 undef
         simp [Act.put,Array.getD_eq_getD_getElem?]
       have e5':(a.put (some 36) (.pointer (some ⟨g,j * 5,none⟩))).eval (.tmp 36)=.pointer (some ⟨g,j * 5,none⟩):=by
         show (a.put _ _).tmps.getD 36 undef=_
         simp [Act.put,Array.getD_eq_getD_getElem?,hsize]
       refine tail_skip rfl (run_storeFAt rfl e5' e4' rfl rfl rfl rfl rfl h0 h1 h2 h3 h4 g0 g1 g2 g3 g4) ?_
       refine tail_end ?_
       have hs:=row_set5F (S:=fun b=>S b∨W1.heap.size≤b) (base:=W.heap.size) (g:=g) (cap:=cc) (j:=j) (w:=w6) (l:=l6) (U:=U) (xs:=xs6) (x0:=.int .i64 U.kind) (x1:=.int .i64 U.type.kind) (x2:=.slice B9 U.type.args.length d9) (x3:=.slice C9 U.terms.length e9') (x4:=.slice A9 U.args.length c9)
         (by rw [hlen]; exact hlt) (by rw [hlen]; exact hxo6) (by rw [hlen]; exact hxc6)
         (IsFm.keep (fun b h=>⟨h.2.imp id And.left,h.1.2,fun e=>h.2.elim (fun x=>by have h5:=HS.out b x; have h6:=HWZ.out; omega) (fun x=>x.2 e)⟩) (fun _ _=>rfl) _ f9.1)
       rw [hlen] at hs
       have hset:l6.set j U=RA.take (j+1) ++ L.drop (j+1):=by rw [hl6,hU]; exact take_set RA L j hlt hjr
       rw [hset] at hs
       have HEND:=Lib.hid (And.intro hs.1 (show Turn (fun b=>(Value.slice (some ⟨g,0,none⟩) L.length cc).ownBlock=some b) W1 _ from (HT.out.trans (Turn.call b6)).trans (Turn.grown hs.2 fun k e=>by cases e; rfl)))
       rw [ha]
       simp only [putFrom,dstOf,Act.put,List.getElem?_toArray,List.getElem?_cons_zero,List.getElem?_cons_succ,List.setIfInBounds_toArray,List.set_cons_zero,List.set_cons_succ,f1,f2,h9]
       clear hp ha f9 f1 f2 e1 e2 e9 hg b6 hxo6 hxc6 h0 h1 h2 h3 h4 g0 g1 g2 g3 g4 e4' e5' hs hset hl6 hlen h9 hU hsize
       generalize V 0=v0
       generalize V 3=v3
       generalize V 4=v4
       generalize V 5=v5
       generalize V 6=v6
       generalize V 7=v7
       generalize V 8=v8
       go_wp2_with fail
       exact ⟨⟨j+1,by omega,by go_num,HEND.out.1,HEND.out.2⟩,by simp [intOf]; omega⟩
   · obtain rfl:j=L.length:=by omega
     have k0r:=ht.blk K0.out (fun e=>by have:=(hlo _ e).1; have:=HWZ.out; omega)
     have k2r:=ht.blk K2.out (fun e=>by have:=(hlo _ e).1; have:=HWZ.out; omega)
     obtain ⟨q0,q1,q2,q3,q4,_⟩:=k0r.facts5
     obtain ⟨_,_,_,_,_,f0,f1,f2,f3,f4⟩:=k2r.facts5
     have HE:=Lib.hid (And.intro k2r (And.intro hown ht))
     have HLO:=Lib.hid hlo
     clear hown ht k0r k2r hlo
     go_wp2_with fail
     obtain ⟨z0,z1,z2,z3,z4⟩:=(HE.out.1.set5 (.int .i64 k) (.int .i64 T.kind) (.slice B T.args.length d) (.slice C ts.length e0) (.slice Ac L.length cc)).cells5
     have hg:=only_set5 wr (w.heap.size+1+1) (.int .i64 k) (.int .i64 T.kind) (.slice B T.args.length d) (.slice C ts.length e0) (.slice Ac L.length cc)
     refine bodyPost_ret (v:=.agg #[.int .i64 k,.int .i64 T.kind,.slice B T.args.length d,.slice C ts.length e0,.slice Ac L.length cc]) (by simp [results,Tryz.results145,go_sem,z0,z1,z2,z3,z4]) rfl ⟨_,rfl,?_,?_⟩
     · have hz:=HWZ.out
       have ho:=HE.out.2.1
       have hts:=HE.out.2.2.size
       rw [show RA.take L.length ++ L.drop L.length=RA from by rw [List.drop_length,List.append_nil,← HLN.out.2,List.take_length]] at ho
       have hold:∀ q:Addr,S q.block→(((((wr.setCell ⟨w.heap.size+1+1,0,none⟩ (.int .i64 k)).setCell ⟨w.heap.size+1+1,1,none⟩ (.int .i64 T.kind)).setCell ⟨w.heap.size+1+1,2,none⟩ (.slice B T.args.length d)).setCell ⟨w.heap.size+1+1,3,none⟩ (.slice C ts.length e0)).setCell ⟨w.heap.size+1+1,4,none⟩ (.slice Ac L.length cc)).cell? q=w.cell? q:=fun q hq=>(World.cell?_of_block (hg.block q.block (by have:=HS.out _ hq; omega) (by have:=HS.out _ hq; simp; omega))).trans ((World.cell?_of_block (HE.out.2.2.block q.block (by have:=HS.out _ hq; omega) (fun e=>by have:=(HLO.out _ e).1; have:=HS.out _ hq; omega))).trans (HOLD.out q (HS.out _ hq)))
       have hin:∀ b,S b→(S b∨w.heap.size≤b)∧b<(((((wr.setCell ⟨w.heap.size+1+1,0,none⟩ (.int .i64 k)).setCell ⟨w.heap.size+1+1,1,none⟩ (.int .i64 T.kind)).setCell ⟨w.heap.size+1+1,2,none⟩ (.slice B T.args.length d)).setCell ⟨w.heap.size+1+1,3,none⟩ (.slice C ts.length e0)).setCell ⟨w.heap.size+1+1,4,none⟩ (.slice Ac L.length cc)).heap.size:=fun b h=>⟨.inl h,by have:=HS.out b h; have:=hg.size; omega⟩
       refine isFm_iff.2 ⟨rfl,IsTy.keep hin hold _ HM.out.1,HM.out.2.1.keep hin hold,?_⟩
       exact Rep.Sl.keep (fun b h=>⟨h.1.elim (fun x=>x.imp id (fun y=>by omega)) (fun x=>.inr (by have:=(HLO.out _ x).1; omega)),Nat.lt_of_lt_of_le h.2 hg.size⟩) (fun q hq=>World.cell?_of_block (hg.block q.block hq.2 (by have h1:=hq.1; simp; rcases h1 with (h1 | h1) | h1; (have:=HS.out _ h1; omega); omega; (have:=(HLO.out _ h1).1; omega)))) (Own.slw ho)
     · have h1:Below w.heap.size w wr:=HBW.out.trans (HE.out.2.2.toBelow (fun k hk e=>by have:=(HLO.out _ e).1; have:=HWZ.out; omega) HBW.out.size)
       exact h1.grown hg h1.size (fun g e=>by cases e; omega)
end Go.Proofs.YtipfnkajdooiiaaGreatDoor
namespace Go.Proofs.YtipfnkajdooiiaaGreatDoor
open Go.RowKit

/-- r is f with the terms that t, a term of f's shape, has in their places. -/
inductive ReadF:Fm→Tm→Fm→Prop
 | eq (s t:Tm) (x y:Tm):ReadF (.mk 1 .zero [s,t] []) (.mk 10 0 .zero [x,y]) (.mk 1 .zero [x,y] [])
 | two (k:Int) (f g:Fm) (s t:Tm) (r q:Fm) (hk:k=2∨k=3) (hf:ReadF f s r) (hg:ReadF g t q):ReadF (.mk k .zero [] [f,g]) (.mk 10 0 .zero [s,t]) (.mk k .zero [] [r,q])
 | quant (k:Int) (T:Ty) (f:Fm) (s:Tm) (r:Fm) (hk:k=4∨k=5∨k=6∨k=7) (hf:ReadF f s r):ReadF (.mk k T [] [f]) (.mk 2 0 T [s]) (.mk k T [] [r])
set_option maxRecDepth 100000 in
set_option maxHeartbeats 4000000 in
theorem reread_eq (s t x y:Tm):Reads (.mk 1 .zero [s,t] []) (.mk 10 0 .zero [x,y]) (.mk 1 .zero [x,y] []):=by
 intro S u v w hS hF hT
 obtain ⟨B,d,C,e0,A,c,rfl,hTy,hm,hl⟩:=hF.parts
 obtain ⟨B1,d1,A1,c1,rfl,_,hta⟩:=hT.zero_parts
 simp only [Fm.kind,Fm.type,Fm.terms,Fm.args,List.length_cons,List.length_nil,Nat.zero_add,Nat.reduceAdd] at hTy hta ⊢
 obtain ⟨W,hW,b3,z3,k0,k1,k2⟩:=three_blks w #[.int .i64 1,.int .i64 Ty.zero.kind,.slice B Ty.zero.args.length d,.slice C 2 e0,.slice A 0 c] #[.int .i64 10,.int .i64 0,.int .i64 0,.slice B1 0 d1,.slice A1 2 c1] #[.int .i64 0,.int .i64 0,.slice none 0 0,.slice none 0 0,.slice none 0 0] 34 42 34
 have HTA:=Lib.hid (And.intro hTy hta)
 have HB:=Lib.hid (And.intro b3 z3)
 have HS:=Lib.hid hS
 have hz3:=z3
 obtain ⟨p0,p1,p2,p3,p4,g0,g1,g2,g3,g4⟩:=k0.facts5
 obtain ⟨q0,q1,q2,q3,q4,_⟩:=k1.facts5
 obtain ⟨_,_,_,_,_,f0,f1,f2,f3,f4⟩:=k2.facts5
 have HK:=Lib.hid (And.intro k0 k2)
 clear hF hT hTy hm hl hta b3 z3 k0 k1 k2 hS
 go_enter Tryz.func145,Tryz.ntmps145
 go_upto_region 1 with fail
 rw [← hW]
 clear hW
 obtain ⟨W1,hW1,hg1,hz1,kk0⟩:∃ W1,W1=W.setCell ⟨w.heap.size,3,none⟩ (.slice A1 2 c1)∧W.grownBy W1 (some w.heap.size)∧W1.heap.size=W.heap.size∧Blk W1 w.heap.size 34 #[.int .i64 1,.int .i64 Ty.zero.kind,.slice B Ty.zero.args.length d,.slice A1 2 c1,.slice A 0 c]:=
   ⟨_,rfl,only_setCell (p:=⟨w.heap.size,3,none⟩) (only_refl W (some w.heap.size)) (.inl rfl) _,by simp,by simpa using HK.out.1.set_ 3 (.slice A1 2 c1)⟩
 have K2:=Lib.hid (HK.out.2.grown hg1 (by simp; omega))
 have K0:=Lib.hid kk0
 have HG1:=Lib.hid (And.intro hg1 hz1)
 have HW1:=Lib.hid hW1
 clear hg1 hz1 kk0 hW1
 go_upto_region 3 with fail
 rw [← HW1.out]
 clear p0 p1 p2 p3 p4 g0 g1 g2 g3 g4 q0 q1 q2 q3 q4 f0 f1 f2 f3 f4 HW1
 obtain ⟨p0,p1,p2,p3,p4,_⟩:=K0.out.facts5
 obtain ⟨_,_,_,_,_,f0,f1,f2,f3,f4⟩:=K2.out.facts5
 go_wp2_with fail
 obtain ⟨z0,z1,z2,z3,z4⟩:=(K2.out.set5 (.int .i64 1) (.int .i64 Ty.zero.kind) (.slice B Ty.zero.args.length d) (.slice A1 2 c1) (.slice A 0 c)).cells5
 have hg:=only_set5 W1 (w.heap.size+1+1) (.int .i64 1) (.int .i64 Ty.zero.kind) (.slice B Ty.zero.args.length d) (.slice A1 2 c1) (.slice A 0 c)
 refine bodyPost_ret (v:=.agg #[.int .i64 1,.int .i64 Ty.zero.kind,.slice B Ty.zero.args.length d,.slice A1 2 c1,.slice A 0 c]) (by simp [results,Tryz.results145,go_sem,z0,z1,z2,z3,z4]) rfl ⟨_,rfl,?_,?_⟩
 · have hz1:=HG1.out.2
   obtain ⟨W2,hW2⟩:∃ W2,W2=(((((W1.setCell ⟨w.heap.size+1+1,0,none⟩ (.int .i64 1)).setCell ⟨w.heap.size+1+1,1,none⟩ (.int .i64 Ty.zero.kind)).setCell ⟨w.heap.size+1+1,2,none⟩ (.slice B Ty.zero.args.length d)).setCell ⟨w.heap.size+1+1,3,none⟩ (.slice A1 2 c1)).setCell ⟨w.heap.size+1+1,4,none⟩ (.slice A 0 c)):=⟨_,rfl⟩
   rw [← hW2] at hg ⊢
   have hold:∀ q:Addr,S q.block→W2.cell? q=w.cell? q:=fun q hq=>(World.cell?_of_block (hg.block q.block (by have:=HS.out _ hq; omega) (by have:=HS.out _ hq; simp; omega))).trans ((World.cell?_of_block (HG1.out.1.block q.block (by have:=HS.out _ hq; omega) (by have:=HS.out _ hq; simp; omega))).trans (HB.out.1.cell (HS.out _ hq)))
   have hin:∀ b,S b→(S b∨w.heap.size≤b)∧b<W2.heap.size:=fun b h=>⟨.inl h,by have:=HS.out b h; have:=hg.size; omega⟩
   exact isFm_iff.2 ⟨rfl,IsTy.keep hin hold _ HTA.out.1,HTA.out.2.keep hin hold,⟨A,c,rfl,fun h=>absurd rfl h⟩⟩
 · have h1:Below w.heap.size w W1:=HB.out.1.grown HG1.out.1 HB.out.1.size (fun g e=>by cases e; omega)
   exact h1.grown hg h1.size (fun g e=>by cases e; omega)
/-- The contract of formula.reread. -/
theorem reread_any {f:Fm} {t:Tm} {r:Fm} (h:ReadF f t r):Reads f t r:=by
 induction h with
 | eq s t x y=>exact reread_eq s t x y
 | two k f g s t r q hk _ _ ihf ihg=>
   refine reread_node k .zero [] [f,g] (.mk 10 0 .zero [s,t]) [r,q] (by omega) rfl rfl (by simp) fun j h h2 h3=>?_
   match j,h,h2,h3 with
   | 0,_,_,_=>exact ihf
   | 1,_,_,_=>exact ihg
 | quant k T f s r hk _ ih=>
   refine reread_node k T [] [f] (.mk 2 0 T [s]) [r] (by omega) rfl rfl (by simp) fun j h h2 h3=>?_
   match j,h,h2,h3 with
   | 0,_,_,_=>exact ih
/-- What is read again is the formula of the term. -/
theorem ReadF.asTm {f:Fm} {t:Tm} {r:Fm} (h:ReadF f t r):r.asTm=t:=by
 induction h with
 | eq s t x y=>rw [Fm.asTm,if_pos rfl]
 | two k f g s t r q hk _ _ ihf ihg=>rw [Fm.asTm,if_neg (by omega),if_pos hk]; simp only [asTmAll,ihf,ihg]
 | quant k T f s r hk _ ih=>rw [Fm.asTm,if_neg (by omega),if_neg (by omega)]; simp only [asTmAll,ih]
end Go.Proofs.YtipfnkajdooiiaaGreatDoor
