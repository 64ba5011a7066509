/- The second form of Same on types. -/
import Derived.Test.YtipfnkajdooiiaaGreatDoorQPackTyp
namespace Go.Proofs.YtipfnkajdooiiaaGreatDoor
open Go.RowKit

theorem kind_mk_ (k:Int) (l:List Ty):(Ty.mk k l).kind=k:=rfl
theorem args_mk_ (k:Int) (l:List Ty):(Ty.mk k l).args=l:=rfl

mutual
def Ty.eqb:Ty→Ty→Bool
 | .mk k l,.mk k' l'=>k == k' && eqbAll l l'
def eqbAll:List Ty→List Ty→Bool
 | [],[]=>true
 | a :: r,b :: s=>a.eqb b && eqbAll r s
 | _,_=>false
end
mutual
theorem eqb_iff:∀ S T:Ty,S.eqb T=true↔S=T
 | .mk k l,.mk k' l'=>by
   simp only [Ty.eqb,Bool.and_eq_true,beq_iff_eq,eqbAll_iff l l',Ty.mk.injEq]
theorem eqbAll_iff:∀ l m:List Ty,eqbAll l m=true↔l=m
 | [],[]=>by simp [eqbAll]
 | a :: r,b :: s=>by simp only [eqbAll,Bool.and_eq_true,eqb_iff a b,eqbAll_iff r s,List.cons.injEq]
 | [],_ :: _=>by simp [eqbAll]
 | _ :: _,[]=>by simp [eqbAll]
end
theorem eqb_self (T:Ty):T.eqb T=true:=(eqb_iff T T).2 rfl
theorem eqbAll_len:∀ {l m:List Ty},eqbAll l m=true→l.length=m.length:=fun h=>by rw [(eqbAll_iff _ _).1 h]
theorem eqbAll_at {l m:List Ty} (i:Nat) (hi:i<l.length) (hm:i<m.length) (h:eqbAll l m=true):l[i].eqb m[i]=true:=by
 have:=(eqbAll_iff _ _).1 h
 subst this
 exact eqb_self _
theorem eqbAll_of {l m:List Ty} (hl:l.length=m.length) (h:∀ i (hi:i<l.length) (hm:i<m.length),l[i].eqb m[i]=true):eqbAll l m=true:=
 (eqbAll_iff _ _).2 (List.ext_getElem hl fun i h1 h2=>(eqb_iff _ _).1 (h i h1 h2))
theorem eqb_mk (k k':Int) (l m:List Ty):(Ty.mk k l).eqb (.mk k' m)=(k == k' && eqbAll l m):=by simp only [Ty.eqb]

set_option maxRecDepth 100000 in
set_option maxHeartbeats 4000000 in
theorem refSame_any (n:Nat):∀ (S T:Ty) (u v:Value) (w:World),S.nodes≤n→n≤400000→IsTy (· < w.heap.size) w S u→IsTy (· < w.heap.size) w T v→T.nodes≤400000 →
   Calls Tryz.prog 71 #[u,v] w fun e w'=>e=.returned (.bool (S.eqb T))∧Below w.heap.size w w':=by
 induction n with
 | zero=>intro S; have:=nodes_pos S; omega
 | succ n ih=>
   intro S T u v w hn hb hS hT hlT
   obtain ⟨A,c,rfl⟩:=hS.form
   obtain ⟨B,d,rfl⟩:=hT.form
   obtain ⟨k,l⟩:=S
   obtain ⟨k',m⟩:=T
   simp only [kind_mk_,args_mk_] at *
   obtain ⟨_,hl⟩:=hS.sl
   obtain ⟨_,hm⟩:=hT.sl
   simp only [args_mk_] at hl hm
   simp only [Ty.nodes] at hn
   have hll:=nodesAll_len l
   have IH:=Lib.hid ih
   have HL:=Lib.hid hl
   have HM:=Lib.hid hm
   obtain ⟨b1,z1,k1⟩:=new_blk (Below.refl w.heap.size w) (Nat.le_refl _) #[.int .i64 k,.slice A l.length c] 30
   obtain ⟨b2,z2,k2⟩:=new_blk b1 b1.size #[.int .i64 k',.slice B m.length d] 30
   have k1:=k1.alloc (Obj.cells #[.int .i64 k',.slice B m.length d] 30)
   rw [z1] at k2 z2
   obtain ⟨W,hW⟩:∃ W,W=(w.alloc (Obj.cells #[.int .i64 k,.slice A l.length c] 30)).alloc (Obj.cells #[.int .i64 k',.slice B m.length d] 30):=⟨_,rfl⟩
   rw [← hW] at b2 z2 k1 k2
   clear hS hT hl hm ih b1 z1
   by_cases hk:k=k'
   · have e1:(k != k')=false:=by simp [hk]
     have HK:=Lib.hid hk
     clear hk
     by_cases hlm:l.length=m.length
     · have e2:((l.length:Int) != (m.length:Int))=false:=by rw [hlm]; simp
       have HLM:=Lib.hid hlm
       clear hlm
       go_enter Tryz.func71,Tryz.ntmps71
       go_wp2_with fail
       rw [← hW]
       clear hW
       go_loopw [23] (fun ix wr=>∃ j:Nat,j≤l.length∧ix=.int .i64 j∧(∀ i (hi:i<l.length) (hm:i<m.length),i<j→l[i].eqb m[i]=true)∧Below W.heap.size W wr)
         (fun ix _=>l.length - (intOf ix).toNat)
       case atStart=>exact ⟨0,by omega,rfl,fun i _ _ h=>by omega,Below.refl _ _⟩
       case round=>
         obtain ⟨j,hj,rfl,hso,hbel⟩:=hrel
         have hws:=hbel.size
         have hB2:Below w.heap.size w wr:=b2.trans (hbel.mono b2.size)
         have HSO:=Lib.hid hso
         clear hso
         by_cases hlt:j<l.length
         · have hltm:j<m.length:=by have:=HLM.out; omega
           have hl1:TyR.Sl (· < w.heap.size) wr l (.slice A l.length c):=HL.out.keep (fun _ h=>h) (fun p hp=>hB2.cell hp)
           have hm1:TyR.Sl (· < w.heap.size) wr m (.slice B m.length d):=HM.out.keep (fun _ h=>h) (fun p hp=>hB2.cell hp)
           obtain ⟨a,rfl,ha,hat⟩:=hl1.get j hlt
           obtain ⟨a',rfl,ha',hat'⟩:=hm1.get j hltm
           obtain ⟨A1,c1,q0,q1,hx⟩:=at_ty hat
           obtain ⟨B1,d1,r0,r1,hy⟩:=at_ty hat'
           simp only [show TyR.n=2 from rfl] at q0 q1 r0 r1
           have hnj:=nodesAll_get l j hlt
           have hmj:=nodesAll_get m j hltm
           have hmn:nodesAll m≤400000:=by simp only [Ty.nodes] at hlT; omega
           have hab:(a.add (j * 2)).block<w.heap.size:=by rw [add_block]; exact ha
           have hab':(a'.add (j * 2)).block<w.heap.size:=by rw [add_block]; exact ha'
           have k1:=k1.below hbel k1.lt
           have k2:=k2.below hbel k2.lt
           have HSK:=Lib.hid fun (w1:World) (h:Below wr.heap.size wr w1)=>And.intro h (And.intro (k1.below h k1.lt).facts2.2.1 (And.intro (k2.below h k2.lt).facts2.2.1
             (And.intro ((h.cell (p:=a.add (j * 2)) (by omega)).trans q0) (And.intro ((h.cell (p:=⟨(a.add (j * 2)).block,(a.add (j * 2)).off+1,none⟩) (by show (a.add (j * 2)).block<_; omega)).trans q1)
               (And.intro ((h.cell (p:=a'.add (j * 2)) (by omega)).trans r0) ((h.cell (p:=⟨(a'.add (j * 2)).block,(a'.add (j * 2)).off+1,none⟩) (by show (a'.add (j * 2)).block<_; omega)).trans r1))))))
           have arm:∀ b,l[j].eqb m[j]=b→Calls Tryz.prog 71 #[.agg #[.int .i64 l[j].kind,.slice A1 l[j].args.length c1],.agg #[.int .i64 m[j].kind,.slice B1 m[j].args.length d1]] wr.drew
               fun e w'=>e=.returned (.bool b)∧Below wr.heap.size wr w':=fun b hbb=>by
             subst hbb
             refine (IH.out l[j] m[j] _ _ wr.drew (by omega) (by omega) (IsTy.keep (fun b h=>Nat.lt_of_lt_of_le h hB2.size) (fun p _=>World.cell?_drew _ p) _ hx) (IsTy.keep (fun b h=>Nat.lt_of_lt_of_le h hB2.size) (fun p _=>World.cell?_drew _ p) _ hy) (by omega)).mono ?_
             rintro e w1 ⟨h1,h2⟩
             exact ⟨h1,((Below.refl _ wr).drew).trans h2⟩
           by_cases hs:l[j].eqb m[j]=true
           · have HS:=Lib.hid hs
             have ARM:=Lib.hid (arm true hs)
             clear arm hs
             obtain ⟨_,q5,q6,_⟩:=HSK.out wr (Below.refl _ _)
             clear hl1 hm1 hat hat' hx hy k1 k2 HL HM
             go_wp2_with fail
             go_region_held3 (fun w'=>Below wr.heap.size wr w'∧w'.cell? ⟨w.heap.size,1,none⟩ = some (.slice (some a) l.length c)∧w'.cell? ⟨w.heap.size+1,1,none⟩ = some (.slice (some a') m.length d) ∧
                 w'.cell? (a.add (j * 2))=some (.int .i64 l[j].kind)∧w'.cell? ⟨(a.add (j * 2)).block,(a.add (j * 2)).off+1,none⟩ = some (.slice A1 l[j].args.length c1) ∧
                 w'.cell? (a'.add (j * 2))=some (.int .i64 m[j].kind)∧w'.cell? ⟨(a'.add (j * 2)).block,(a'.add (j * 2)).off+1,none⟩ = some (.slice B1 m[j].args.length d1))
               (first | exact HSK.out _ (Below.refl _ _).drew | exact HSK.out _ hb1 | go_keep)
               (first
                 | (go_at_call 71
                    (with_reducible refine ARM.out.mono ?_)
                    rintro e w1 ⟨rfl,hb1⟩))
             go_wp2_with fail
             refine ⟨⟨j+1,by omega,by go_num,?_,hbel.trans (hb1.mono hws)⟩,by simp [intOf]; omega⟩
             intro i hi hm hij
             by_cases e:i=j
             · subst e; exact HS.out
             · exact HSO.out i hi hm (by omega)
           · have hs:l[j].eqb m[j]=false:=by simpa using hs
             have HS:=Lib.hid hs
             have ARM:=Lib.hid (arm false hs)
             clear arm hs
             obtain ⟨_,q5,q6,_⟩:=HSK.out wr (Below.refl _ _)
             clear hl1 hm1 hat hat' hx hy k1 k2 HL HM
             go_wp2_with fail
             go_region_held3 (fun w'=>Below wr.heap.size wr w'∧w'.cell? ⟨w.heap.size,1,none⟩ = some (.slice (some a) l.length c)∧w'.cell? ⟨w.heap.size+1,1,none⟩ = some (.slice (some a') m.length d) ∧
                 w'.cell? (a.add (j * 2))=some (.int .i64 l[j].kind)∧w'.cell? ⟨(a.add (j * 2)).block,(a.add (j * 2)).off+1,none⟩ = some (.slice A1 l[j].args.length c1) ∧
                 w'.cell? (a'.add (j * 2))=some (.int .i64 m[j].kind)∧w'.cell? ⟨(a'.add (j * 2)).block,(a'.add (j * 2)).off+1,none⟩ = some (.slice B1 m[j].args.length d1))
               (first | exact HSK.out _ (Below.refl _ _).drew | exact HSK.out _ hb1 | go_keep)
               (first
                 | (go_at_call 71
                    (with_reducible refine ARM.out.mono ?_)
                    rintro e w1 ⟨rfl,hb1⟩))
             go_wp2_with fail
             go_ret
             have hf:(Ty.mk k l).eqb (.mk k' m)=false:=by
               rw [eqb_mk,Bool.and_eq_false_iff]
               right
               cases h:eqbAll l m with
               | false=>rfl
               | true=>have:=eqbAll_at j hlt hltm h; rw [HS.out] at this; cases this
             exact ⟨by rw [hf]; rfl,b2.trans ((hbel.trans (hb1.mono hws)).mono b2.size)⟩
         · have hjl:j=l.length:=by omega
           subst hjl
           go_wp2_with fail
           go_ret
           exact ⟨by rw [eqb_mk,eqbAll_of HLM.out (fun i hi hm=>HSO.out i hi hm hi),HK.out]; simp,hB2⟩
     · have e2:((l.length:Int) != (m.length:Int))=true:=by rw [bne_iff_ne]; omega
       have hf:(Ty.mk k l).eqb (.mk k' m)=false:=by
         rw [eqb_mk,Bool.and_eq_false_iff]
         right
         cases h:eqbAll l m with
         | false=>rfl
         | true=>exact absurd (eqbAll_len h) hlm
       rw [hf]
       clear hf hlm
       go_enter Tryz.func71,Tryz.ntmps71
       go_wp2_with fail
       go_ret
       rw [← hW]
       exact ⟨rfl,b2⟩
   · have e1:(k != k')=true:=by simp [hk]
     have hf:(Ty.mk k l).eqb (.mk k' m)=false:=by
       rw [eqb_mk,Bool.and_eq_false_iff]
       left
       simp [hk]
     rw [hf]
     clear hf hk
     go_enter Tryz.func71,Tryz.ntmps71
     go_wp2_with fail
     go_ret
     rw [← hW]
     exact ⟨rfl,b2⟩
end Go.Proofs.YtipfnkajdooiiaaGreatDoor
