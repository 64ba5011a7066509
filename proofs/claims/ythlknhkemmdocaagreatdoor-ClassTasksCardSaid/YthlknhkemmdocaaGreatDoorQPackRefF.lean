/- ref07.Count: the nodes of a formula. -/
import Derived.Test.YthlknhkemmdocaaGreatDoorQPackFml
import Derived.Test.YthlknhkemmdocaaGreatDoorQPackRef
import Derived.Test.YthlknhkemmdocaaGreatDoorQPackSubst
import Derived.Deep.AppendLies
import Derived.Deep.RegionLaw
import Derived.Test.YthlknhkemmdocaaGreatDoorQMakeT
import Derived.Test.YthlknhkemmdocaaGreatDoorQFormedT
import Derived.Deep.RegionHeld3
namespace Go.Proofs.YthlknhkemmdocaaGreatDoor
open Go.RowKit

theorem sizeF_take (l:List Fm) (j:Nat) (h:j<l.length):sizeAllF (l.take (j+1))=sizeAllF (l.take j)+l[j].size:=by
  rw [List.take_succ_eq_append_getElem h,sizeAllF_append]
  simp only [sizeAllF]
  omega
theorem sizeF_take_le (l:List Fm) (j:Nat):sizeAllF (l.take j)≤sizeAllF l:=by
  have:=sizeAllF_append (l.take j) (l.drop j)
  rw [List.take_append_drop] at this
  omega
mutual
theorem sizeF_bulk:∀ t:Fm,t.size≤t.bulk
  | .mk k T m l=>by have:=sizeAllF_bulk l; have:=sizeAll_bulk m; simp only [Fm.size,Fm.bulk]; omega
theorem sizeAllF_bulk:∀ l:List Fm,sizeAllF l≤bulkAllF l
  | []=>by simp [sizeAllF,bulkAllF]
  | t :: r=>by have:=sizeF_bulk t; have:=sizeAllF_bulk r; simp only [sizeAllF,bulkAllF]; omega
end
theorem bulkF_one {l:List Fm}:∀ i (h:i<l.length),l[i].bulk≤bulkAllF l:=by
  induction l with
  | nil=>intro i h; simp at h
  | cons t r ih=>
    intro i h
    cases i with
    | zero=>simp [bulkAllF]
    | succ i=>
      have:=ih i (by simpa using h)
      simp only [bulkAllF,List.getElem_cons_succ]
      omega
theorem bulkF_one_pos (t:Fm):1≤t.bulk:=by cases t; simp only [Fm.bulk]; omega
theorem bulkF_count:∀ l:List Fm,l.length≤bulkAllF l
  | []=>by simp [bulkAllF]
  | t :: r=>by
    have:=bulkF_count r
    have:=bulkF_one_pos t
    simp only [bulkAllF,List.length_cons]
    omega

set_option maxRecDepth 100000 in
set_option maxHeartbeats 4000000 in
theorem countF_any (n:Nat):∀ (t:Fm) (v:Value) (w:World),t.bulk≤n→n≤400000→IsFm (· < w.heap.size) w t v →
    Calls Tryz.prog 88 #[v] w fun e w'=>e=.returned (.int .i64 (t.size:Int))∧Below w.heap.size w w':=by
  induction n with
  | zero=>intro t; have:=bulkF_one_pos t; omega
  | succ n ih=>
    rintro ⟨k,T,m,l⟩ v w hn hb ht
    obtain ⟨B,d,C,e0,A,c,rfl,_,hm,hl⟩:=ht.parts
    simp only [Fm.kind,Fm.type,Fm.terms,Fm.args] at *
    have hsb:=sizeAllF_bulk l
    have hll:=bulkF_count l
    have hsm:=sizeAll_bulk m
    have hlm:=bulkAll_len m
    simp only [Fm.bulk] at hn
    have HL:=Lib.hid (And.intro hm hl)
    have IH:=Lib.hid ih
    clear ht hm hl ih
    obtain ⟨b1,z1,k1⟩:=new_blk (Below.refl w.heap.size w) (Nat.le_refl _) #[.int .i64 k,.int .i64 T.kind,.slice B T.args.length d,.slice C m.length e0,.slice A l.length c] 34
    go_enter Tryz.func88,Tryz.ntmps88
    go_upto_region 1 with fail
    generalize w.alloc (Obj.cells #[.int .i64 k,.int .i64 T.kind,.slice B T.args.length d,.slice C m.length e0,.slice A l.length c] 34)=W at b1 z1 k1 ⊢
    have HB:=Lib.hid (And.intro b1 k1)
    obtain ⟨_,_,_,p3,p4,_⟩:=k1.facts5
    clear z1 k1
    go_wp2_with fail
    go_loopw [3,11] (fun cnt ix wr=>∃ j:Nat,j≤m.length∧ix=.int .i64 j∧cnt=.int .i64 ((1+sizeAllT (m.take j):Nat):Int)∧Below W.heap.size W wr) (fun _ ix _=>m.length - (intOf ix).toNat)
    case atStart=>exact ⟨0,by omega,rfl,by simp [sizeAllT],Below.refl _ _⟩
    case round=>
      obtain ⟨j,hj,rfl,rfl,hbr⟩:=hrel
      have hst:=sizeT_take_le m j
      by_cases hlt:j<m.length
      · have hwr:Below w.heap.size w wr:=b1.trans (hbr.mono b1.size)
        have hs:TmR.Sl (· < w.heap.size) wr m (.slice C m.length e0):=HL.out.1.keep (fun _ h=>h) (fun p hp=>hwr.cell hp)
        obtain ⟨a,rfl,ha,hat⟩:=hs.get j hlt
        obtain ⟨B1,d1,A1,c1,q0,q1,q2,q3,q4,hx⟩:=at_tm hat
        simp only [show TmR.n=5 from rfl] at q0 q1 q2 q3 q4
        have hnj:=bulkAll_get m j hlt
        have hxs:=size_bulk m[j]
        have HST:=Lib.hid (sizeT_take m j hlt)
        have HX:=Lib.hid hx
        have hws:=hwr.size
        have HBR:=Lib.hid hbr
        clear hs hat hx hbr hwr
        obtain ⟨u,hu⟩:∃ u,sizeAllT (m.take j)=u:=⟨_,rfl⟩
        rw [hu] at hst HST ⊢
        clear hu
        go_wp2_with fail
        have bb:=(Below.refl wr.heap.size wr).alloc (Nat.le_refl _) (Obj.cells #[.int .i64 m[j].kind,.int .i64 m[j].index,.int .i64 m[j].type.kind,.slice B1 m[j].type.args.length d1,.slice A1 m[j].args.length c1] 42)
        refine (countT_any 400000 m[j] _ _ (by omega) (by omega) (HX.out.keep (fun b hb=>by have h3:b<w.heap.size:=hb; simp; omega) (fun p hp=>World.cell?_alloc_lt _ _ _ (by have h3:p.block<w.heap.size:=hp; omega)))).mono ?_
        rintro e w2 ⟨rfl,hb2⟩
        have HB2:=Lib.hid (HBR.out.trans ((bb.trans (hb2.mono (by simp))).mono HBR.out.size))
        clear bb hb2
        obtain ⟨y,hy⟩:∃ y,m[j].size=y:=⟨_,rfl⟩
        rw [hy] at hxs HST ⊢
        clear hy
        go_wp2_with fail
        exact ⟨⟨j+1,by omega,by go_num,by rw [HST.out]; congr 1; omega,HB2.out⟩,by simp [intOf]; omega⟩
      · have hjl:j=m.length:=by omega
        subst hjl
        rw [List.take_length] at hst ⊢
        obtain ⟨u,hu⟩:∃ u,sizeAllT m=u:=⟨_,rfl⟩
        rw [hu] at hst hsm ⊢
        have HU:=Lib.hid hu
        have HBR:=Lib.hid hbr
        obtain ⟨_,_,_,_,p4,_⟩:=(HB.out.2.below hbr HB.out.2.lt).facts5
        have hwz:=hbr.size
        obtain ⟨W1,hW1⟩:∃ W1,W1=wr:=⟨_,rfl⟩
        rw [← hW1] at HBR p4 hwz ⊢
        clear hbr hu hW1
        go_wp2_with fail
        go_loopw [3,23] (fun cnt ix wr=>∃ j:Nat,j≤l.length∧ix=.int .i64 j∧cnt=.int .i64 ((1+u+sizeAllF (l.take j):Nat):Int)∧Below W1.heap.size W1 wr) (fun _ ix _=>l.length - (intOf ix).toNat)
        case atStart=>exact ⟨0,by omega,rfl,by simp [sizeAllF],Below.refl _ _⟩
        case round=>
          obtain ⟨j,hj,rfl,rfl,hbr⟩:=hrel
          have hst2:=sizeF_take_le l j
          by_cases hlt:j<l.length
          · have hwr:Below w.heap.size w wr:=b1.trans ((HBR.out.trans (hbr.mono hwz)).mono b1.size)
            have hs:FmR.Sl (· < w.heap.size) wr l (.slice A l.length c):=HL.out.2.keep (fun _ h=>h) (fun p hp=>hwr.cell hp)
            obtain ⟨a,rfl,ha,hat⟩:=hs.get j hlt
            obtain ⟨B1,d1,C1,e1,A1,c1,q0,q1,q2,q3,q4,hx⟩:=at_fm hat
            simp only [show FmR.n=5 from rfl] at q0 q1 q2 q3 q4
            have hnj:=bulkF_one j hlt
            have hxs:=sizeF_bulk l[j]
            have HST:=Lib.hid (sizeF_take l j hlt)
            have HX:=Lib.hid hx
            have hws:=hwr.size
            have HBR2:=Lib.hid hbr
            clear hs hat hx hbr hwr
            obtain ⟨x,hu⟩:∃ x,sizeAllF (l.take j)=x:=⟨_,rfl⟩
            rw [hu] at hst2 HST ⊢
            clear hu
            go_wp2_with fail
            have bb:=(Below.refl wr.heap.size wr).alloc (Nat.le_refl _) (Obj.cells #[.int .i64 l[j].kind,.int .i64 l[j].type.kind,.slice B1 l[j].type.args.length d1,.slice C1 l[j].terms.length e1,.slice A1 l[j].args.length c1] 34)
            refine (IH.out l[j] _ _ (by omega) (by omega) (HX.out.keep (fun b hb=>by have h3:b<w.heap.size:=hb; simp; omega) (fun p hp=>World.cell?_alloc_lt _ _ _ (by have h3:p.block<w.heap.size:=hp; omega)))).mono ?_
            rintro e w2 ⟨rfl,hb2⟩
            have HB2:=Lib.hid (HBR2.out.trans ((bb.trans (hb2.mono (by simp))).mono HBR2.out.size))
            clear bb hb2
            obtain ⟨y,hy⟩:∃ y,l[j].size=y:=⟨_,rfl⟩
            rw [hy] at hxs HST ⊢
            clear hy
            go_wp2_with fail
            exact ⟨⟨j+1,by omega,by go_num,by rw [HST.out]; congr 1; omega,HB2.out⟩,by simp [intOf]; omega⟩
          · have hjl:j=l.length:=by omega
            subst hjl
            rw [List.take_length] at hst2 ⊢
            obtain ⟨x,hx⟩:∃ x,sizeAllF l=x:=⟨_,rfl⟩
            rw [hx] at hst2 hsb ⊢
            have HX:=Lib.hid hx
            have HBR2:=Lib.hid hbr
            clear hbr hx
            go_wp2_with fail
            go_ret
            exact ⟨ret_num (by simp only [Fm.size]; rw [HX.out,HU.out]),b1.trans ((HBR.out.trans (HBR2.out.mono hwz)).mono b1.size)⟩
end Go.Proofs.YthlknhkemmdocaaGreatDoor
namespace Go.Proofs.YthlknhkemmdocaaGreatDoor
open Go.RowKit

def TrueB (w:World) (e:Ending) (w':World):Prop:=e=.returned (.bool true)∧Below w.heap.size w w'
theorem quantifier_any (k:Int) (hk:k=4∨k=5∨k=6∨k=7) (w:World):Calls Tryz.prog 148 #[.int .i64 k] w (TrueB w):=by
  rcases hk with rfl | rfl | rfl | rfl
  all_goals
    go_enter Tryz.func148,Tryz.ntmps148
    go_wp2_with fail
    go_ret
    exact ⟨rfl,Below.refl _ _⟩
/-- A part of a list of terms, as the walk asks for it. -/
theorem child_t {S:Nat→Prop} {w:World} {l:List Tm} {A:Option Addr} {n c:Nat} (h:TmR.Sl S w l (.slice A n c)) (j:Nat) (hj:j<l.length):∃ a B d A' c',A=some a∧S a.block ∧
    w.cell? (a.add (j * 5))=some (.int .i64 l[j].kind)∧w.cell? ⟨(a.add (j * 5)).block,(a.add (j * 5)).off+1,none⟩ = some (.int .i64 l[j].index) ∧
    w.cell? ⟨(a.add (j * 5)).block,(a.add (j * 5)).off+2,none⟩ = some (.int .i64 l[j].type.kind)∧w.cell? ⟨(a.add (j * 5)).block,(a.add (j * 5)).off+3,none⟩ = some (.slice B l[j].type.args.length d) ∧
    w.cell? ⟨(a.add (j * 5)).block,(a.add (j * 5)).off+4,none⟩ = some (.slice A' l[j].args.length c') ∧
    IsTm S w l[j] (.agg #[.int .i64 l[j].kind,.int .i64 l[j].index,.int .i64 l[j].type.kind,.slice B l[j].type.args.length d,.slice A' l[j].args.length c']):=by
  obtain ⟨a,rfl,ha,hat⟩:=h.get j hj
  obtain ⟨B1,d1,A1,c1,q0,q1,q2,q3,q4,hx⟩:=at_tm hat
  exact ⟨a,B1,d1,A1,c1,rfl,ha,q0,q1,q2,q3,q4,hx⟩
theorem child_f {S:Nat→Prop} {w:World} {l:List Fm} {A:Option Addr} {n c:Nat} (h:FmR.Sl S w l (.slice A n c)) (j:Nat) (hj:j<l.length):∃ a B d P p A' c',A=some a∧S a.block ∧
    w.cell? (a.add (j * 5))=some (.int .i64 l[j].kind)∧w.cell? ⟨(a.add (j * 5)).block,(a.add (j * 5)).off+1,none⟩ = some (.int .i64 l[j].type.kind) ∧
    w.cell? ⟨(a.add (j * 5)).block,(a.add (j * 5)).off+2,none⟩ = some (.slice B l[j].type.args.length d)∧w.cell? ⟨(a.add (j * 5)).block,(a.add (j * 5)).off+3,none⟩ = some (.slice P l[j].terms.length p) ∧
    w.cell? ⟨(a.add (j * 5)).block,(a.add (j * 5)).off+4,none⟩ = some (.slice A' l[j].args.length c') ∧
    IsFm S w l[j] (.agg #[.int .i64 l[j].kind,.int .i64 l[j].type.kind,.slice B l[j].type.args.length d,.slice P l[j].terms.length p,.slice A' l[j].args.length c']):=by
  obtain ⟨a,rfl,ha,hat⟩:=h.get j hj
  obtain ⟨B1,d1,P1,p1,A1,c1,q0,q1,q2,q3,q4,hx⟩:=at_fm hat
  exact ⟨a,B1,d1,P1,p1,A1,c1,rfl,ha,q0,q1,q2,q3,q4,hx⟩

set_option maxRecDepth 100000 in
set_option maxHeartbeats 4000000 in
theorem shapeFr_ok {f:Fm} (hf:GoodF f):∀ (v:Value) (w:World),f.bulk≤400000→IsFm (· < w.heap.size) w f v →
    Calls Tryz.prog 119 #[v] w (TrueB w):=by
  induction hf with
  | eq s t hs ht=>
    intro v w hn hF
    obtain ⟨B,d,C,e0,A,c,rfl,_,hm,_⟩:=hF.parts
    simp only [Fm.kind,Fm.type,Fm.terms,Fm.args,List.length_cons,List.length_nil,Nat.reduceAdd] at hm ⊢
    simp only [Fm.bulk,bulkAll] at hn
    obtain ⟨W,hW,hbW,k0⟩:∃ W,W=w.alloc (Obj.cells #[.int .i64 1,.int .i64 Ty.zero.kind,.slice B Ty.zero.args.length d,.slice C 2 e0,.slice A 0 c] 34)∧Below w.heap.size w W∧Blk W w.heap.size 34 #[.int .i64 1,.int .i64 Ty.zero.kind,.slice B Ty.zero.args.length d,.slice C 2 e0,.slice A 0 c]:=⟨_,rfl,(Below.refl _ _).alloc (Nat.le_refl _) _,Blk.new _ _ _⟩
    have HX:=Lib.hid fun (w':World) (h:Below W.heap.size W w')=>And.intro (k0.below h k0.lt).facts5 (show TmR.Sl (· < w'.heap.size) w' [s,t] (.slice C 2 e0) from hm.keep (fun _ hb=>Nat.lt_of_lt_of_le hb (Nat.le_trans hbW.size h.size)) (fun p hp=>(h.cell (Nat.lt_of_lt_of_le hp hbW.size)).trans (hbW.cell hp)))
    have HB:=Lib.hid hbW
    have HE:=Lib.hid (And.intro (errT_zero.1 hs).1 (errT_zero.1 ht).1)
    have hsb:s.bulk≤400000:=by omega
    have htb:t.bulk≤400000:=by omega
    obtain ⟨p0,p1,p2,p3,p4,_⟩:=(HX.out W (Below.refl _ _)).1
    clear hF hm k0 hbW hs ht hn
    go_enter Tryz.func119,Tryz.ntmps119
    go_upto_region 1 with fail
    rw [← hW]
    clear hW
    go_wp2_with fail
    refine (zero_any _ _ B d W rfl rfl).mono ?_
    rintro e w1 ⟨rfl,hb1⟩
    obtain ⟨⟨p0,p1,p2,p3,p4,_⟩,hl⟩:=HX.out w1 hb1
    obtain ⟨a,B1,d1,A1,c1,rfl,ha,q0,q1,q2,q3,q4,hx⟩:=child_t hl 0 (by simp)
    simp only [Nat.zero_mul,add_zero',List.getElem_cons_zero] at q0 q1 q2 q3 q4 hx
    have H1:=Lib.hid (And.intro hb1 hx)
    clear hl hx hb1
    go_wp2_with fail
    refine (shape_any 400000 s _ w1 hsb (Nat.le_refl _) HE.out.1 H1.out.2).mono ?_
    rintro e w2 ⟨rfl,hb2⟩
    have H2:=Lib.hid (H1.out.1.trans (hb2.mono H1.out.1.size))
    obtain ⟨⟨p0,p1,p2,p3,p4,_⟩,hl⟩:=HX.out w2 H2.out
    obtain ⟨a',B2,d2,A2,c2,ea,ha',r0,r1,r2,r3,r4,hy⟩:=child_t hl 1 (by simp)
    cases ea
    simp only [Nat.one_mul,List.getElem_cons_succ,List.getElem_cons_zero] at r0 r1 r2 r3 r4 hy
    rw [show a.add 5=⟨a.block,a.off+5,none⟩ from by simp [Addr.add]] at r0 r1 r2 r3 r4
    have H3:=Lib.hid hy
    clear hl hy hb2 q0 q1 q2 q3 q4
    go_wp2_with fail
    refine (shape_any 400000 t _ w2 htb (Nat.le_refl _) HE.out.2 H3.out).mono ?_
    rintro e w3 ⟨rfl,hb3⟩
    go_wp2_with fail
    go_ret
    exact ⟨rfl,HB.out.trans ((H2.out.trans (hb3.mono H2.out.size)).mono HB.out.size)⟩
  | two k s t hk hs ht ihs iht=>
    intro v w hn hF
    obtain ⟨B,d,C,e0,A,c,rfl,_,_,hm⟩:=hF.parts
    simp only [Fm.kind,Fm.type,Fm.terms,Fm.args,List.length_cons,List.length_nil,Nat.reduceAdd] at hm ⊢
    simp only [Fm.bulk,bulkAllF] at hn
    obtain ⟨W,hW,hbW,k0⟩:∃ W,W=w.alloc (Obj.cells #[.int .i64 k,.int .i64 Ty.zero.kind,.slice B Ty.zero.args.length d,.slice C 0 e0,.slice A 2 c] 34)∧Below w.heap.size w W∧Blk W w.heap.size 34 #[.int .i64 k,.int .i64 Ty.zero.kind,.slice B Ty.zero.args.length d,.slice C 0 e0,.slice A 2 c]:=⟨_,rfl,(Below.refl _ _).alloc (Nat.le_refl _) _,Blk.new _ _ _⟩
    have HX:=Lib.hid fun (w':World) (h:Below W.heap.size W w')=>And.intro (k0.below h k0.lt).facts5 (show FmR.Sl (· < w'.heap.size) w' [s,t] (.slice A 2 c) from hm.keep (fun _ hb=>Nat.lt_of_lt_of_le hb (Nat.le_trans hbW.size h.size)) (fun p hp=>(h.cell (Nat.lt_of_lt_of_le hp hbW.size)).trans (hbW.cell hp)))
    have HB:=Lib.hid hbW
    have HI:=Lib.hid (And.intro ihs iht)
    have hsb:s.bulk≤400000:=by omega
    have htb:t.bulk≤400000:=by omega
    obtain ⟨p0,p1,p2,p3,p4,_⟩:=(HX.out W (Below.refl _ _)).1
    clear hF hm k0 hbW hs ht hn ihs iht
    rcases hk with rfl | rfl
    all_goals
      go_enter Tryz.func119,Tryz.ntmps119
      go_upto_region 1 with fail
      rw [← hW]
      clear hW
      go_wp2_with fail
      refine (zero_any _ _ B d W rfl rfl).mono ?_
      rintro e w1 ⟨rfl,hb1⟩
      obtain ⟨⟨p0,p1,p2,p3,p4,_⟩,hl⟩:=HX.out w1 hb1
      obtain ⟨a,B1,d1,P1,e1,A1,c1,rfl,ha,q0,q1,q2,q3,q4,hx⟩:=child_f hl 0 (by simp)
      simp only [Nat.zero_mul,add_zero',List.getElem_cons_zero] at q0 q1 q2 q3 q4 hx
      have H1:=Lib.hid (And.intro hb1 hx)
      clear hl hx hb1
      go_wp2_with fail
      refine (HI.out.1 _ w1 hsb H1.out.2).mono ?_
      rintro e w2 ⟨rfl,hb2⟩
      have H2:=Lib.hid (H1.out.1.trans (hb2.mono H1.out.1.size))
      obtain ⟨⟨p0,p1,p2,p3,p4,_⟩,hl⟩:=HX.out w2 H2.out
      obtain ⟨a',B2,d2,P2,e2,A2,c2,ea,ha',r0,r1,r2,r3,r4,hy⟩:=child_f hl 1 (by simp)
      cases ea
      simp only [Nat.one_mul,List.getElem_cons_succ,List.getElem_cons_zero] at r0 r1 r2 r3 r4 hy
      rw [show a.add 5=⟨a.block,a.off+5,none⟩ from by simp [Addr.add]] at r0 r1 r2 r3 r4
      have H3:=Lib.hid hy
      clear hl hy hb2 q0 q1 q2 q3 q4
      go_wp2_with fail
      refine (HI.out.2 _ w2 htb H3.out).mono ?_
      rintro e w3 ⟨rfl,hb3⟩
      go_wp2_with fail
      go_ret
      exact ⟨rfl,HB.out.trans ((H2.out.trans (hb3.mono H2.out.size)).mono HB.out.size)⟩
  | quant k T t hk hT ht iht=>
    intro v w hn hF
    obtain ⟨B,d,C,e0,A,c,rfl,hTy,_,hm⟩:=hF.parts
    simp only [Fm.kind,Fm.type,Fm.terms,Fm.args,List.length_cons,List.length_nil,Nat.reduceAdd] at hm hTy ⊢
    simp only [Fm.bulk,bulkAllF] at hn
    obtain ⟨W,hW,hbW,k0⟩:∃ W,W=w.alloc (Obj.cells #[.int .i64 k,.int .i64 T.kind,.slice B T.args.length d,.slice C 0 e0,.slice A 1 c] 34)∧Below w.heap.size w W∧Blk W w.heap.size 34 #[.int .i64 k,.int .i64 T.kind,.slice B T.args.length d,.slice C 0 e0,.slice A 1 c]:=⟨_,rfl,(Below.refl _ _).alloc (Nat.le_refl _) _,Blk.new _ _ _⟩
    have HX:=Lib.hid fun (w':World) (h:Below W.heap.size W w')=>And.intro (k0.below h k0.lt).facts5 (And.intro (show FmR.Sl (· < w'.heap.size) w' [t] (.slice A 1 c) from hm.keep (fun _ hb=>Nat.lt_of_lt_of_le hb (Nat.le_trans hbW.size h.size)) (fun p hp=>(h.cell (Nat.lt_of_lt_of_le hp hbW.size)).trans (hbW.cell hp)))
      (show IsTy (· < w'.heap.size) w' T _ from IsTy.keep (S':=(· < w'.heap.size)) (w':=w') (fun _ hb=>Nat.lt_of_lt_of_le hb (Nat.le_trans hbW.size h.size)) (fun p hp=>(h.cell (Nat.lt_of_lt_of_le hp hbW.size)).trans (hbW.cell hp)) _ hTy))
    have HB:=Lib.hid hbW
    have HI:=Lib.hid (And.intro iht hT)
    have htb:t.bulk≤400000:=by omega
    have hTn:T.nodes≤400000:=by omega
    have HKQ:=Lib.hid (quantifier_any k hk W)
    obtain ⟨p0,p1,p2,p3,p4,_⟩:=(HX.out W (Below.refl _ _)).1
    have e1:(k == 1)=false:=by rcases hk with rfl | rfl | rfl | rfl <;> rfl
    have e2:(k == 2)=false:=by rcases hk with rfl | rfl | rfl | rfl <;> rfl
    have e3:(k == 3)=false:=by rcases hk with rfl | rfl | rfl | rfl <;> rfl
    have g1:k≠1:=by rcases hk with rfl | rfl | rfl | rfl <;> decide
    have g2:k≠2:=by rcases hk with rfl | rfl | rfl | rfl <;> decide
    have g3:k≠3:=by rcases hk with rfl | rfl | rfl | rfl <;> decide
    clear hF hm hTy k0 hbW ht hn iht hT hk
    go_enter Tryz.func119,Tryz.ntmps119
    go_upto_region 1 with fail
    rw [← hW]
    clear hW
    go_wp2_with fail
    refine HKQ.out.mono ?_
    rintro e w0 ⟨rfl,hb0⟩
    obtain ⟨⟨p0,p1,p2,p3,p4,_⟩,_,hty⟩:=HX.out w0 hb0
    have H0:=Lib.hid (And.intro hb0 hty)
    clear hb0 hty
    go_wp2_with fail
    refine (refCheck_any T _ w0 hTn H0.out.2).mono ?_
    rintro e w1 ⟨rfl,hb1⟩
    rw [HI.out.2]
    have H1:=Lib.hid (H0.out.1.trans (hb1.mono H0.out.1.size))
    obtain ⟨⟨p0,p1,p2,p3,p4,_⟩,hl,_⟩:=HX.out w1 H1.out
    obtain ⟨a,B1,d1,P1,e1',A1,c1,rfl,ha,q0,q1,q2,q3,q4,hx⟩:=child_f hl 0 (by simp)
    simp only [Nat.zero_mul,add_zero',List.getElem_cons_zero] at q0 q1 q2 q3 q4 hx
    have H2:=Lib.hid hx
    clear hl hx hb1
    go_wp2_with fail
    refine (HI.out.1 _ w1 htb H2.out).mono ?_
    rintro e w2 ⟨rfl,hb2⟩
    go_wp2_with fail
    go_ret
    exact ⟨rfl,HB.out.trans ((H1.out.trans (hb2.mono H1.out.size)).mono HB.out.size)⟩

set_option maxRecDepth 100000 in
theorem checkFr_ok {f:Fm} (hf:GoodF f) (v:Value) (w:World) (hn:f.bulk≤400000) (hsz:f.size≤4096) (hF:IsFm (· < w.heap.size) w f v) :
    Calls Tryz.prog 82 #[v] w fun e w'=>e=.returned (.int .i64 0)∧Below w.heap.size w w':=by
  have hF0:=hF
  obtain ⟨B,d,C,e0,A,c,rfl,_,_⟩:=hF0.form
  obtain ⟨W,hW,hbW,k0⟩:∃ W,W=w.alloc (Obj.cells #[.int .i64 f.kind,.int .i64 f.type.kind,.slice B f.type.args.length d,.slice C f.terms.length e0,.slice A f.args.length c] 34)∧Below w.heap.size w W∧Blk W w.heap.size 34 #[.int .i64 f.kind,.int .i64 f.type.kind,.slice B f.type.args.length d,.slice C f.terms.length e0,.slice A f.args.length c]:=⟨_,rfl,(Below.refl _ _).alloc (Nat.le_refl _) _,Blk.new _ _ _⟩
  have HX:=Lib.hid fun (w':World) (h:Below W.heap.size W w')=>And.intro (k0.below h k0.lt).facts5 (show IsFm (· < w'.heap.size) w' f _ from IsFm.keep (S':=(· < w'.heap.size)) (w':=w') (fun _ hb=>Nat.lt_of_lt_of_le hb (Nat.le_trans hbW.size h.size)) (fun p hp=>(h.cell (Nat.lt_of_lt_of_le hp hbW.size)).trans (hbW.cell hp)) _ hF)
  have HB:=Lib.hid hbW
  have HG:=Lib.hid hf
  obtain ⟨p0,p1,p2,p3,p4,_⟩:=(HX.out W (Below.refl _ _)).1
  clear hF hF0 k0 hbW hf
  have hd:decide ((4096:Int)<(f.size:Int))=false:=by simp; omega
  go_enter Tryz.func82,Tryz.ntmps82
  go_upto_region 1 with fail
  rw [← hW]
  clear hW
  go_wp2_with fail
  refine (shapeFr_ok HG.out _ W hn (HX.out W (Below.refl _ _)).2).mono ?_
  rintro e w1 ⟨rfl,hb1⟩
  obtain ⟨p0,p1,p2,p3,p4,_⟩:=(HX.out w1 hb1).1
  have H1:=Lib.hid hb1
  clear hb1
  go_wp2_with fail
  refine (countF_any 400000 f _ w1 hn (Nat.le_refl _) (HX.out w1 H1.out).2).mono ?_
  rintro e w2 ⟨rfl,hb2⟩
  go_wp2_with fail
  go_ret
  exact ⟨rfl,HB.out.trans ((H1.out.trans (hb2.mono H1.out.size)).mono HB.out.size)⟩
end Go.Proofs.YthlknhkemmdocaaGreatDoor
namespace Go.Proofs.YthlknhkemmdocaaGreatDoor
open Go.RowKit

theorem refBelow_any (k i:Int) (x y z:Value) (w:World):Calls Tryz.prog 150 #[.agg #[.int .i64 k,.int .i64 i,x,y,z]] w fun e w'=>e=.returned (.int .i64 ((if k=2 then 1 else 0:Nat):Int))∧Below w.heap.size w w':=by
  by_cases hk:k=2
  · subst hk
    go_enter Tryz.func150,Tryz.ntmps150
    go_wp2_with fail
    go_ret
    exact ⟨by simp,(Below.refl _ _).alloc (Nat.le_refl _) _⟩
  · have e1:(k == 2)=false:=by simpa using hk
    rw [if_neg hk]
    clear hk
    go_enter Tryz.func150,Tryz.ntmps150
    go_wp2_with fail
    go_ret
    exact ⟨by simp,(Below.refl _ _).alloc (Nat.le_refl _) _⟩

theorem liftAll_at:∀ (l:List Tm) (m n j:Nat) (h:j<l.length) (h':j<(liftAll l m n).length),(liftAll l m n)[j]=l[j].lift m n
  | [],_,_,j,h,_=>by simp at h
  | t :: r,m,n,0,_,_=>by simp [liftAll]
  | t :: r,m,n,j+1,h,h'=>by
    simp only [liftAll,List.getElem_cons_succ]
    exact liftAll_at r m n j (by simpa using h) (by simpa [liftAll] using h')
theorem upAll_take (l:List Tm) (m n j:Nat) (h:j<l.length):(liftAll l m n).take (j+1)=(liftAll l m n).take j ++ [l[j].lift m n]:=by
  have h':j<(liftAll l m n).length:=by rw [liftAll_len]; exact h
  rw [List.take_succ_eq_append_getElem h',liftAll_at l m n j h h']

theorem field_stepS {Sx:Nat→Prop} {w2 w5:World} {Bz:Nat} {m:List Tm} {x:Tm} {A3:Option Addr} {d3 g5 cap5:Nat} {xs vs:List Value}
    (hxo:w2.ownsRow Bz TmR.t TmR.n (.slice A3 m.length d3) m.length xs) (hxc:TmR.Ch (fun b=>Sx b∧b<w2.heap.size∧(Value.slice A3 m.length d3).ownBlock≠some b) w2 m xs)
    (hx:TmR.is (fun b=>Sx b∧b<w2.heap.size∧(Value.slice A3 m.length d3).ownBlock≠some b) w2 x vs)
    (hown5:w5.ownsRow Bz TmR.t TmR.n (.slice (some ⟨g5,0,none⟩) (m.length+1) cap5) (m.length+1) (xs ++ vs))
    (hgr5:(w2.alloc (.cells vs.toArray TmR.t)).grownBy w5 (Value.slice A3 m.length d3).ownBlock)
    (hat5:(Value.slice A3 m.length d3).ownBlock=some g5∨g5=(w2.alloc (.cells vs.toArray TmR.t)).heap.size) :
    TmR.Own Sx Bz (.slice (some ⟨g5,0,none⟩) (m.length+1) cap5) (m ++ [x]) w5∧Turn (Bz≤·) w2 w5:=by
  refine ⟨Rep.Own.more (R:=TmR) (m:=[x]) (hxo.alloc _) (hxc.keep (fun b hb=>⟨hb.1,by have:=hb.2.1; simp; omega,hb.2.2⟩) (fun p hp=>World.cell?_alloc_lt _ _ _ hp.2.1)) (Rep.Ch.one (R:=TmR) (vs:=vs) (TmR.keep (fun b hb=>⟨hb.1,by have:=hb.2.1; simp; omega,hb.2.2⟩) (fun p hp=>World.cell?_alloc_lt _ _ _ hp.2.1) hx)) hown5 hgr5 (by
      rcases hat5 with h | h
      · left; rw [h]; rfl
      · right; rw [h]; rfl),?_⟩
  exact Turn.grown (only_trans (World.grownBy_alloc w2 _ _) hgr5) (fun k e=>(hxo.lt k e).1)
theorem up_field {Sx:Nat→Prop} {w5 w2 wr:World} {p Bz g5 cap5 n:Nat} {m:List Tm} {y:Tm} {x0 x1 x2 x3 x4:Value} {wx:World} (hS:¬ Sx p) (h:TmR.Own Sx Bz (.slice (some ⟨g5,0,none⟩) (n+1) cap5) (m ++ [y]) w5∧Turn (Bz≤·) w2 w5)
    (htr:Turn (fun b=>b=p∨Bz≤b) wx wr) (hb:Below wr.heap.size wr w2) (hp:p<Bz) (kp:Blk w5 p 42 #[x0,x1,x2,x3,x4]) :
    TmR.Own Sx Bz (.slice (some ⟨g5,0,none⟩) (n+1) cap5) (m ++ [y]) (w5.setCell ⟨p,4,none⟩ (.slice (some ⟨g5,0,none⟩) (n+1) cap5)) ∧
      Blk (w5.setCell ⟨p,4,none⟩ (.slice (some ⟨g5,0,none⟩) (n+1) cap5)) p 42 #[x0,x1,x2,x3,.slice (some ⟨g5,0,none⟩) (n+1) cap5] ∧
      Turn (fun b=>b=p∨Bz≤b) wx (w5.setCell ⟨p,4,none⟩ (.slice (some ⟨g5,0,none⟩) (n+1) cap5)):=by
  obtain ⟨h1,h2⟩:=h
  have hs:w5.grownBy (w5.setCell ⟨p,4,none⟩ (.slice (some ⟨g5,0,none⟩) (n+1) cap5)) (some p):=only_setCell (only_refl _ _) (.inl rfl) _
  exact ⟨h1.far hs hp hS,by simpa using kp.set_ 4 _,((htr.trans (Turn.call hb)).trans (h2.mono fun k _ hk=>.inr hk)).trans (Turn.grown hs fun k e=>by cases e; exact .inl rfl)⟩

def UpR (S:Nat→Prop) (T:Tm) (w:World) (e:Ending) (w':World):Prop:=∃ v',e=.returned v'∧IsTm (fun b=>(S b∨w.heap.size≤b)∧b<w'.heap.size) w' T v'∧Below w.heap.size w w'
def UpIH (N:Nat):Prop:=∀ (t:Tm) (v:Value) (m n:Nat) (S:Nat→Prop) (w:World),t.bulk≤N→N≤400000→t.low 1000000000=true→m+N≤900000→n≤900000→(∀ b,S b→b<w.heap.size)→IsTm S w t v →
    Calls Tryz.prog 120 #[v,.int .i64 m,.int .i64 n] w (UpR S (t.lift m n) w)

set_option maxRecDepth 100000 in
set_option maxHeartbeats 8000000 in
theorem refUp_any (N:Nat):UpIH N:=by
  induction N with
  | zero=>intro t; have:=bulk_pos t; omega
  | succ N ih=>
    rintro ⟨k,i,T,l⟩ v m n S w hN hb hlow hm hn hS hT
    obtain ⟨B,d,A,c,rfl,hTy,hl⟩:=hT.mk_parts
    have hll:=bulkAll_len l
    simp only [Tm.bulk] at hN
    obtain ⟨q,hq⟩:∃ q:Nat,q=if k=2 then 1 else 0:=⟨_,rfl⟩
    have hq1:q≤1:=by rw [hq]; split <;> omega
    have hlow1:i≤1000000000∧lowAll l 1000000000=true:=by simpa [Tm.low] using hlow
    obtain ⟨i',hi'⟩:∃ i':Int,i' = if k=1∧(m:Int)≤i then i+n else i:=⟨_,rfl⟩
    have HQ:=Lib.hid hq
    have HLW:=Lib.hid hlow1.2
    have HI:=Lib.hid hi'
    have HTY:=Lib.hid hTy
    have HL:=Lib.hid hl
    have HS:=Lib.hid hS
    have IH:=Lib.hid ih
    have hil:=hlow1.1
    obtain ⟨W,hW,b3,z3,k0,k1,k2⟩:=three_blks w #[.int .i64 k,.int .i64 i,.int .i64 T.kind,.slice B T.args.length d,.slice A l.length c] #[.int .i64 0,.int .i64 0,.int .i64 0,.slice none 0 0,.slice none 0 0] #[.int .i64 k,.int .i64 i,.int .i64 T.kind,.slice B T.args.length d,.slice none 0 0] 42 42 42
    have HB:=Lib.hid (And.intro b3 z3)
    have HK:=Lib.hid (And.intro k0 (And.intro k1 k2))
    have hbb:¬ (k=1∧(m:Int)≤i)→i' = i:=fun h=>by rw [hi',if_neg h]
    have hbc:k=1∧(m:Int)≤i→i' = i+n:=fun h=>by rw [hi',if_pos h]
    have z3':=z3
    obtain ⟨r0,r1,r2,r3,r4,_⟩:=k0.facts5
    obtain ⟨s0,s1,s2,s3,s4,f0,f1,f2,f3,f4⟩:=k2.facts5
    clear hT hTy hl hlow hlow1 ih hS hq hi' b3 k0 k1 k2 z3 z3'
    go_enter Tryz.func120,Tryz.ntmps120
    go_upto_region 2 with fail
    rw [← hW]
    clear hW
    have hX:∃ W1,(k=1∧(m:Int)≤i∧W1=W.setCell ⟨w.heap.size+1+1,1,none⟩ (.int .i64 (i+n))∨¬ (k=1∧(m:Int)≤i)∧W1=W)∧Below w.heap.size w W1∧W1.heap.size=w.heap.size+3∧Blk W1 w.heap.size 42 #[.int .i64 k,.int .i64 i,.int .i64 T.kind,.slice B T.args.length d,.slice A l.length c] ∧
        Blk W1 (w.heap.size+1) 42 #[.int .i64 0,.int .i64 0,.int .i64 0,.slice none 0 0,.slice none 0 0]∧Blk W1 (w.heap.size+1+1) 42 #[.int .i64 k,.int .i64 i',.int .i64 T.kind,.slice B T.args.length d,.slice none 0 0]:=by
      by_cases h:k=1∧(m:Int)≤i
      · have hg:W.grownBy (W.setCell ⟨w.heap.size+1+1,1,none⟩ (.int .i64 (i+n))) (some (w.heap.size+1+1)):=only_setCell (only_refl _ _) (.inl rfl) _
        exact ⟨_,.inl ⟨h.1,h.2,rfl⟩,HB.out.1.grown hg HB.out.1.size (fun g e=>by cases e; omega),by have:=HB.out.2; simpa using this,HK.out.1.grown hg (by simp; omega),HK.out.2.1.grown hg (by simp),by have:=HK.out.2.2.set_ 1 (.int .i64 (i+n)); rw [hbc h]; simpa using this⟩
      · exact ⟨W,.inr ⟨h,rfl⟩,HB.out.1,HB.out.2,HK.out.1,HK.out.2.1,by rw [hbb h]; exact HK.out.2.2⟩
    obtain ⟨W1,hW1,hB1,hz1,kk0,kk1,kk2⟩:=hX
    have HB1:=Lib.hid (And.intro hB1 (And.intro kk0 (And.intro kk1 kk2)))
    have hwr:(m:Int)≤i→IntKind.i64.wrap (i+(n:Int))=i+n:=fun h=>IntWalk.i64_in _ (by omega)
    obtain ⟨u0,u1,u2,u3,u4,_⟩:=kk0.facts5
    clear hB1 kk0 kk1 kk2 hbb hbc
    obtain ⟨d',hd'⟩:∃ d':Nat,d' = m+q:=⟨_,rfl⟩
    have HD:=Lib.hid hd'
    have hd1:d' + N≤900000:=by omega
    have hadd:IntKind.i64.wrap ((m:Int)+(q:Int))=(d':Int):=by rw [hd',IntWalk.i64_in _ (by omega)]; omega
    have HADD:=Lib.hid hadd
    have hm0:m≤900000:=by omega
    clear hd' hadd
    go_cut [25] from 17 to 25 (fun x wx=>∃ b:Bool,x=.bool b∧(b=true↔k=1∧(m:Int)≤i)∧wx=W)
    case first=>
      by_cases hk:k=1
      · by_cases hmi:(m:Int)≤i
        · have e1:(k == 1)=true:=by simpa using hk
          have e2:decide ((m:Int)≤i)=true:=by simpa using hmi
          have HKM:=Lib.hid (And.intro hk hmi)
          clear hk hmi
          go_wp2_with fail
          go_meet
          exact ⟨true,rfl,by simp [HKM.out.1,HKM.out.2],rfl⟩
        · have e1:(k == 1)=true:=by simpa using hk
          have e2:decide ((m:Int)≤i)=false:=by simpa using hmi
          have HKM:=Lib.hid hmi
          clear hk hmi
          go_wp2_with fail
          go_meet
          exact ⟨false,rfl,by simp [HKM.out],rfl⟩
      · have e1:(k == 1)=false:=by simpa using hk
        have HKM:=Lib.hid hk
        clear hk
        go_wp2_with fail
        go_meet
        exact ⟨false,rfl,by simp [HKM.out],rfl⟩
    case rest=>
      obtain ⟨b,rfl,hb,hw⟩:=hcut
      subst hw
      have HBB:=Lib.hid hb
      have HW1:=Lib.hid hW1
      clear hb hW1
      go_upto_if 25 with fail
      go_cut [] from 26 to 30 (fun wx=>wx=W1)
      case first=>
        cases b with
        | true=>
          have hkm:=HBB.out.1 rfl
          have e3:=hwr hkm.2
          have HKM:=Lib.hid hkm
          clear hkm hwr
          go_wp2_with fail
          go_meet
          rcases HW1.out with h | h
          · exact h.2.2.symm
          · exact absurd HKM.out h.1
        | false=>
          go_wp2_with fail
          go_meet
          rcases HW1.out with h | h
          · exact absurd (HBB.out.2 ⟨h.1,h.2.1⟩) (by simp)
          · exact h.2.symm
      case rest=>
        subst hcut
        rename World=>W1
        clear r0 r1 r2 r3 r4 s0 s1 s2 s3 s4 f0 f1 f2 f3 f4 hwr
        go_wp2_with fail
        go_loopw [34] (fun ix wr=>∃ (j:Nat) (s:Value),j≤l.length∧ix=.int .i64 j∧TmR.Own (fun b=>S b∨w.heap.size+3≤b) (w.heap.size+3) s ((liftAll l d' n).take j) wr∧Blk wr (w.heap.size+1+1) 42 #[.int .i64 k,.int .i64 i',.int .i64 T.kind,.slice B T.args.length d,s]∧Turn (fun b=>b=w.heap.size+1+1∨w.heap.size+3≤b) W1 wr) (fun ix _=>l.length - (intOf ix).toNat)
        case atStart=>exact ⟨0,.slice none 0 0,by omega,rfl,Rep.Own.nil _ _ _,HB1.out.2.2.2,Turn.refl _ _⟩
        case round=>
          obtain ⟨j,s,hj,rfl,hown,hkp,htr⟩:=hrel
          have hzr:=htr.size
          have hlen:((liftAll l d' n).take j).length=j:=by rw [List.length_take,liftAll_len]; omega
          obtain ⟨As,cs,hs⟩:=hown.form
          rw [hlen] at hs
          subst hs
          have hOld:∀ p:Addr,p.block<w.heap.size→wr.cell? p=w.cell? p:=fun p hp=>(World.cell?_of_block (htr.block p.block (by omega) (by omega))).trans (HB1.out.1.cell hp)
          have HTR:=Lib.hid htr
          have HO:=Lib.hid hown
          have HKP:=Lib.hid hkp
          by_cases hlt:j<l.length
          · have hlr:TmR.Sl S wr l (.slice A l.length c):=HL.out.keep (fun _ h=>h) (fun p hp=>hOld p (HS.out _ hp))
            obtain ⟨a,rfl,ha,hat⟩:=hlr.get j hlt
            obtain ⟨B1,d1,A1,c1,q0,q1,q2,q3,q4,hx⟩:=at_tm hat
            change wr.cell? (a.add (j * 5))=_ at q0
            simp only [show TmR.n=5 from rfl] at q1 q2 q3 q4
            have hnj:=bulkAll_get l j hlt
            obtain ⟨i0,hi,hz0,hz1,hz2⟩:=info_parts info_term
            have HX:=Lib.hid hx
            have HLE:=Lib.hid hlen
            have HAS:=Lib.hid hown.lt
            have kt:=HB1.out.2.1.carry (htr.block w.heap.size (by omega) (by omega))
            obtain ⟨U,hU⟩:∃ U,U=l[j].lift d' n:=⟨_,rfl⟩
            have HTK:=Lib.hid (show (liftAll l d' n).take (j+1)=(liftAll l d' n).take j ++ [U] by rw [hU]; exact upAll_take l d' n j hlt)
            have HU:=Lib.hid hU
            have hlw:=lowAll_get HLW.out j hlt
            clear hlr hat hx hown hkp htr hlen hU hOld
            go_upto_region 7 with fail
            obtain ⟨bR,zR,kR⟩:=new_blk (Below.refl wr.heap.size wr) (Nat.le_refl _) #[.int .i64 l[j].kind,.int .i64 l[j].index,.int .i64 l[j].type.kind,.slice B1 l[j].type.args.length d1,.slice A1 l[j].args.length c1] 42
            have kpR:=HKP.out.alloc (Obj.cells #[.int .i64 l[j].kind,.int .i64 l[j].index,.int .i64 l[j].type.kind,.slice B1 l[j].type.args.length d1,.slice A1 l[j].args.length c1] 42)
            have ktR:=kt.alloc (Obj.cells #[.int .i64 l[j].kind,.int .i64 l[j].index,.int .i64 l[j].type.kind,.slice B1 l[j].type.args.length d1,.slice A1 l[j].args.length c1] 42)
            generalize wr.alloc (Obj.cells #[.int .i64 l[j].kind,.int .i64 l[j].index,.int .i64 l[j].type.kind,.slice B1 l[j].type.args.length d1,.slice A1 l[j].args.length c1] 42)=R at bR zR kR kpR ktR ⊢
            have hSwr:∀ b,S b→b<wr.heap.size:=fun b h=>by have:=HS.out b h; omega
            have XR:=Lib.hid (show IsTm S R l[j] _ from IsTm.keep (S':=S) (w':=R) (fun b h=>h) (fun q hq=>bR.cell (hSwr _ hq)) _ HX.out)
            have PB:=Lib.hid (show Calls Tryz.prog 150 #[.agg #[.int .i64 k,.int .i64 i,.int .i64 T.kind,.slice B T.args.length d,.slice (some a) l.length c]] R.drew (fun e w'=>e=.returned (.int .i64 (q:Int))∧Below R.heap.size R w') by
              have h:=refBelow_any k i (.int .i64 T.kind) (.slice B T.args.length d) (.slice (some a) l.length c) R.drew
              rw [← HQ.out] at h
              exact h.mono (fun e w' ⟨a,b⟩=>⟨a,((Below.refl _ R).drew).trans b⟩))
            have HKR:=Lib.hid (And.intro kR (And.intro kpR bR))
            have HSS:=Lib.hid hSwr
            obtain ⟨y0,y1,y2,y3,y4,_⟩:=kR.facts5
            obtain ⟨t0,t1,t2,t3,t4,_⟩:=ktR.facts5
            obtain ⟨_,_,_,_,c4,_,_,_,_,f4⟩:=kpR.facts5
            have hRz:=bR.size
            have hadd:=HADD.out
            clear zR kR kpR ktR kt q0 q1 q2 q3 q4 bR u0 u1 u2 u3 u4 hSwr
            go_region_law (first
              | (refine step_call (by rfl) 150 #[.tmp 42] _ (by rfl) #[.agg #[.int .i64 k,.int .i64 i,.int .i64 T.kind,.slice B T.args.length d,.slice (some a) l.length c]] (by simp only [List.map_toArray,List.map_cons,List.map_nil]; rfl) (enters_of Tryz.func150 (by kernel_rfl) rfl) PB.out ?_
                 rintro e w5 ⟨rfl,b5⟩
                 refine ⟨_,rfl,?_⟩
                 have G5:=Lib.hid b5
                 obtain ⟨y0,y1,y2,y3,y4,_⟩:=(HKR.out.1.below b5 HKR.out.1.lt).facts5
                 obtain ⟨_,_,_,_,c4,_,_,_,_,f4⟩:=(HKR.out.2.1.below b5 HKR.out.2.1.lt).facts5
                 clear b5)
              | (refine step_call (by rfl) 120 #[.tmp 40,.tmp 44,.tmp 45] _ (by rfl) #[.agg #[.int .i64 l[j].kind,.int .i64 l[j].index,.int .i64 l[j].type.kind,.slice B1 l[j].type.args.length d1,.slice A1 l[j].args.length c1],.int .i64 (d':Int),.int .i64 (n:Int)] (by simp only [List.map_toArray,List.map_cons,List.map_nil]; rfl) (enters_of Tryz.func120 (by kernel_rfl) rfl) (IH.out l[j] _ d' n S w5 (by omega) (by omega) hlw hd1 hn (fun b h=>by have:=HSS.out b h; have:=G5.out.size; omega) (IsTm.keep (S':=S) (w':=w5) (fun b h=>h) (fun q hq=>G5.out.cell (by have:=HSS.out _ hq; omega)) _ XR.out)) ?_
                 rw [← HU.out]
                 rintro e w6 ⟨v6,rfl,h6,b6⟩
                 obtain ⟨B6,d6,A6,c6,rfl,_⟩:=h6.form
                 refine ⟨_,rfl,?_⟩
                 have G6:=Lib.hid (show Below wr.heap.size wr w6 from HKR.out.2.2.trans ((G5.out.trans (b6.mono G5.out.size)).mono hRz))
                 have KP6:=Lib.hid (HKR.out.2.1.below (G5.out.trans (b6.mono G5.out.size)) HKR.out.2.1.lt)
                 have c4:=KP6.out.facts5.2.2.2.2.1
                 have f4:=KP6.out.facts5.2.2.2.2.2.2.2.2.2
                 have c4b:=(KP6.out.alloc (Obj.cells #[.int .i64 U.kind,.int .i64 U.index,.int .i64 U.type.kind,.slice B6 U.type.args.length d6,.slice A6 U.args.length c6] 42)).facts5.2.2.2.2.1
                 obtain ⟨xs,hxo,hxc⟩:=HO.out.below G6.out
                 rw [HLE.out] at hxo
                 have HXO:=Lib.hid hxo
                 have HXC:=Lib.hid hxc
                 have H6:=Lib.hid (And.intro h6 (Nat.le_trans G5.out.size b6.size))
                 clear h6 b6 hxo hxc)
              | (refine step_append_lies _ (by rfl) (.tmp 39) (.tmp 47) 31 (by rfl) (w.heap.size+3) 42 i0 _ 5 72 Tryz.underlying31 hi hz0 hz1 hz2 rfl (by decide) (.slice As j cs) j xs (by rfl) (HXO.out.alloc _) _ 1 1 [.int .i64 U.kind,.int .i64 U.index,.int .i64 U.type.kind,.slice B6 U.type.args.length d6,.slice A6 U.args.length c6] (by rfl) rfl (World.news_of_block (Blk.new w6 42 #[.int .i64 U.kind,.int .i64 U.index,.int .i64 U.type.kind,.slice B6 U.type.args.length d6,.slice A6 U.args.length c6])) (by simp [Value.oneCell']) (by decide) (by simp only [maxLen]; omega) (by omega) (by have:=G6.out.size; simp; omega) _ rfl ?_
                 intro g5 cap5 w7 hown5 hgr5 hat5 hlt5
                 have HST:=Lib.hid (field_stepS (Sx:=fun b=>S b∨w.heap.size+3≤b) (Bz:=w.heap.size+3) (m:=(liftAll l d' n).take j) (x:=U) (A3:=As) (d3:=cs) (g5:=g5) (cap5:=cap5) (xs:=xs) (vs:=[.int .i64 U.kind,.int .i64 U.index,.int .i64 U.type.kind,.slice B6 U.type.args.length d6,.slice A6 U.args.length c6]) (by rw [HLE.out]; exact HXO.out) (by rw [HLE.out]; exact HXC.out)
                   (IsTm.keep (fun b h=>⟨by rcases h.1 with h1 | h1; exact .inl h1; right; have:=G5.out.size; omega,h.2,fun e=>by
                     have h3:=HAS.out b (by rw [HLE.out] at e; exact e)
                     rcases h.1 with h1 | h1
                     · have:=HS.out b h1; omega
                     · have:=G5.out.size; omega⟩) (fun _ _=>rfl) _ H6.out.1) (by rw [HLE.out]; exact hown5) (by rw [HLE.out]; exact hgr5) (by rw [HLE.out]; exact hat5))
                 have KP7:=Lib.hid (HST.out.2.blk KP6.out (by omega))
                 have c4c:=KP7.out.facts5.2.2.2.2.1
                 have f4c:=KP7.out.facts5.2.2.2.2.2.2.2.2.2
                 clear hown5 hgr5 hat5 hlt5))
            all_goals go_wp2_with fail
            all_goals
              have HSTJ:=HST.out
              rw [HLE.out] at HSTJ
              have HFF:=up_field (n:=j) (fun h=>by rcases h with h | h; have:=HS.out _ h; omega; omega) HSTJ HTR.out G6.out (by omega) KP7.out
              exact ⟨⟨j+1,_,by omega,by go_num,by rw [HTK.out]; exact HFF.1,HFF.2.1,HFF.2.2⟩,by simp [intOf]; omega⟩
          · obtain rfl:j=l.length:=by omega
            have htk:(liftAll l d' n).take l.length=liftAll l d' n:=by rw [List.take_of_length_le]; rw [liftAll_len]; omega
            rw [htk] at hown
            have kz:=HB1.out.2.2.1.carry (htr.block (w.heap.size+1) (by omega) (by omega))
            obtain ⟨p0,p1,p2,p3,p4,_⟩:=hkp.facts5
            obtain ⟨_,_,_,_,_,f0,f1,f2,f3,f4⟩:=kz.facts5
            have HOW:=Lib.hid hown
            have HKZ:=Lib.hid kz
            have hpz:=hkp.lt
            have HBW:=Lib.hid (show Below w.heap.size w wr from ⟨htr.os.trans HB1.out.1.os,htr.tape.trans HB1.out.1.tape,htr.output.trans HB1.out.1.output,Nat.le_trans HB1.out.1.size htr.size,fun b hb=>(htr.block b (by omega) (by omega)).trans (HB1.out.1.block b hb)⟩)
            have HTYR:=Lib.hid (show IsTy S wr T (.agg #[.int .i64 T.kind,.slice B T.args.length d]) from IsTy.keep (fun _ h=>h) (fun p hp=>hOld p (HS.out _ hp)) _ HTY.out)
            clear hown kz hkp htr HTR HO HKP u0 u1 u2 u3 u4 hOld
            go_wp2_with fail
            obtain ⟨z0,z1,z2,z3,z4⟩:=(HKZ.out.set5 (.int .i64 k) (.int .i64 i') (.int .i64 T.kind) (.slice B T.args.length d) (.slice As l.length cs)).cells5
            refine bodyPost_ret (v:=.agg #[.int .i64 k,.int .i64 i',.int .i64 T.kind,.slice B T.args.length d,.slice As l.length cs]) (by simp [results,Tryz.results120,go_sem,z0,z1,z2,z3,z4]) rfl ?_
            have hg:=only_set5 wr (w.heap.size+1) (.int .i64 k) (.int .i64 i') (.int .i64 T.kind) (.slice B T.args.length d) (.slice As l.length cs)
            have hSn:¬ (S (w.heap.size+1)∨w.heap.size+3≤w.heap.size+1):=fun h=>by rcases h with h | h; have:=HS.out _ h; omega; omega
            have hO2:=(HOW.out.far hg (by omega) hSn).sl
            have hlf:(Tm.mk k i T l).lift m n=.mk k i' T (liftAll l d' n):=by
              rw [Tm.lift,← HI.out,HD.out,HQ.out]
              by_cases hk2:k=2
              · rw [if_pos hk2,if_pos hk2]
              · rw [if_neg hk2,if_neg hk2]; rfl
            rw [hlf]
            refine ⟨_,rfl,isTm_iff.2 ⟨rfl,rfl,IsTy.keep (fun b h=>⟨.inl h,by have:=HS.out b h; have:=hg.size; omega⟩) (fun p hp=>World.cell?_of_block (hg.block p.block (by have:=HS.out _ hp; omega) (by have:=HS.out _ hp; simp; omega))) _ HTYR.out,?_⟩,HBW.out.grown hg HBW.out.size (fun g e=>by cases e; omega)⟩
            have hO3:=hO2.keep (S':=fun b=>(S b∨w.heap.size≤b)∧b<_) (w':=_) (fun b h=>⟨by rcases h.1 with (h1 | h1) | h1; exact .inl h1; right; omega; right; omega,h.2⟩) (fun _ _=>rfl)
            exact hO3
end Go.Proofs.YthlknhkemmdocaaGreatDoor
namespace Go.Proofs.YthlknhkemmdocaaGreatDoor
open Go.RowKit

set_option maxRecDepth 100000 in
set_option maxHeartbeats 4000000 in
theorem least_any (N:Nat):∀ (t:Tm) (v:Value) (n:Int) (w:World),t.bulk≤N→N≤400000→t.low n=true→IsTm (· < w.heap.size) w t v →
    Calls Tryz.prog 87 #[v,.int .i64 n] w fun e w'=>e=.returned (.bool true)∧Below w.heap.size w w':=by
  induction N with
  | zero=>intro t; have:=bulk_pos t; omega
  | succ N ih=>
    rintro ⟨k,i,T,l⟩ v n w hN hN4 hlow hT
    have IH:=Lib.hid ih
    clear ih
    obtain ⟨B,d0,A,a0,rfl,hty,hl⟩:=hT.mk_parts
    rw [low_mk] at hlow
    have e1:decide (i > n)=false:=decide_eq_false (by have:=hlow.1; omega)
    have HLOW:=Lib.hid hlow.2
    simp only [Tm.bulk] at hN
    have hll:=bulkAll_len l
    have HL:=Lib.hid hl
    clear hlow hty hl hT
    go_enter Tryz.func87,Tryz.ntmps87
    go_upto_region 1 with fail
    obtain ⟨b1,z1,k0⟩:=new_blk (Below.refl w.heap.size w) (Nat.le_refl _) #[.int .i64 k,.int .i64 i,.int .i64 T.kind,.slice B T.args.length d0,.slice A l.length a0] 42
    generalize w.alloc (Obj.cells #[.int .i64 k,.int .i64 i,.int .i64 T.kind,.slice B T.args.length d0,.slice A l.length a0] 42)=W at b1 z1 k0 ⊢
    have HB:=Lib.hid (And.intro b1 z1)
    obtain ⟨r0,r1,r2,r3,r4,_,_,_,_,_⟩:=k0.facts5
    clear b1 z1 k0
    go_wp2_with fail
    go_loopw [14] (fun ix wr=>∃ j:Nat,j≤l.length∧ix=.int .i64 j∧Below w.heap.size w wr)
      (fun ix _=>l.length - (intOf ix).toNat)
    case atStart=>exact ⟨0,by omega,rfl,HB.out.1⟩
    case round=>
      obtain ⟨j,hj,rfl,hb⟩:=hrel
      by_cases hlt:j<l.length
      · have hlr:TmR.Sl (· < w.heap.size) wr l (.slice A l.length a0):=HL.out.keep (fun _ h=>h) (fun p hp=>hb.cell hp)
        obtain ⟨a,rfl,ha,hat⟩:=hlr.get j hlt
        obtain ⟨B1,d1,A1,c1,q0,q1,q2,q3,q4,hx⟩:=at_tm hat
        change wr.cell? (a.add (j * 5))=_ at q0
        simp only [show TmR.n=5 from rfl] at q1 q2 q3 q4
        have hbj:=bulkAll_get l j hlt
        have HH:=Lib.hid (And.intro (lowAll_get HLOW.out j hlt) hx)
        have HB1:=Lib.hid hb
        have hbz:=hb.size
        clear hx hat hlr hb r0 r1 r2 r3 r4
        go_wp2_with fail
        have hbx:=below_box wr (Obj.cells #[.int .i64 l[j].kind,.int .i64 l[j].index,.int .i64 l[j].type.kind,.slice B1 l[j].type.args.length d1,.slice A1 l[j].args.length c1] 42)
        refine (IH.out l[j] _ n _ (by omega) (by omega) HH.out.1 (IsTm.keep (fun b h=>by have h':b<w.heap.size:=h; simp; omega) (fun p hp=>World.cell?_alloc_lt _ _ _ (by have h':p.block<w.heap.size:=hp; omega)) _ HH.out.2)).mono ?_
        rintro e w1 ⟨rfl,hb1⟩
        have HB2:=Lib.hid (HB1.out.trans ((hbx.trans (hb1.mono hbx.size)).mono hbz))
        clear hb1 hbx
        go_wp2_with fail
        go_roundw
        case rel=>exact ⟨j+1,by omega,by go_num,HB2.out⟩
        case measure=>simp [intOf]; omega
      · have HB1:=Lib.hid hb
        clear hb
        go_wp2_with fail
        go_ret
        exact ⟨rfl,HB1.out⟩
end Go.Proofs.YthlknhkemmdocaaGreatDoor
namespace Go.Proofs.YthlknhkemmdocaaGreatDoor
open Go.RowKit

theorem low_more {a b:Int} (h:a≤b):∀ t:Tm,t.low a=true→t.low b=true
  | .mk k i T l=>fun ht=>low_mk.2 ⟨Int.le_trans (low_mk.1 ht).1 h,lowAll_more l (low_mk.1 ht).2⟩
where lowAll_more:∀ l:List Tm,lowAll l a=true→lowAll l b=true
  | [],_=>rfl
  | t :: r,ht=>by
    simp only [lowAll,Bool.and_eq_true] at ht ⊢
    exact ⟨low_more h t ht.1,lowAll_more r ht.2⟩

set_option maxRecDepth 100000 in
set_option maxHeartbeats 4000000 in
theorem refLift_any (t:Tm) (v:Value) (m n:Nat) (w:World) (hb:t.bulk≤390000) (hok:t.ok=true) (hsz:t.size≤4096) (hlow:t.low 536870912=true) (hm:m≤4096) (hn:n≤4096) (hT:IsTm (· < w.heap.size) w t v) :
    Calls Tryz.prog 112 #[v,.int .i64 m,.int .i64 n] w fun e w'=>∃ v',e=.returned (.tuple #[v',.int .i64 0])∧IsTm (fun b=>w.heap.size≤b∧b<w'.heap.size) w' (t.lift m n) v'∧Below w.heap.size w w':=by
  obtain ⟨B,d,A,c,rfl,_⟩:=IsTm.form hT
  obtain ⟨W,hW,b2,z2,k0,k1⟩:=two_blks w #[.int .i64 t.kind,.int .i64 t.index,.int .i64 t.type.kind,.slice B t.type.args.length d,.slice A t.args.length c] #[.int .i64 0,.int .i64 0,.int .i64 0,.slice none 0 0,.slice none 0 0] 42 42
  have HX:=Lib.hid fun (w':World) (h:Below W.heap.size W w')=>And.intro (k0.below h k0.lt).facts5 (show IsTm (· < w'.heap.size) w' t _ from IsTm.keep (S':=(· < w'.heap.size)) (w':=w') (fun _ hb=>Nat.lt_of_lt_of_le hb (Nat.le_trans b2.size h.size)) (fun p hp=>(h.cell (Nat.lt_of_lt_of_le hp b2.size)).trans (b2.cell hp)) _ hT)
  have HB:=Lib.hid (And.intro b2 (And.intro z2 k1))
  have HO:=Lib.hid (And.intro hok (And.intro hlow hsz))
  have hl1:decide ((m:Int)<0)=false:=by simp
  have hl2:decide ((4096:Int)<(m:Int))=false:=by simp; omega
  have hl3:decide ((n:Int)<0)=false:=by simp
  have hl4:decide ((4096:Int)<(n:Int))=false:=by simp; omega
  obtain ⟨r0,r1,r2,r3,r4,_⟩:=k0.facts5
  clear hT hok hlow b2 z2 k0 k1
  go_enter Tryz.func112,Tryz.ntmps112
  go_upto_region 1 with fail
  rw [← hW]
  clear hW
  go_wp2_with fail
  refine (refCheckT_any t _ W HO.out.1 (by omega) HO.out.2.2 (HX.out W (Below.refl _ _)).2).mono ?_
  rintro e w1 ⟨rfl,hb1⟩
  obtain ⟨r0,r1,r2,r3,r4,_⟩:=(HX.out w1 hb1).1
  have H1:=Lib.hid hb1
  clear hb1
  go_wp2_with fail
  refine (least_any 400000 t _ 536870912 w1 (by omega) (by omega) HO.out.2.1 (HX.out w1 H1.out).2).mono ?_
  rintro e w2 ⟨rfl,hb2⟩
  have H2:=Lib.hid (H1.out.trans (hb2.mono H1.out.size))
  obtain ⟨r0,r1,r2,r3,r4,_⟩:=(HX.out w2 H2.out).1
  clear hb2
  go_wp2_with fail
  refine (refUp_any 400000 t _ m n (· < w2.heap.size) w2 (by omega) (by omega) (low_more (by decide) t HO.out.2.1) (by omega) (by omega) (fun _ h=>h) (HX.out w2 H2.out).2).mono ?_
  rintro e w3 ⟨v3,rfl,h3,hb3⟩
  obtain ⟨U,hU⟩:∃ U,U=t.lift m n:=⟨_,rfl⟩
  have hUb:U.bulk≤400000:=by rw [hU,lift_bulk]; omega
  rw [← hU] at h3
  have HU:=Lib.hid hU
  obtain ⟨B3,d3,A3,c3,rfl,_⟩:=h3.form
  have H3:=Lib.hid (And.intro (H2.out.trans (hb3.mono H2.out.size)) h3)
  clear h3 hb3 hU
  go_wp2_with fail
  refine (copyT_any 400000 U _ w3 hUb (Nat.le_refl _) (H3.out.2.keep (fun _ h=>h.2) (fun _ _=>rfl))).mono ?_
  rintro e w4 ⟨v4,rfl,h4,hb4⟩
  obtain ⟨B4,d4,A4,c4,rfl,_⟩:=h4.form
  have hzz:=H3.out.1.size
  have K4:=Lib.hid (HB.out.2.2.below (H3.out.1.trans (hb4.mono H3.out.1.size)) HB.out.2.2.lt)
  have H4:=Lib.hid (And.intro h4 (HB.out.1.trans ((H3.out.1.trans (hb4.mono H3.out.1.size)).mono HB.out.1.size)))
  obtain ⟨_,_,_,_,_,f0,f1,f2,f3,f4⟩:=K4.out.facts5
  clear h4 hb4
  go_wp2_with fail
  obtain ⟨z0,z1,z2,z3,z4⟩:=(K4.out.set5 (.int .i64 U.kind) (.int .i64 U.index) (.int .i64 U.type.kind) (.slice B4 U.type.args.length d4) (.slice A4 U.args.length c4)).cells5
  refine bodyPost_ret (v:=.tuple #[.agg #[.int .i64 U.kind,.int .i64 U.index,.int .i64 U.type.kind,.slice B4 U.type.args.length d4,.slice A4 U.args.length c4],.int .i64 0]) (by simp [results,Tryz.results112,go_sem,z0,z1,z2,z3,z4]) rfl ?_
  have hg:=only_set5 w4 (w.heap.size+1) (.int .i64 U.kind) (.int .i64 U.index) (.int .i64 U.type.kind) (.slice B4 U.type.args.length d4) (.slice A4 U.args.length c4)
  have hz2:=HB.out.2.1
  rw [← HU.out]
  exact ⟨_,rfl,IsTm.keep (fun b h=>⟨by omega,Nat.lt_of_lt_of_le h.2 hg.size⟩) (fun p hp=>World.cell?_of_block (hg.block p.block hp.2 (by have:=hp.1; simp; omega))) _ H4.out.1,H4.out.2.grown hg H4.out.2.size (fun g e=>by cases e; omega)⟩
end Go.Proofs.YthlknhkemmdocaaGreatDoor
namespace Go.Proofs.YthlknhkemmdocaaGreatDoor
open Go.RowKit

set_option maxRecDepth 100000 in
set_option maxHeartbeats 4000000 in
theorem sameAllY_refl (l:List Ty) (A A':Option Addr) (c c':Nat) (w:World) (hlen:l.length≤400000) (hn:∀ T ∈ l,T.nodes≤400000) (hu:TyR.Sl (· < w.heap.size) w l (.slice A l.length c)) (hv:TyR.Sl (· < w.heap.size) w l (.slice A' l.length c')) :
    Calls Tryz.prog 36 #[.slice A l.length c,.slice A' l.length c'] w fun e w'=>e=.returned (.bool true)∧Below w.heap.size w w':=by
  have HL:=Lib.hid (And.intro hu hv)
  clear hu hv
  go_enter Tryz.func36,Tryz.ntmps36
  go_wp2_with fail
  go_loopw [13] (fun ix wr=>∃ j:Nat,j≤l.length∧ix=.int .i64 j∧Below w.heap.size w wr) (fun ix _=>l.length - (intOf ix).toNat)
  case atStart=>exact ⟨0,by omega,rfl,Below.refl _ _⟩
  case round=>
    obtain ⟨j,hj,rfl,hbel⟩:=hrel
    by_cases hlt:j<l.length
    · have hl1:TyR.Sl (· < w.heap.size) wr l (.slice A l.length c):=HL.out.1.keep (fun _ h=>h) (fun p hp=>hbel.cell hp)
      have hm1:TyR.Sl (· < w.heap.size) wr l (.slice A' l.length c'):=HL.out.2.keep (fun _ h=>h) (fun p hp=>hbel.cell hp)
      obtain ⟨a,rfl,ha,hat⟩:=hl1.get j hlt
      obtain ⟨a',rfl,ha',hat'⟩:=hm1.get j hlt
      obtain ⟨B1,c1,q0,q1,hx⟩:=at_ty hat
      obtain ⟨B2,c2,r0,r1,hy⟩:=at_ty hat'
      simp only [show TyR.n=2 from rfl] at q0 q1 r0 r1
      have hnj:=hn _ (List.getElem_mem hlt)
      have hwz:=hbel.size
      have hab:(a.add (j * 2)).block<wr.heap.size:=by rw [add_block]; exact Nat.lt_of_lt_of_le ha hwz
      have hab':(a'.add (j * 2)).block<wr.heap.size:=by rw [add_block]; exact Nat.lt_of_lt_of_le ha' hwz
      have HSK:=Lib.hid fun (w1:World) (h:Below wr.heap.size wr w1)=>(And.intro ((h.cell (p:=a.add (j * 2)) (by omega)).trans q0) (And.intro ((h.cell (p:=⟨(a.add (j * 2)).block,(a.add (j * 2)).off+1,none⟩) (by show (a.add (j * 2)).block<_; omega)).trans q1) (And.intro ((h.cell (p:=a'.add (j * 2)) (by omega)).trans r0) ((h.cell (p:=⟨(a'.add (j * 2)).block,(a'.add (j * 2)).off+1,none⟩) (by show (a'.add (j * 2)).block<_; omega)).trans r1))))
      have ARM:=Lib.hid (show Calls Tryz.prog 37 #[.agg #[.int .i64 l[j].kind,.slice B1 l[j].args.length c1],.agg #[.int .i64 l[j].kind,.slice B2 l[j].args.length c2]] wr.drew fun e w'=>e=.returned (.bool true)∧Below wr.heap.size wr w' by
        refine (refSame_any 400000 l[j] l[j] _ _ wr.drew hnj (Nat.le_refl _) (IsTy.keep (fun b h=>Nat.lt_of_lt_of_le h hwz) (fun p _=>World.cell?_drew _ p) _ hx) (IsTy.keep (fun b h=>Nat.lt_of_lt_of_le h hwz) (fun p _=>World.cell?_drew _ p) _ hy) hnj).mono ?_
        rintro e w1 ⟨h1,h2⟩
        exact ⟨h1.trans (by rw [eqb_self]),((Below.refl _ wr).drew).trans h2⟩)
      have HBL:=Lib.hid hbel
      clear hl1 hm1 hat hat' hx hy q0 q1 r0 r1 hbel
      go_upto_region 6 with fail
      go_region_held3 (fun w'=>w'.cell? (a.add (j * 2))=some (.int .i64 l[j].kind)∧w'.cell? ⟨(a.add (j * 2)).block,(a.add (j * 2)).off+1,none⟩ = some (.slice B1 l[j].args.length c1)∧w'.cell? (a'.add (j * 2))=some (.int .i64 l[j].kind)∧w'.cell? ⟨(a'.add (j * 2)).block,(a'.add (j * 2)).off+1,none⟩ = some (.slice B2 l[j].args.length c2))
        (first | with_reducible exact HSK.out _ (Below.refl _ _).drew | with_reducible exact HSK.out _ HB1.out | go_keep)
        (first
          | (go_at_call 37
             (with_reducible refine ARM.out.mono ?_)
             rintro e w1 ⟨rfl,hb1⟩
             have HB1:=Lib.hid hb1
             clear hb1))
      go_wp2_with fail
      exact ⟨⟨j+1,by omega,by go_num,HBL.out.trans (HB1.out.mono hwz)⟩,by simp [intOf]; omega⟩
    · have hjl:j=l.length:=by omega
      subst hjl
      have HBL:=Lib.hid hbel
      clear hbel
      go_wp2_with fail
      go_ret
      exact ⟨rfl,HBL.out⟩

set_option maxRecDepth 100000 in
set_option maxHeartbeats 4000000 in
theorem sameAllT_refl (l:List Tm) (A A':Option Addr) (c c':Nat) (w:World) (hlen:l.length≤400000) (hn:∀ T ∈ l,T.bulk≤400000) (hu:TmR.Sl (· < w.heap.size) w l (.slice A l.length c)) (hv:TmR.Sl (· < w.heap.size) w l (.slice A' l.length c')) :
    Calls Tryz.prog 67 #[.slice A l.length c,.slice A' l.length c'] w fun e w'=>e=.returned (.bool true)∧Below w.heap.size w w':=by
  have HL:=Lib.hid (And.intro hu hv)
  clear hu hv
  go_enter Tryz.func67,Tryz.ntmps67
  go_wp2_with fail
  go_loopw [13] (fun ix wr=>∃ j:Nat,j≤l.length∧ix=.int .i64 j∧Below w.heap.size w wr) (fun ix _=>l.length - (intOf ix).toNat)
  case atStart=>exact ⟨0,by omega,rfl,Below.refl _ _⟩
  case round=>
    obtain ⟨j,hj,rfl,hbel⟩:=hrel
    by_cases hlt:j<l.length
    · have hl1:TmR.Sl (· < w.heap.size) wr l (.slice A l.length c):=HL.out.1.keep (fun _ h=>h) (fun p hp=>hbel.cell hp)
      have hm1:TmR.Sl (· < w.heap.size) wr l (.slice A' l.length c'):=HL.out.2.keep (fun _ h=>h) (fun p hp=>hbel.cell hp)
      obtain ⟨a,rfl,ha,hat⟩:=hl1.get j hlt
      obtain ⟨a',rfl,ha',hat'⟩:=hm1.get j hlt
      obtain ⟨B1,d1,A1,c1,q0,q1,q2,q3,q4,hx⟩:=at_tm hat
      obtain ⟨B2,d2,A2,c2,r0,r1,r2,r3,r4,hy⟩:=at_tm hat'
      simp only [show TmR.n=5 from rfl] at q0 q1 q2 q3 q4 r0 r1 r2 r3 r4
      have hnj:=hn _ (List.getElem_mem hlt)
      have hwz:=hbel.size
      have hab:(a.add (j * 5)).block<wr.heap.size:=by rw [add_block]; exact Nat.lt_of_lt_of_le ha hwz
      have hab':(a'.add (j * 5)).block<wr.heap.size:=by rw [add_block]; exact Nat.lt_of_lt_of_le ha' hwz
      have HSK:=Lib.hid fun (w1:World) (h:Below wr.heap.size wr w1)=>(And.intro ((h.cell (p:=a.add (j * 5)) (by omega)).trans q0) (And.intro ((h.cell (p:=⟨(a.add (j * 5)).block,(a.add (j * 5)).off+1,none⟩) (by show (a.add (j * 5)).block<_; omega)).trans q1) (And.intro ((h.cell (p:=⟨(a.add (j * 5)).block,(a.add (j * 5)).off+2,none⟩) (by show (a.add (j * 5)).block<_; omega)).trans q2) (And.intro ((h.cell (p:=⟨(a.add (j * 5)).block,(a.add (j * 5)).off+3,none⟩) (by show (a.add (j * 5)).block<_; omega)).trans q3) (And.intro ((h.cell (p:=⟨(a.add (j * 5)).block,(a.add (j * 5)).off+4,none⟩) (by show (a.add (j * 5)).block<_; omega)).trans q4) (And.intro ((h.cell (p:=a'.add (j * 5)) (by omega)).trans r0) (And.intro ((h.cell (p:=⟨(a'.add (j * 5)).block,(a'.add (j * 5)).off+1,none⟩) (by show (a'.add (j * 5)).block<_; omega)).trans r1) (And.intro ((h.cell (p:=⟨(a'.add (j * 5)).block,(a'.add (j * 5)).off+2,none⟩) (by show (a'.add (j * 5)).block<_; omega)).trans r2) (And.intro ((h.cell (p:=⟨(a'.add (j * 5)).block,(a'.add (j * 5)).off+3,none⟩) (by show (a'.add (j * 5)).block<_; omega)).trans r3) ((h.cell (p:=⟨(a'.add (j * 5)).block,(a'.add (j * 5)).off+4,none⟩) (by show (a'.add (j * 5)).block<_; omega)).trans r4))))))))))
      have ARM:=Lib.hid (show Calls Tryz.prog 29 #[.agg #[.int .i64 l[j].kind,.int .i64 l[j].index,.int .i64 l[j].type.kind,.slice B1 l[j].type.args.length d1,.slice A1 l[j].args.length c1],.agg #[.int .i64 l[j].kind,.int .i64 l[j].index,.int .i64 l[j].type.kind,.slice B2 l[j].type.args.length d2,.slice A2 l[j].args.length c2]] wr.drew fun e w'=>e=.returned (.bool true)∧Below wr.heap.size wr w' by
        refine (sameT_refl 400000 l[j] _ _ wr.drew hnj (Nat.le_refl _) (hx.keep (fun b h=>Nat.lt_of_lt_of_le h hwz) (fun p _=>World.cell?_drew _ p)) (hy.keep (fun b h=>Nat.lt_of_lt_of_le h hwz) (fun p _=>World.cell?_drew _ p))).mono ?_
        rintro e w1 ⟨h1,h2⟩
        exact ⟨h1,((Below.refl _ wr).drew).trans h2⟩)
      have HBL:=Lib.hid hbel
      clear hl1 hm1 hat hat' hx hy q0 q1 q2 q3 q4 r0 r1 r2 r3 r4 hbel
      go_upto_region 6 with fail
      go_region_held3 (fun w'=>w'.cell? (a.add (j * 5))=some (.int .i64 l[j].kind)∧w'.cell? ⟨(a.add (j * 5)).block,(a.add (j * 5)).off+1,none⟩ = some (.int .i64 l[j].index)∧w'.cell? ⟨(a.add (j * 5)).block,(a.add (j * 5)).off+2,none⟩ = some (.int .i64 l[j].type.kind)∧w'.cell? ⟨(a.add (j * 5)).block,(a.add (j * 5)).off+3,none⟩ = some (.slice B1 l[j].type.args.length d1)∧w'.cell? ⟨(a.add (j * 5)).block,(a.add (j * 5)).off+4,none⟩ = some (.slice A1 l[j].args.length c1)∧w'.cell? (a'.add (j * 5))=some (.int .i64 l[j].kind)∧w'.cell? ⟨(a'.add (j * 5)).block,(a'.add (j * 5)).off+1,none⟩ = some (.int .i64 l[j].index)∧w'.cell? ⟨(a'.add (j * 5)).block,(a'.add (j * 5)).off+2,none⟩ = some (.int .i64 l[j].type.kind)∧w'.cell? ⟨(a'.add (j * 5)).block,(a'.add (j * 5)).off+3,none⟩ = some (.slice B2 l[j].type.args.length d2)∧w'.cell? ⟨(a'.add (j * 5)).block,(a'.add (j * 5)).off+4,none⟩ = some (.slice A2 l[j].args.length c2))
        (first | with_reducible exact HSK.out _ (Below.refl _ _).drew | with_reducible exact HSK.out _ HB1.out | go_keep)
        (first
          | (go_at_call 29
             (with_reducible refine ARM.out.mono ?_)
             rintro e w1 ⟨rfl,hb1⟩
             have HB1:=Lib.hid hb1
             clear hb1))
      go_wp2_with fail
      exact ⟨⟨j+1,by omega,by go_num,HBL.out.trans (HB1.out.mono hwz)⟩,by simp [intOf]; omega⟩
    · have hjl:j=l.length:=by omega
      subst hjl
      have HBL:=Lib.hid hbel
      clear hbel
      go_wp2_with fail
      go_ret
      exact ⟨rfl,HBL.out⟩

theorem bulkAllF_mem {l:List Fm}:∀ i (h:i<l.length),l[i].bulk≤bulkAllF l:=by
  induction l with
  | nil=>intro i h; simp at h
  | cons t r ih=>
    intro i h
    cases i with
    | zero=>simp [bulkAllF]
    | succ i=>
      have:=ih i (by simpa using h)
      simp only [bulkAllF,List.getElem_cons_succ]
      omega
theorem fm_pos (t:Fm):1≤t.bulk:=by cases t; simp only [Fm.bulk]; omega
theorem bulkAllF_count:∀ l:List Fm,l.length≤bulkAllF l
  | []=>by simp [bulkAllF]
  | t :: r=>by
    have:=bulkAllF_count r
    have:=fm_pos t
    simp only [bulkAllF,List.length_cons]
    omega

set_option maxRecDepth 100000 in
set_option maxHeartbeats 8000000 in
theorem sameFr_refl (n:Nat):∀ (t:Fm) (u v:Value) (w:World),t.bulk≤n→n≤400000→IsFm (· < w.heap.size) w t u→IsFm (· < w.heap.size) w t v →
    Calls Tryz.prog 19 #[u,v] w fun e w'=>e=.returned (.bool true)∧Below w.heap.size w w':=by
  induction n with
  | zero=>intro t; have:=fm_pos t; omega
  | succ n ih=>
    rintro ⟨k,T,m,l⟩ u v w hn hb hu hv
    obtain ⟨B,d,C,e0,A,c,rfl,hT,hm,hl⟩:=hu.parts
    obtain ⟨B',d',C',e0',A',c',rfl,hT',hm',hl'⟩:=hv.parts
    simp only [Fm.kind,Fm.type,Fm.terms,Fm.args] at *
    have hll:=bulkAllF_count l
    have hml:=bulkAll_len m
    simp only [Fm.bulk] at hn
    have IH:=Lib.hid ih
    have HL:=Lib.hid (And.intro hl hl')
    obtain ⟨b1,z1,k1⟩:=new_blk (Below.refl w.heap.size w) (Nat.le_refl _) #[.int .i64 k,.int .i64 T.kind,.slice B T.args.length d,.slice C m.length e0,.slice A l.length c] 34
    obtain ⟨b2,z2,k2⟩:=new_blk b1 b1.size #[.int .i64 k,.int .i64 T.kind,.slice B' T.args.length d',.slice C' m.length e0',.slice A' l.length c'] 34
    have k1:=k1.alloc (Obj.cells #[.int .i64 k,.int .i64 T.kind,.slice B' T.args.length d',.slice C' m.length e0',.slice A' l.length c'] 34)
    rw [z1] at k2 z2
    obtain ⟨W,hW⟩:∃ W,W=(w.alloc (Obj.cells #[.int .i64 k,.int .i64 T.kind,.slice B T.args.length d,.slice C m.length e0,.slice A l.length c] 34)).alloc (Obj.cells #[.int .i64 k,.int .i64 T.kind,.slice B' T.args.length d',.slice C' m.length e0',.slice A' l.length c'] 34):=⟨_,rfl⟩
    rw [← hW] at b2 z2 k1 k2
    have HTY:=Lib.hid (And.intro (hT.boxed' b2) (hT'.boxed' b2))
    have HMM:=Lib.hid fun (w':World) (h:Below W.heap.size W w')=>And.intro (show TmR.Sl (· < w'.heap.size) w' m (.slice C m.length e0) from hm.keep (fun _ h'=>Nat.lt_of_lt_of_le h' (Nat.le_trans b2.size h.size)) (fun p hp=>(h.cell (Nat.lt_of_lt_of_le hp b2.size)).trans (b2.cell hp)))
      (show TmR.Sl (· < w'.heap.size) w' m (.slice C' m.length e0') from hm'.keep (fun _ h'=>Nat.lt_of_lt_of_le h' (Nat.le_trans b2.size h.size)) (fun p hp=>(h.cell (Nat.lt_of_lt_of_le hp b2.size)).trans (b2.cell hp)))
    have hTn:T.nodes≤400000:=by omega
    have hmb:∀ x ∈ m,x.bulk≤400000:=fun x hx=>by
      obtain ⟨i,hi,rfl⟩:=List.getElem_of_mem hx
      have:=bulkAll_get m i hi
      omega
    have hmn:m.length≤400000:=by omega
    have HKK:=Lib.hid (And.intro k1 (And.intro k2 b2))
    obtain ⟨p0,p1,p2,p3,p4,_⟩:=k1.facts5
    obtain ⟨s0,s1,s2,s3,s4,_⟩:=k2.facts5
    clear hu hv hT hT' hl hl' hm hm' ih b1 z1 k1 k2
    go_enter Tryz.func19,Tryz.ntmps19
    go_wp2_with fail
    rw [← hW]
    clear hW
    refine (refSame_any 400000 T T _ _ W hTn (Nat.le_refl _) HTY.out.1 HTY.out.2 hTn).mono ?_
    rintro e W0 ⟨rfl,hbW⟩
    rw [eqb_self]
    have HB0:=Lib.hid hbW
    obtain ⟨_,_,_,p3,p4,_⟩:=(HKK.out.1.below hbW HKK.out.1.lt).facts5
    obtain ⟨_,_,_,s3,s4,_⟩:=(HKK.out.2.1.below hbW HKK.out.2.1.lt).facts5
    clear hbW p0 p1 p2 s0 s1 s2
    go_wp2_with fail
    refine (sameAllT_refl m _ _ _ _ W0 hmn hmb (HMM.out W0 HB0.out).1 (HMM.out W0 HB0.out).2).mono ?_
    rintro e W1 ⟨rfl,hbW⟩
    have HK2:=Lib.hid (have hbb:=HB0.out.trans (hbW.mono HB0.out.size); And.intro (HKK.out.1.below hbb HKK.out.1.lt) (And.intro (HKK.out.2.1.below hbb HKK.out.2.1.lt) (HKK.out.2.2.trans (hbb.mono HKK.out.2.2.size))))
    obtain ⟨_,_,_,_,q4,_⟩:=HK2.out.1.facts5
    obtain ⟨_,_,_,_,r4,_⟩:=HK2.out.2.1.facts5
    clear hbW p3 p4 s3 s4
    go_wp2_with fail
    go_loopw [39] (fun ix wr=>∃ j:Nat,j≤l.length∧ix=.int .i64 j∧Below W1.heap.size W1 wr) (fun ix _=>l.length - (intOf ix).toNat)
    case atStart=>exact ⟨0,by omega,rfl,Below.refl _ _⟩
    case round=>
      obtain ⟨j,hj,rfl,hbel⟩:=hrel
      have hws:=hbel.size
      have hB2:Below w.heap.size w wr:=HK2.out.2.2.trans (hbel.mono HK2.out.2.2.size)
      by_cases hlt:j<l.length
      · have hl1:FmR.Sl (· < w.heap.size) wr l (.slice A l.length c):=HL.out.1.keep (fun _ h=>h) (fun p hp=>hB2.cell hp)
        have hm1:FmR.Sl (· < w.heap.size) wr l (.slice A' l.length c'):=HL.out.2.keep (fun _ h=>h) (fun p hp=>hB2.cell hp)
        obtain ⟨a,rfl,ha,hat⟩:=hl1.get j hlt
        obtain ⟨a',rfl,ha',hat'⟩:=hm1.get j hlt
        obtain ⟨B1,d1,C1,e1,A1,c1,q0,q1,q2,q3,q4',hx⟩:=at_fm hat
        obtain ⟨B2,d2,C2,e2,A2,c2,r0,r1,r2,r3,r4',hy⟩:=at_fm hat'
        simp only [show FmR.n=5 from rfl] at q0 q1 q2 q3 q4' r0 r1 r2 r3 r4'
        have hnj:=bulkAllF_mem j hlt
        have hwz:=hB2.size
        have hab:(a.add (j * 5)).block<wr.heap.size:=by rw [add_block]; exact Nat.lt_of_lt_of_le ha hwz
        have hab':(a'.add (j * 5)).block<wr.heap.size:=by rw [add_block]; exact Nat.lt_of_lt_of_le ha' hwz
        have k1:=HK2.out.1.below hbel HK2.out.1.lt
        have k2:=HK2.out.2.1.below hbel HK2.out.2.1.lt
        have HSK:=Lib.hid fun (w1:World) (h:Below wr.heap.size wr w1)=>(And.intro (k1.below h k1.lt).facts5.2.2.2.2.1 (And.intro (k2.below h k2.lt).facts5.2.2.2.2.1 (And.intro ((h.cell (p:=a.add (j * 5)) (by omega)).trans q0) (And.intro ((h.cell (p:=⟨(a.add (j * 5)).block,(a.add (j * 5)).off+1,none⟩) (by show (a.add (j * 5)).block<_; omega)).trans q1) (And.intro ((h.cell (p:=⟨(a.add (j * 5)).block,(a.add (j * 5)).off+2,none⟩) (by show (a.add (j * 5)).block<_; omega)).trans q2) (And.intro ((h.cell (p:=⟨(a.add (j * 5)).block,(a.add (j * 5)).off+3,none⟩) (by show (a.add (j * 5)).block<_; omega)).trans q3) (And.intro ((h.cell (p:=⟨(a.add (j * 5)).block,(a.add (j * 5)).off+4,none⟩) (by show (a.add (j * 5)).block<_; omega)).trans q4') (And.intro ((h.cell (p:=a'.add (j * 5)) (by omega)).trans r0) (And.intro ((h.cell (p:=⟨(a'.add (j * 5)).block,(a'.add (j * 5)).off+1,none⟩) (by show (a'.add (j * 5)).block<_; omega)).trans r1) (And.intro ((h.cell (p:=⟨(a'.add (j * 5)).block,(a'.add (j * 5)).off+2,none⟩) (by show (a'.add (j * 5)).block<_; omega)).trans r2) (And.intro ((h.cell (p:=⟨(a'.add (j * 5)).block,(a'.add (j * 5)).off+3,none⟩) (by show (a'.add (j * 5)).block<_; omega)).trans r3) ((h.cell (p:=⟨(a'.add (j * 5)).block,(a'.add (j * 5)).off+4,none⟩) (by show (a'.add (j * 5)).block<_; omega)).trans r4'))))))))))))
        have ARM:=Lib.hid (show Calls Tryz.prog 19 #[.agg #[.int .i64 l[j].kind,.int .i64 l[j].type.kind,.slice B1 l[j].type.args.length d1,.slice C1 l[j].terms.length e1,.slice A1 l[j].args.length c1],.agg #[.int .i64 l[j].kind,.int .i64 l[j].type.kind,.slice B2 l[j].type.args.length d2,.slice C2 l[j].terms.length e2,.slice A2 l[j].args.length c2]] wr.drew fun e w'=>e=.returned (.bool true)∧Below wr.heap.size wr w' by
          refine (IH.out l[j] _ _ wr.drew (by omega) (by omega) (hx.keep (fun b h=>Nat.lt_of_lt_of_le h hwz) (fun p _=>World.cell?_drew _ p)) (hy.keep (fun b h=>Nat.lt_of_lt_of_le h hwz) (fun p _=>World.cell?_drew _ p))).mono ?_
          rintro e w1 ⟨h1,h2⟩
          exact ⟨h1,((Below.refl _ wr).drew).trans h2⟩)
        obtain ⟨m0,m1,_⟩:=HSK.out wr (Below.refl _ _)
        have HBL:=Lib.hid hbel
        clear hl1 hm1 hat hat' hx hy k1 k2 q0 q1 q2 q3 q4' r0 r1 r2 r3 r4' hbel hB2
        go_wp2_with fail
        go_region_held3 (fun w'=>w'.cell? ⟨w.heap.size,4,none⟩ = some (.slice (some a) l.length c)∧w'.cell? ⟨w.heap.size+1,4,none⟩ = some (.slice (some a') l.length c')∧w'.cell? (a.add (j * 5))=some (.int .i64 l[j].kind)∧w'.cell? ⟨(a.add (j * 5)).block,(a.add (j * 5)).off+1,none⟩ = some (.int .i64 l[j].type.kind)∧w'.cell? ⟨(a.add (j * 5)).block,(a.add (j * 5)).off+2,none⟩ = some (.slice B1 l[j].type.args.length d1)∧w'.cell? ⟨(a.add (j * 5)).block,(a.add (j * 5)).off+3,none⟩ = some (.slice C1 l[j].terms.length e1)∧w'.cell? ⟨(a.add (j * 5)).block,(a.add (j * 5)).off+4,none⟩ = some (.slice A1 l[j].args.length c1)∧w'.cell? (a'.add (j * 5))=some (.int .i64 l[j].kind)∧w'.cell? ⟨(a'.add (j * 5)).block,(a'.add (j * 5)).off+1,none⟩ = some (.int .i64 l[j].type.kind)∧w'.cell? ⟨(a'.add (j * 5)).block,(a'.add (j * 5)).off+2,none⟩ = some (.slice B2 l[j].type.args.length d2)∧w'.cell? ⟨(a'.add (j * 5)).block,(a'.add (j * 5)).off+3,none⟩ = some (.slice C2 l[j].terms.length e2)∧w'.cell? ⟨(a'.add (j * 5)).block,(a'.add (j * 5)).off+4,none⟩ = some (.slice A2 l[j].args.length c2))
          (first | with_reducible exact HSK.out _ (Below.refl _ _).drew | with_reducible exact HSK.out _ HB1.out | go_keep)
          (first
            | (go_at_call 19
               (with_reducible refine ARM.out.mono ?_)
               rintro e w1 ⟨rfl,hb1⟩
               have HB1:=Lib.hid hb1
               clear hb1))
        go_wp2_with fail
        exact ⟨⟨j+1,by omega,by go_num,HBL.out.trans (HB1.out.mono hws)⟩,by simp [intOf]; omega⟩
      · have hjl:j=l.length:=by omega
        subst hjl
        clear hbel
        go_wp2_with fail
        go_ret
        exact ⟨rfl,hB2⟩
end Go.Proofs.YthlknhkemmdocaaGreatDoor
