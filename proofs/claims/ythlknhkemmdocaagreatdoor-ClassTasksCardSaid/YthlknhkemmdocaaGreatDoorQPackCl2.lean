/- Classes of formulas: the bits, and class.quantified. -/
import Derived.Test.YthlknhkemmdocaaGreatDoorQPackCl
import Derived.Test.YthlknhkemmdocaaGreatDoorQPackReg2
import Derived.Test.YthlknhkemmdocaaGreatDoorQPackFml
import Derived.Test.YthlknhkemmdocaaGreatDoorQRefSame
namespace Go.Proofs.YthlknhkemmdocaaGreatDoor
open Go.RowKit

/-- A valid formula of valid terms whose variables are not too far. -/
inductive FineF:Fm→Prop
  | eq (s t:Tm) (hs:s.err=0∧s.low 536870912=true) (ht:t.err=0∧t.low 536870912=true):FineF (.mk 1 .zero [s,t] [])
  | two (k:Int) (a b:Fm) (hk:k=2∨k=3) (ha:FineF a) (hb:FineF b):FineF (.mk k .zero [] [a,b])
  | quant (k:Int) (T:Ty) (b:Fm) (hk:k=4∨k=5∨k=6∨k=7) (hT:T.err=0) (hb:FineF b):FineF (.mk k T [] [b])
theorem FineF.good {f:Fm} (h:FineF f):GoodF f:=by
  induction h with
  | eq s t hs ht=>exact .eq s t hs.1 ht.1
  | two k a b hk _ _ iha ihb=>exact .two k a b hk iha ihb
  | quant k T b hk hT _ ih=>exact .quant k T b hk hT ih
theorem err_arg {a t:Tm} (h:a.err=0) (ht:t ∈ a.args):t.err=0:=by
  obtain ⟨h1,h2⟩:=errT_zero.1 h
  rw [okT_eq] at h1
  simp only [Bool.and_eq_true] at h1
  obtain ⟨i,hi,rfl⟩:=List.getElem_of_mem ht
  refine errT_zero.2 ⟨okAllT_get h1.2 i hi,?_⟩
  have h3:=sizeAllT_upto a.args i hi
  have h4:=sizeAllT_upto_le a.args (i+1)
  rw [sizeT_eq] at h2
  omega
theorem low_arg {a t:Tm} {n:Int} (h:a.low n=true) (ht:t ∈ a.args):t.low n=true:=by
  obtain ⟨k,i,T,l⟩:=a
  simp only [Tm.low,Bool.and_eq_true] at h
  obtain ⟨j,hj,rfl⟩:=List.getElem_of_mem ht
  exact lowAll_get h.2 j hj
theorem FineF.limit {f:Fm} (h:FineF f) (t:Tm) (hl:limitF f=some t):t.err=0∧t.low 536870912=true∧t.bulk≤f.bulk:=by
  unfold limitF at hl
  cases h with
  | eq s u hs ht=>
    simp only [Fm.terms] at hl
    split at hl
    · rename_i p q hp
      split at hl
      · cases hl
        refine ⟨err_arg hs.1 (by rw [hp]; simp),low_arg hs.2 (by rw [hp]; simp),?_⟩
        have h1:=bulk_eq s
        rw [hp] at h1
        simp only [bulkAll] at h1
        simp only [Fm.bulk,bulkAll]
        omega
      · cases hl
    · cases hl
  | two=>simp only [Fm.terms] at hl; cases hl
  | quant=>simp only [Fm.terms] at hl; cases hl

noncomputable def bitsAt (f:Fm) (bs:List Nat):Nat:=
  match bs with
  | [a,b]=>if f.kind=2 then ((a ||| b) &&& 1) ||| (a &&& b &&& 6) else (b &&& 1) ||| (a &&& b &&& 6)
  | [a]=>(if (partsF f).isSome then a &&& 5 else a &&& 1) ||| (if f.kind=5 then 1 else 0)
  | _=>6
mutual
/-- 1: content, 2: free, 4: decidable. -/
noncomputable def Fm.bits:Fm→Nat
  | .mk k T ts l=>bitsAt (.mk k T ts l) (bitsAll l)
noncomputable def bitsAll:List Fm→List Nat
  | []=>[]
  | f :: r=>f.bits :: bitsAll r
end
theorem bits_two (k:Int) (T:Ty) (ts:List Tm) (a b:Fm):(Fm.mk k T ts [a,b]).bits=if k=2 then ((a.bits ||| b.bits) &&& 1) ||| (a.bits &&& b.bits &&& 6) else (b.bits &&& 1) ||| (a.bits &&& b.bits &&& 6):=by
  simp only [Fm.bits,bitsAll,bitsAt]; rfl
theorem bits_one (k:Int) (T:Ty) (ts:List Tm) (a:Fm):(Fm.mk k T ts [a]).bits=(if (partsF (.mk k T ts [a])).isSome then a.bits &&& 5 else a.bits &&& 1) ||| (if k=5 then 1 else 0):=by
  simp only [Fm.bits,bitsAll,bitsAt]; rfl
theorem bits_eq (k:Int) (T:Ty) (ts:List Tm):(Fm.mk k T ts []).bits=6:=by simp only [Fm.bits,bitsAll,bitsAt]
theorem FineF.bits_lt {f:Fm} (h:FineF f):f.bits<8:=by
  cases h with
  | eq=>rw [bits_eq]; omega
  | two k a b=>
    rw [bits_two]
    have h1:∀ x y:Nat,x &&& y≤y:=fun x y=>Nat.and_le_right
    split
    · exact Nat.or_lt_two_pow (n:=3) (Nat.lt_of_le_of_lt (h1 _ _) (by decide)) (Nat.lt_of_le_of_lt (h1 _ _) (by decide))
    · exact Nat.or_lt_two_pow (n:=3) (Nat.lt_of_le_of_lt (h1 _ _) (by decide)) (Nat.lt_of_le_of_lt (h1 _ _) (by decide))
  | quant k T b=>
    rw [bits_one]
    have h1:∀ x y:Nat,x &&& y≤y:=fun x y=>Nat.and_le_right
    refine Nat.or_lt_two_pow (n:=3) ?_ (by split <;> decide)
    split
    · exact Nat.lt_of_le_of_lt (h1 _ _) (by decide)
    · exact Nat.lt_of_le_of_lt (h1 _ _) (by decide)
/-- What is said of class.classes. -/
def ClassesOf (f:Fm):Prop:=∀ (S:Nat→Prop) (v:Value) (w:World),(∀ b,S b→b<w.heap.size)→Tab w→IsFm S w f v →
  Calls Tryz.prog 93 #[v] w fun e w'=>e=.returned (.int .i64 (f.bits:Nat))∧Below w.heap.size w w'
theorem parts_any (S:Nat→Prop) (k:Int) (T:Ty) (b:Fm) (v:Value) (w:World) (hk:k=4∨k=5∨k=6∨k=7) (_hT:T.err=0) (hb:FineF b) (hsz:b.bulk≤390000) (hS:∀ b,S b→b<w.heap.size) (htab:Tab w) (hF:IsFm S w (.mk k T [] [b]) v) :
    Calls Tryz.prog 78 #[v] w (PartsR S (partsF (.mk k T [] [b])) w):=by
  have hk7:0≤(Fm.mk k T [] [b]).kind∧(Fm.mk k T [] [b]).kind≤7:=by show 0≤k∧k≤7; omega
  by_cases h0:belowOf k=0∨T.kind≠1
  · exact parts_no S _ v w hk7 h0 hF
  · obtain ⟨h1,h2⟩:belowOf k≠0∧T.kind=1:=⟨fun e=>h0 (.inl e),Classical.byContradiction fun e=>h0 (.inr e)⟩
    by_cases hg:b.kind=belowOf k
    · cases hb with
      | eq s t=>exfalso; have hg':(1:Int)=belowOf k:=hg; unfold belowOf at hg'; split at hg' <;> (try split at hg') <;> omega
      | two k' x y hk' hx hy=>
        refine parts_is S _ _ x y v w hk7 h1 h2 rfl hg rfl hS hx.good ?_ (fun t ht=>?_) htab hF
        · simp only [Fm.bulk,bulkAllF] at hsz; omega
        · obtain ⟨q1,q2,q3⟩:=hx.limit t ht
          simp only [Fm.bulk,bulkAllF] at hsz
          exact ⟨q1,q2,by omega⟩
      | quant k' T' y hk'=>exfalso; have hg':k' = belowOf k:=hg; unfold belowOf at hg'; split at hg' <;> (try split at hg') <;> omega
    · exact parts_join S _ b v w hk7 h1 h2 rfl hg hS hF

theorem b_andNot2:∀ n:Nat,n<8→bits BinOp.andNot IntKind.i64 (n:Int) 2=((n &&& 5:Nat):Int):=by decide
theorem b_andNot4:∀ n:Nat,n<8→bits BinOp.andNot IntKind.i64 (n:Int) 4=((n &&& 3:Nat):Int):=by decide
theorem b_or:∀ n:Nat,n<8→∀ m:Nat,m<8→bits BinOp.or IntKind.i64 (n:Int) (m:Int)=((n ||| m:Nat):Int):=by decide
theorem b_and:∀ n:Nat,n<8→∀ m:Nat,m<8→bits BinOp.and IntKind.i64 (n:Int) (m:Int)=((n &&& m:Nat):Int):=by decide
theorem b_one:∀ n:Nat,n<8→bits BinOp.or IntKind.i64 (n:Int) 1=((n ||| 1:Nat):Int):=by decide
theorem b_and1:∀ n:Nat,n<8→bits BinOp.and IntKind.i64 (n:Int) 1=((n &&& 1:Nat):Int):=by decide
theorem b_and6:∀ n:Nat,n<8→bits BinOp.and IntKind.i64 (n:Int) 6=((n &&& 6:Nat):Int):=by decide
theorem q_f5:∀ n:Nat,n<8→((n &&& 5) &&& 3) ||| 1=(n &&& 1) ||| 1:=by decide
theorem q_fn:∀ n:Nat,n<8→((n &&& 5) &&& 3)=(n &&& 1) ||| 0:=by decide
theorem q_t5:∀ n:Nat,n<8→(n &&& 5) ||| 1=(n &&& 5) ||| 1:=by decide
theorem q_tn:∀ n:Nat,n<8→(n &&& 5)=(n &&& 5) ||| 0:=by decide
set_option maxRecDepth 100000 in
set_option maxHeartbeats 4000000 in
theorem quantified_any (k:Int) (T:Ty) (b:Fm) (hk:k=4∨k=5∨k=6∨k=7) (hT:T.err=0) (hb:FineF b) (hsz:b.bulk≤390000) (ih:ClassesOf b) (S:Nat→Prop) (v:Value) (w:World) (hS:∀ b,S b→b<w.heap.size) (htab:Tab w) (hF:IsFm S w (.mk k T [] [b]) v) :
    Calls Tryz.prog 125 #[v] w fun e w'=>e=.returned (.int .i64 ((Fm.mk k T [] [b]).bits:Nat))∧Below w.heap.size w w':=by
  obtain ⟨f,hf⟩:∃ f,f=Fm.mk k T [] [b]:=⟨_,rfl⟩
  rw [← hf] at hF ⊢
  have ha:f.args=[b]:=by rw [hf]; rfl
  have hfk:f.kind=k:=by rw [hf]; rfl
  have hbits:=bits_one k T [] b
  rw [← hf] at hbits
  have hpt:=fun (w':World) (u:Value) (h:∀ b,S b→b<w'.heap.size) (ht:Tab w') (hu:IsFm S w' f u)=>parts_any S k T b u w' hk hT hb hsz h ht (by rw [← hf]; exact hu)
  rw [← hf] at hpt
  have hF0:=hF
  obtain ⟨B,d,C,e0,A,c,rfl,_,_,hl⟩:=hF.parts
  rw [ha] at hl
  obtain ⟨aq,B1,d1,C1,e1,A1,c1,rfl,haq,q0,q1,q2,q3,q4,hIb⟩:=sl_childF hl 0 (by simp)
  simp only [Nat.zero_mul,add_zero',List.getElem_cons_zero] at haq q0 q1 q2 q3 q4 hIb
  obtain ⟨W,hW,b1,z1,k0⟩:∃ W,W=w.alloc (.cells #[.int .i64 f.kind,.int .i64 f.type.kind,.slice B f.type.args.length d,.slice C f.terms.length e0,.slice (some aq) f.args.length c] 34)∧Below w.heap.size w W∧W.heap.size=w.heap.size+1∧Blk W w.heap.size 34 #[.int .i64 f.kind,.int .i64 f.type.kind,.slice B f.type.args.length d,.slice C f.terms.length e0,.slice (some aq) f.args.length c]:=⟨_,rfl,(Below.refl _ _).alloc (Nat.le_refl _) _,by simp,Blk.new _ _ _⟩
  have EL:=Lib.hid (show f.args.length=1 by rw [ha]; rfl)
  have HB:=Lib.hid b1
  have HK:=Lib.hid k0
  have HZ:=Lib.hid (And.intro z1 hS)
  have HI:=Lib.hid (And.intro hF0 hIb)
  have HQ:=Lib.hid fun (w':World) (h:Below w.heap.size w w')=>And.intro ((h.cell (hS _ haq)).trans q0) (And.intro ((h.cell (p:=⟨aq.block,aq.off+1,none⟩) (hS _ haq)).trans q1) (And.intro ((h.cell (p:=⟨aq.block,aq.off+2,none⟩) (hS _ haq)).trans q2) (And.intro ((h.cell (p:=⟨aq.block,aq.off+3,none⟩) (hS _ haq)).trans q3) ((h.cell (p:=⟨aq.block,aq.off+4,none⟩) (hS _ haq)).trans q4))))
  have HP:=Lib.hid hpt
  have HN:=Lib.hid (And.intro hbits (And.intro hb.bits_lt (And.intro hfk hk)))
  have HTab:=Lib.hid htab
  have IH:=Lib.hid ih
  have HW:=Lib.hid hW
  obtain ⟨r0,r1,r2,r3,r4,_,_,_,_,_⟩:=k0.facts5
  clear hF hF0 ha hfk hbits hpt hl haq q0 q1 q2 q3 q4 hIb b1 z1 k0 hf hk hT hb hsz ih hS htab hW
  go_enter Tryz.func125,Tryz.ntmps125
  go_upto_region 1 with fail
  rw [← HW.out]
  have el:=EL.out
  obtain ⟨q0,q1,q2,q3,q4⟩:=HQ.out W HB.out
  go_wp2_with fail
  refine (IH.out S _ W (fun b hb=>Nat.lt_of_lt_of_le (HZ.out.2 b hb) HB.out.size) (HTab.out.after HB.out) (HI.out.2.keep (fun _ h=>h) (fun q hq=>HB.out.cell (HZ.out.2 _ hq)))).mono ?_
  rintro en w1 ⟨rfl,hb1⟩
  have HB1:=Lib.hid (HB.out.trans (hb1.mono HB.out.size))
  have HK1:=Lib.hid (HK.out.below hb1 HK.out.lt)
  obtain ⟨t0,t1,t2,t3,t4,_,_,_,_,_⟩:=HK1.out.facts5
  have hn:=HN.out.2.1
  have HBN:=Lib.hid HN.out.1
  obtain ⟨n,hn'⟩:∃ n,n=b.bits:=⟨_,rfl⟩
  rw [← hn'] at hn ⊢
  have HN':=Lib.hid hn'
  have Hn:=Lib.hid hn
  clear hb1 r0 r1 r2 r3 r4 q0 q1 q2 q3 q4 el hn hn'
  go_upto_region 2 with fail
  rw [b_andNot2 n Hn.out]
  obtain ⟨m,hm⟩:∃ m,m=n &&& 5:=⟨_,rfl⟩
  rw [← hm]
  have Hm:=Lib.hid (And.intro hm (show m<8 by rw [hm]; exact Nat.lt_of_le_of_lt Nat.and_le_right (by decide)))
  clear hm
  go_wp2_with fail
  refine (HP.out w1 _ (fun b hb=>Nat.lt_of_lt_of_le (HZ.out.2 b hb) HB1.out.size) (HTab.out.after HB1.out) (HI.out.1.keep (fun _ h=>h) (fun q hq=>HB1.out.cell (HZ.out.2 _ hq)))).mono ?_
  rintro en w2 ⟨u,x,rfl,hu,hx,hb2⟩
  obtain ⟨B6,d6,A6,c6,rfl,_⟩:=hu.form
  obtain ⟨B7,d7,C7,e7,A7,c7,rfl,_⟩:=hx.form
  have HB2:=Lib.hid (HB1.out.trans (hb2.mono HB1.out.size))
  have HK2:=Lib.hid (HK1.out.below hb2 HK1.out.lt)
  clear hu hx hb2 t0 t1 t2 t3 t4
  obtain ⟨U,hU⟩:∃ U,U=((partsF f).map Prod.fst).getD noneTm:=⟨_,rfl⟩
  obtain ⟨Y,hY⟩:∃ Y,Y=((partsF f).map Prod.snd).getD noneFm:=⟨_,rfl⟩
  rw [← hU,← hY]
  clear hU hY
  have hkk:w.heap.size<w2.heap.size:=HK2.out.lt
  obtain ⟨t0,t1,t2,t3,t4,_,_,_,_,_⟩:=HK2.out.facts5
  cases hp:(partsF f).isSome with
  | false=>
    have HR:=Lib.hid (show f.bits=(n &&& 1) ||| (if f.kind=5 then 1 else 0) by rw [HBN.out,hp,HN'.out,HN.out.2.2.1]; rfl)
    clear hp
    by_cases h5:f.kind=5
    · have e5:(f.kind == 5)=true:=by simpa using h5
      have HR5:=Lib.hid (show f.bits=(n &&& 1) ||| 1 by rw [HR.out,if_pos h5])
      clear h5
      go_wp2_with fail
      rw [b_andNot4 m Hm.out.2,b_one (m &&& 3) (by have:=Hm.out.2; have:=Nat.and_le_left (n:=m) (m:=3); omega),show (m &&& 3) ||| 1=f.bits from by rw [HR5.out,Hm.out.1]; try exact q_f5 n Hn.out]
      refine bodyPost_ret (v:=.int .i64 (f.bits:Nat)) (by simp [results,Tryz.results125,go_sem]) rfl ⟨rfl,(HB2.out.alloc HB2.out.size _).alloc (by have:=HB2.out.size; simp; omega) _⟩
    · have e5:(f.kind == 5)=false:=by simpa using h5
      have HR5:=Lib.hid (show f.bits=(n &&& 1) ||| 0 by rw [HR.out,if_neg h5])
      clear h5
      go_wp2_with fail
      rw [b_andNot4 m Hm.out.2,show (m &&& 3)=f.bits from by rw [HR5.out,Hm.out.1]; try exact q_fn n Hn.out]
      refine bodyPost_ret (v:=.int .i64 (f.bits:Nat)) (by simp [results,Tryz.results125,go_sem]) rfl ⟨rfl,(HB2.out.alloc HB2.out.size _).alloc (by have:=HB2.out.size; simp; omega) _⟩
  | true=>
    have HR:=Lib.hid (show f.bits=(n &&& 5) ||| (if f.kind=5 then 1 else 0) by rw [HBN.out,hp,HN'.out,HN.out.2.2.1]; rfl)
    clear hp
    by_cases h5:f.kind=5
    · have e5:(f.kind == 5)=true:=by simpa using h5
      have HR5:=Lib.hid (show f.bits=(n &&& 5) ||| 1 by rw [HR.out,if_pos h5])
      clear h5
      go_wp2_with fail
      rw [b_one m Hm.out.2,show m ||| 1=f.bits from by rw [HR5.out,Hm.out.1]; try exact q_t5 n Hn.out]
      refine bodyPost_ret (v:=.int .i64 (f.bits:Nat)) (by simp [results,Tryz.results125,go_sem]) rfl ⟨rfl,(HB2.out.alloc HB2.out.size _).alloc (by have:=HB2.out.size; simp; omega) _⟩
    · have e5:(f.kind == 5)=false:=by simpa using h5
      have HR5:=Lib.hid (show f.bits=(n &&& 5) ||| 0 by rw [HR.out,if_neg h5])
      clear h5
      go_wp2_with fail
      rw [show m=f.bits from by rw [HR5.out,Hm.out.1]; try exact q_tn n Hn.out]
      refine bodyPost_ret (v:=.int .i64 (f.bits:Nat)) (by simp [results,Tryz.results125,go_sem]) rfl ⟨rfl,(HB2.out.alloc HB2.out.size _).alloc (by have:=HB2.out.size; simp; omega) _⟩
end Go.Proofs.YthlknhkemmdocaaGreatDoor
namespace Go.Proofs.YthlknhkemmdocaaGreatDoor
open Go.RowKit

def clsA (i j:Nat):Bool:=([0,1,3,7,15,0,32,96,224,511,1023,2047].getD i 0).testBit j
noncomputable def clsF (x y:Fm) (q:Nat) (p:Addr) (s X Y:Value) (i:Nat) (V:Nat→Value) (_:Nat→Unit):RFact:=
  match i with
  | 0=>.pure (V 0=.pointer (some ⟨q,4,none⟩))
  | 1=>.pure (V 1=s)
  | 2=>.pure (V 2=.pointer (some p))
  | 3=>.pure (V 3=X)
  | 4=>.pure (V 4=.int .i64 (x.bits:Nat))
  | 5=>.pure (V 5=.pointer (some ⟨q,4,none⟩))
  | 6=>.pure (V 6=s)
  | 7=>.pure (V 7=.pointer (some ⟨p.block,p.off+5,none⟩))
  | 8=>.pure (V 8=Y)
  | 9=>.pure (V 9=.int .i64 (y.bits:Nat))
  | 10=>.pure (V 10=.int .i64 (x.bits:Nat))
  | _=>.pure (V 11=.int .i64 (y.bits:Nat))
set_option maxRecDepth 100000 in
set_option maxHeartbeats 4000000 in
theorem classes_2 (x y:Fm) (hx:FineF x) (hy:FineF y) (ihx:ClassesOf x) (ihy:ClassesOf y):ClassesOf (.mk 2 .zero [] [x,y]):=by
  intro S v w hS htab hF
  have hbits:=bits_two 2 .zero [] x y
  obtain ⟨f,hf⟩:∃ f,f=Fm.mk 2 .zero [] [x,y]:=⟨_,rfl⟩
  rw [← hf] at hF hbits ⊢
  have ha:f.args=[x,y]:=by rw [hf]; rfl
  have hfk:f.kind=2:=by rw [hf]; rfl
  obtain ⟨B0,d0,C0,e0,A0,c0,rfl,_,_,hl⟩:=hF.parts
  rw [ha] at hl
  obtain ⟨pq,B1,d1,C1,e1,A1,c1,rfl,hpq,q0,q1,q2,q3,q4,hX⟩:=sl_childF hl 0 (by simp)
  obtain ⟨pq',B2,d2,C2,e2,A2,c2,hpp,_,y0,y1,y2,y3,y4,hY⟩:=sl_childF hl 1 (by simp)
  cases hpp
  simp only [Nat.zero_mul,add_zero',Nat.one_mul,add_five,List.getElem_cons_succ,List.getElem_cons_zero] at hpq q0 q1 q2 q3 q4 hX y0 y1 y2 y3 y4 hY
  have hal:f.args.length=2:=by rw [ha]; rfl
  rw [hfk,hal]
  obtain ⟨W,hW,b1,z1,k0⟩:∃ W,W=w.alloc (.cells #[.int .i64 2,.int .i64 f.type.kind,.slice B0 f.type.args.length d0,.slice C0 f.terms.length e0,.slice (some pq) 2 c0] 34)∧Below w.heap.size w W∧W.heap.size=w.heap.size+1∧Blk W w.heap.size 34 #[.int .i64 2,.int .i64 f.type.kind,.slice B0 f.type.args.length d0,.slice C0 f.terms.length e0,.slice (some pq) 2 c0]:=⟨_,rfl,(Below.refl _ _).alloc (Nat.le_refl _) _,by simp,Blk.new _ _ _⟩
  have HB:=Lib.hid b1
  have K0:=Lib.hid k0
  have HX:=Lib.hid fun (w':World) (h:Below w.heap.size w w')=>And.intro ((h.cell (hS _ hpq)).trans q0) (And.intro ((h.cell (p:=⟨pq.block,pq.off+1,none⟩) (hS _ hpq)).trans q1) (And.intro ((h.cell (p:=⟨pq.block,pq.off+2,none⟩) (hS _ hpq)).trans q2) (And.intro ((h.cell (p:=⟨pq.block,pq.off+3,none⟩) (hS _ hpq)).trans q3) ((h.cell (p:=⟨pq.block,pq.off+4,none⟩) (hS _ hpq)).trans q4))))
  have HY:=Lib.hid fun (w':World) (h:Below w.heap.size w w')=>And.intro ((h.cell (p:=⟨pq.block,pq.off+5,none⟩) (hS _ hpq)).trans y0) (And.intro ((h.cell (p:=⟨pq.block,pq.off+5+1,none⟩) (hS _ hpq)).trans y1) (And.intro ((h.cell (p:=⟨pq.block,pq.off+5+2,none⟩) (hS _ hpq)).trans y2) (And.intro ((h.cell (p:=⟨pq.block,pq.off+5+3,none⟩) (hS _ hpq)).trans y3) ((h.cell (p:=⟨pq.block,pq.off+5+4,none⟩) (hS _ hpq)).trans y4))))
  have HN:=Lib.hid (And.intro ihx (And.intro ihy (And.intro hx.bits_lt hy.bits_lt)))
  have HTab:=Lib.hid (show Tab W.drew from htab.after b1.drew)
  have TX:=Lib.hid (show IsFm S W x _ from hX.keep (fun _ h=>h) (fun q hq=>b1.cell (hS _ hq)))
  have TY:=Lib.hid (show IsFm S W y _ from hY.keep (fun _ h=>h) (fun q hq=>b1.cell (hS _ hq)))
  have HZ:=Lib.hid (And.intro z1 (And.intro hS hbits))
  have HW:=Lib.hid hW
  obtain ⟨r0,r1,r2,r3,r4,_,_,_,_,_⟩:=k0.facts5
  clear hF ha hfk hal hbits hl hpq q0 q1 q2 q3 q4 y0 y1 y2 y3 y4 hX hY b1 z1 k0 hf hx hy ihx ihy hS htab hW
  go_enter Tryz.func93,Tryz.ntmps93
  go_upto_region 1 with fail
  rw [← HW.out]
  go_upto_region 3 with fail
  clear r0 r1 r2 r3 r4
  refine wp_region_any (by kernel_rfl) ?_
  change wpAny _ _ _ _ _ _ _ (World.drew _)
  obtain ⟨L0,hL0⟩:∃ L0:Nat→Prop,L0=fun b=>b<W.heap.size∧¬ S b:=⟨_,rfl⟩
  have hz:=HZ.out
  have hG:∀ b,S b→Good L0 W.drew b:=fun b h1=>⟨by rw [hL0]; exact fun e=>e.2 h1,by have:=hz.2.1 b h1; simp; omega⟩
  have TX0:=Lib.hid (show IsFm (Good L0 W.drew) W.drew x _ from IsFm.keep (w:=W) (w':=W.drew) hG (fun _ _=>rfl) _ TX.out)
  have TY0:=Lib.hid (show IsFm (Good L0 W.drew) W.drew y _ from IsFm.keep (w:=W) (w':=W.drew) hG (fun _ _=>rfl) _ TY.out)
  refine wpAny_facts (by kernel_rfl) (by kernel_rfl) () clsA (by kernel_rfl) (fun _=>none) (by kernel_rfl) (clsF x y w.heap.size pq (.slice (some pq) 2 c0) (.agg #[.int .i64 x.kind,.int .i64 x.type.kind,.slice B1 x.type.args.length d1,.slice C1 x.terms.length e1,.slice A1 x.args.length c1]) (.agg #[.int .i64 y.kind,.int .i64 y.type.kind,.slice B2 y.type.args.length d2,.slice C2 y.terms.length e2,.slice A2 y.args.length c2])) L0 (fun _=>False) (fun _=>True) _ _ (fun b h=>by rw [hL0] at h; exact h.1) (fun _ h=>h.elim) trivial ⟨?_,?_,?_,?_,?_,?_,?_,?_,?_,?_,?_,?_,trivial⟩ ?_
  · intro V G L a1 w1 hp K hK
    refine step_run rfl (run_fieldF3 rfl (hp.slot0 1 _ rfl rfl)) ?_
    exact hK _ () _ (Post.still rfl trivial hp.lt fun L' _=>rfl)
  · intro V G L a1 w1 hp K hK
    have f0:V 0=_:=hp.fact 0 rfl
    have g0:=hp.slot 0 11 rfl rfl rfl
    rw [f0] at g0
    refine step_run rfl (run_loadFs rfl g0 ((hp.blk0 K0.out.drew id).facts5.2.2.2.2.1)) ?_
    exact hK _ () _ (Post.still rfl trivial hp.lt fun L' _=>rfl)
  · intro V G L a1 w1 hp K hK
    have f0:V 1=_:=hp.fact 1 rfl
    have g0:=hp.slot 1 12 rfl rfl rfl
    rw [f0] at g0
    refine step_run rfl (run_indexF0 rfl (by decide) g0) ?_
    exact hK _ () _ (Post.still rfl trivial hp.lt fun L' _=>rfl)
  · intro V G L a1 w1 hp K hK
    have f0:V 2=_:=hp.fact 2 rfl
    have g0:=hp.slot 2 13 rfl rfl rfl
    rw [f0] at g0
    obtain ⟨q0,q1,q2,q3,q4⟩:=HX.out w1 (HB.out.drew.trans ⟨hp.grown.os,hp.grown.tape,hp.grown.output,hp.grown.size,fun k hk=>hp.grown.block k (Nat.lt_of_lt_of_le hk HB.out.size) id⟩)
    refine step_run rfl (run_loadF rfl g0 q0 q1 q2 q3 q4) ?_
    exact hK _ () _ (Post.still rfl trivial hp.lt fun L' _=>rfl)
  · intro V G L a1 w1 hp K hK
    have f0:V 3=_:=hp.fact 3 rfl
    have g0:=hp.slot 3 14 rfl rfl rfl
    rw [f0] at g0
    refine step_call rfl _ _ _ rfl _ (by simp only [List.map_toArray,List.map_cons,List.map_nil,g0]) (enters_of Tryz.func93 (by kernel_rfl) rfl) (HN.out.1 (Good L w1) _ w1 (fun b h=>h.2) (HTab.out.after ⟨hp.grown.os,hp.grown.tape,hp.grown.output,hp.grown.size,fun k hk=>hp.grown.block k hk id⟩) (hp.fm0 TX0.out)) ?_
    rintro e w' ⟨rfl,hb⟩
    exact ⟨_,rfl,hK _ () _ (Post.of rfl (Turn.call hb) trivial hp.lt fun L' _ _=>rfl)⟩
  · intro V G L a1 w1 hp K hK
    refine step_run rfl (run_fieldF3 rfl (hp.slot0 1 _ rfl rfl)) ?_
    exact hK _ () _ (Post.still rfl trivial hp.lt fun L' _=>rfl)
  · intro V G L a1 w1 hp K hK
    have f0:V 5=_:=hp.fact 5 rfl
    have g0:=hp.slot 5 16 rfl rfl rfl
    rw [f0] at g0
    refine step_run rfl (run_loadFs rfl g0 ((hp.blk0 K0.out.drew id).facts5.2.2.2.2.1)) ?_
    exact hK _ () _ (Post.still rfl trivial hp.lt fun L' _=>rfl)
  · intro V G L a1 w1 hp K hK
    have f0:V 6=_:=hp.fact 6 rfl
    have g0:=hp.slot 6 17 rfl rfl rfl
    rw [f0] at g0
    refine step_run rfl (run_indexF1 rfl (by decide) g0) ?_
    exact hK _ () _ (Post.still rfl trivial hp.lt fun L' _=>rfl)
  · intro V G L a1 w1 hp K hK
    have f0:V 7=_:=hp.fact 7 rfl
    have g0:=hp.slot 7 18 rfl rfl rfl
    rw [f0] at g0
    obtain ⟨q0,q1,q2,q3,q4⟩:=HY.out w1 (HB.out.drew.trans ⟨hp.grown.os,hp.grown.tape,hp.grown.output,hp.grown.size,fun k hk=>hp.grown.block k (Nat.lt_of_lt_of_le hk HB.out.size) id⟩)
    refine step_run rfl (run_loadF rfl g0 q0 q1 q2 q3 q4) ?_
    exact hK _ () _ (Post.still rfl trivial hp.lt fun L' _=>rfl)
  · intro V G L a1 w1 hp K hK
    have f0:V 8=_:=hp.fact 8 rfl
    have g0:=hp.slot 8 19 rfl rfl rfl
    rw [f0] at g0
    refine step_call rfl _ _ _ rfl _ (by simp only [List.map_toArray,List.map_cons,List.map_nil,g0]) (enters_of Tryz.func93 (by kernel_rfl) rfl) (HN.out.2.1 (Good L w1) _ w1 (fun b h=>h.2) (HTab.out.after ⟨hp.grown.os,hp.grown.tape,hp.grown.output,hp.grown.size,fun k hk=>hp.grown.block k hk id⟩) (hp.fm0 TY0.out)) ?_
    rintro e w' ⟨rfl,hb⟩
    exact ⟨_,rfl,hK _ () _ (Post.of rfl (Turn.call hb) trivial hp.lt fun L' _ _=>rfl)⟩
  · intro V G L a1 w1 hp K hK
    have f0:V 4=_:=hp.fact 4 rfl
    have g0:=hp.slot 4 15 rfl rfl rfl
    rw [f0] at g0
    refine step_run rfl (run_assign rfl g0) ?_
    exact hK _ () _ (Post.still rfl trivial hp.lt fun L' _=>rfl)
  · intro V G L a1 w1 hp K hK
    have f0:V 9=_:=hp.fact 9 rfl
    have g0:=hp.slot 9 20 rfl rfl rfl
    rw [f0] at g0
    refine step_run rfl (run_assign rfl g0) ?_
    exact hK _ () _ (Post.still rfl trivial hp.lt fun L' _=>rfl)
  · intro V G w1 L hg _ hf hL hd
    have h10:V 10=.int .i64 (x.bits:Nat):=(hf 10 (by decide) rfl).1
    have h11:V 11=.int .i64 (y.bits:Nat):=(hf 11 (by decide) rfl).1
    have BX:=Lib.hid (show Below W.heap.size W w1 from ⟨hg.os,hg.tape,hg.output,hg.size,fun k hk=>hg.block k hk id⟩)
    simp only [putFrom,dstOf,Act.put,List.size_toArray,List.length_cons,List.length_nil,Nat.zero_add,Nat.reduceAdd,List.getElem?_toArray,List.getElem?_cons_zero,List.getElem?_cons_succ,List.setIfInBounds_toArray,List.set_cons_zero,List.set_cons_succ,h10,h11]
    clear hg hf hL hd h10 h11 hG hL0 TX0 TY0 hz
    obtain ⟨m,hm⟩:∃ m,m=x.bits:=⟨_,rfl⟩
    obtain ⟨n,hn⟩:∃ n,n=y.bits:=⟨_,rfl⟩
    rw [← hm,← hn]
    have HM:=Lib.hid (show m<8 by rw [hm]; exact HN.out.2.2.1)
    have HNN:=Lib.hid (show n<8 by rw [hn]; exact HN.out.2.2.2)
    have HR:=Lib.hid (show f.bits=((m ||| n) &&& 1) ||| (m &&& n &&& 6) by rw [HZ.out.2.2,hm,hn]; rfl)
    clear hm hn
    have hv0:∀ i,∃ v,v=V i:=fun i=>⟨_,rfl⟩
    obtain ⟨v0,hv⟩:=hv0 0; rw [← hv]; clear hv
    obtain ⟨v1,hv⟩:=hv0 1; rw [← hv]; clear hv
    obtain ⟨v2,hv⟩:=hv0 2; rw [← hv]; clear hv
    obtain ⟨v3,hv⟩:=hv0 3; rw [← hv]; clear hv
    obtain ⟨v4,hv⟩:=hv0 4; rw [← hv]; clear hv
    obtain ⟨v5,hv⟩:=hv0 5; rw [← hv]; clear hv
    obtain ⟨v6,hv⟩:=hv0 6; rw [← hv]; clear hv
    obtain ⟨v7,hv⟩:=hv0 7; rw [← hv]; clear hv
    obtain ⟨v8,hv⟩:=hv0 8; rw [← hv]; clear hv
    obtain ⟨v9,hv⟩:=hv0 9; rw [← hv]; clear hv
    clear hv0
    go_wp2_with fail
    have hor:=b_or m HM.out n HNN.out
    have hand:=b_and m HM.out n HNN.out
    have l1:m ||| n<8:=Nat.or_lt_two_pow (n:=3) HM.out HNN.out
    have l2:m &&& n<8:=Nat.lt_of_le_of_lt Nat.and_le_right HNN.out
    have l3:(m ||| n) &&& 1<8:=Nat.lt_of_le_of_lt Nat.and_le_right (by decide)
    have l4:m &&& n &&& 6<8:=Nat.lt_of_le_of_lt Nat.and_le_right (by decide)
    have l5:n &&& 1<8:=Nat.lt_of_le_of_lt Nat.and_le_right (by decide)
    rw [hor,hand,b_and1 _ l1,b_and6 _ l2,b_or _ l3 _ l4,← HR.out]
    exact bodyPost_ret (v:=.int .i64 (f.bits:Nat)) (by simp [results,Tryz.results93,go_sem]) rfl ⟨rfl,HB.out.trans (BX.out.mono HB.out.size)⟩

set_option maxRecDepth 100000 in
set_option maxHeartbeats 4000000 in
theorem classes_3 (x y:Fm) (hx:FineF x) (hy:FineF y) (ihx:ClassesOf x) (ihy:ClassesOf y):ClassesOf (.mk 3 .zero [] [x,y]):=by
  intro S v w hS htab hF
  have hbits:=bits_two 3 .zero [] x y
  obtain ⟨f,hf⟩:∃ f,f=Fm.mk 3 .zero [] [x,y]:=⟨_,rfl⟩
  rw [← hf] at hF hbits ⊢
  have ha:f.args=[x,y]:=by rw [hf]; rfl
  have hfk:f.kind=3:=by rw [hf]; rfl
  obtain ⟨B0,d0,C0,e0,A0,c0,rfl,_,_,hl⟩:=hF.parts
  rw [ha] at hl
  obtain ⟨pq,B1,d1,C1,e1,A1,c1,rfl,hpq,q0,q1,q2,q3,q4,hX⟩:=sl_childF hl 0 (by simp)
  obtain ⟨pq',B2,d2,C2,e2,A2,c2,hpp,_,y0,y1,y2,y3,y4,hY⟩:=sl_childF hl 1 (by simp)
  cases hpp
  simp only [Nat.zero_mul,add_zero',Nat.one_mul,add_five,List.getElem_cons_succ,List.getElem_cons_zero] at hpq q0 q1 q2 q3 q4 hX y0 y1 y2 y3 y4 hY
  have hal:f.args.length=2:=by rw [ha]; rfl
  rw [hfk,hal]
  obtain ⟨W,hW,b1,z1,k0⟩:∃ W,W=w.alloc (.cells #[.int .i64 3,.int .i64 f.type.kind,.slice B0 f.type.args.length d0,.slice C0 f.terms.length e0,.slice (some pq) 2 c0] 34)∧Below w.heap.size w W∧W.heap.size=w.heap.size+1∧Blk W w.heap.size 34 #[.int .i64 3,.int .i64 f.type.kind,.slice B0 f.type.args.length d0,.slice C0 f.terms.length e0,.slice (some pq) 2 c0]:=⟨_,rfl,(Below.refl _ _).alloc (Nat.le_refl _) _,by simp,Blk.new _ _ _⟩
  have HB:=Lib.hid b1
  have K0:=Lib.hid k0
  have HX:=Lib.hid fun (w':World) (h:Below w.heap.size w w')=>And.intro ((h.cell (hS _ hpq)).trans q0) (And.intro ((h.cell (p:=⟨pq.block,pq.off+1,none⟩) (hS _ hpq)).trans q1) (And.intro ((h.cell (p:=⟨pq.block,pq.off+2,none⟩) (hS _ hpq)).trans q2) (And.intro ((h.cell (p:=⟨pq.block,pq.off+3,none⟩) (hS _ hpq)).trans q3) ((h.cell (p:=⟨pq.block,pq.off+4,none⟩) (hS _ hpq)).trans q4))))
  have HY:=Lib.hid fun (w':World) (h:Below w.heap.size w w')=>And.intro ((h.cell (p:=⟨pq.block,pq.off+5,none⟩) (hS _ hpq)).trans y0) (And.intro ((h.cell (p:=⟨pq.block,pq.off+5+1,none⟩) (hS _ hpq)).trans y1) (And.intro ((h.cell (p:=⟨pq.block,pq.off+5+2,none⟩) (hS _ hpq)).trans y2) (And.intro ((h.cell (p:=⟨pq.block,pq.off+5+3,none⟩) (hS _ hpq)).trans y3) ((h.cell (p:=⟨pq.block,pq.off+5+4,none⟩) (hS _ hpq)).trans y4))))
  have HN:=Lib.hid (And.intro ihx (And.intro ihy (And.intro hx.bits_lt hy.bits_lt)))
  have HTab:=Lib.hid (show Tab W.drew from htab.after b1.drew)
  have TX:=Lib.hid (show IsFm S W x _ from hX.keep (fun _ h=>h) (fun q hq=>b1.cell (hS _ hq)))
  have TY:=Lib.hid (show IsFm S W y _ from hY.keep (fun _ h=>h) (fun q hq=>b1.cell (hS _ hq)))
  have HZ:=Lib.hid (And.intro z1 (And.intro hS hbits))
  have HW:=Lib.hid hW
  obtain ⟨r0,r1,r2,r3,r4,_,_,_,_,_⟩:=k0.facts5
  clear hF ha hfk hal hbits hl hpq q0 q1 q2 q3 q4 y0 y1 y2 y3 y4 hX hY b1 z1 k0 hf hx hy ihx ihy hS htab hW
  go_enter Tryz.func93,Tryz.ntmps93
  go_upto_region 1 with fail
  rw [← HW.out]
  go_upto_region 6 with fail
  clear r0 r1 r2 r3 r4
  refine wp_region_any (by kernel_rfl) ?_
  change wpAny _ _ _ _ _ _ _ (World.drew _)
  obtain ⟨L0,hL0⟩:∃ L0:Nat→Prop,L0=fun b=>b<W.heap.size∧¬ S b:=⟨_,rfl⟩
  have hz:=HZ.out
  have hG:∀ b,S b→Good L0 W.drew b:=fun b h1=>⟨by rw [hL0]; exact fun e=>e.2 h1,by have:=hz.2.1 b h1; simp; omega⟩
  have TX0:=Lib.hid (show IsFm (Good L0 W.drew) W.drew x _ from IsFm.keep (w:=W) (w':=W.drew) hG (fun _ _=>rfl) _ TX.out)
  have TY0:=Lib.hid (show IsFm (Good L0 W.drew) W.drew y _ from IsFm.keep (w:=W) (w':=W.drew) hG (fun _ _=>rfl) _ TY.out)
  refine wpAny_facts (by kernel_rfl) (by kernel_rfl) () clsA (by kernel_rfl) (fun _=>none) (by kernel_rfl) (clsF x y w.heap.size pq (.slice (some pq) 2 c0) (.agg #[.int .i64 x.kind,.int .i64 x.type.kind,.slice B1 x.type.args.length d1,.slice C1 x.terms.length e1,.slice A1 x.args.length c1]) (.agg #[.int .i64 y.kind,.int .i64 y.type.kind,.slice B2 y.type.args.length d2,.slice C2 y.terms.length e2,.slice A2 y.args.length c2])) L0 (fun _=>False) (fun _=>True) _ _ (fun b h=>by rw [hL0] at h; exact h.1) (fun _ h=>h.elim) trivial ⟨?_,?_,?_,?_,?_,?_,?_,?_,?_,?_,?_,?_,trivial⟩ ?_
  · intro V G L a1 w1 hp K hK
    refine step_run rfl (run_fieldF3 rfl (hp.slot0 1 _ rfl rfl)) ?_
    exact hK _ () _ (Post.still rfl trivial hp.lt fun L' _=>rfl)
  · intro V G L a1 w1 hp K hK
    have f0:V 0=_:=hp.fact 0 rfl
    have g0:=hp.slot 0 32 rfl rfl rfl
    rw [f0] at g0
    refine step_run rfl (run_loadFs rfl g0 ((hp.blk0 K0.out.drew id).facts5.2.2.2.2.1)) ?_
    exact hK _ () _ (Post.still rfl trivial hp.lt fun L' _=>rfl)
  · intro V G L a1 w1 hp K hK
    have f0:V 1=_:=hp.fact 1 rfl
    have g0:=hp.slot 1 33 rfl rfl rfl
    rw [f0] at g0
    refine step_run rfl (run_indexF0 rfl (by decide) g0) ?_
    exact hK _ () _ (Post.still rfl trivial hp.lt fun L' _=>rfl)
  · intro V G L a1 w1 hp K hK
    have f0:V 2=_:=hp.fact 2 rfl
    have g0:=hp.slot 2 34 rfl rfl rfl
    rw [f0] at g0
    obtain ⟨q0,q1,q2,q3,q4⟩:=HX.out w1 (HB.out.drew.trans ⟨hp.grown.os,hp.grown.tape,hp.grown.output,hp.grown.size,fun k hk=>hp.grown.block k (Nat.lt_of_lt_of_le hk HB.out.size) id⟩)
    refine step_run rfl (run_loadF rfl g0 q0 q1 q2 q3 q4) ?_
    exact hK _ () _ (Post.still rfl trivial hp.lt fun L' _=>rfl)
  · intro V G L a1 w1 hp K hK
    have f0:V 3=_:=hp.fact 3 rfl
    have g0:=hp.slot 3 35 rfl rfl rfl
    rw [f0] at g0
    refine step_call rfl _ _ _ rfl _ (by simp only [List.map_toArray,List.map_cons,List.map_nil,g0]) (enters_of Tryz.func93 (by kernel_rfl) rfl) (HN.out.1 (Good L w1) _ w1 (fun b h=>h.2) (HTab.out.after ⟨hp.grown.os,hp.grown.tape,hp.grown.output,hp.grown.size,fun k hk=>hp.grown.block k hk id⟩) (hp.fm0 TX0.out)) ?_
    rintro e w' ⟨rfl,hb⟩
    exact ⟨_,rfl,hK _ () _ (Post.of rfl (Turn.call hb) trivial hp.lt fun L' _ _=>rfl)⟩
  · intro V G L a1 w1 hp K hK
    refine step_run rfl (run_fieldF3 rfl (hp.slot0 1 _ rfl rfl)) ?_
    exact hK _ () _ (Post.still rfl trivial hp.lt fun L' _=>rfl)
  · intro V G L a1 w1 hp K hK
    have f0:V 5=_:=hp.fact 5 rfl
    have g0:=hp.slot 5 37 rfl rfl rfl
    rw [f0] at g0
    refine step_run rfl (run_loadFs rfl g0 ((hp.blk0 K0.out.drew id).facts5.2.2.2.2.1)) ?_
    exact hK _ () _ (Post.still rfl trivial hp.lt fun L' _=>rfl)
  · intro V G L a1 w1 hp K hK
    have f0:V 6=_:=hp.fact 6 rfl
    have g0:=hp.slot 6 38 rfl rfl rfl
    rw [f0] at g0
    refine step_run rfl (run_indexF1 rfl (by decide) g0) ?_
    exact hK _ () _ (Post.still rfl trivial hp.lt fun L' _=>rfl)
  · intro V G L a1 w1 hp K hK
    have f0:V 7=_:=hp.fact 7 rfl
    have g0:=hp.slot 7 39 rfl rfl rfl
    rw [f0] at g0
    obtain ⟨q0,q1,q2,q3,q4⟩:=HY.out w1 (HB.out.drew.trans ⟨hp.grown.os,hp.grown.tape,hp.grown.output,hp.grown.size,fun k hk=>hp.grown.block k (Nat.lt_of_lt_of_le hk HB.out.size) id⟩)
    refine step_run rfl (run_loadF rfl g0 q0 q1 q2 q3 q4) ?_
    exact hK _ () _ (Post.still rfl trivial hp.lt fun L' _=>rfl)
  · intro V G L a1 w1 hp K hK
    have f0:V 8=_:=hp.fact 8 rfl
    have g0:=hp.slot 8 40 rfl rfl rfl
    rw [f0] at g0
    refine step_call rfl _ _ _ rfl _ (by simp only [List.map_toArray,List.map_cons,List.map_nil,g0]) (enters_of Tryz.func93 (by kernel_rfl) rfl) (HN.out.2.1 (Good L w1) _ w1 (fun b h=>h.2) (HTab.out.after ⟨hp.grown.os,hp.grown.tape,hp.grown.output,hp.grown.size,fun k hk=>hp.grown.block k hk id⟩) (hp.fm0 TY0.out)) ?_
    rintro e w' ⟨rfl,hb⟩
    exact ⟨_,rfl,hK _ () _ (Post.of rfl (Turn.call hb) trivial hp.lt fun L' _ _=>rfl)⟩
  · intro V G L a1 w1 hp K hK
    have f0:V 4=_:=hp.fact 4 rfl
    have g0:=hp.slot 4 36 rfl rfl rfl
    rw [f0] at g0
    refine step_run rfl (run_assign rfl g0) ?_
    exact hK _ () _ (Post.still rfl trivial hp.lt fun L' _=>rfl)
  · intro V G L a1 w1 hp K hK
    have f0:V 9=_:=hp.fact 9 rfl
    have g0:=hp.slot 9 41 rfl rfl rfl
    rw [f0] at g0
    refine step_run rfl (run_assign rfl g0) ?_
    exact hK _ () _ (Post.still rfl trivial hp.lt fun L' _=>rfl)
  · intro V G w1 L hg _ hf hL hd
    have h10:V 10=.int .i64 (x.bits:Nat):=(hf 10 (by decide) rfl).1
    have h11:V 11=.int .i64 (y.bits:Nat):=(hf 11 (by decide) rfl).1
    have BX:=Lib.hid (show Below W.heap.size W w1 from ⟨hg.os,hg.tape,hg.output,hg.size,fun k hk=>hg.block k hk id⟩)
    simp only [putFrom,dstOf,Act.put,List.size_toArray,List.length_cons,List.length_nil,Nat.zero_add,Nat.reduceAdd,List.getElem?_toArray,List.getElem?_cons_zero,List.getElem?_cons_succ,List.setIfInBounds_toArray,List.set_cons_zero,List.set_cons_succ,h10,h11]
    clear hg hf hL hd h10 h11 hG hL0 TX0 TY0 hz
    obtain ⟨m,hm⟩:∃ m,m=x.bits:=⟨_,rfl⟩
    obtain ⟨n,hn⟩:∃ n,n=y.bits:=⟨_,rfl⟩
    rw [← hm,← hn]
    have HM:=Lib.hid (show m<8 by rw [hm]; exact HN.out.2.2.1)
    have HNN:=Lib.hid (show n<8 by rw [hn]; exact HN.out.2.2.2)
    have HR:=Lib.hid (show f.bits=(n &&& 1) ||| (m &&& n &&& 6) by rw [HZ.out.2.2,hm,hn]; rfl)
    clear hm hn
    have hv0:∀ i,∃ v,v=V i:=fun i=>⟨_,rfl⟩
    obtain ⟨v0,hv⟩:=hv0 0; rw [← hv]; clear hv
    obtain ⟨v1,hv⟩:=hv0 1; rw [← hv]; clear hv
    obtain ⟨v2,hv⟩:=hv0 2; rw [← hv]; clear hv
    obtain ⟨v3,hv⟩:=hv0 3; rw [← hv]; clear hv
    obtain ⟨v4,hv⟩:=hv0 4; rw [← hv]; clear hv
    obtain ⟨v5,hv⟩:=hv0 5; rw [← hv]; clear hv
    obtain ⟨v6,hv⟩:=hv0 6; rw [← hv]; clear hv
    obtain ⟨v7,hv⟩:=hv0 7; rw [← hv]; clear hv
    obtain ⟨v8,hv⟩:=hv0 8; rw [← hv]; clear hv
    obtain ⟨v9,hv⟩:=hv0 9; rw [← hv]; clear hv
    clear hv0
    go_wp2_with fail
    have hor:=b_or m HM.out n HNN.out
    have hand:=b_and m HM.out n HNN.out
    have l1:m ||| n<8:=Nat.or_lt_two_pow (n:=3) HM.out HNN.out
    have l2:m &&& n<8:=Nat.lt_of_le_of_lt Nat.and_le_right HNN.out
    have l3:(m ||| n) &&& 1<8:=Nat.lt_of_le_of_lt Nat.and_le_right (by decide)
    have l4:m &&& n &&& 6<8:=Nat.lt_of_le_of_lt Nat.and_le_right (by decide)
    have l5:n &&& 1<8:=Nat.lt_of_le_of_lt Nat.and_le_right (by decide)
    rw [hand,b_and1 _ HNN.out,b_and6 _ l2,b_or _ l5 _ l4,← HR.out]
    exact bodyPost_ret (v:=.int .i64 (f.bits:Nat)) (by simp [results,Tryz.results93,go_sem]) rfl ⟨rfl,HB.out.trans (BX.out.mono HB.out.size)⟩

set_option maxRecDepth 100000 in
set_option maxHeartbeats 4000000 in
theorem classes_eq (s t:Tm):ClassesOf (.mk 1 .zero [s,t] []):=by
  intro S v w hS htab hF
  rw [bits_eq]
  obtain ⟨f,hf⟩:∃ f,f=Fm.mk 1 .zero [s,t] []:=⟨_,rfl⟩
  rw [← hf] at hF
  have hfk:f.kind=1:=by rw [hf]; rfl
  obtain ⟨B0,d0,C0,e0,A0,c0,rfl,_,_⟩:=hF.form
  rw [hfk]
  clear hF hfk hf
  go_enter Tryz.func93,Tryz.ntmps93
  go_wp2_with fail
  exact bodyPost_ret (v:=.int .i64 (6:Nat)) (by simp [results,Tryz.results93,go_sem]) rfl ⟨rfl,(Below.refl _ _).alloc (Nat.le_refl _) _⟩
set_option maxRecDepth 100000 in
set_option maxHeartbeats 4000000 in
theorem classes_quant (k:Int) (T:Ty) (b:Fm) (hk:k=4∨k=5∨k=6∨k=7) (hT:T.err=0) (hb:FineF b) (hsz:b.bulk≤390000) (ih:ClassesOf b):ClassesOf (.mk k T [] [b]):=by
  intro S v w hS htab hF
  have hq:=fun (w':World) (u:Value) (h:∀ b,S b→b<w'.heap.size) (ht:Tab w') (hu:IsFm S w' (.mk k T [] [b]) u)=>quantified_any k T b hk hT hb hsz ih S u w' h ht hu
  obtain ⟨f,hf⟩:∃ f,f=Fm.mk k T [] [b]:=⟨_,rfl⟩
  rw [← hf] at hF hq ⊢
  have hfk:f.kind=k:=by rw [hf]; rfl
  have hF0:=hF
  obtain ⟨B0,d0,C0,e0,A0,c0,rfl,_,_⟩:=hF.form
  rw [hfk] at hF0 ⊢
  obtain ⟨W,hW,b1,z1,k0⟩:∃ W,W=w.alloc (.cells #[.int .i64 k,.int .i64 f.type.kind,.slice B0 f.type.args.length d0,.slice C0 f.terms.length e0,.slice A0 f.args.length c0] 34)∧Below w.heap.size w W∧W.heap.size=w.heap.size+1∧Blk W w.heap.size 34 #[.int .i64 k,.int .i64 f.type.kind,.slice B0 f.type.args.length d0,.slice C0 f.terms.length e0,.slice A0 f.args.length c0]:=⟨_,rfl,(Below.refl _ _).alloc (Nat.le_refl _) _,by simp,Blk.new _ _ _⟩
  have HB:=Lib.hid b1
  have HQ:=Lib.hid (hq W _ (fun b hb=>Nat.lt_of_lt_of_le (hS b hb) b1.size) (htab.after b1) (hF0.keep (fun _ h=>h) (fun q hq=>b1.cell (hS _ hq))))
  have HW:=Lib.hid hW
  obtain ⟨r0,r1,r2,r3,r4,_,_,_,_,_⟩:=k0.facts5
  clear hF hF0 hfk hf hq hT hb hsz ih hS htab hW b1 z1 k0
  rcases hk with rfl | rfl | rfl | rfl
  all_goals
    go_enter Tryz.func93,Tryz.ntmps93
    go_upto_region 1 with fail
    rw [← HW.out]
    go_wp2_with fail
    refine HQ.out.mono ?_
    rintro en w1 ⟨rfl,hb1⟩
    have HB1:=Lib.hid (HB.out.trans (hb1.mono HB.out.size))
    clear hb1 r0 r1 r2 r3 r4
    go_wp2_with fail
    exact bodyPost_ret (v:=.int .i64 (f.bits:Nat)) (by simp [results,Tryz.results93,go_sem]) rfl ⟨rfl,HB1.out⟩
theorem classes_any {f:Fm} (h:FineF f) (hsz:f.bulk≤390000):ClassesOf f:=by
  induction h with
  | eq s t hs ht=>exact classes_eq s t
  | two k a b hk ha hb iha ihb=>
    simp only [Fm.bulk,bulkAllF] at hsz
    rcases hk with rfl | rfl
    · exact classes_2 a b ha hb (iha (by omega)) (ihb (by omega))
    · exact classes_3 a b ha hb (iha (by omega)) (ihb (by omega))
  | quant k T b hk hT hb ih=>
    simp only [Fm.bulk,bulkAllF] at hsz
    exact classes_quant k T b hk hT hb (by omega) (ih (by omega))
end Go.Proofs.YthlknhkemmdocaaGreatDoor
namespace Go.Proofs.YthlknhkemmdocaaGreatDoor
open Go.RowKit

/-- The types of the All in front of f are L, and g is what is below them. -/
inductive Univ:Fm→List Ty→Fm→Prop
  | done (g:Fm) (h:g.kind≠4):Univ g [] g
  | all (T:Ty) (ts:List Tm) (b:Fm) (L:List Ty) (g:Fm) (h:Univ b L g):Univ (.mk 4 T ts [b]) (T :: L) g
theorem Univ.fine {f g:Fm} {L:List Ty} (h:Univ f L g) (hf:FineF f):FineF g:=by
  induction h with
  | done g h=>exact hf
  | all T ts b L g h ih=>
    cases hf with
    | quant k T b hk hT hb=>exact ih hb
theorem Univ.bulk {f g:Fm} {L:List Ty} (h:Univ f L g):g.bulk≤f.bulk:=by
  induction h with
  | done g h=>exact Nat.le_refl _
  | all T ts b L g h ih=>simp only [Fm.bulk,bulkAllF]; omega
theorem fine_all {f:Fm} (h:FineF f) (hk:f.kind=4):∃ T b,f=.mk 4 T [] [b]∧FineF b:=by
  cases h with
  | eq s t=>exact absurd (show (1:Int)=4 from hk) (by decide)
  | two k a b hk'=>have:k=4:=hk; omega
  | quant k T b hk' hT hb=>have e:k=4:=hk; subst e; exact ⟨T,b,rfl,hb⟩
def UnivRel (S:Nat→Prop) (w:World) (f:Fm) (k:Nat) (s:Value) (wr:World):Prop:=
  ∃ (L:List Ty) (g:Fm) (Bg:Option Addr) (dg:Nat) (Cg:Option Addr) (eg:Nat) (Ag:Option Addr) (cg:Nat),g.bulk=k∧FineF g∧(∀ L2 h,Univ g L2 h→Univ f (L ++ L2) h)∧L.length+g.bulk≤f.bulk ∧
    TyR.Own S (w.heap.size+2) s L wr∧Blk wr w.heap.size 34 #[.int .i64 g.kind,.int .i64 g.type.kind,.slice Bg g.type.args.length dg,.slice Cg g.terms.length eg,.slice Ag g.args.length cg] ∧
    Blk wr (w.heap.size+1) 34 #[.int .i64 0,.int .i64 0,.slice none 0 0,.slice none 0 0,.slice none 0 0] ∧
    IsFm S wr g (.agg #[.int .i64 g.kind,.int .i64 g.type.kind,.slice Bg g.type.args.length dg,.slice Cg g.terms.length eg,.slice Ag g.args.length cg])∧Below w.heap.size w wr∧w.heap.size+2≤wr.heap.size
def UnivR (S:Nat→Prop) (f:Fm) (w:World) (e:Ending) (w':World):Prop:=
  ∃ L g s u,e=.returned (.tuple #[s,u,.int .i64 0])∧Univ f L g∧TyR.Sl (fun b=>(S b∨w.heap.size≤b)∧b<w'.heap.size) w' L s∧IsFm (fun b=>(S b∨w.heap.size≤b)∧b<w'.heap.size) w' g u∧Below w.heap.size w w'

set_option maxRecDepth 100000 in
set_option maxHeartbeats 4000000 in
theorem universal_any (S:Nat→Prop) (f:Fm) (v:Value) (w:World) (hf:FineF f) (hsz:f.size≤4096) (hn:f.bulk≤390000) (hS:∀ b,S b→b<w.heap.size) (htab:Tab w) (hF:IsFm S w f v) :
    Calls Tryz.prog 38 #[v] w (UnivR S f w):=by
  have hF0:=hF
  obtain ⟨B,d,C,e0,A,c,rfl,_,_⟩:=hF.form
  obtain ⟨W,hW,b2,z2,k0,k1⟩:=alloc2_facts w #[.int .i64 f.kind,.int .i64 f.type.kind,.slice B f.type.args.length d,.slice C f.terms.length e0,.slice A f.args.length c] #[.int .i64 0,.int .i64 0,.slice none 0 0,.slice none 0 0,.slice none 0 0] 34 34
  have HB:=Lib.hid b2
  have HK:=Lib.hid (And.intro k0 k1)
  have HF:=Lib.hid (show IsFm S W f _ from hF0.keep (fun _ h=>h) (fun q hq=>b2.cell (hS _ hq)))
  have HN:=Lib.hid (And.intro hf (And.intro hsz (And.intro hn hS)))
  have HTab:=Lib.hid (htab.after b2)
  have HZ:=Lib.hid z2
  have HW:=Lib.hid hW
  obtain ⟨r0,r1,r2,r3,r4,_,_,_,_,_⟩:=k0.facts5
  clear hF hF0 hf hsz hn hS htab b2 z2 k0 k1 hW
  go_enter Tryz.func38,Tryz.ntmps38
  go_upto_region 1 with fail
  rw [← HW.out]
  go_wp2_with fail
  refine (checkF_ok (f:=f) HN.out.1.good HN.out.2.1 _ W (by have:=HN.out.2.2.1; omega) HTab.out (HF.out.keep (fun b h=>Nat.lt_of_lt_of_le (HN.out.2.2.2 b h) HB.out.size) (fun _ _=>rfl))).mono ?_
  rintro e w1 ⟨rfl,hb1⟩
  have HB1:=Lib.hid hb1
  have HWB:=Lib.hid (HB.out.trans (hb1.mono HB.out.size))
  have K1:=Lib.hid (And.intro (HK.out.1.below hb1 HK.out.1.lt) (HK.out.2.below hb1 HK.out.2.lt))
  clear hb1 r0 r1 r2 r3 r4
  go_wp2_with fail
  go_loopg [6] f.bulk (fun k s wr=>UnivRel S w f k s wr)
  case atStart=>
    exact ⟨[],f,B,d,C,e0,A,c,rfl,HN.out.1,fun L2 h hu=>hu,by simp,Rep.Own.nil _ _ _,K1.out.1,K1.out.2,HF.out.keep (fun _ h=>h) (fun q hq=>HB1.out.cell (Nat.lt_of_lt_of_le (HN.out.2.2.2 _ hq) HB.out.size)),HWB.out,by have:=HB1.out.size; have:=HZ.out; omega⟩
  case round=>
    obtain ⟨L,g,Bg,dg,Cg,eg,Ag,cg,hk,hfg,hun,hlen,hown,kb,kr,hIg,hbel,hwz⟩:=hrel
    have hS:∀ b,S b→b<w.heap.size:=HN.out.2.2.2
    have hfn:=HN.out.2.2.1
    by_cases hg4:g.kind=4
    · obtain ⟨T,b,rfl,hfb⟩:=fine_all hfg hg4
      have e4:((Fm.mk 4 T [] [b]).kind == 4)=true:=by simpa using hg4
      obtain ⟨_,_,_,_,_,_,ev,hTy,_,hl⟩:=hIg.parts
      simp only [Value.agg.injEq,Array.mk.injEq,List.cons.injEq,Value.slice.injEq,and_true] at ev
      obtain ⟨_,_,⟨rfl,_,rfl⟩,⟨rfl,_,rfl⟩,rfl,_,rfl⟩:=ev
      obtain ⟨aq,B1,d1,C1,e1,A1,c1,rfl,haq,q0,q1,q2,q3,q4,hIb⟩:=sl_childF (l:=[b]) hl 0 (by simp)
      simp only [Nat.zero_mul,add_zero',List.getElem_cons_zero] at haq q0 q1 q2 q3 q4 hIb
      obtain ⟨xs,hxo,hxc⟩:=hown
      obtain ⟨i0,hi,hz0,hz1,hz2⟩:=info_parts info_type
      have hblen:(Fm.mk 4 T [] [b]).bulk=1+T.nodes+b.bulk:=by simp [Fm.bulk,bulkAll,bulkAllF]
      have kb':Blk wr w.heap.size 34 #[.int .i64 4,.int .i64 T.kind,.slice Bg T.args.length dg,.slice Cg 0 eg,.slice (some aq) 1 cg]:=kb
      obtain ⟨r0,r1,r2,r3,r4,f0,f1,f2,f3,f4⟩:=kb'.facts5
      obtain ⟨W3,hW3,b3,z3,k3⟩:∃ W3,W3=wr.alloc (.cells #[.int .i64 T.kind,.slice Bg T.args.length dg] 30)∧Below wr.heap.size wr W3∧W3.heap.size=wr.heap.size+1∧Blk W3 wr.heap.size 30 #[.int .i64 T.kind,.slice Bg T.args.length dg]:=⟨_,rfl,(Below.refl _ _).alloc (Nat.le_refl _) _,by simp,Blk.new _ _ _⟩
      have hxo1:=hxo.alloc (Obj.cells #[.int .i64 T.kind,.slice Bg T.args.length dg] 30)
      have hlt:=hxo.lt
      have HXC:=Lib.hid (And.intro hxc (And.intro hTy (And.intro hIb (And.intro hun hfb))))
      have HLT:=Lib.hid hlt
      have HKB:=Lib.hid (And.intro kb' kr)
      have HQ:=Lib.hid (And.intro haq (And.intro q0 (And.intro q1 (And.intro q2 (And.intro q3 q4)))))
      have HBL:=Lib.hid (And.intro hbel (And.intro hwz hk))
      have HW3:=Lib.hid hW3
      have H3:=Lib.hid (And.intro b3 (And.intro z3 k3))
      have hL:L.length≤390000:=by omega
      have HL:=Lib.hid (And.intro hlen hblen)
      clear hxc hTy hIb hun hfb hlt kb kb' kr haq q0 q1 q2 q3 q4 hbel hwz hk hW3 b3 z3 k3 hfg hIg hl hlen hblen hxo hg4 hS hfn
      have hbase:w.heap.size+2≤wr.heap.size+1:=by have:=HBL.out.2.1; omega
      go_upto_region 7 with (at_builtin; go_loud (refine wpList_append_own_at _ rfl _ _ 27 rfl (w.heap.size+2) 30 i0 _ 2 32 Tryz.underlying27 hi hz0 hz1 hz2 rfl (by decide) u6 L.length xs rfl hxo1 ⟨wr.heap.size,0,none⟩ 1 1 [_,_] rfl rfl (cells_new _ _ _) (by simp [Value.oneCell']) (by simp only [maxLen]; omega) (by omega) (by simp; omega) ?_); intro v3 w3 hown3 hg3 hnil3 hat3)
      rw [← HW3.out] at hg3 hat3 hxo1
      have hne:∀ q,q<w.heap.size+2→some q≠u6.ownBlock:=fun q hq e=>by have:=(HLT.out q e.symm).1; omega
      have hb3:=H3.out.1
      have hz3:=H3.out.2.1
      have hwz:=HBL.out.2.1
      have K3:=Lib.hid (And.intro ((HKB.out.1.below hb3 HKB.out.1.lt).grown hg3 (hne _ (by omega))) ((HKB.out.2.below hb3 HKB.out.2.lt).grown hg3 (hne _ (by omega))))
      have hS:=HN.out.2.2.2
      have OLD:=Lib.hid (show ∀ q:Addr,q.block<w.heap.size→w3.cell? q=wr.cell? q from fun q hq=>(World.cell?_of_block (hg3.block q.block (by omega) (hne _ (by omega)))).trans (hb3.cell (by omega)))
      have B3:=Lib.hid (show Below w.heap.size w w3 from (HBL.out.1.trans (hb3.mono HBL.out.1.size)).grown hg3 (by omega) (fun k e=>by have:=(HLT.out k e).1; omega))
      have Z3:=Lib.hid (show w.heap.size+2≤w3.heap.size by have:=hg3.size; omega)
      have HA:=Lib.hid (And.intro hown3 (And.intro hg3 hat3))
      have HXO:=Lib.hid hxo1
      obtain ⟨haq,q0,q1,q2,q3,q4⟩:=HQ.out
      have x0:=(OLD.out _ (hS _ haq)).trans q0
      have x1:=(OLD.out ⟨aq.block,aq.off+1,none⟩ (hS _ haq)).trans q1
      have x2:=(OLD.out ⟨aq.block,aq.off+2,none⟩ (hS _ haq)).trans q2
      have x3:=(OLD.out ⟨aq.block,aq.off+3,none⟩ (hS _ haq)).trans q3
      have x4:=(OLD.out ⟨aq.block,aq.off+4,none⟩ (hS _ haq)).trans q4
      clear r0 r1 r2 r3 r4 f0 f1 f2 f3 f4 hown3 hg3 hat3 hxo1 hne hb3 hz3 hwz hS haq q0 q1 q2 q3 q4 hnil3
      obtain ⟨r0,r1,r2,r3,r4,f0,f1,f2,f3,f4⟩:=K3.out.1.facts5
      go_wp2_with fail
      go_roundg b.bulk
      case rel=>
        obtain ⟨hxc,hTy,hIb,hun,hfb⟩:=HXC.out
        obtain ⟨hown3,hg3,hat3⟩:=HA.out
        have hS:=HN.out.2.2.2
        have h5:=only_set5 w3 w.heap.size (.int .i64 b.kind) (.int .i64 b.type.kind) (.slice B1 b.type.args.length d1) (.slice C1 b.terms.length e1) (.slice A1 b.args.length c1)
        have hz3:=H3.out.2.1
        have hlt:=HLT.out
        have o3:TyR.Own S (w.heap.size+2) v3 (L ++ [T]) w3:=by
          refine Rep.Own.more (R:=TyR) (m:=[T]) HXO.out (hxc.keep (fun b hb=>⟨hb.1,by have:=hb.2.1; omega,hb.2.2⟩) (fun p hp=>H3.out.1.cell hp.2.1)) (Rep.Ch.one (R:=TyR) (vs:=[_,_]) (IsTy.keep (fun b hb=>⟨hb,by have:=hS b hb; have:=HBL.out.2.1; omega,fun e=>by have h1:=hlt _ e; have h2:=hS b hb; omega⟩) (fun p hp=>H3.out.1.cell (by have:=hS _ hp; have:=HBL.out.2.1; omega)) _ hTy)) hown3 hg3 hat3
        refine ⟨L ++ [T],b,B1,d1,C1,e1,A1,c1,rfl,hfb,fun L2 h hu=>?_,?_,o3.far h5 (by omega) (fun e=>by have:=hS _ e; omega),K3.out.1.set5 (.int .i64 b.kind) (.int .i64 b.type.kind) (.slice B1 b.type.args.length d1) (.slice C1 b.terms.length e1) (.slice A1 b.args.length c1),K3.out.2.grown h5 (by simp),?_,B3.out.grown h5 (by have:=Z3.out; omega) (fun k e=>by cases e; omega),by have:=h5.size; have:=Z3.out; omega⟩
        · have:=hun (T :: L2) h (.all T [] b L2 h hu)
          simpa using this
        · obtain ⟨h1,h2⟩:=HL.out
          simp only [List.length_append,List.length_cons,List.length_nil]
          omega
        · exact hIb.keep (fun _ h=>h) (fun q hq=>(World.cell?_of_block (h5.block q.block (by have:=hS _ hq; have:=Z3.out; omega) (by have:=hS _ hq; simp; omega))).trans (OLD.out _ (hS _ hq)))
      case measure=>
        obtain ⟨h1,h2⟩:=HL.out
        have:=HBL.out.2.2
        omega
    · have e4:(g.kind == 4)=false:=by simpa using hg4
      obtain ⟨A3,c3,rfl⟩:=hown.form
      have hsl:=hown.sl
      obtain ⟨r0,r1,r2,r3,r4,_,_,_,_,_⟩:=kb.facts5
      obtain ⟨s0,s1,s2,s3,s4,m0,m1,m2,m3,m4⟩:=kr.facts5
      have HE:=Lib.hid (And.intro (show Univ f L g by simpa using hun [] g (.done g hg4)) (And.intro hsl (And.intro hIg (And.intro hbel (And.intro hwz kr)))))
      clear hun hlen hown kb kr hIg hbel hwz hk hfg hg4 hsl
      go_upto_region 8 with fail
      go_region
      all_goals
        go_wp2_with fail
        obtain ⟨hu,hsl,hIg,hbel,hwz,kr⟩:=HE.out
        obtain ⟨W5,hW5,h5,k5⟩:∃ W5,W5=(((((wr.setCell ⟨w.heap.size+1,0,none⟩ (.int .i64 g.kind)).setCell ⟨w.heap.size+1,1,none⟩ (.int .i64 g.type.kind)).setCell ⟨w.heap.size+1,2,none⟩ (.slice Bg g.type.args.length dg)).setCell ⟨w.heap.size+1,3,none⟩ (.slice Cg g.terms.length eg)).setCell ⟨w.heap.size+1,4,none⟩ (.slice Ag g.args.length cg))∧wr.grownBy W5 (some (w.heap.size+1))∧Blk W5 (w.heap.size+1) 34 #[.int .i64 g.kind,.int .i64 g.type.kind,.slice Bg g.type.args.length dg,.slice Cg g.terms.length eg,.slice Ag g.args.length cg]:=⟨_,rfl,only_set5 wr (w.heap.size+1) (.int .i64 g.kind) (.int .i64 g.type.kind) (.slice Bg g.type.args.length dg) (.slice Cg g.terms.length eg) (.slice Ag g.args.length cg),kr.set5 (.int .i64 g.kind) (.int .i64 g.type.kind) (.slice Bg g.type.args.length dg) (.slice Cg g.terms.length eg) (.slice Ag g.args.length cg)⟩
        rw [← hW5]
        clear hW5
        obtain ⟨z0,z1,z2,z3,z4⟩:=k5.drew.cells5
        have hS:=HN.out.2.2.2
        have hsz:=h5.size
        refine bodyPost_ret (v:=.tuple #[.slice A3 L.length c3,.agg #[.int .i64 g.kind,.int .i64 g.type.kind,.slice Bg g.type.args.length dg,.slice Cg g.terms.length eg,.slice Ag g.args.length cg],.int .i64 0]) (by simp [results,Tryz.results38,go_sem,z0,z1,z2,z3,z4]) rfl ⟨L,g,_,_,rfl,hu,?_,?_,(hbel.grown h5 (by omega) (fun k e=>by cases e; omega)).drew⟩
        · exact Rep.Sl.keep (w':=W5.drew) (fun b hb=>⟨hb.1.imp id (fun h=>by omega),Nat.lt_of_lt_of_le hb.2 hsz⟩) (fun q hq=>(show W5.drew.cell? q=wr.cell? q from World.cell?_of_block (w':=W5) (h5.block q.block hq.2 (fun e=>by have e':q.block=w.heap.size+1:=Option.some.inj e; exact hq.1.elim (fun h=>by have:=hS _ h; omega) (fun h=>by omega))))) hsl
        · exact IsFm.keep (w':=W5.drew) (fun b hb=>⟨.inl hb,by have:=hS b hb; show b<W5.heap.size; omega⟩) (fun q hq=>(show W5.drew.cell? q=wr.cell? q from World.cell?_of_block (w':=W5) (h5.block q.block (by have:=hS _ hq; omega) (fun e=>by have e':q.block=w.heap.size+1:=Option.some.inj e; have:=hS _ hq; omega)))) _ hIg
end Go.Proofs.YthlknhkemmdocaaGreatDoor
namespace Go.Proofs.YthlknhkemmdocaaGreatDoor
open Go.RowKit

def Fm.part (f:Fm):Fm:=f.args.headD noneFm
/-- What Task answers. -/
def TaskR (S:Nat→Prop) (f:Fm) (w:World) (e:Ending) (w':World):Prop:=
  ∃ L g,Univ f L g∧Below w.heap.size w w' ∧
    ((g.kind=5∧g.part.bits &&& 4≠0∧∃ s t u,e=.returned (.tuple #[s,t,u,.bool true])∧TyR.Sl (fun b=>(S b∨w.heap.size≤b)∧b<w'.heap.size) w' L s∧IsTy (fun b=>(S b∨w.heap.size≤b)∧b<w'.heap.size) w' g.type t∧IsFm (fun b=>(S b∨w.heap.size≤b)∧b<w'.heap.size) w' g.part u) ∨
    (¬ (g.kind=5∧g.part.bits &&& 4≠0)∧e=.returned (.tuple #[.slice none 0 0,.agg #[.int .i64 0,.slice none 0 0],.agg #[.int .i64 0,.int .i64 0,.slice none 0 0,.slice none 0 0,.slice none 0 0],.bool false])))
theorem fine_ex {f:Fm} (h:FineF f) (hk:f.kind=5):∃ T b,f=.mk 5 T [] [b]∧FineF b:=by
  cases h with
  | eq s t=>exact absurd (show (1:Int)=5 from hk) (by decide)
  | two k a b hk'=>have:k=5:=hk; omega
  | quant k T b hk' hT hb=>have e:k=5:=hk; subst e; exact ⟨T,b,rfl,hb⟩

theorem b_and4:∀ n:Nat,n<8→bits BinOp.and IntKind.i64 (n:Int) 4=((n &&& 4:Nat):Int):=by decide
theorem two_set25 {w:World} {p q:Nat} {tp tq:TypeId} {a0 a1 b0 b1 b2 b3 b4:Value} (hpq:p≠q) (kp:Blk w p tp #[a0,a1]) (kq:Blk w q tq #[b0,b1,b2,b3,b4]) (x0 x1 y0 y1 y2 y3 y4:Value) :
    ∃ W2,W2=(((((((w.setCell ⟨p,0,none⟩ x0).setCell ⟨p,1,none⟩ x1).setCell ⟨q,0,none⟩ y0).setCell ⟨q,1,none⟩ y1).setCell ⟨q,2,none⟩ y2).setCell ⟨q,3,none⟩ y3).setCell ⟨q,4,none⟩ y4) ∧
      Blk W2 p tp #[x0,x1]∧Blk W2 q tq #[y0,y1,y2,y3,y4]∧(∀ B,B≤p→B≤q→Below B w W2)∧W2.heap.size=w.heap.size∧(∀ k,k<w.heap.size→k≠p→k≠q→W2.heap[k]? = w.heap[k]?):=by
  have g1:=only_set2 w p x0 x1
  have g2:=only_set5 ((w.setCell ⟨p,0,none⟩ x0).setCell ⟨p,1,none⟩ x1) q y0 y1 y2 y3 y4
  have kp1:Blk ((w.setCell ⟨p,0,none⟩ x0).setCell ⟨p,1,none⟩ x1) p tp #[x0,x1]:=by simpa using (kp.set_ 0 x0).set_ 1 x1
  refine ⟨_,rfl,kp1.grown g2 (by simpa using hpq),(kq.grown g1 (by simpa using fun e=>hpq e.symm)).set5 y0 y1 y2 y3 y4,fun B hp hq=>?_,by simp,fun k hk h1 h2=>(g2.block k (by simpa using hk) (by simpa using h2)).trans (g1.block k hk (by simpa using h1))⟩
  exact below_set5' (((Below.refl _ _).setCell (p:=⟨p,0,none⟩) hp _).setCell (p:=⟨p,1,none⟩) hp _) hq _ _ _ _ _
set_option maxRecDepth 100000 in
set_option maxHeartbeats 4000000 in
theorem task_any (S:Nat→Prop) (f:Fm) (v:Value) (w:World) (hf:FineF f) (hsz:f.size≤4096) (hn:f.bulk≤390000) (hS:∀ b,S b→b<w.heap.size) (htab:Tab w) (hF:IsFm S w f v) :
    Calls Tryz.prog 35 #[v] w (TaskR S f w):=by
  have hF0:=hF
  obtain ⟨B,d,C,e0,A,c,rfl,_,_⟩:=hF.form
  obtain ⟨W,hW,b3,z3,k0,k1,k2⟩:=three_blks w #[.int .i64 f.kind,.int .i64 f.type.kind,.slice B f.type.args.length d,.slice C f.terms.length e0,.slice A f.args.length c] #[.int .i64 0,.slice none 0 0] #[.int .i64 0,.int .i64 0,.slice none 0 0,.slice none 0 0,.slice none 0 0] 34 30 34
  have HB:=Lib.hid b3
  have HK:=Lib.hid (And.intro k1 k2)
  have HF:=Lib.hid (show IsFm S W f _ from hF0.keep (fun _ h=>h) (fun q hq=>b3.cell (hS _ hq)))
  have HN:=Lib.hid (And.intro hf (And.intro hsz (And.intro hn hS)))
  have HTab:=Lib.hid (htab.after b3)
  have HZ:=Lib.hid z3
  have HW:=Lib.hid hW
  obtain ⟨r0,r1,r2,r3,r4,_,_,_,_,_⟩:=k0.facts5
  clear hF hF0 hf hsz hn hS htab b3 z3 k0 k1 k2 hW
  go_enter Tryz.func35,Tryz.ntmps35
  go_upto_region 1 with fail
  rw [← HW.out]
  go_wp2_with fail
  refine (universal_any S f _ W HN.out.1 HN.out.2.1 HN.out.2.2.1 (fun b h=>Nat.lt_of_lt_of_le (HN.out.2.2.2 b h) HB.out.size) HTab.out HF.out).mono ?_
  rintro e w1 ⟨L,g,s,u,rfl,hu,hs,hg,hb1⟩
  obtain ⟨A1,c1,rfl⟩:=hs.form
  obtain ⟨Bg,dg,Cg,eg,Ag,cg,rfl,hTy,_,hl⟩:=hg.parts
  have hfg:=hu.fine HN.out.1
  have hgb:=hu.bulk
  obtain ⟨W3,hW3,b4,z4,k4⟩:∃ W3,W3=w1.alloc (.cells #[.int .i64 g.kind,.int .i64 g.type.kind,.slice Bg g.type.args.length dg,.slice Cg g.terms.length eg,.slice Ag g.args.length cg] 34)∧Below w1.heap.size w1 W3∧W3.heap.size=w1.heap.size+1∧Blk W3 w1.heap.size 34 #[.int .i64 g.kind,.int .i64 g.type.kind,.slice Bg g.type.args.length dg,.slice Cg g.terms.length eg,.slice Ag g.args.length cg]:=⟨_,rfl,(Below.refl _ _).alloc (Nat.le_refl _) _,by simp,Blk.new _ _ _⟩
  have HB4:=Lib.hid ((HB.out.trans (hb1.mono HB.out.size)).trans (b4.mono (Nat.le_trans HB.out.size hb1.size)))
  have K4:=Lib.hid (And.intro ((HK.out.1.below hb1 HK.out.1.lt).below b4 (HK.out.1.below hb1 HK.out.1.lt).lt) (And.intro ((HK.out.2.below hb1 HK.out.2.lt).below b4 (HK.out.2.below hb1 HK.out.2.lt).lt) k4))
  have HE:=Lib.hid (And.intro hu (And.intro (hs.keep (S':=fun b=>(S b∨W.heap.size≤b)∧b<w1.heap.size) (w':=W3) (fun _ h=>h) (fun q hq=>b4.cell hq.2)) (And.intro (IsTy.keep (S':=fun b=>(S b∨W.heap.size≤b)∧b<w1.heap.size) (w':=W3) (fun _ h=>h) (fun q hq=>b4.cell hq.2) _ hTy) (And.intro hfg hgb))))
  have HL:=Lib.hid (show FmR.Sl (fun b=>(S b∨W.heap.size≤b)∧b<w1.heap.size) W3 g.args (.slice Ag g.args.length cg) from Rep.Sl.keep (fun _ h=>h) (fun q hq=>b4.cell hq.2) hl)
  have HZ4:=Lib.hid (And.intro z4 hb1.size)
  have HW3:=Lib.hid hW3
  have HWW:=Lib.hid (hb1.trans (b4.mono hb1.size))
  clear hb1 hu hs hg hTy hl hfg hgb b4 z4 k4 hW3 r0 r1 r2 r3 r4
  go_upto_region 2 with fail
  rw [← HW3.out]
  obtain ⟨r0,r1,r2,r3,r4,_,_,_,_,_⟩:=K4.out.2.2.facts5
  by_cases h5:g.kind=5
  · have H5:=Lib.hid h5
    obtain ⟨T,b,hgm,hfb⟩:=fine_ex HE.out.2.2.2.1 h5
    have hga:g.args=[b]:=by rw [hgm]; rfl
    have hpart:g.part=b:=by rw [hgm]; rfl
    have hbb:b.bulk≤390000:=by
      have h1:=HE.out.2.2.2.2
      have h2:=HN.out.2.2.1
      have h3:b.bulk≤g.bulk:=by rw [hgm]; simp only [Fm.bulk,bulkAllF]; omega
      omega
    have hl:=HL.out
    have e5:(g.kind != 5)=false:=by simpa using h5
    rw [hga] at hl
    obtain ⟨aq,B1,d1,C1,e1,A2,c2,rfl,haq,q0,q1,q2,q3,q4,hIb⟩:=sl_childF hl 0 (by simp)
    simp only [Nat.zero_mul,add_zero',List.getElem_cons_zero] at haq q0 q1 q2 q3 q4 hIb
    have hcl:=classes_any hfb hbb
    have HI:=Lib.hid (And.intro hIb (And.intro haq (And.intro hpart (And.intro hcl hfb.bits_lt))))
    have hal:g.args.length=1:=by rw [hga]; rfl
    have HQ:=Lib.hid (And.intro q0 (And.intro q1 (And.intro q2 (And.intro q3 q4))))
    have HAL:=Lib.hid hal
    clear h5 hgm hga hpart hl hcl hIb haq hfb hbb
    go_wp2_with fail
    refine (HI.out.2.2.2.1 (fun b=>(S b∨W.heap.size≤b)∧b<w1.heap.size) _ W3 (fun b hb=>by have:=hb.2; have:=HZ4.out.1; omega) (HTab.out.after HWW.out) HI.out.1).mono ?_
    rintro en w5 ⟨rfl,hb5⟩
    have hz4:=HZ4.out
    have B5:=Lib.hid (HB4.out.trans (hb5.mono HB4.out.size))
    have K5:=Lib.hid (And.intro (K4.out.1.below hb5 K4.out.1.lt) (And.intro (K4.out.2.1.below hb5 K4.out.2.1.lt) (K4.out.2.2.below hb5 K4.out.2.2.lt)))
    have H5B:=Lib.hid hb5
    have hlt1:w.heap.size+1<w5.heap.size:=K5.out.1.lt
    have hlt2:w.heap.size+1+1<w5.heap.size:=K5.out.2.1.lt
    obtain ⟨n,hn⟩:∃ n,n=b.bits:=⟨_,rfl⟩
    have h8:n<8:=by rw [hn]; exact HI.out.2.2.2.2
    have hb4:=b_and4 n h8
    have HNB:=Lib.hid (show g.part.bits=n by rw [HI.out.2.2.1,hn])
    rw [← hn]
    clear hb5 hn h8 r0 r1 r2 r3 r4 q0 q1 q2 q3 q4
    obtain ⟨t0,t1,f0,f1⟩:=K5.out.1.facts2
    obtain ⟨u0,u1,u2,u3,u4,m0,m1,m2,m3,m4⟩:=K5.out.2.1.facts5
    by_cases hd:n &&& 4=0
    · have ed:(((n &&& 4:Nat):Int) == 0)=true:=by rw [hd]; rfl
      have HD:=Lib.hid (show g.part.bits &&& 4=0 by rw [HNB.out]; exact hd)
      clear hd
      go_wp2_with fail
      obtain ⟨W2,hW2,q1,q2,g2,z2,_⟩:=two_set25 (p:=w.heap.size+1) (q:=w.heap.size+1+1) (by omega) K5.out.1 K5.out.2.1 (.int .i64 0) (.slice none 0 0) (.int .i64 0) (.int .i64 0) (.slice none 0 0) (.slice none 0 0) (.slice none 0 0)
      rw [← hW2]
      obtain ⟨x0,x1,_,_⟩:=q1.facts2
      obtain ⟨y0,y1,y2,y3,y4⟩:=q2.cells5
      refine bodyPost_ret (v:=.tuple #[.slice none 0 0,.agg #[.int .i64 0,.slice none 0 0],.agg #[.int .i64 0,.int .i64 0,.slice none 0 0,.slice none 0 0,.slice none 0 0],.bool false]) (by simp [results,Tryz.results35,go_sem,x0,x1,y0,y1,y2,y3,y4]) rfl ⟨L,g,HE.out.1,B5.out.trans (g2 w.heap.size (by omega) (by omega)),.inr ⟨?_,rfl⟩⟩
      exact fun e=>e.2 HD.out
    · have ed:(((n &&& 4:Nat):Int) == 0)=false:=by simpa using hd
      have HD:=Lib.hid (show g.part.bits &&& 4≠0 by rw [HNB.out]; exact hd)
      clear hd
      obtain ⟨q0',q1',q2',q3',q4'⟩:=HQ.out
      have haq:=HI.out.2.1.2
      have q0:=(H5B.out.cell (p:=aq) (by omega)).trans q0'
      have q1:=(H5B.out.cell (p:=⟨aq.block,aq.off+1,none⟩) (by show aq.block<_; omega)).trans q1'
      have q2:=(H5B.out.cell (p:=⟨aq.block,aq.off+2,none⟩) (by show aq.block<_; omega)).trans q2'
      have q3:=(H5B.out.cell (p:=⟨aq.block,aq.off+3,none⟩) (by show aq.block<_; omega)).trans q3'
      have q4:=(H5B.out.cell (p:=⟨aq.block,aq.off+4,none⟩) (by show aq.block<_; omega)).trans q4'
      have HAQ:=Lib.hid haq
      have HZ4':=Lib.hid hz4
      have hfar:=(only_set2 w5 (w.heap.size+1) (.int .i64 g.type.kind) (.slice Bg g.type.args.length dg)).block aq.block (by have:=H5B.out.size; omega) (fun e=>by have e':aq.block=w.heap.size+1:=Option.some.inj e; have:=HI.out.2.1.1; have:=HN.out.2.2.2; have:=HZ.out; rcases HI.out.2.1.1 with h | h; (have:=HN.out.2.2.2 _ h; omega); omega)
      have p0:=(World.cell?_of_block (a:=aq) hfar).trans q0
      have p1:=(World.cell?_of_block (a:=⟨aq.block,aq.off+1,none⟩) hfar).trans q1
      have p2:=(World.cell?_of_block (a:=⟨aq.block,aq.off+2,none⟩) hfar).trans q2
      have p3:=(World.cell?_of_block (a:=⟨aq.block,aq.off+3,none⟩) hfar).trans q3
      have p4:=(World.cell?_of_block (a:=⟨aq.block,aq.off+4,none⟩) hfar).trans q4
      clear q0' q1' q2' q3' q4' haq hz4 hfar
      obtain ⟨r0,r1,r2,r3,r4,_,_,_,_,_⟩:=K5.out.2.2.facts5
      go_upto_region 4 with fail
      go_region
      all_goals
        go_wp2_with fail
        obtain ⟨W2,hW2,k1,k2,g2,z2,o2⟩:=two_set25 (p:=w.heap.size+1) (q:=w.heap.size+1+1) (by omega) K5.out.1 K5.out.2.1 (.int .i64 g.type.kind) (.slice Bg g.type.args.length dg) (.int .i64 b.kind) (.int .i64 b.type.kind) (.slice B1 b.type.args.length d1) (.slice C1 b.terms.length e1) (.slice A2 b.args.length c2)
        rw [← hW2]
        clear hW2
        obtain ⟨x0,x1,_,_⟩:=k1.drew.facts2
        obtain ⟨y0,y1,y2,y3,y4⟩:=k2.drew.cells5
        have hS:=HN.out.2.2.2
        have hz:=HZ.out
        have hz4:=HZ4'.out
        have h5:=H5B.out.size
        have hin:∀ b,(S b∨W.heap.size≤b)∧b<w1.heap.size→(S b∨w.heap.size≤b)∧b<W2.drew.heap.size:=fun b hb=>⟨hb.1.imp id (fun h=>by omega),by show b<W2.heap.size; have:=hb.2; omega⟩
        have hcell:∀ q:Addr,((S q.block∨W.heap.size≤q.block)∧q.block<w1.heap.size)→W2.drew.cell? q=W3.cell? q:=fun q hq=>by
          have hb:q.block≠w.heap.size+1∧q.block≠w.heap.size+1+1:=hq.1.elim (fun h=>by have:=hS _ h; omega) (fun h=>by omega)
          exact (World.cell?_of_block (w':=W2) (o2 q.block (by have:=hq.2; omega) hb.1 hb.2)).trans (H5B.out.cell (by have:=hq.2; omega))
        refine bodyPost_ret (v:=.tuple #[.slice A1 L.length c1,.agg #[.int .i64 g.type.kind,.slice Bg g.type.args.length dg],.agg #[.int .i64 b.kind,.int .i64 b.type.kind,.slice B1 b.type.args.length d1,.slice C1 b.terms.length e1,.slice A2 b.args.length c2],.bool true]) (by simp [results,Tryz.results35,go_sem,x0,x1,y0,y1,y2,y3,y4]) rfl ⟨L,g,HE.out.1,(B5.out.trans (g2 w.heap.size (by omega) (by omega))).drew,.inl ⟨H5.out,HD.out,_,_,_,rfl,?_,?_,?_⟩⟩
        · exact Rep.Sl.keep (w':=W2.drew) hin hcell HE.out.2.1
        · exact IsTy.keep (w':=W2.drew) hin hcell _ HE.out.2.2.1
        · rw [HI.out.2.2.1]; exact IsFm.keep (w':=W2.drew) hin hcell _ HI.out.1
  · have e5:(g.kind != 5)=true:=by simpa using h5
    have H5:=Lib.hid h5
    have hlt1:w.heap.size+1<W3.heap.size:=K4.out.1.lt
    have hlt2:w.heap.size+1+1<W3.heap.size:=K4.out.2.1.lt
    obtain ⟨t0,t1,f0,f1⟩:=K4.out.1.facts2
    obtain ⟨u0,u1,u2,u3,u4,m0,m1,m2,m3,m4⟩:=K4.out.2.1.facts5
    clear h5
    go_wp2_with fail
    obtain ⟨W2,hW2,q1,q2,g2,z2,_⟩:=two_set25 (p:=w.heap.size+1) (q:=w.heap.size+1+1) (by omega) K4.out.1 K4.out.2.1 (.int .i64 0) (.slice none 0 0) (.int .i64 0) (.int .i64 0) (.slice none 0 0) (.slice none 0 0) (.slice none 0 0)
    rw [← hW2]
    obtain ⟨x0,x1,_,_⟩:=q1.facts2
    obtain ⟨y0,y1,y2,y3,y4⟩:=q2.cells5
    refine bodyPost_ret (v:=.tuple #[.slice none 0 0,.agg #[.int .i64 0,.slice none 0 0],.agg #[.int .i64 0,.int .i64 0,.slice none 0 0,.slice none 0 0,.slice none 0 0],.bool false]) (by simp [results,Tryz.results35,go_sem,x0,x1,y0,y1,y2,y3,y4]) rfl ⟨L,g,HE.out.1,HB4.out.trans (g2 w.heap.size (by omega) (by omega)),.inr ⟨?_,rfl⟩⟩
    exact fun e=>H5.out e.1
end Go.Proofs.YthlknhkemmdocaaGreatDoor
namespace Go.Proofs.YthlknhkemmdocaaGreatDoor
open Go.RowKit

theorem fine8:FineF (.mk 4 tyNat [] [(.mk 5 tyNat [] [(.mk 1 .zero [.mk 1 0 .zero [],.mk 1 1 .zero []] [])])]):=.quant 4 tyNat _ (by decide) (by decide) (.quant 5 tyNat _ (by decide) (by decide) (.eq _ _ (by decide) (by decide)))
theorem univ8 {L:List Ty} {g:Fm} (h:Univ (.mk 4 tyNat [] [(.mk 5 tyNat [] [(.mk 1 .zero [.mk 1 0 .zero [],.mk 1 1 .zero []] [])])]) L g):L=[tyNat]∧g=(.mk 5 tyNat [] [(.mk 1 .zero [.mk 1 0 .zero [],.mk 1 1 .zero []] [])]):=by
  cases h with
  | done _ h=>exact absurd rfl h
  | all T ts b L g h=>
    cases h with
    | done _ h=>exact ⟨rfl,rfl⟩
theorem task8:((.mk 5 tyNat [] [(.mk 1 .zero [.mk 1 0 .zero [],.mk 1 1 .zero []] [])]):Fm).kind=5∧((.mk 5 tyNat [] [(.mk 1 .zero [.mk 1 0 .zero [],.mk 1 1 .zero []] [])]):Fm).part.bits &&& 4≠0:=by
  refine ⟨rfl,?_⟩
  show ((.mk 1 .zero [.mk 1 0 .zero [],.mk 1 1 .zero []] []):Fm).bits &&& 4≠0
  rw [bits_eq]; decide
def s8A (i j:Nat):Bool:=([0,0,0,4,12,30,63,127,255,511,511,511,511,0,0,25599,59391,126975,262143].getD i 0).testBit j
def s8C (i:Nat):Option Nat:=if i=13 then some 16 else if i=14 then some 17 else none
abbrev G8:=Value × Value × Value
def g0:G8:=(undef,undef,undef)
def s8Task (V:Value) (G:G8):RFact:=.pub (fun S w=>V=.tuple #[G.1,G.2.1,G.2.2,.bool true]∧TyR.Sl S w [tyNat] G.1∧IsTy S w tyNat G.2.1∧IsFm S w (.mk 1 .zero [.mk 1 0 .zero [],.mk 1 1 .zero []] []) G.2.2) fun hS hc h=>⟨h.1,h.2.1.keep hS hc,IsTy.keep hS hc _ h.2.2.1,IsFm.keep hS hc _ h.2.2.2⟩
def s8F (i:Nat) (V:Nat→Value) (G:Nat→G8):RFact:=
  match i with
  | 0=>.pure (V 0=.agg #[.int .i64 1,.slice none 0 0])
  | 1=>.pure (V 1=.agg #[.int .i64 1,.slice none 0 0])
  | 2=>.tm (.mk 1 0 .zero []) (V 2) True
  | 3=>.tm (.mk 1 1 .zero []) (V 3) True
  | 4=>.fm (.mk 1 .zero [.mk 1 0 .zero [],.mk 1 1 .zero []] []) (V 4) True
  | 5=>.fm (.mk 5 tyNat [] [(.mk 1 .zero [.mk 1 0 .zero [],.mk 1 1 .zero []] [])]) (V 5) True
  | 6=>.fm (.mk 4 tyNat [] [(.mk 5 tyNat [] [(.mk 1 .zero [.mk 1 0 .zero [],.mk 1 1 .zero []] [])])]) (V 6) True
  | 7=>s8Task (V 7) (G 7)
  | 8=>.pure (V 8=.tuple #[(G 7).1,(G 7).2.1,(G 7).2.2,.bool true])
  | 9=>.pure (V 9=(G 7).1)
  | 10=>.pure (V 10=(G 7).2.1)
  | 11=>.pure (V 11=(G 7).2.2)
  | 12=>.pure (V 12=.bool true)
  | 13=>.box 30 #[.int .i64 0,.slice none 0 0] (V 13)
  | 14=>.box 34 #[.int .i64 0,.int .i64 0,.slice none 0 0,.slice none 0 0,.slice none 0 0] (V 14)
  | 15=>.pure (V 15=(G 7).1)
  | 16=>.boxv 30 (G 7).2.1 (V 13)
  | 17=>.boxv 34 (G 7).2.2 (V 14)
  | _=>.pure (V 18=.bool true)
set_option maxRecDepth 100000 in
set_option maxHeartbeats 8000000 in
theorem sane8_any (w:World) (htab:Tab w):Calls Tryz.prog 21 #[] w fun e w'=>e=.returned (.bool true)∧Below w.heap.size w w':=by
  have HT0:=Lib.hid htab
  clear htab
  go_enter Tryz.func21,Tryz.ntmps21
  go_wp2_with fail
  refine (nat_any w).mono ?_
  rintro e w0 ⟨rfl,hb0⟩
  obtain ⟨X,hX,bX,zX,k0⟩:∃ X,X=w0.alloc (.cells #[.int .i64 1,.slice none 0 0] 30)∧Below w0.heap.size w0 X∧X.heap.size=w0.heap.size+1∧Blk X w0.heap.size 30 #[.int .i64 1,.slice none 0 0]:=⟨_,rfl,(Below.refl _ _).alloc (Nat.le_refl _) _,by simp,Blk.new _ _ _⟩
  have HB:=Lib.hid (hb0.trans (bX.mono hb0.size))
  have HTab:=Lib.hid (show Tab X.drew from HT0.out.after HB.out.drew)
  have K0:=Lib.hid k0
  have HX:=Lib.hid hX
  clear hb0 hX bX zX k0
  go_upto_region 2 with fail
  rw [← HX.out]
  refine wp_region_any (by kernel_rfl) ?_
  change wpAny _ _ _ _ _ _ _ (World.drew _)
  refine wpAny_facts (by kernel_rfl) (by kernel_rfl) g0 s8A (by kernel_rfl) s8C (by kernel_rfl) s8F (fun _=>False) (fun _=>False) (fun _=>True) _ _ (fun _ h=>h.elim) (fun _ h=>h.elim) trivial ⟨?_,?_,?_,?_,?_,?_,?_,?_,?_,?_,?_,?_,?_,?_,?_,?_,?_,?_,?_,trivial⟩ ?_
  · intro V G L a1 w1 hp K hK
    refine step_run rfl (run_load2 rfl (hp.slot0 1 _ rfl rfl) (hp.blk0 K0.out.drew id)) ?_
    exact hK _ g0 _ (Post.still rfl trivial hp.lt fun L' _=>rfl)
  · intro V G L a1 w1 hp K hK
    refine step_run rfl (run_load2 rfl (hp.slot0 1 _ rfl rfl) (hp.blk0 K0.out.drew id)) ?_
    exact hK _ g0 _ (Post.still rfl trivial hp.lt fun L' _=>rfl)
  · intro V G L a1 w1 hp K hK
    refine step_call rfl _ _ _ rfl #[.int .i64 0] (by simp [Act.eval]) (enters_of Tryz.func40 (by kernel_rfl) rfl) (var_any 0 w1) ?_
    rintro e w' ⟨rfl,hb⟩
    exact ⟨_,rfl,hK _ g0 _ (Post.of rfl (Turn.call hb) trivial hp.lt fun L' _ _=>⟨var_is _ _ _,trivial⟩)⟩
  · intro V G L a1 w1 hp K hK
    refine step_call rfl _ _ _ rfl #[.int .i64 1] (by simp [Act.eval]) (enters_of Tryz.func40 (by kernel_rfl) rfl) (var_any 1 w1) ?_
    rintro e w' ⟨rfl,hb⟩
    exact ⟨_,rfl,hK _ g0 _ (Post.of rfl (Turn.call hb) trivial hp.lt fun L' _ _=>⟨var_is _ _ _,trivial⟩)⟩
  · intro V G L a1 w1 hp K hK
    have f2:IsTm (Good L w1) w1 (.mk 1 0 .zero []) (V 2)∧True:=hp.fact 2 rfl
    have e2:=hp.slot 2 10 rfl rfl rfl
    have f3:IsTm (Good L w1) w1 (.mk 1 1 .zero []) (V 3)∧True:=hp.fact 3 rfl
    have e3:=hp.slot 3 11 rfl rfl rfl
    refine step_call rfl _ _ _ rfl _ (by simp only [List.map_toArray,List.map_cons,List.map_nil,e2,e3]) (enters_of Tryz.func45 (by kernel_rfl) rfl) (eqF_any (.mk 1 0 .zero []) (.mk 1 1 .zero []) _ _ w1 (by decide) (by decide) (IsTm.keep (fun b h=>h.2) (fun _ _=>rfl) _ f2.1) (IsTm.keep (fun b h=>h.2) (fun _ _=>rfl) _ f3.1)) ?_
    rintro e w' ⟨v,rfl,ht,hb⟩
    exact ⟨_,rfl,hK _ g0 _ (Post.of rfl (Turn.call hb) trivial hp.lt fun L' _ hn=>⟨IsFm.keep (fun b h=>hn b h.1 h.2) (fun _ _=>rfl) _ ht,trivial⟩)⟩
  · intro V G L a1 w1 hp K hK
    have f1:V 1=.agg #[.int .i64 1,.slice none 0 0]:=hp.fact 1 rfl
    have e1:=hp.slot 1 9 rfl rfl rfl
    rw [f1] at e1
    have f4:IsFm (Good L w1) w1 (.mk 1 .zero [.mk 1 0 .zero [],.mk 1 1 .zero []] []) (V 4)∧True:=hp.fact 4 rfl
    have e4:=hp.slot 4 12 rfl rfl rfl
    have ek:a1.eval (.const (.int .i64 5))=.int .i64 5:=rfl
    refine step_call rfl _ _ _ rfl _ (by simp only [List.map_toArray,List.map_cons,List.map_nil,ek,e1,e4]) (enters_of Tryz.func34 (by kernel_rfl) rfl) (qF_any 5 tyNat (.mk 1 .zero [.mk 1 0 .zero [],.mk 1 1 .zero []] []) _ _ w1 (by decide) (by decide) (IsTy.leaf _ _ 1) (IsFm.keep (fun b h=>h.2) (fun _ _=>rfl) _ f4.1)) ?_
    rintro e w' ⟨v,rfl,ht,hb⟩
    exact ⟨_,rfl,hK _ g0 _ (Post.of rfl (Turn.call hb) trivial hp.lt fun L' _ hn=>⟨IsFm.keep (fun b h=>hn b h.1 h.2) (fun _ _=>rfl) _ ht,trivial⟩)⟩
  · intro V G L a1 w1 hp K hK
    have f0:V 0=.agg #[.int .i64 1,.slice none 0 0]:=hp.fact 0 rfl
    have e0:=hp.slot 0 8 rfl rfl rfl
    rw [f0] at e0
    have f5:IsFm (Good L w1) w1 (.mk 5 tyNat [] [(.mk 1 .zero [.mk 1 0 .zero [],.mk 1 1 .zero []] [])]) (V 5)∧True:=hp.fact 5 rfl
    have e5:=hp.slot 5 13 rfl rfl rfl
    have ek:a1.eval (.const (.int .i64 4))=.int .i64 4:=rfl
    refine step_call rfl _ _ _ rfl _ (by simp only [List.map_toArray,List.map_cons,List.map_nil,ek,e0,e5]) (enters_of Tryz.func34 (by kernel_rfl) rfl) (qF_any 4 tyNat (.mk 5 tyNat [] [(.mk 1 .zero [.mk 1 0 .zero [],.mk 1 1 .zero []] [])]) _ _ w1 (by decide) (by decide) (IsTy.leaf _ _ 1) (IsFm.keep (fun b h=>h.2) (fun _ _=>rfl) _ f5.1)) ?_
    rintro e w' ⟨v,rfl,ht,hb⟩
    exact ⟨_,rfl,hK _ g0 _ (Post.of rfl (Turn.call hb) trivial hp.lt fun L' _ hn=>⟨IsFm.keep (fun b h=>hn b h.1 h.2) (fun _ _=>rfl) _ ht,trivial⟩)⟩
  · intro V G L a1 w1 hp K hK
    have f6:IsFm (Good L w1) w1 (.mk 4 tyNat [] [(.mk 5 tyNat [] [(.mk 1 .zero [.mk 1 0 .zero [],.mk 1 1 .zero []] [])])]) (V 6)∧True:=hp.fact 6 rfl
    have e6:=hp.slot 6 14 rfl rfl rfl
    refine step_call rfl _ _ _ rfl _ (by simp only [List.map_toArray,List.map_cons,List.map_nil,e6]) (enters_of Tryz.func35 (by kernel_rfl) rfl) (task_any (Good L w1) (.mk 4 tyNat [] [(.mk 5 tyNat [] [(.mk 1 .zero [.mk 1 0 .zero [],.mk 1 1 .zero []] [])])]) _ w1 fine8 (by decide) (by decide) (fun b h=>h.2) (HTab.out.after ⟨hp.grown.os,hp.grown.tape,hp.grown.output,hp.grown.size,fun k hk=>hp.grown.block k hk id⟩) f6.1) ?_
    rintro e w' ⟨L1,g,hu,hb,hr⟩
    obtain ⟨rfl,rfl⟩:=univ8 hu
    rcases hr with ⟨_,_,s,t,u,rfl,hs,ht,hf⟩ | ⟨hno,_⟩
    · exact ⟨_,rfl,hK _ (s,t,u) _ (Post.of rfl (Turn.call hb) trivial hp.lt fun L' hg hn=>⟨rfl,hs.keep (fun b h=>h.1.elim (hg b) (fun h'=>hn b h' h.2)) (fun _ _=>rfl),IsTy.keep (fun b h=>h.1.elim (hg b) (fun h'=>hn b h' h.2)) (fun _ _=>rfl) _ ht,IsFm.keep (fun b h=>h.1.elim (hg b) (fun h'=>hn b h' h.2)) (fun _ _=>rfl) _ hf⟩)⟩
    · exact (hno task8).elim
  · intro V G L a1 w1 hp K hK
    have f7:=hp.fact 7 rfl
    have f7':V 7=.tuple #[(G 7).1,(G 7).2.1,(G 7).2.2,.bool true]:=f7.1
    have e7:=hp.slot 7 15 rfl rfl rfl
    rw [f7'] at e7
    refine step_run rfl (run_move rfl e7) ?_
    exact hK _ g0 _ (Post.still rfl trivial hp.lt fun L' _=>rfl)
  · intro V G L a1 w1 hp K hK
    have f8:V 8=.tuple #[(G 7).1,(G 7).2.1,(G 7).2.2,.bool true]:=hp.fact 8 rfl
    have e8:=hp.slot 8 7 rfl rfl rfl
    rw [f8] at e8
    refine step_run rfl (run_extract (v:=(G 7).1) rfl e8 rfl) ?_
    exact hK _ g0 _ (Post.still rfl trivial hp.lt fun L' _=>rfl)
  · intro V G L a1 w1 hp K hK
    have f8:V 8=.tuple #[(G 7).1,(G 7).2.1,(G 7).2.2,.bool true]:=hp.fact 8 rfl
    have e8:=hp.slot 8 7 rfl rfl rfl
    rw [f8] at e8
    refine step_run rfl (run_extract (v:=(G 7).2.1) rfl e8 rfl) ?_
    exact hK _ g0 _ (Post.still rfl trivial hp.lt fun L' _=>rfl)
  · intro V G L a1 w1 hp K hK
    have f8:V 8=.tuple #[(G 7).1,(G 7).2.1,(G 7).2.2,.bool true]:=hp.fact 8 rfl
    have e8:=hp.slot 8 7 rfl rfl rfl
    rw [f8] at e8
    refine step_run rfl (run_extract (v:=(G 7).2.2) rfl e8 rfl) ?_
    exact hK _ g0 _ (Post.still rfl trivial hp.lt fun L' _=>rfl)
  · intro V G L a1 w1 hp K hK
    have f8:V 8=.tuple #[(G 7).1,(G 7).2.1,(G 7).2.2,.bool true]:=hp.fact 8 rfl
    have e8:=hp.slot 8 7 rfl rfl rfl
    rw [f8] at e8
    refine step_run rfl (run_extract (v:=.bool true) rfl e8 rfl) ?_
    exact hK _ g0 _ (Post.still rfl trivial hp.lt fun L' _=>rfl)
  · intro V G L a1 w1 hp K hK
    exact step_run rfl (run_alloc2 rfl) (hK _ g0 _ (Post.made rfl trivial))
  · intro V G L a1 w1 hp K hK
    exact step_run rfl (run_allocF rfl) (hK _ g0 _ (Post.made rfl trivial))
  · intro V G L a1 w1 hp K hK
    have f9:V 9=(G 7).1:=hp.fact 9 rfl
    have e9:=hp.slot 9 16 rfl rfl rfl
    rw [f9] at e9
    refine step_run rfl (run_assign rfl e9) ?_
    exact hK _ g0 _ (Post.still rfl trivial hp.lt fun L' _=>rfl)
  · intro V G L a1 w1 hp K hK
    have f10:V 10=(G 7).2.1:=hp.fact 10 rfl
    have e10:=hp.slot 10 17 rfl rfl rfl
    have f7:_∧_∧IsTy (Good L w1) w1 tyNat (G 7).2.1∧_:=hp.fact 7 rfl
    obtain ⟨b,hv,hk⟩:∃ b,V 13=.pointer (some ⟨b,0,none⟩)∧Blk w1 b _ _:=hp.fact 13 rfl
    have e13:=hp.slot 13 3 rfl rfl rfl
    obtain ⟨A9,c9,h9⟩:=f7.2.2.1.form
    rw [hv] at e13
    rw [f10,h9] at e10
    refine step_skip' rfl (run_store2 rfl e13 e10 rfl rfl hk) (hK _ g0 _ (Post.filled2 (j:=13) rfl rfl (by show ptrBlk (V 13)=_; rw [hv]; rfl) ?_ hk trivial))
    show RFact.boxv _ (G 7).2.1 (V 13)=_
    rw [hv,h9]
  · intro V G L a1 w1 hp K hK
    have f11:V 11=(G 7).2.2:=hp.fact 11 rfl
    have e11:=hp.slot 11 18 rfl rfl rfl
    have f7:_∧_∧_∧IsFm (Good L w1) w1 (.mk 1 .zero [.mk 1 0 .zero [],.mk 1 1 .zero []] []) (G 7).2.2:=hp.fact 7 rfl
    obtain ⟨b,hv,hk⟩:∃ b,V 14=.pointer (some ⟨b,0,none⟩)∧Blk w1 b _ _:=hp.fact 14 rfl
    have e14:=hp.slot 14 4 rfl rfl rfl
    obtain ⟨B9,d9,C9,x9,A9,c9,h9,_⟩:=f7.2.2.2.form
    rw [hv] at e14
    rw [f11,h9] at e11
    refine step_skip' rfl (run_storeF rfl e14 e11 rfl rfl rfl rfl rfl hk) (hK _ g0 _ (Post.filled (j:=14) rfl rfl (by show ptrBlk (V 14)=_; rw [hv]; rfl) ?_ hk trivial))
    show RFact.boxv _ (G 7).2.2 (V 14)=_
    rw [hv,h9]
  · intro V G L a1 w1 hp K hK
    have f12:V 12=.bool true:=hp.fact 12 rfl
    have e12:=hp.slot 12 19 rfl rfl rfl
    rw [f12] at e12
    refine step_run rfl (run_assign rfl e12) ?_
    exact hK _ g0 _ (Post.still rfl trivial hp.lt fun L' _=>rfl)
  · intro V G w1 L hg _ hf hL hd
    have f7:_∧TyR.Sl (Good L w1) w1 [tyNat] (G 7).1∧IsTy (Good L w1) w1 tyNat (G 7).2.1∧IsFm (Good L w1) w1 (.mk 1 .zero [.mk 1 0 .zero [],.mk 1 1 .zero []] []) (G 7).2.2:=(hf 7 (by decide) rfl).1
    have f15:V 15=(G 7).1:=(hf 15 (by decide) rfl).1
    have f18:V 18=.bool true:=(hf 18 (by decide) rfl).1
    obtain ⟨D,c,hc,hv,hk⟩:∃ b c,(G 7).2.1=.agg c∧V 13=.pointer (some ⟨b,0,none⟩)∧Blk w1 b _ c:=(hf 16 (by decide) rfl).1
    obtain ⟨D2,c2,hc2,hv2,hk2⟩:∃ b c,(G 7).2.2=.agg c∧V 14=.pointer (some ⟨b,0,none⟩)∧Blk w1 b _ c:=(hf 17 (by decide) rfl).1
    obtain ⟨A1,a1,h1⟩:=f7.2.1.form
    obtain ⟨A2,a2,h2⟩:=f7.2.2.1.form
    obtain ⟨B3,d3,C3,x3,A3,a3,h3,_⟩:=f7.2.2.2.form
    rw [h2] at hc
    rw [h3] at hc2
    cases hc
    cases hc2
    have T2:=Lib.hid (show IsTy (· < w1.heap.size) w1 tyNat (.agg #[.int .i64 tyNat.kind,.slice A2 tyNat.args.length a2]) from IsTy.keep (fun b h=>h.2) (fun _ _=>rfl) _ (h2 ▸ f7.2.2.1))
    have KD:=Lib.hid (And.intro hk hk2)
    have BX:=Lib.hid (show Below X.heap.size X w1 from ⟨hg.os,hg.tape,hg.output,hg.size,fun k hk=>hg.block k hk id⟩)
    rw [h1] at f15
    simp only [putFrom,dstOf,Act.put,List.size_toArray,List.length_cons,List.length_nil,Nat.zero_add,Nat.reduceAdd,List.getElem?_toArray,List.getElem?_cons_zero,List.getElem?_cons_succ,List.setIfInBounds_toArray,List.set_cons_zero,List.set_cons_succ,hv,hv2,f15,f18]
    have hv0:∀ i,∃ v,v=V i:=fun i=>⟨_,rfl⟩
    obtain ⟨v0,hq⟩:=hv0 0; rw [← hq]; clear hq
    obtain ⟨v1,hq⟩:=hv0 1; rw [← hq]; clear hq
    obtain ⟨v2,hq⟩:=hv0 2; rw [← hq]; clear hq
    obtain ⟨v3,hq⟩:=hv0 3; rw [← hq]; clear hq
    obtain ⟨v4,hq⟩:=hv0 4; rw [← hq]; clear hq
    obtain ⟨v5,hq⟩:=hv0 5; rw [← hq]; clear hq
    obtain ⟨v6,hq⟩:=hv0 6; rw [← hq]; clear hq
    obtain ⟨v7,hq⟩:=hv0 7; rw [← hq]; clear hq
    obtain ⟨v8,hq⟩:=hv0 8; rw [← hq]; clear hq
    obtain ⟨v9,hq⟩:=hv0 9; rw [← hq]; clear hq
    obtain ⟨v10,hq⟩:=hv0 10; rw [← hq]; clear hq
    obtain ⟨v11,hq⟩:=hv0 11; rw [← hq]; clear hq
    obtain ⟨v12,hq⟩:=hv0 12; rw [← hq]; clear hq
    clear hv0 hf hL hd f7 f15 f18 hk hk2 hv hv2 h1 h2 h3 hg
    obtain ⟨r0,r1,_,_⟩:=(K0.out.below BX.out K0.out.lt).facts2
    obtain ⟨s0,s1,_,_⟩:=KD.out.1.facts2
    obtain ⟨t0,t1,t2,t3,t4,_,_,_,_,_⟩:=KD.out.2.facts5
    go_wp2_with fail
    refine (refSame_any 1 tyNat tyNat _ _ w1 (by decide) (by decide) T2.out (IsTy.leaf _ _ 1) (by decide)).mono ?_
    rintro e w2 ⟨rfl,hb2⟩
    rw [eqb_self]
    obtain ⟨u0,u1,u2,u3,u4,_,_,_,_,_⟩:=(KD.out.2.below hb2 KD.out.2.lt).facts5
    have B2:=Lib.hid (HB.out.trans ((BX.out.trans (hb2.mono BX.out.size)).mono HB.out.size))
    clear r0 r1 s0 s1 t0 t1 t2 t3 t4 hb2
    go_wp2_with fail
    go_ret
    exact ⟨rfl,B2.out⟩
end Go.Proofs.YthlknhkemmdocaaGreatDoor
