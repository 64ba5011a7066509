/- Copy of terms. -/
import Derived.Test.YtipfnkajdooiiaaGreatDoorQTerm
namespace Go.Proofs.YtipfnkajdooiiaaGreatDoor
open Go.RowKit

/-- The term t is in new memory. -/
def FreshT (w:World) (t:Tm) (e:Ending) (w':World):Prop:=
 ∃ v,e=.returned v∧IsTm (fun b=>w.heap.size≤b∧b<w'.heap.size) w' t v∧Below w.heap.size w w'

theorem IsTm.boxed {w:World} {T:Tm} {v:Value} (h:IsTm (· < w.heap.size) w T v) {W:World} (hb:Below w.heap.size w W):IsTm (· < W.heap.size) W T v:=
 IsTm.keep (fun _ hb'=>Nat.lt_of_lt_of_le hb' hb.size) (fun _p hp=>hb.cell hp) _ h
theorem IsTy.boxed' {w:World} {T:Ty} {v:Value} (h:IsTy (· < w.heap.size) w T v) {W:World} (hb:Below w.heap.size w W):IsTy (· < W.heap.size) W T v:=
 IsTy.keep (fun _b hb'=>Nat.lt_of_lt_of_le hb' hb.size) (fun _p hp=>hb.cell hp) _ h

theorem Blk.cells5 {w:World} {g:Nat} {t:TypeId} {a b c d e:Value} (h:Blk w g t #[a,b,c,d,e]) :
   w.cell? ⟨g,0,none⟩ = some a∧w.cell? ⟨g,1,none⟩ = some b∧w.cell? ⟨g,2,none⟩ = some c∧w.cell? ⟨g,3,none⟩ = some d∧w.cell? ⟨g,4,none⟩ = some e:=
 ⟨by simpa using h.cell 0,by simpa using h.cell 1,by simpa using h.cell 2,by simpa using h.cell 3,by simpa using h.cell 4⟩

theorem below_set5 {w w':World} {g:Nat} (h:Below g w w') (a b c d e:Value) :
   Below g w (((((w'.setCell ⟨g,0,none⟩ a).setCell ⟨g,1,none⟩ b).setCell ⟨g,2,none⟩ c).setCell ⟨g,3,none⟩ d).setCell ⟨g,4,none⟩ e):=
 ((((h.setCell (p:=⟨g,0,none⟩) (Nat.le_refl _) a).setCell (p:=⟨g,1,none⟩) (Nat.le_refl _) b).setCell (p:=⟨g,2,none⟩) (Nat.le_refl _) c).setCell (p:=⟨g,3,none⟩) (Nat.le_refl _) d).setCell (p:=⟨g,4,none⟩) (Nat.le_refl _) e
theorem only_set5 (w:World) (g:Nat) (a b c d e:Value):w.grownBy (((((w.setCell ⟨g,0,none⟩ a).setCell ⟨g,1,none⟩ b).setCell ⟨g,2,none⟩ c).setCell ⟨g,3,none⟩ d).setCell ⟨g,4,none⟩ e) (some g):=
 only_setCell (only_setCell (only_setCell (only_setCell (only_setCell (only_refl w (some g)) (p:=⟨g,0,none⟩) (.inl rfl) a) (p:=⟨g,1,none⟩) (.inl rfl) b) (p:=⟨g,2,none⟩) (.inl rfl) c) (p:=⟨g,3,none⟩) (.inl rfl) d) (p:=⟨g,4,none⟩) (.inl rfl) e
theorem Blk.set5 {w:World} {g:Nat} {t:TypeId} {x0 x1 x2 x3 x4:Value} (h:Blk w g t #[x0,x1,x2,x3,x4]) (a b c d e:Value) :
   Blk (((((w.setCell ⟨g,0,none⟩ a).setCell ⟨g,1,none⟩ b).setCell ⟨g,2,none⟩ c).setCell ⟨g,3,none⟩ d).setCell ⟨g,4,none⟩ e) g t #[a,b,c,d,e]:=by
 simpa using ((((h.set_ 0 a).set_ 1 b).set_ 2 c).set_ 3 d).set_ 4 e

theorem copyT_end {w wr w2 W:World} {k i:Int} {T:Ty} {l:List Tm} {x2 x3 s:Value} (hbel:Below w.heap.size w wr) (hz:w.heap.size+1<wr.heap.size)
   (ho:TmR.Own (w.heap.size+2≤·) (w.heap.size+2) s l wr) (hb2:Below wr.heap.size wr w2) (hT:IsTy (fun b=>wr.heap.size≤b∧b<w2.heap.size) w2 T (.agg #[x2,x3])) (hg:w2.grownBy W (some (w.heap.size+1))) :
   IsTm (fun b=>w.heap.size≤b∧b<W.heap.size) W (.mk k i T l) (.agg #[.int .i64 k,.int .i64 i,x2,x3,s])∧Below w.heap.size w W:=by
 have h1:=hbel.size
 have h2:=hb2.size
 have h3:=hg.size
 refine ⟨isTm_iff.2 ⟨rfl,rfl,?_,?_⟩,(hbel.trans (hb2.mono h1)).grown hg (by omega) (fun g e=>by cases e; omega)⟩
 · exact IsTy.keep (fun b hb=>by omega) (fun p hp=>World.cell?_of_block (hg.block p.block hp.2 (by simp; omega))) _ hT
 · have h4:=((ho.below hb2).far hg (by omega) (by omega)).sl
   exact h4.keep (fun b hb=>by omega) (fun _ _=>rfl)

/-- One more copy behind a slice of the call's own. -/
theorem copyT_round {base:Nat} {wr w1 w2:World} {l:List Tm} {j:Nat} {v2 u3 y0 y1 y2 y3 y4:Value} {xs:List Value} (hlt:j<l.length) (hbase:base≤wr.heap.size)
   (hown1:(w1.alloc (.cells #[y0,y1,y2,y3,y4] 42)).ownsRow base 42 5 u3 (l.take j).length xs)
   (hxs:TmR.Ch (fun b=>base≤b∧b<w1.heap.size∧u3.ownBlock≠some b) w1 (l.take j) xs) (hrow:∀ g,u3.ownBlock=some g→base≤g∧g<wr.heap.size)
   (hbw:Below wr.heap.size wr w1) {o:Obj} (ht1:IsTm (fun b=>(wr.alloc o).heap.size≤b∧b<w1.heap.size) w1 l[j] (.agg #[y0,y1,y2,y3,y4]))
   (hown2:w2.ownsRow base 42 5 v2 ((l.take j).length+1) (xs ++ [y0,y1,y2,y3,y4]))
   (hg2:(w1.alloc (.cells #[y0,y1,y2,y3,y4] 42)).grownBy w2 u3.ownBlock)
   (hat2:v2.ownBlock=u3.ownBlock∨v2.ownBlock=some (w1.alloc (.cells #[y0,y1,y2,y3,y4] 42)).heap.size) :
   TmR.Own (base≤·) base v2 (l.take (j+1)) w2∧Turn (base≤·) wr w2:=by
 have hs3:=hbw.size
 have hg3:wr.grownBy w2 u3.ownBlock:=only_trans (below_only hbw (Nat.le_refl _) _) (only_trans (World.grownBy_alloc w1 _ _) hg2)
 refine ⟨?_,Turn.grown hg3 (fun k e=>(hrow k e).1)⟩
 rw [List.take_succ_eq_append_getElem hlt]
 refine Rep.Own.more (R:=TmR) (m:=[l[j]]) hown1 (hxs.keep (fun b hb=>⟨hb.1,by have:=hb.2.1; simp; omega,hb.2.2⟩) (fun p hp=>World.cell?_alloc_lt _ _ _ hp.2.1)) (Rep.Ch.one (R:=TmR) (vs:=[y0,y1,y2,y3,y4]) ?_) hown2 hg2 hat2
 refine IsTm.keep (fun b hb=>⟨?_,?_,?_⟩) (fun p hp=>World.cell?_alloc_lt _ _ _ hp.2) _ ht1
 · have:=hb.1; simp at this; omega
 · have:=hb.2; simp; omega
 · intro e; have:=(hrow _ e).2; have:=hb.1; simp at this; omega
theorem Turn.upTo {B n:Nat} {w wr w2:World} (h:Below n w wr) (ht:Turn (B≤·) wr w2) (hn:n≤w.heap.size) (hB:n≤B):Below n w w2:=
 h.trans (ht.toBelow (fun k hk=>by omega) (Nat.le_trans hn h.size))

set_option maxRecDepth 100000 in
set_option maxHeartbeats 1000000 in
theorem copyT_any (n:Nat):∀ (t:Tm) (v:Value) (w:World),t.bulk≤n→n≤400000→IsTm (· < w.heap.size) w t v →
   Calls Tryz.prog 144 #[v] w (FreshT w t):=by
 induction n with
 | zero=>intro t; have:=bulk_pos t; omega
 | succ n ih=>
   rintro ⟨k,i,T,l⟩ v w hn hb ht
   obtain ⟨B,d,A,c,rfl,hT,hl⟩:=ht.parts
   simp only [Tm.kind,Tm.index,Tm.type,Tm.args] at *
   have hll:=bulkAll_len l
   simp only [Tm.bulk] at hn
   have HT:=Lib.hid hT
   have HL:=Lib.hid hl
   clear hT hl ht
   have IH:=Lib.hid ih
   clear ih
   go_enter Tryz.func144,Tryz.ntmps144
   go_wp2_with fail
   go_loopw [3,9] (fun s ix wr=>∃ j:Nat,j≤l.length∧ix=.int .i64 j∧TmR.Own (w.heap.size+2≤·) (w.heap.size+2) s (l.take j) wr∧Below w.heap.size w wr ∧
       Blk wr w.heap.size 42 #[.int .i64 k,.int .i64 i,.int .i64 T.kind,.slice B T.args.length d,.slice A l.length c] ∧
       Blk wr (w.heap.size+1) 42 #[.int .i64 0,.int .i64 0,.int .i64 0,.slice none 0 0,.slice none 0 0])
     (fun _ ix _=>l.length - (intOf ix).toNat)
   case atStart=>
     refine ⟨0,by omega,rfl,Rep.Own.nil _ _ _,((Below.refl _ _).alloc (Nat.le_refl _) _).alloc (by simp) _,(Blk.new _ _ _).alloc _,?_⟩
     have:=Blk.new (w.alloc (.cells #[.int .i64 k,.int .i64 i,.int .i64 T.kind,.slice B T.args.length d,.slice A l.length c] 42)) 42 #[.int .i64 0,.int .i64 0,.int .i64 0,.slice none 0 0,.slice none 0 0]
     simpa using this
   case round=>
     obtain ⟨j,hj,rfl,hown,hbel,hb0,hb1⟩:=hrel
     by_cases hlt:j<l.length
     · have hlr:TmR.Sl (· < w.heap.size) wr l (.slice A l.length c):=HL.out.keep (fun _ h=>h) (fun p hp=>hbel.cell hp)
       obtain ⟨a,rfl,ha,hat⟩:=hlr.get j hlt
       obtain ⟨B1,d1,A1,c1,q0,q1,q2,q3,q4,hx⟩:=at_tm hat
       change wr.cell? (a.add (j * 5))=_ at q0
       simp only [show TmR.n=5 from rfl] at q1 q2 q3 q4
       have hlen:(l.take j).length=j:=by simp; omega
       have hnj:l[j].bulk≤n:=by have:=bulkAll_get l j hlt; omega
       obtain ⟨i0,hi,hz0,hz1,hz2⟩:=info_parts info_term
       have HLE:=Lib.hid hlen
       have HO:=Lib.hid hown
       clear hlen hown
       go_wp2_with fail
       refine (IH.out l[j] _ _ hnj (by omega) (hx.keep (fun b h=>by simp; have:=hbel.size; omega) (fun p hp=>World.cell?_alloc_lt _ _ _ (by have:=hbel.size; omega)))).mono ?_
       rintro e w1 ⟨v',rfl,ht1,hb1'⟩
       obtain ⟨B2,d2,A2,c2,rfl,_⟩:=ht1.form
       have hbw:Below wr.heap.size wr w1:=((Below.refl _ _).alloc (Nat.le_refl _) _).trans (hb1'.mono (by simp))
       obtain ⟨xs,hown,hxs⟩:=HO.out.below hbw
       have hown1:=hown.alloc (.cells #[.int .i64 l[j].kind,.int .i64 l[j].index,.int .i64 l[j].type.kind,.slice B2 l[j].type.args.length d2,.slice A2 l[j].args.length c2] 42)
       have HX:=Lib.hid hxs
       clear hxs hown
       go_wp2_with (at_builtin; go_loud (refine wpList_append_own_at _ rfl _ _ 31 rfl (w.heap.size+2) 42 i0 _ 5 72 Tryz.underlying31 hi hz0 hz1 hz2 rfl (by decide) u3 (l.take j).length xs rfl hown1 ⟨w1.heap.size,0,none⟩ 1 1 [_,_,_,_,_] rfl rfl (cells_new _ _ _) (by simp [Value.oneCell']) (by have:=HLE.out; simp only [maxLen]; omega) (by have:=HLE.out; omega) (by have:=hb1.lt; have:=hbw.size; simp; omega) ?_); intro v2 w2 hown2 hg2 hnil2 hat2)
       obtain ⟨ho2,htu⟩:=copyT_round hlt (by have:=hb1.lt; omega) hown1 HX.out HO.out.lt hbw ht1 hown2 hg2 hat2
       refine ⟨⟨j+1,by omega,by go_num,ho2,Turn.upTo hbel htu (Nat.le_refl _) (by omega),htu.blk hb0 (by omega),htu.blk hb1 (by omega)⟩,by simp [intOf]; omega⟩
     · have hjl:j=l.length:=by omega
       subst hjl
       rw [List.take_length] at hown
       obtain ⟨A3,c3,rfl⟩:=hown.form
       have HO:=Lib.hid hown
       have HB:=Lib.hid hbel
       have HB1:=Lib.hid hb1
       have hz:=hb1.lt
       have HSK:=Lib.hid fun (w1:World) (h:Below (w.heap.size+1) wr w1)=>And.intro h (hb0.below h (Nat.lt_succ_self _)).cells5
       have HN:=Lib.hid (show T.nodes≤400000 by omega)
       obtain ⟨_,q0,q1,q2,q3,q4⟩:=HSK.out wr (Below.refl _ _)
       clear hown hbel hb0 hb1 hn hb hll hj
       go_wp2_with fail
       go_region_held3 (fun w'=>Below (w.heap.size+1) wr w'∧w'.cell? ⟨w.heap.size,0,none⟩ = some (.int .i64 k)∧w'.cell? ⟨w.heap.size,1,none⟩ = some (.int .i64 i) ∧
           w'.cell? ⟨w.heap.size,2,none⟩ = some (.int .i64 T.kind)∧w'.cell? ⟨w.heap.size,3,none⟩ = some (.slice B T.args.length d)∧w'.cell? ⟨w.heap.size,4,none⟩ = some (.slice A l.length c))
         (first | exact HSK.out _ (Below.refl _ _).drew | exact HSK.out _ hb3 | exact HSK.out _ (below_set5 hb3 _ _ _ _ _) | go_keep)
         (first
           | (go_at_call 143
              (with_reducible refine (copy_any 400000 T (.agg #[.int .i64 T.kind,.slice B T.args.length d]) _ HN.out (by omega) ?_).mono ?_)
              · exact IsTy.keep (S:=(· < w.heap.size)) (w:=w) (w':=wr.drew) (fun b h=>by show b<wr.heap.size; omega) (fun p hp=>HB.out.cell hp) T HT.out
              rintro e w2 ⟨x2,rfl,hx2,hb2'⟩
              obtain ⟨A2,c2,rfl⟩:=hx2.form
              have hb2:Below wr.heap.size wr w2:=((Below.refl _ wr).drew).trans (hb2'.mono (Nat.le_refl _))
              have hb3:Below (w.heap.size+1) wr w2:=hb2.mono (by omega)
              obtain ⟨r0,r1,r2,r3,r4,f0,f1,f2,f3,f4⟩:=(HB1.out.below hb2 HB1.out.lt).facts5))
       go_wp2_with fail
       obtain ⟨z0,z1,z2,z3,z4⟩:=((HB1.out.below hb2 HB1.out.lt).set5 (.int .i64 k) (.int .i64 i) (.int .i64 T.kind) (.slice A2 T.args.length c2) (.slice A3 l.length c3)).cells5
       refine bodyPost_ret (v:=.agg #[.int .i64 k,.int .i64 i,.int .i64 T.kind,.slice A2 T.args.length c2,.slice A3 l.length c3]) (by simp [results,Tryz.results144,go_sem,z0,z1,z2,z3,z4]) rfl ⟨_,rfl,?_⟩
       exact copyT_end HB.out hz HO.out hb2 hx2 (only_set5 w2 (w.heap.size+1) _ _ _ _ _)
end Go.Proofs.YtipfnkajdooiiaaGreatDoor
