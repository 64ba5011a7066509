/- subst.Uses: the free variables, ascending. -/
import Derived.Test.YtipfnkajdooiiaaGreatDoorQPackSubst
import Derived.Test.YtipfnkajdooiiaaGreatDoorLay
import Derived.Maps.OwnSet
import Derived.Maps.Range
import Derived.Lib.SlKeysI
import Derived.Test.YtipfnkajdooiiaaGreatDoorQPackF5
import Derived.Test.YtipfnkajdooiiaaGreatDoorQPackF3
import Derived.Test.YtipfnkajdooiiaaGreatDoorQRefSame
import Derived.Test.YtipfnkajdooiiaaGreatDoorQMakeT
import Derived.Deep.RegionHeld3
import Derived.Test.YtipfnkajdooiiaaGreatDoorQPackFml
import Derived.Test.YtipfnkajdooiiaaGreatDoorQPackF4
namespace Go.Proofs.YtipfnkajdooiiaaGreatDoor
open Go.RowKit Go.Shelf Go.Maps Go.Sort

attribute [local go_sem] Oper.semAt_some

/-! Mathematics. -/
/-- A list holds the free variables of a term, ascending. -/
def UsesOf (t:Tm) (L:List Int):Prop:=L.Pairwise (· < ·)∧∀ x:Int,x ∈ L↔∃ y ∈ t.vars 0,(y.2:Int)≤y.1∧x=y.1 - y.2
theorem rising_one:∀ {l m:List Int},l.Pairwise (· < ·)→m.Pairwise (· < ·)→(∀ x,x ∈ l↔x ∈ m)→l=m
 | [],[],_,_,_=>rfl
 | [],b :: r,_,_,h=>by have:=(h b).2 (by simp); simp at this
 | a :: l,[],_,_,h=>by have:=(h a).1 (by simp); simp at this
 | a :: l,b :: m,hl,hm,h=>by
   rw [List.pairwise_cons] at hl hm
   have e:a=b:=by
     have h1:=(h a).1 (by simp)
     have h2:=(h b).2 (by simp)
     rw [List.mem_cons] at h1 h2
     rcases h1 with h1 | h1
     · exact h1
     · rcases h2 with h2 | h2
       · exact h2.symm
       · have:=hm.1 a h1; have:=hl.1 b h2; omega
   subst e
   rw [rising_one hl.2 hm.2 fun x=>?_]
   have hx:=h x
   rw [List.mem_cons,List.mem_cons] at hx
   constructor
   · intro k
     rcases hx.1 (.inr k) with e | e
     · have:=hl.1 x k; omega
     · exact e
   · intro k
     rcases hx.2 (.inr k) with e | e
     · have:=hm.1 x k; omega
     · exact e
/-- The set of the free variables that have come. -/
def usesD (xs:List (Int × Nat)):DataW Unit:=xs.foldl (fun D x=>if (x.2:Int)≤x.1 then D.put (.int .i64 (x.1 - x.2)) (.lit (.bool true)) else D) (.map [])
theorem usesD_snoc (pre:List (Int × Nat)) (x:Int × Nat):usesD (pre ++ [x])=if (x.2:Int)≤x.1 then (usesD pre).put (.int .i64 (x.1 - x.2)) (.lit (.bool true)) else usesD pre:=by simp [usesD]
theorem isKey_int (n:Int):WideAt.IsKeyLit (.int .i64 n):=trivial
theorem usesD_facts:∀ (n:Nat) (xs:List (Int × Nat)),xs.length=n→Tidy (usesD xs)∧Maps.size (usesD xs)≤xs.length∧∀ z:Int,has (usesD xs) (.int .i64 z)=true↔∃ y ∈ xs,(y.2:Int)≤y.1∧z=y.1 - y.2:=by
 intro n
 induction n with
 | zero=>
   intro xs h
   obtain rfl:=List.eq_nil_of_length_eq_zero h
   exact ⟨tidy_empty,by simp [usesD,Maps.size],fun z=>by simp [usesD,Maps.has]⟩
 | succ n ih=>
   intro xs h
   rcases List.eq_nil_or_concat xs with rfl | ⟨pre,x,rfl⟩
   · simp at h
   · simp only [List.concat_eq_append] at h ⊢
     obtain ⟨h1,h2,h3⟩:=ih pre (by simp at h; exact h)
     rw [usesD_snoc]
     by_cases hx:(x.2:Int)≤x.1
     · rw [if_pos hx]
       refine ⟨h1.put (isKey_int _) _,?_,fun z=>?_⟩
       · have:=size_put (k:=.int .i64 (x.1 - x.2)) h1 (.lit (.bool true))
         rw [this]
         simp only [List.length_append,List.length_cons,List.length_nil]
         split <;> omega
       · by_cases hz:z=x.1 - x.2
         · subst hz
           rw [has_put_same h1.isMap (isKey_int _)]
           exact ⟨fun _=>⟨x,by simp,hx,rfl⟩,fun _=>rfl⟩
         · rw [has_put_other (fun e=>hz (by simpa using e)),h3]
           constructor
           · rintro ⟨y,hy,h⟩; exact ⟨y,by simp [hy],h⟩
           · rintro ⟨y,hy,h⟩
             rcases List.mem_append.1 hy with hy | hy
             · exact ⟨y,hy,h⟩
             · rw [List.mem_singleton.1 hy] at h; exact (hz h.2).elim
     · rw [if_neg hx]
       refine ⟨h1,by simp; omega,fun z=>?_⟩
       rw [h3]
       constructor
       · rintro ⟨y,hy,h⟩; exact ⟨y,by simp [hy],h⟩
       · rintro ⟨y,hy,h⟩
         rcases List.mem_append.1 hy with hy | hy
         · exact ⟨y,hy,h⟩
         · rw [List.mem_singleton.1 hy] at h; exact (hx h.1).elim
/-- The keys, sorted. -/
theorem usesD_sorted {P:Program} {k:TypeId} {R:Value→Option (DataW Unit × List MemPlace)} {w:World} {b n:Nat} {t:Tm} {ss:List Int} (hown:w.ownsMap P k R b n (usesD (t.vars 0))) (K:Keyed P k) (hk:P.underlying k=some (.int .i64)) (hp:ss.Perm (intKeys (usesD (t.vars 0)))) :
   UsesOf t (ss.mergeSort (fun x y=>decide (x≤y))):=by
 obtain ⟨es,hD,hpw,_⟩:=hown.entries K
 obtain ⟨es',hD',hko⟩:=hown.keysOf
 obtain rfl:es=es':=by rw [hD] at hD'; simpa using hD'
 have hint:∀ p ∈ es,∃ x,p.1=.int .i64 x:=fun p hp=>by obtain ⟨v,hv⟩:=hko p hp; obtain ⟨x,_,hx,_⟩:=Maps.keyOf_i64 hk hv; exact ⟨x,hx⟩
 have hmem:=(usesD_facts _ (t.vars 0) rfl).2.2
 rw [hD] at hp hmem
 have hnd:(intKeys (.map es)).Nodup:=by
   show (es.map fun p=>Go.intOf p.1).Nodup
   refine List.pairwise_map.2 (hpw.imp_of_mem fun {p q} hp' hq' hne e=>hne ?_)
   obtain ⟨a,ha⟩:=hint p hp'
   obtain ⟨b,hb⟩:=hint q hq'
   rw [ha,hb] at e ⊢
   exact congrArg _ e
 have hk2:∀ x,x ∈ intKeys (.map es)↔has (.map es) (.int .i64 x)=true:=fun x=>by
   rw [has_eq,List.any_eq_true]
   show x ∈ es.map (fun p=>Go.intOf p.1)↔_
   rw [List.mem_map]
   constructor
   · rintro ⟨p,hp',rfl⟩
     obtain ⟨a,ha⟩:=hint p hp'
     exact ⟨p,hp',by rw [ha]; simp [Lit.sameKey,Go.intOf]⟩
   · rintro ⟨p,hp',hs⟩
     obtain ⟨a,ha⟩:=hint p hp'
     rw [ha] at hs
     exact ⟨p,hp',by rw [ha]; simpa [Lit.sameKey,Go.intOf] using hs⟩
 have hperm:=(List.mergeSort_perm ss (fun x y=>decide (x≤y))).trans hp
 refine ⟨?_,fun x=>by rw [hperm.mem_iff,hk2,hmem]⟩
 have hs:=List.pairwise_mergeSort (le:=fun x y:Int=>decide (x≤y)) (fun a b c h1 h2=>by simp only [decide_eq_true_eq] at *; omega) (fun a b=>by simp only [Bool.or_eq_true,decide_eq_true_eq]; omega) ss
 have hn:(ss.mergeSort (fun x y=>decide (x≤y))).Nodup:=hperm.nodup_iff.2 hnd
 refine (hs.and hn).imp fun {a b} h=>?_
 have h1:=h.1
 simp only [decide_eq_true_eq] at h1
 have h2:=h.2
 omega

/-! The walk. -/
/-- How the loop stands: the map's block, and the local that holds the map. -/
def UsesI (w:World) (pre:List (Int × Nat)) (W:World):Prop:=
 Below w.heap.size w W∧Blk W (w.heap.size+1) 137 #[.map (some w.heap.size)]∧W.ownsMap Tryz.prog 3 (plainElem (H:=Unit) Tryz.prog 4) w.heap.size pre.length (usesD pre)
theorem usesI_low {w:World} {B:Nat} (hB:w.heap.size+2≤B) (pre:List (Int × Nat)):Low B (UsesI w pre):=by
 rintro W W' ⟨h0,h1,h2⟩ hb
 refine ⟨h0.trans (hb.mono (by omega)),h1.below hb (by omega),?_⟩
 obtain ⟨es,ck,hh,hF,hs,hD⟩:=h2
 exact ⟨es,ck,(hb.block _ (by omega)).trans hh,hF,hs,hD⟩
theorem map3_facts (w:World) (c2 c3:Array Value) (t2 t3:TypeId):∃ W,W=((w.alloc (.map #[] 0)).alloc (.cells c2 t2)).alloc (.cells c3 t3) ∧
   Below w.heap.size w W∧W.heap.size=w.heap.size+3∧Blk W (w.heap.size+1) t2 c2∧Blk W (w.heap.size+1+1) t3 c3∧W.ownsMap Tryz.prog 3 (plainElem (H:=Unit) Tryz.prog 4) w.heap.size 0 (.map []):=by
 have hm:=World.ownsMap_made w Tryz.prog 3 (plainElem (H:=Unit) Tryz.prog 4)
 have b1:=(Below.refl _ w).alloc (Nat.le_refl _) (.map #[] 0)
 have z1:=World.size_alloc w (.map #[] 0)
 generalize w.alloc (.map #[] 0)=W1 at hm b1 z1 ⊢
 obtain ⟨b2,z2,k2⟩:=new_blk b1 b1.size c2 t2
 have hm2:=hm.alloc (.cells c2 t2)
 generalize W1.alloc (.cells c2 t2)=W2 at b2 z2 k2 hm2 ⊢
 rw [z1] at k2 z2
 obtain ⟨b3,z3,k3⟩:=new_blk b2 b2.size c3 t3
 rw [z2] at k3
 exact ⟨_,rfl,b3,by omega,k2.alloc _,k3,hm2.alloc _⟩

/-- maps.Keys hands back its iterator. -/
theorem keys_any (mb:Option Nat) (w:World):Calls Tryz.prog 179 #[.map mb] w fun e w'=>
   e=.returned (.func (.func 234) #[] #[.pointer (some ⟨w.heap.size,0,none⟩)])∧w' = w.alloc (.cells #[.map mb] 137):=
 (callsIn_wide (n:=5)).1 (AnyZI.keys_in Tryz.keysU Fence.wide 5 trivial rfl mb w)
theorem sorts_any (m:Nat):AnyZI.SortsIn Tryz.prog Tryz.sortedU_ren Fence.wide m:=
 ⟨fun blk off cap ss W hH hblk hsz=>callsIn_wide.2 (AnyM.slices_Sort_int Tryz.sortU blk off cap ss W hH hblk hsz),
  fun p cap W=>callsIn_wide.2 (AnyM.slices_Sort_int_none Tryz.sortU p cap W)⟩
/-- slices.Sorted of the keys of a map. -/
theorem sorted_any {b nn Bm:Nat} {D0:DataW Unit} {R:Value→Option (DataW Unit × List MemPlace)} {w:World} (hBm:Bm<w.heap.size) (hm:w.cell? ⟨Bm,0,none⟩ = some (.map (some b))) (hown:w.ownsMap Tryz.prog 3 R b nn D0) (hmax:Maps.size D0≤1000000) :
   Calls Tryz.prog 178 #[.func (.func 234) #[] #[.pointer (some ⟨Bm,0,none⟩)]] w fun e w'=>∃ (v:Value) (ss:List Int),e=.returned v∧ss.Perm (intKeys D0) ∧
     w'.ownsRow w.heap.size 3 1 v ss.length ((ss.mergeSort (fun x y=>decide (x≤y))).map encZ)∧Below w.heap.size w w':=by
 have hseq:SeqGives Fence.wide 2 Tryz.prog 234 #[.pointer (some ⟨Bm,0,none⟩)] encZ (fun ss=>ss.Perm (intKeys D0)) (Maps.size D0) w:=
   AnyZI.keys_gives (ρ:=Tryz.keysU_ren) { Tryz.keysU with } Fence.wide _ trivial rfl (by omega) Bm b nn D0 _ hBm hm hown
 have cS:=AnyZI.sorted_in Tryz.sortedU Fence.wide 5 trivial trivial trivial trivial rfl (by omega) (sorts_any _) (enters_of Tryz.func233 (by kernel_rfl) rfl) 234 #[.pointer (some ⟨Bm,0,none⟩)] trivial (enters_of Tryz.func234 (by kernel_rfl) rfl) _ _ (by unfold maxLen; omega) (by omega) _ hseq
 change CallsIn _ _ Tryz.prog 178 _ _ _ at cS
 refine ((callsIn_wide (n:=5)).1 cS).mono ?_
 rintro e w' ⟨v,ss,rfl,hS,hrow,_,hb⟩
 exact ⟨v,ss,rfl,hS,hrow,hb⟩

set_option maxRecDepth 100000 in
set_option maxHeartbeats 2000000 in
theorem uses_any (t:Tm) (v:Value) (w:World) (hsz:t.bulk≤390000) (he:t.err=0) (hlow:t.low 1000000=true) (htab:Tab w) (hT:IsTm (· < w.heap.size) w t v) :
   Calls Tryz.prog 141 #[v] w fun e w'=>∃ (s:Value) (L:List Int),e=.returned (.tuple #[s,.int .i64 0])∧UsesOf t L∧w'.ownsRow w.heap.size 3 1 s L.length (L.map encZ)∧Below w.heap.size w w':=by
 obtain ⟨Bt,d,A,c,rfl,_⟩:=hT.form
 have hmm:=@run_makeMap Tryz.prog
 have hok:=(errT_zero.1 he).1
 have HT:=Lib.hid (And.intro hT (And.intro htab (And.intro hok (And.intro he hlow))))
 clear hT htab hok he hlow
 refine (callsIn_wide (n:=8)).1 (callsIn_of_wp_marks Tryz.func141 rfl trivial ?_ rfl)
 simp only [Tryz.ntmps141,List.size_toArray,List.length_cons,List.length_nil,Nat.reduceAdd,Nat.reduceSub,Array.replicate_succ,Array.replicate_zero,List.push_toArray,List.append_toArray,List.nil_append,List.cons_append]
 obtain ⟨b0,z0,k0⟩:=new_blk (Below.refl w.heap.size w) (Nat.le_refl _) #[.int .i64 t.kind,.int .i64 t.index,.int .i64 t.type.kind,.slice Bt t.type.args.length d,.slice A t.args.length c] 42
 have H0:=Lib.hid (And.intro b0 k0)
 clear b0 z0 k0
 gi_wp2_with (first
   | (refine ⟨trivial,?_⟩; gi_at_call 146; refine (callsIn_wide.2 (checkT_ok (t:=t) HT.out.2.2.2.1 (by omega) (HT.out.2.1.after H0.out.1) (IsTm.boxed HT.out.1 H0.out.1))).mono ?_; rintro e w1 ⟨rfl,hb1⟩
      have H1:=Lib.hid (And.intro (H0.out.1.trans (hb1.mono H0.out.1.size)) (H0.out.2.below hb1 H0.out.2.lt))
      obtain ⟨r0,r1,r2,r3,r4,_,_,_,_,_⟩:=H1.out.2.facts5
      obtain ⟨s0,s1,s2,s3,s4,_,_,_,_,_⟩:=((H1.out.2.alloc (.map #[] 0)).alloc (.cells #[.map (some w1.heap.size)] 137)).facts5
      clear hb1)
   | (refine ⟨trivial,?_⟩; gi_at_call 202; refine (callsIn_wide.2 (variables_any _ _ _ _ _ _)).mono ?_; rintro e w' ⟨rfl,rfl⟩))
 obtain ⟨W0,hW0,hb,hz,k2,k3,hm0⟩:=map3_facts w1 #[.map (some w1.heap.size)] #[.int .i64 t.kind,.int .i64 t.index,.int .i64 t.type.kind,.slice Bt t.type.args.length d,.slice A t.args.length c] 137 42
 rw [← hW0]
 clear hW0 r0 r1 r2 r3 r4 s0 s1 s2 s3 s4
 have hz1:=H1.out.1.size
 have hT0:=HT.out.1.keep (S':=(· < w1.heap.size)) (w':=W0) (fun b h=>Nat.lt_of_lt_of_le h hz1) (fun p hp=>(hb.cell (Nat.lt_of_lt_of_le hp hz1)).trans (H1.out.1.cell hp))
 refine range_wp (by omega) (gf:=237) (lb:=#[.pointer (some ⟨w1.heap.size+1+1,0,none⟩)]) rfl (enters_of Tryz.func237 (by kernel_rfl) rfl) (n₀:=w1.heap.size) (by omega)
   (enc:=EncVar) (xs:=t.vars 0) (fun x args W h=>by rw [show args=_ from h]; rfl)
   (vars_iter _ _ _ t Bt A d c W0 (by omega) hT0 (by omega) k3)
   (UsesI w1) (fun _ _=>False) (fun pre=>usesI_low (by omega) pre) (fun c W W' h _=>h) ⟨hb,k2,hm0⟩ ?round ?done ?stop
 case round=>
   rintro pre x args W ⟨j0,j1,j2⟩ hpre hW hx
   have hx':args=#[.int .i64 x.1,.int .i64 x.2]:=hx
   subst hx'
   gi_wp2
   refine ⟨Below.refl _ _,?_⟩
   rintro W₂ hg ⟨i0,i1,i2⟩
   have hmem:x ∈ t.vars 0:=hpre.subset (by simp)
   have hlx:=vars_low t 0 HT.out.2.2.2.2 x hmem
   have hnx:=vars_nat t 0 HT.out.2.2.1 x hmem
   have hdx:=(vars_deep t 0 x hmem).2
   have hln:=hpre.length_le
   have hvb:=vars_bulk t 0
   simp only [List.length_append,List.length_cons,List.length_nil] at hln
   have HSN:=Lib.hid (usesD_snoc pre x)
   obtain ⟨xi,xd⟩:=x
   simp only at hlx hnx hdx
   obtain ⟨q1,f1⟩:=i1.facts1
   have hpl:pre.length<maxLen:=by unfold maxLen; omega
   clear hg hmem hpre j0 j1 j2
   by_cases hge:(xd:Int)≤xi
   · have e1:decide (xi≥(xd:Int))=true:=decide_eq_true hge
     have e2:decide ((xd:Int)≤xi)=true:=decide_eq_true hge
     have hwf:(Lit.int .i64 (xi - xd)).wf=true:=WalkArith.wf_i64 (by omega)
     gi_wp2_with (gi_at_mapUpdate; refine wpListIn_mapUpdate_own _ rfl _ _ _ 137 rfl 3 4 (Maps.int_keyed Tryz.underlying3) Tryz.underlying137 _ w1.heap.size pre.length _ rfl i2 hpl _ _ _ rfl rfl (Maps.keyOf_int_mk Tryz.underlying3 hwf) _ [] (plainElem_bool Tryz.underlying4 true) ?_; intro w3 hown3 hgrow3)
     refine ⟨Kept.of_grownBy hgrow3 (fun k e=>by cases e; omega),i0.grown hgrow3 i0.size (fun k e=>by cases e; exact Nat.le_refl _),i1.grown hgrow3 (by simp),?_⟩
     rw [HSN.out,if_pos hge,List.length_append]
     exact hown3
   · have e1:decide (xi≥(xd:Int))=false:=decide_eq_false hge
     have e2:decide ((xd:Int)≤xi)=false:=decide_eq_false hge
     gi_wp2
     refine ⟨Kept.refl _ _ _,i0,i1,?_⟩
     rw [HSN.out,if_neg (by omega)]
     exact i2.mono (by simp)
 case done=>
   rintro W ⟨j0,j1,j2⟩ hzW hD
   obtain ⟨q1,f1⟩:=j1.facts1
   have hsz2:=(usesD_facts _ (t.vars 0) rfl).2.1
   have hvb:=vars_bulk t 0
   have HJ:=Lib.hid (And.intro j0 j2)
   have hj0:=j0.size
   have hbx:=below_box W (.cells #[.map (some w1.heap.size)] 137)
   have kx:=Blk.new W 137 #[.map (some w1.heap.size)]
   have HX:=Lib.hid (And.intro hbx kx)
   clear j0 j2 hbx kx
   gi_wp2_with (first
     | (refine ⟨trivial,?_⟩; gi_at_call 179; refine (callsIn_wide.2 (keys_any _ _)).mono ?_; rintro e w' ⟨rfl,rfl⟩)
     | (refine ⟨trivial,?_⟩; gi_at_call 178; refine (callsIn_wide.2 (sorted_any (Bm:=W.heap.size) (by simp) HX.out.2.facts1.1 (HJ.out.2.alloc _) (by omega))).mono ?_; rintro e w4 ⟨v4,ss,rfl,hp4,hrow4,hb4⟩))
   have hz4:=hb4.size
   simp only [World.size_alloc] at hz4
   have hb5:Below W.heap.size W w4:=HX.out.1.trans (hb4.mono (by simp))
   have hD4:w4.heap[W0.heap.size]? = some (.deferred (some [])):=(hb5.block _ hzW).trans hD
   rw [hz] at hD4 hzW
   have hg4:=grownBy_putObj' w4 (w1.heap.size+3) (.deferred none)
   have hr5:=hrow4.kept hg4 (by
     cases hv:v4.ownBlock with
     | none=>exact .inl rfl
     | some q=>exact .inr fun e=>by have h1:=(hrow4.lt q hv).1; cases e; simp at h1; omega)
   have hBW:Below w.heap.size w w4:=H1.out.1.trans ((HJ.out.1.trans (hb5.mono hj0)).mono hz1)
   refine marks_end (v:=.tuple #[v4,.int .i64 0]) hD4 (by simp [results,Tryz.results141,go_sem]) ⟨v4,ss.mergeSort (fun x y=>decide (x≤y)),rfl,usesD_sorted HJ.out.2 (Maps.int_keyed Tryz.underlying3) Tryz.underlying3 hp4,?_,below_put hBW _ (Nat.le_refl _) (by omega)⟩
   rw [List.length_mergeSort]
   exact ownsRow_base_a hr5 (by rw [World.size_alloc]; omega)
 case stop=>
   rintro c W h
   exact h.elim
end Go.Proofs.YtipfnkajdooiiaaGreatDoor
namespace Go.Proofs.YtipfnkajdooiiaaGreatDoor
open Go.RowKit

set_option maxRecDepth 100000 in
set_option maxHeartbeats 4000000 in
theorem fUses_any (f:Fm) (v:Value) (w:World) (hf:FineF f) (hsz:f.size≤4096) (hb:f.bulk≤300000) (hlow:f.asTm.low 1000000=true) (htab:Tab w) (hF:IsFm (· < w.heap.size) w f v) :
   Calls Tryz.prog 52 #[v] w fun e w'=>∃ (b:Nat) (s:Value) (L:List Int),e=.returned (.tuple #[s,.int .i64 0])∧UsesOf f.asTm L∧w'.ownsRow b 3 1 s L.length (L.map encZ)∧Below w.heap.size w w':=by
 obtain ⟨B,d,C,e0,A,a0,rfl,_⟩:=IsFm.form hF
 obtain ⟨W,hW,hbW,hz,k0⟩:=boxF w #[.int .i64 f.kind,.int .i64 f.type.kind,.slice B f.type.args.length d,.slice C f.terms.length e0,.slice A f.args.length a0]
 have hup:∀ b,b<w.heap.size→b<W.heap.size:=fun b h=>Nat.lt_of_lt_of_le h hbW.size
 have HF:=Lib.hid fun (w':World) (h:Below W.heap.size W w')=>show IsFm (· < w'.heap.size) w' f _ from IsFm.keep (S':=(· < w'.heap.size)) (fun b hb=>Nat.lt_of_lt_of_le (hup b hb) h.size) (fun q hq=>(h.cell (hup _ hq)).trans (hbW.cell hq)) _ hF
 have HK:=Lib.hid fun (w':World) (h:Below W.heap.size W w')=>(k0.below h k0.lt).cells5
 have HB:=Lib.hid (And.intro hbW (htab.after hbW))
 have HO:=Lib.hid (And.intro hf (And.intro hsz hlow))
 obtain ⟨p0,p1,p2,p3,p4⟩:=k0.cells5
 clear hF hf hsz htab hbW hz k0 hup hlow
 go_enter Tryz.func52,Tryz.ntmps52
 go_upto_region 1 with fail
 rw [← hW]
 clear hW
 go_wp2_with fail
 refine (checkF_ok HO.out.1.good HO.out.2.1 _ W (by omega) HB.out.2 (HF.out W (Below.refl _ _))).mono ?_
 rintro e w1 ⟨rfl,hb1⟩
 have HB1:=Lib.hid hb1
 clear p0 p1 p2 p3 p4
 obtain ⟨p0,p1,p2,p3,p4⟩:=HK.out w1 hb1
 clear hb1
 go_wp2_with fail
 refine (asTm_any HO.out.1.good (· < w1.heap.size) _ w1 (fun _ h=>h) (HF.out w1 HB1.out)).mono ?_
 rintro e w2 ⟨v2,rfl,h2,hb2⟩
 obtain ⟨t,ht⟩:∃ t,t=f.asTm:=⟨_,rfl⟩
 rw [← ht] at h2
 obtain ⟨B2,d2,A2,c2,rfl,_⟩:=h2.form
 have HT:=Lib.hid (show IsTm (· < w2.heap.size) w2 t _ from IsTm.keep (fun b h=>h.2) (fun _ _=>rfl) _ h2)
 have HB2:=Lib.hid (HB1.out.trans (hb2.mono HB1.out.size))
 have HTF:=Lib.hid (show t.bulk≤390000∧t.err=0∧t.low 1000000=true by
   have h:=asTm_facts HO.out.1
   rw [ht]
   exact ⟨by rw [h.2.1]; omega,errT_zero.2 ⟨h.2.2.1,by rw [h.1]; exact HO.out.2.1⟩,HO.out.2.2⟩)
 have HTE:=Lib.hid ht
 clear h2 hb2 ht p0 p1 p2 p3 p4
 go_wp2_with fail
 refine (uses_any t _ w2 HTF.out.1 HTF.out.2.1 HTF.out.2.2 (HB.out.2.after HB2.out) HT.out).mono ?_
 rintro e w3 ⟨s,L,rfl,hu,hrow,hb3⟩
 have HU:=Lib.hid (And.intro hu (And.intro hrow (HB.out.1.trans ((HB2.out.trans (hb3.mono HB2.out.size)).mono HB.out.1.size))))
 clear hu hrow hb3
 go_wp2_with fail
 go_ret2
 exact ⟨_,_,L,rfl,by rw [← HTE.out]; exact HU.out.1,HU.out.2.1,HU.out.2.2⟩
end Go.Proofs.YtipfnkajdooiiaaGreatDoor
namespace Go.Proofs.YtipfnkajdooiiaaGreatDoor
open Go.RowKit

set_option maxRecDepth 100000 in
set_option maxHeartbeats 4000000 in
theorem sameT_refl (n:Nat):∀ (t:Tm) (u v:Value) (w:World),t.bulk≤n→n≤400000→IsTm (· < w.heap.size) w t u→IsTm (· < w.heap.size) w t v →
   Calls Tryz.prog 30 #[u,v] w fun e w'=>e=.returned (.bool true)∧Below w.heap.size w w':=by
 induction n with
 | zero=>intro t; have:=bulk_pos t; omega
 | succ n ih=>
   rintro ⟨k,i,T,l⟩ u v w hn hb hu hv
   obtain ⟨B,d,A,c,rfl,hT,hl⟩:=hu.mk_parts
   obtain ⟨B',d',A',c',rfl,hT',hl'⟩:=hv.mk_parts
   have hll:=bulkAll_len l
   simp only [Tm.bulk] at hn
   have IH:=Lib.hid ih
   have HL:=Lib.hid (And.intro hl hl')
   obtain ⟨b1,z1,k1⟩:=new_blk (Below.refl w.heap.size w) (Nat.le_refl _) #[.int .i64 k,.int .i64 i,.int .i64 T.kind,.slice B T.args.length d,.slice A l.length c] 42
   obtain ⟨b2,z2,k2⟩:=new_blk b1 b1.size #[.int .i64 k,.int .i64 i,.int .i64 T.kind,.slice B' T.args.length d',.slice A' l.length c'] 42
   have k1:=k1.alloc (Obj.cells #[.int .i64 k,.int .i64 i,.int .i64 T.kind,.slice B' T.args.length d',.slice A' l.length c'] 42)
   rw [z1] at k2 z2
   obtain ⟨W,hW⟩:∃ W,W=(w.alloc (Obj.cells #[.int .i64 k,.int .i64 i,.int .i64 T.kind,.slice B T.args.length d,.slice A l.length c] 42)).alloc (Obj.cells #[.int .i64 k,.int .i64 i,.int .i64 T.kind,.slice B' T.args.length d',.slice A' l.length c'] 42):=⟨_,rfl⟩
   rw [← hW] at b2 z2 k1 k2
   have HTY:=Lib.hid (And.intro (hT.boxed' b2) (hT'.boxed' b2))
   have hTn:T.nodes≤400000:=by omega
   have HKK:=Lib.hid (And.intro k1 (And.intro k2 b2))
   obtain ⟨p0,p1,p2,p3,p4,_⟩:=k1.facts5
   obtain ⟨s0,s1,s2,s3,s4,_⟩:=k2.facts5
   clear hu hv hT hT' hl hl' ih b1 z1 k1 k2
   go_enter Tryz.func30,Tryz.ntmps30
   go_wp2_with fail
   rw [← hW]
   clear hW
   refine (refSame_any 400000 T T _ _ W hTn (Nat.le_refl _) HTY.out.1 HTY.out.2 hTn).mono ?_
   rintro e W1 ⟨rfl,hbW⟩
   rw [eqb_self]
   have HBW:=Lib.hid hbW
   have HK2:=Lib.hid (And.intro (HKK.out.1.below hbW HKK.out.1.lt) (And.intro (HKK.out.2.1.below hbW HKK.out.2.1.lt) (HKK.out.2.2.trans (hbW.mono HKK.out.2.2.size))))
   obtain ⟨_,_,_,_,q4,_⟩:=HK2.out.1.facts5
   obtain ⟨_,_,_,_,r4,_⟩:=HK2.out.2.1.facts5
   clear hbW p0 p1 p2 p3 p4 s0 s1 s2 s3 s4
   go_wp2_with fail
   go_loopw [38] (fun ix wr=>∃ j:Nat,j≤l.length∧ix=.int .i64 j∧Below W1.heap.size W1 wr) (fun ix _=>l.length - (intOf ix).toNat)
   case atStart=>exact ⟨0,by omega,rfl,Below.refl _ _⟩
   case round=>
     obtain ⟨j,hj,rfl,hbel⟩:=hrel
     have hws:=hbel.size
     have hB2:Below w.heap.size w wr:=HK2.out.2.2.trans (hbel.mono HK2.out.2.2.size)
     by_cases hlt:j<l.length
     · have hl1:TmR.Sl (· < w.heap.size) wr l (.slice A l.length c):=HL.out.1.keep (fun _ h=>h) (fun p hp=>hB2.cell hp)
       have hm1:TmR.Sl (· < w.heap.size) wr l (.slice A' l.length c'):=HL.out.2.keep (fun _ h=>h) (fun p hp=>hB2.cell hp)
       obtain ⟨a,rfl,ha,hat⟩:=hl1.get j hlt
       obtain ⟨a',rfl,ha',hat'⟩:=hm1.get j hlt
       obtain ⟨B1,d1,A1,c1,q0,q1,q2,q3,q4',hx⟩:=at_tm hat
       obtain ⟨B2,d2,A2,c2,r0,r1,r2,r3,r4',hy⟩:=at_tm hat'
       simp only [show TmR.n=5 from rfl] at q0 q1 q2 q3 q4' r0 r1 r2 r3 r4'
       have hnj:=bulkAll_get l j hlt
       have hab:(a.add (j * 5)).block<w.heap.size:=by rw [add_block]; exact ha
       have hab':(a'.add (j * 5)).block<w.heap.size:=by rw [add_block]; exact ha'
       have hwz:=hB2.size
       have k1:=HK2.out.1.below hbel HK2.out.1.lt
       have k2:=HK2.out.2.1.below hbel HK2.out.2.1.lt
       have HSK:=Lib.hid fun (w1:World) (h:Below wr.heap.size wr w1)=>And.intro (k1.below h k1.lt).facts5.2.2.2.2.1 (And.intro (k2.below h k2.lt).facts5.2.2.2.2.1
         (And.intro ((h.cell (p:=a.add (j * 5)) (by omega)).trans q0) (And.intro ((h.cell (p:=⟨(a.add (j * 5)).block,(a.add (j * 5)).off+1,none⟩) (by show (a.add (j * 5)).block<_; omega)).trans q1)
           (And.intro ((h.cell (p:=⟨(a.add (j * 5)).block,(a.add (j * 5)).off+2,none⟩) (by show (a.add (j * 5)).block<_; omega)).trans q2) (And.intro ((h.cell (p:=⟨(a.add (j * 5)).block,(a.add (j * 5)).off+3,none⟩) (by show (a.add (j * 5)).block<_; omega)).trans q3)
             (And.intro ((h.cell (p:=⟨(a.add (j * 5)).block,(a.add (j * 5)).off+4,none⟩) (by show (a.add (j * 5)).block<_; omega)).trans q4')
         (And.intro ((h.cell (p:=a'.add (j * 5)) (by omega)).trans r0) (And.intro ((h.cell (p:=⟨(a'.add (j * 5)).block,(a'.add (j * 5)).off+1,none⟩) (by show (a'.add (j * 5)).block<_; omega)).trans r1)
           (And.intro ((h.cell (p:=⟨(a'.add (j * 5)).block,(a'.add (j * 5)).off+2,none⟩) (by show (a'.add (j * 5)).block<_; omega)).trans r2) (And.intro ((h.cell (p:=⟨(a'.add (j * 5)).block,(a'.add (j * 5)).off+3,none⟩) (by show (a'.add (j * 5)).block<_; omega)).trans r3)
             ((h.cell (p:=⟨(a'.add (j * 5)).block,(a'.add (j * 5)).off+4,none⟩) (by show (a'.add (j * 5)).block<_; omega)).trans r4')))))))))))
       have ARM:=Lib.hid (show Calls Tryz.prog 30 #[.agg #[.int .i64 l[j].kind,.int .i64 l[j].index,.int .i64 l[j].type.kind,.slice B1 l[j].type.args.length d1,.slice A1 l[j].args.length c1],
           .agg #[.int .i64 l[j].kind,.int .i64 l[j].index,.int .i64 l[j].type.kind,.slice B2 l[j].type.args.length d2,.slice A2 l[j].args.length c2]] wr.drew fun e w'=>e=.returned (.bool true)∧Below wr.heap.size wr w' by
         refine (IH.out l[j] _ _ wr.drew (by omega) (by omega) (hx.keep (fun b h=>Nat.lt_of_lt_of_le h hwz) (fun p _=>World.cell?_drew _ p)) (hy.keep (fun b h=>Nat.lt_of_lt_of_le h hwz) (fun p _=>World.cell?_drew _ p))).mono ?_
         rintro e w1 ⟨h1,h2⟩
         exact ⟨h1,((Below.refl _ wr).drew).trans h2⟩)
       obtain ⟨m0,m1,_⟩:=HSK.out wr (Below.refl _ _)
       have HBL:=Lib.hid hbel
       clear hl1 hm1 hat hat' hx hy k1 k2 q0 q1 q2 q3 q4' r0 r1 r2 r3 r4' hbel hB2
       go_wp2_with fail
       go_region_held3 (fun w'=>w'.cell? ⟨w.heap.size,4,none⟩ = some (.slice (some a) l.length c)∧w'.cell? ⟨w.heap.size+1,4,none⟩ = some (.slice (some a') l.length c') ∧
           w'.cell? (a.add (j * 5))=some (.int .i64 l[j].kind)∧w'.cell? ⟨(a.add (j * 5)).block,(a.add (j * 5)).off+1,none⟩ = some (.int .i64 l[j].index)∧w'.cell? ⟨(a.add (j * 5)).block,(a.add (j * 5)).off+2,none⟩ = some (.int .i64 l[j].type.kind) ∧
           w'.cell? ⟨(a.add (j * 5)).block,(a.add (j * 5)).off+3,none⟩ = some (.slice B1 l[j].type.args.length d1)∧w'.cell? ⟨(a.add (j * 5)).block,(a.add (j * 5)).off+4,none⟩ = some (.slice A1 l[j].args.length c1) ∧
           w'.cell? (a'.add (j * 5))=some (.int .i64 l[j].kind)∧w'.cell? ⟨(a'.add (j * 5)).block,(a'.add (j * 5)).off+1,none⟩ = some (.int .i64 l[j].index)∧w'.cell? ⟨(a'.add (j * 5)).block,(a'.add (j * 5)).off+2,none⟩ = some (.int .i64 l[j].type.kind) ∧
           w'.cell? ⟨(a'.add (j * 5)).block,(a'.add (j * 5)).off+3,none⟩ = some (.slice B2 l[j].type.args.length d2)∧w'.cell? ⟨(a'.add (j * 5)).block,(a'.add (j * 5)).off+4,none⟩ = some (.slice A2 l[j].args.length c2))
         (first | with_reducible exact HSK.out _ (Below.refl _ _).drew | with_reducible exact HSK.out _ HB1.out | go_keep)
         (first
           | (go_at_call 30
              (with_reducible refine ARM.out.mono ?_)
              rintro e w1 ⟨rfl,hb1⟩
              have HB1:=Lib.hid hb1
              clear hb1))
       go_wp2_with fail
       exact ⟨⟨j+1,by omega,by go_num,HBL.out.trans (HB1.out.mono hws)⟩,by simp [intOf]; omega⟩
     · have hjl:j=l.length:=by omega
       subst hjl
       clear hbel
       go_wp2_with fail
       go_ret
       exact ⟨rfl,hB2⟩
end Go.Proofs.YtipfnkajdooiiaaGreatDoor
namespace Go.Proofs.YtipfnkajdooiiaaGreatDoor
open Go.RowKit

set_option maxRecDepth 100000 in
set_option maxHeartbeats 4000000 in
theorem sameAllT_refl (l:List Tm) (A A':Option Addr) (c c':Nat) (w:World) (hlen:l.length≤400000) (hn:∀ T ∈ l,T.bulk≤400000) (hu:TmR.Sl (· < w.heap.size) w l (.slice A l.length c)) (hv:TmR.Sl (· < w.heap.size) w l (.slice A' l.length c')) :
   Calls Tryz.prog 81 #[.slice A l.length c,.slice A' l.length c'] w fun e w'=>e=.returned (.bool true)∧Below w.heap.size w w':=by
 have HL:=Lib.hid (And.intro hu hv)
 clear hu hv
 go_enter Tryz.func81,Tryz.ntmps81
 go_wp2_with fail
 go_loopw [13] (fun ix wr=>∃ j:Nat,j≤l.length∧ix=.int .i64 j∧Below w.heap.size w wr) (fun ix _=>l.length - (intOf ix).toNat)
 case atStart=>exact ⟨0,by omega,rfl,Below.refl _ _⟩
 case round=>
   obtain ⟨j,hj,rfl,hbel⟩:=hrel
   by_cases hlt:j<l.length
   · have hl1:TmR.Sl (· < w.heap.size) wr l (.slice A l.length c):=HL.out.1.keep (fun _ h=>h) (fun p hp=>hbel.cell hp)
     have hm1:TmR.Sl (· < w.heap.size) wr l (.slice A' l.length c'):=HL.out.2.keep (fun _ h=>h) (fun p hp=>hbel.cell hp)
     obtain ⟨a,rfl,ha,hat⟩:=hl1.get j hlt
     obtain ⟨a',rfl,ha',hat'⟩:=hm1.get j hlt
     obtain ⟨B1,d1,A1,c1,q0,q1,q2,q3,q4,hx⟩:=at_tm hat
     obtain ⟨B2,d2,A2,c2,r0,r1,r2,r3,r4,hy⟩:=at_tm hat'
     simp only [show TmR.n=5 from rfl] at q0 q1 q2 q3 q4 r0 r1 r2 r3 r4
     have hnj:=hn _ (List.getElem_mem hlt)
     have hwz:=hbel.size
     have hab:(a.add (j * 5)).block<wr.heap.size:=by rw [add_block]; exact Nat.lt_of_lt_of_le ha hwz
     have hab':(a'.add (j * 5)).block<wr.heap.size:=by rw [add_block]; exact Nat.lt_of_lt_of_le ha' hwz
     have HSK:=Lib.hid fun (w1:World) (h:Below wr.heap.size wr w1)=>(And.intro ((h.cell (p:=a.add (j * 5)) (by omega)).trans q0) (And.intro ((h.cell (p:=⟨(a.add (j * 5)).block,(a.add (j * 5)).off+1,none⟩) (by show (a.add (j * 5)).block<_; omega)).trans q1) (And.intro ((h.cell (p:=⟨(a.add (j * 5)).block,(a.add (j * 5)).off+2,none⟩) (by show (a.add (j * 5)).block<_; omega)).trans q2) (And.intro ((h.cell (p:=⟨(a.add (j * 5)).block,(a.add (j * 5)).off+3,none⟩) (by show (a.add (j * 5)).block<_; omega)).trans q3) (And.intro ((h.cell (p:=⟨(a.add (j * 5)).block,(a.add (j * 5)).off+4,none⟩) (by show (a.add (j * 5)).block<_; omega)).trans q4) (And.intro ((h.cell (p:=a'.add (j * 5)) (by omega)).trans r0) (And.intro ((h.cell (p:=⟨(a'.add (j * 5)).block,(a'.add (j * 5)).off+1,none⟩) (by show (a'.add (j * 5)).block<_; omega)).trans r1) (And.intro ((h.cell (p:=⟨(a'.add (j * 5)).block,(a'.add (j * 5)).off+2,none⟩) (by show (a'.add (j * 5)).block<_; omega)).trans r2) (And.intro ((h.cell (p:=⟨(a'.add (j * 5)).block,(a'.add (j * 5)).off+3,none⟩) (by show (a'.add (j * 5)).block<_; omega)).trans r3) ((h.cell (p:=⟨(a'.add (j * 5)).block,(a'.add (j * 5)).off+4,none⟩) (by show (a'.add (j * 5)).block<_; omega)).trans r4))))))))))
     have ARM:=Lib.hid (show Calls Tryz.prog 30 #[.agg #[.int .i64 l[j].kind,.int .i64 l[j].index,.int .i64 l[j].type.kind,.slice B1 l[j].type.args.length d1,.slice A1 l[j].args.length c1],.agg #[.int .i64 l[j].kind,.int .i64 l[j].index,.int .i64 l[j].type.kind,.slice B2 l[j].type.args.length d2,.slice A2 l[j].args.length c2]] wr.drew fun e w'=>e=.returned (.bool true)∧Below wr.heap.size wr w' by
       refine (sameT_refl 400000 l[j] _ _ wr.drew hnj (Nat.le_refl _) (hx.keep (fun b h=>Nat.lt_of_lt_of_le h hwz) (fun p _=>World.cell?_drew _ p)) (hy.keep (fun b h=>Nat.lt_of_lt_of_le h hwz) (fun p _=>World.cell?_drew _ p))).mono ?_
       rintro e w1 ⟨h1,h2⟩
       exact ⟨h1,((Below.refl _ wr).drew).trans h2⟩)
     have HBL:=Lib.hid hbel
     clear hl1 hm1 hat hat' hx hy q0 q1 q2 q3 q4 r0 r1 r2 r3 r4 hbel
     go_upto_region 6 with fail
     go_region_held3 (fun w'=>w'.cell? (a.add (j * 5))=some (.int .i64 l[j].kind)∧w'.cell? ⟨(a.add (j * 5)).block,(a.add (j * 5)).off+1,none⟩ = some (.int .i64 l[j].index)∧w'.cell? ⟨(a.add (j * 5)).block,(a.add (j * 5)).off+2,none⟩ = some (.int .i64 l[j].type.kind)∧w'.cell? ⟨(a.add (j * 5)).block,(a.add (j * 5)).off+3,none⟩ = some (.slice B1 l[j].type.args.length d1)∧w'.cell? ⟨(a.add (j * 5)).block,(a.add (j * 5)).off+4,none⟩ = some (.slice A1 l[j].args.length c1)∧w'.cell? (a'.add (j * 5))=some (.int .i64 l[j].kind)∧w'.cell? ⟨(a'.add (j * 5)).block,(a'.add (j * 5)).off+1,none⟩ = some (.int .i64 l[j].index)∧w'.cell? ⟨(a'.add (j * 5)).block,(a'.add (j * 5)).off+2,none⟩ = some (.int .i64 l[j].type.kind)∧w'.cell? ⟨(a'.add (j * 5)).block,(a'.add (j * 5)).off+3,none⟩ = some (.slice B2 l[j].type.args.length d2)∧w'.cell? ⟨(a'.add (j * 5)).block,(a'.add (j * 5)).off+4,none⟩ = some (.slice A2 l[j].args.length c2))
       (first | with_reducible exact HSK.out _ (Below.refl _ _).drew | with_reducible exact HSK.out _ HB1.out | go_keep)
       (first
         | (go_at_call 30
            (with_reducible refine ARM.out.mono ?_)
            rintro e w1 ⟨rfl,hb1⟩
            have HB1:=Lib.hid hb1
            clear hb1))
     go_wp2_with fail
     exact ⟨⟨j+1,by omega,by go_num,HBL.out.trans (HB1.out.mono hwz)⟩,by simp [intOf]; omega⟩
   · have hjl:j=l.length:=by omega
     subst hjl
     have HBL:=Lib.hid hbel
     clear hbel
     go_wp2_with fail
     go_ret
     exact ⟨rfl,HBL.out⟩

theorem bulkAllF_mem {l:List Fm}:∀ i (h:i<l.length),l[i].bulk≤bulkAllF l:=by
 induction l with
 | nil=>intro i h; simp at h
 | cons t r ih=>
   intro i h
   cases i with
   | zero=>simp [bulkAllF]
   | succ i=>
     have:=ih i (by simpa using h)
     simp only [bulkAllF,List.getElem_cons_succ]
     omega
theorem fm_pos (t:Fm):1≤t.bulk:=by cases t; simp only [Fm.bulk]; omega
theorem bulkAllF_count:∀ l:List Fm,l.length≤bulkAllF l
 | []=>by simp [bulkAllF]
 | t :: r=>by
   have:=bulkAllF_count r
   have:=fm_pos t
   simp only [bulkAllF,List.length_cons]
   omega

set_option maxRecDepth 100000 in
set_option maxHeartbeats 8000000 in
theorem sameFr_refl (n:Nat):∀ (t:Fm) (u v:Value) (w:World),t.bulk≤n→n≤400000→IsFm (· < w.heap.size) w t u→IsFm (· < w.heap.size) w t v →
   Calls Tryz.prog 20 #[u,v] w fun e w'=>e=.returned (.bool true)∧Below w.heap.size w w':=by
 induction n with
 | zero=>intro t; have:=fm_pos t; omega
 | succ n ih=>
   rintro ⟨k,T,m,l⟩ u v w hn hb hu hv
   obtain ⟨B,d,C,e0,A,c,rfl,hT,hm,hl⟩:=hu.parts
   obtain ⟨B',d',C',e0',A',c',rfl,hT',hm',hl'⟩:=hv.parts
   simp only [Fm.kind,Fm.type,Fm.terms,Fm.args] at *
   have hll:=bulkAllF_count l
   have hml:=bulkAll_len m
   simp only [Fm.bulk] at hn
   have IH:=Lib.hid ih
   have HL:=Lib.hid (And.intro hl hl')
   obtain ⟨b1,z1,k1⟩:=new_blk (Below.refl w.heap.size w) (Nat.le_refl _) #[.int .i64 k,.int .i64 T.kind,.slice B T.args.length d,.slice C m.length e0,.slice A l.length c] 34
   obtain ⟨b2,z2,k2⟩:=new_blk b1 b1.size #[.int .i64 k,.int .i64 T.kind,.slice B' T.args.length d',.slice C' m.length e0',.slice A' l.length c'] 34
   have k1:=k1.alloc (Obj.cells #[.int .i64 k,.int .i64 T.kind,.slice B' T.args.length d',.slice C' m.length e0',.slice A' l.length c'] 34)
   rw [z1] at k2 z2
   obtain ⟨W,hW⟩:∃ W,W=(w.alloc (Obj.cells #[.int .i64 k,.int .i64 T.kind,.slice B T.args.length d,.slice C m.length e0,.slice A l.length c] 34)).alloc (Obj.cells #[.int .i64 k,.int .i64 T.kind,.slice B' T.args.length d',.slice C' m.length e0',.slice A' l.length c'] 34):=⟨_,rfl⟩
   rw [← hW] at b2 z2 k1 k2
   have HTY:=Lib.hid (And.intro (hT.boxed' b2) (hT'.boxed' b2))
   have HMM:=Lib.hid fun (w':World) (h:Below W.heap.size W w')=>And.intro (show TmR.Sl (· < w'.heap.size) w' m (.slice C m.length e0) from hm.keep (fun _ h'=>Nat.lt_of_lt_of_le h' (Nat.le_trans b2.size h.size)) (fun p hp=>(h.cell (Nat.lt_of_lt_of_le hp b2.size)).trans (b2.cell hp)))
     (show TmR.Sl (· < w'.heap.size) w' m (.slice C' m.length e0') from hm'.keep (fun _ h'=>Nat.lt_of_lt_of_le h' (Nat.le_trans b2.size h.size)) (fun p hp=>(h.cell (Nat.lt_of_lt_of_le hp b2.size)).trans (b2.cell hp)))
   have hTn:T.nodes≤400000:=by omega
   have hmb:∀ x ∈ m,x.bulk≤400000:=fun x hx=>by
     obtain ⟨i,hi,rfl⟩:=List.getElem_of_mem hx
     have:=bulkAll_get m i hi
     omega
   have hmn:m.length≤400000:=by omega
   have HKK:=Lib.hid (And.intro k1 (And.intro k2 b2))
   obtain ⟨p0,p1,p2,p3,p4,_⟩:=k1.facts5
   obtain ⟨s0,s1,s2,s3,s4,_⟩:=k2.facts5
   clear hu hv hT hT' hl hl' hm hm' ih b1 z1 k1 k2
   go_enter Tryz.func20,Tryz.ntmps20
   go_wp2_with fail
   rw [← hW]
   clear hW
   refine (refSame_any 400000 T T _ _ W hTn (Nat.le_refl _) HTY.out.1 HTY.out.2 hTn).mono ?_
   rintro e W0 ⟨rfl,hbW⟩
   rw [eqb_self]
   have HB0:=Lib.hid hbW
   obtain ⟨_,_,_,p3,p4,_⟩:=(HKK.out.1.below hbW HKK.out.1.lt).facts5
   obtain ⟨_,_,_,s3,s4,_⟩:=(HKK.out.2.1.below hbW HKK.out.2.1.lt).facts5
   clear hbW p0 p1 p2 s0 s1 s2
   go_wp2_with fail
   refine (sameAllT_refl m _ _ _ _ W0 hmn hmb (HMM.out W0 HB0.out).1 (HMM.out W0 HB0.out).2).mono ?_
   rintro e W1 ⟨rfl,hbW⟩
   have HK2:=Lib.hid (have hbb:=HB0.out.trans (hbW.mono HB0.out.size); And.intro (HKK.out.1.below hbb HKK.out.1.lt) (And.intro (HKK.out.2.1.below hbb HKK.out.2.1.lt) (HKK.out.2.2.trans (hbb.mono HKK.out.2.2.size))))
   obtain ⟨_,_,_,_,q4,_⟩:=HK2.out.1.facts5
   obtain ⟨_,_,_,_,r4,_⟩:=HK2.out.2.1.facts5
   clear hbW p3 p4 s3 s4
   go_wp2_with fail
   go_loopw [39] (fun ix wr=>∃ j:Nat,j≤l.length∧ix=.int .i64 j∧Below W1.heap.size W1 wr) (fun ix _=>l.length - (intOf ix).toNat)
   case atStart=>exact ⟨0,by omega,rfl,Below.refl _ _⟩
   case round=>
     obtain ⟨j,hj,rfl,hbel⟩:=hrel
     have hws:=hbel.size
     have hB2:Below w.heap.size w wr:=HK2.out.2.2.trans (hbel.mono HK2.out.2.2.size)
     by_cases hlt:j<l.length
     · have hl1:FmR.Sl (· < w.heap.size) wr l (.slice A l.length c):=HL.out.1.keep (fun _ h=>h) (fun p hp=>hB2.cell hp)
       have hm1:FmR.Sl (· < w.heap.size) wr l (.slice A' l.length c'):=HL.out.2.keep (fun _ h=>h) (fun p hp=>hB2.cell hp)
       obtain ⟨a,rfl,ha,hat⟩:=hl1.get j hlt
       obtain ⟨a',rfl,ha',hat'⟩:=hm1.get j hlt
       obtain ⟨B1,d1,C1,e1,A1,c1,q0,q1,q2,q3,q4',hx⟩:=at_fm hat
       obtain ⟨B2,d2,C2,e2,A2,c2,r0,r1,r2,r3,r4',hy⟩:=at_fm hat'
       simp only [show FmR.n=5 from rfl] at q0 q1 q2 q3 q4' r0 r1 r2 r3 r4'
       have hnj:=bulkAllF_mem j hlt
       have hwz:=hB2.size
       have hab:(a.add (j * 5)).block<wr.heap.size:=by rw [add_block]; exact Nat.lt_of_lt_of_le ha hwz
       have hab':(a'.add (j * 5)).block<wr.heap.size:=by rw [add_block]; exact Nat.lt_of_lt_of_le ha' hwz
       have k1:=HK2.out.1.below hbel HK2.out.1.lt
       have k2:=HK2.out.2.1.below hbel HK2.out.2.1.lt
       have HSK:=Lib.hid fun (w1:World) (h:Below wr.heap.size wr w1)=>(And.intro (k1.below h k1.lt).facts5.2.2.2.2.1 (And.intro (k2.below h k2.lt).facts5.2.2.2.2.1 (And.intro ((h.cell (p:=a.add (j * 5)) (by omega)).trans q0) (And.intro ((h.cell (p:=⟨(a.add (j * 5)).block,(a.add (j * 5)).off+1,none⟩) (by show (a.add (j * 5)).block<_; omega)).trans q1) (And.intro ((h.cell (p:=⟨(a.add (j * 5)).block,(a.add (j * 5)).off+2,none⟩) (by show (a.add (j * 5)).block<_; omega)).trans q2) (And.intro ((h.cell (p:=⟨(a.add (j * 5)).block,(a.add (j * 5)).off+3,none⟩) (by show (a.add (j * 5)).block<_; omega)).trans q3) (And.intro ((h.cell (p:=⟨(a.add (j * 5)).block,(a.add (j * 5)).off+4,none⟩) (by show (a.add (j * 5)).block<_; omega)).trans q4') (And.intro ((h.cell (p:=a'.add (j * 5)) (by omega)).trans r0) (And.intro ((h.cell (p:=⟨(a'.add (j * 5)).block,(a'.add (j * 5)).off+1,none⟩) (by show (a'.add (j * 5)).block<_; omega)).trans r1) (And.intro ((h.cell (p:=⟨(a'.add (j * 5)).block,(a'.add (j * 5)).off+2,none⟩) (by show (a'.add (j * 5)).block<_; omega)).trans r2) (And.intro ((h.cell (p:=⟨(a'.add (j * 5)).block,(a'.add (j * 5)).off+3,none⟩) (by show (a'.add (j * 5)).block<_; omega)).trans r3) ((h.cell (p:=⟨(a'.add (j * 5)).block,(a'.add (j * 5)).off+4,none⟩) (by show (a'.add (j * 5)).block<_; omega)).trans r4'))))))))))))
       have ARM:=Lib.hid (show Calls Tryz.prog 20 #[.agg #[.int .i64 l[j].kind,.int .i64 l[j].type.kind,.slice B1 l[j].type.args.length d1,.slice C1 l[j].terms.length e1,.slice A1 l[j].args.length c1],.agg #[.int .i64 l[j].kind,.int .i64 l[j].type.kind,.slice B2 l[j].type.args.length d2,.slice C2 l[j].terms.length e2,.slice A2 l[j].args.length c2]] wr.drew fun e w'=>e=.returned (.bool true)∧Below wr.heap.size wr w' by
         refine (IH.out l[j] _ _ wr.drew (by omega) (by omega) (hx.keep (fun b h=>Nat.lt_of_lt_of_le h hwz) (fun p _=>World.cell?_drew _ p)) (hy.keep (fun b h=>Nat.lt_of_lt_of_le h hwz) (fun p _=>World.cell?_drew _ p))).mono ?_
         rintro e w1 ⟨h1,h2⟩
         exact ⟨h1,((Below.refl _ wr).drew).trans h2⟩)
       obtain ⟨m0,m1,_⟩:=HSK.out wr (Below.refl _ _)
       have HBL:=Lib.hid hbel
       clear hl1 hm1 hat hat' hx hy k1 k2 q0 q1 q2 q3 q4' r0 r1 r2 r3 r4' hbel hB2
       go_wp2_with fail
       go_region_held3 (fun w'=>w'.cell? ⟨w.heap.size,4,none⟩ = some (.slice (some a) l.length c)∧w'.cell? ⟨w.heap.size+1,4,none⟩ = some (.slice (some a') l.length c')∧w'.cell? (a.add (j * 5))=some (.int .i64 l[j].kind)∧w'.cell? ⟨(a.add (j * 5)).block,(a.add (j * 5)).off+1,none⟩ = some (.int .i64 l[j].type.kind)∧w'.cell? ⟨(a.add (j * 5)).block,(a.add (j * 5)).off+2,none⟩ = some (.slice B1 l[j].type.args.length d1)∧w'.cell? ⟨(a.add (j * 5)).block,(a.add (j * 5)).off+3,none⟩ = some (.slice C1 l[j].terms.length e1)∧w'.cell? ⟨(a.add (j * 5)).block,(a.add (j * 5)).off+4,none⟩ = some (.slice A1 l[j].args.length c1)∧w'.cell? (a'.add (j * 5))=some (.int .i64 l[j].kind)∧w'.cell? ⟨(a'.add (j * 5)).block,(a'.add (j * 5)).off+1,none⟩ = some (.int .i64 l[j].type.kind)∧w'.cell? ⟨(a'.add (j * 5)).block,(a'.add (j * 5)).off+2,none⟩ = some (.slice B2 l[j].type.args.length d2)∧w'.cell? ⟨(a'.add (j * 5)).block,(a'.add (j * 5)).off+3,none⟩ = some (.slice C2 l[j].terms.length e2)∧w'.cell? ⟨(a'.add (j * 5)).block,(a'.add (j * 5)).off+4,none⟩ = some (.slice A2 l[j].args.length c2))
         (first | with_reducible exact HSK.out _ (Below.refl _ _).drew | with_reducible exact HSK.out _ HB1.out | go_keep)
         (first
           | (go_at_call 20
              (with_reducible refine ARM.out.mono ?_)
              rintro e w1 ⟨rfl,hb1⟩
              have HB1:=Lib.hid hb1
              clear hb1))
       go_wp2_with fail
       exact ⟨⟨j+1,by omega,by go_num,HBL.out.trans (HB1.out.mono hws)⟩,by simp [intOf]; omega⟩
     · have hjl:j=l.length:=by omega
       subst hjl
       clear hbel
       go_wp2_with fail
       go_ret
       exact ⟨rfl,hB2⟩
end Go.Proofs.YtipfnkajdooiiaaGreatDoor
namespace Go.Proofs.YtipfnkajdooiiaaGreatDoor
open Go.RowKit

set_option maxRecDepth 100000 in
set_option maxHeartbeats 4000000 in
theorem refFalse_any (w:World):Calls Tryz.prog 54 #[] w (FreshF w falseFm):=by
 obtain ⟨W,hW,bW,zW,kW⟩:=boxF w #[.int .i64 0,.int .i64 0,.slice none 0 0,.slice none 0 0,.slice none 0 0]
 have HK:=Lib.hid (And.intro kW bW)
 have hz:=zW
 clear kW bW zW
 go_enter Tryz.func54,Tryz.ntmps54
 go_upto_region 1 with fail
 rw [← hW]
 clear hW
 go_wp2_with fail
 refine (n_any 4 [] _ W (by decide) (Rep.Sl.nil _ _)).mono ?_
 rintro e w1 ⟨v1,rfl,h1,hb1⟩
 have H1:=Lib.hid (And.intro h1 hb1)
 clear h1 hb1
 go_wp2_with fail
 refine (n_any 4 [] _ w1 (by decide) (Rep.Sl.nil _ _)).mono ?_
 rintro e w2 ⟨v2,rfl,h2,hb2⟩
 obtain ⟨Z,hZ⟩:∃ Z:Tm,Z=.mk 4 0 .zero []:=⟨_,rfl⟩
 rw [← hZ] at h2
 have HZ:=Lib.hid hZ
 obtain ⟨B2,d2,A2,c2,rfl,_⟩:=h2.form
 have H2:=Lib.hid (And.intro h2 hb2)
 clear h2 hb2 hZ
 go_wp2_with fail
 obtain ⟨X,hX,bX,zX,kX⟩:∃ X,X=w2.alloc (Obj.cells #[.int .i64 Z.kind,.int .i64 Z.index,.int .i64 Z.type.kind,.slice B2 Z.type.args.length d2,.slice A2 Z.args.length c2] 42)∧Below w2.heap.size w2 X∧X.heap.size=w2.heap.size+1∧Blk X w2.heap.size 42 #[.int .i64 Z.kind,.int .i64 Z.index,.int .i64 Z.type.kind,.slice B2 Z.type.args.length d2,.slice A2 Z.args.length c2]:=⟨_,rfl,(Below.refl _ _).alloc (Nat.le_refl _) _,by simp,Blk.new _ _ _⟩
 rw [← hX]
 have TS:=Lib.hid (show TmR.Sl (· < X.heap.size) X [Z] (.slice (some ⟨w2.heap.size,0,none⟩) 1 1) from Rep.Sl.of_blk (R:=TmR) kX (tm_one (IsTm.keep (S':=(· < X.heap.size)) (fun b h=>Nat.lt_of_lt_of_le h.2 bX.size) (fun q hq=>bX.cell hq.2) _ H2.out.1)) (fun _ h=>h) (by omega) rfl)
 have HX:=Lib.hid bX
 clear hX bX zX kX
 refine (n_any 5 [Z] _ X (by rw [HZ.out]; decide) TS.out).mono ?_
 rintro e w3 ⟨v3,rfl,h3,hb3⟩
 have H3:=Lib.hid (And.intro h3 hb3)
 have b13:Below w1.heap.size w1 w3:=(H2.out.2.trans (HX.out.mono H2.out.2.size)).trans (hb3.mono (by have:=H2.out.2.size; have:=HX.out.size; omega))
 have HB3:=Lib.hid (show Below W.heap.size W w3 from H1.out.2.trans (b13.mono H1.out.2.size))
 have T1:=Lib.hid (show IsTm (· < w3.heap.size) w3 zeroTm v1 from IsTm.keep (S':=(· < w3.heap.size)) (fun b h=>Nat.lt_of_lt_of_le h.2 b13.size) (fun q hq=>b13.cell hq.2) _ H1.out.1)
 clear h3 hb3 b13
 go_wp2_with fail
 refine (eqF_any zeroTm (.mk 5 0 .zero [Z]) _ _ w3 (by decide) (by rw [HZ.out]; decide) T1.out (IsTm.keep (fun b h=>h.2) (fun _ _=>rfl) _ H3.out.1)).mono ?_
 rintro e w4 ⟨v4,rfl,h4,hb4⟩
 obtain ⟨F,hF⟩:∃ F:Fm,F=.mk 1 .zero [zeroTm,.mk 5 0 .zero [Z]] []:=⟨_,rfl⟩
 rw [← hF] at h4
 obtain ⟨B4,d4,C4,e4,A4,c4,rfl,_⟩:=h4.form
 have hb04:Below W.heap.size W w4:=HB3.out.trans (hb4.mono HB3.out.size)
 have k4:=HK.out.1.below hb04 HK.out.1.lt
 obtain ⟨_,_,_,_,_,f0,f1,f2,f3,f4⟩:=k4.facts5
 have HE:=Lib.hid (And.intro k4 (And.intro h4 (And.intro hb04 (show F=falseFm by rw [hF,HZ.out]; rfl))))
 have HW3:=Lib.hid (show w.heap.size<w3.heap.size by have:=HB3.out.size; omega)
 clear k4 h4 hb04 hb4 hF
 go_wp2_with fail
 obtain ⟨y0,y1,y2,y3,y4⟩:=(HE.out.1.set5 (.int .i64 F.kind) (.int .i64 F.type.kind) (.slice B4 F.type.args.length d4) (.slice C4 F.terms.length e4) (.slice A4 F.args.length c4)).cells5
 have hg:=only_set5 w4 w.heap.size (.int .i64 F.kind) (.int .i64 F.type.kind) (.slice B4 F.type.args.length d4) (.slice C4 F.terms.length e4) (.slice A4 F.args.length c4)
 have hb2:=HK.out.2.trans (HE.out.2.2.1.mono HK.out.2.size)
 refine bodyPost_ret (v:=.agg #[.int .i64 F.kind,.int .i64 F.type.kind,.slice B4 F.type.args.length d4,.slice C4 F.terms.length e4,.slice A4 F.args.length c4]) (by simp [results,Tryz.results54,go_sem,y0,y1,y2,y3,y4]) rfl ⟨_,rfl,?_,hb2.grown hg hb2.size (fun k e=>by cases e; omega)⟩
 rw [← HE.out.2.2.2]
 exact IsFm.keep (S:=fun b=>w3.heap.size≤b∧b<w4.heap.size) (w:=w4) (fun b h=>⟨by have:=HW3.out; omega,Nat.lt_of_lt_of_le h.2 hg.size⟩) (fun q hq=>World.cell?_of_block (hg.block q.block hq.2 (by have:=HW3.out; have:=hq.1; simp; omega))) _ HE.out.2.1
theorem uses_ex {L:List Int} (h:UsesOf (Fm.mk 4 tyNat [] [.mk 1 .zero [.mk 1 0 .zero [],.mk 1 1 .zero []] []]).asTm L):L=[0]:=by
 refine rising_one h.1 (by simp) fun x=>?_
 rw [h.2 x]
 have hv:(Fm.mk 4 tyNat [] [.mk 1 .zero [.mk 1 0 .zero [],.mk 1 1 .zero []] []]).asTm.vars 0=[(0,1),(1,1)]:=by
   simp [Fm.asTm,asTmAll,Tm.vars,varsAll]
 rw [hv]
 simp
def ex7:Fm:=.mk 4 tyNat [] [.mk 1 .zero [.mk 1 0 .zero [],.mk 1 1 .zero []] []]
set_option maxRecDepth 100000 in
set_option maxHeartbeats 8000000 in
theorem sane7_any (w:World) (htab:Tab w):Calls Tryz.prog 8 #[] w fun e w'=>e=.returned (.bool true)∧Below w.heap.size w w':=by
 have HTab:=Lib.hid htab
 clear htab
 go_enter Tryz.func8,Tryz.ntmps8
 go_wp2_with fail
 refine (var_any 0 w).mono ?_
 rintro e w1 ⟨rfl,hb1⟩
 go_wp2_with fail
 refine (var_any 1 w1).mono ?_
 rintro e w2 ⟨rfl,hb2⟩
 have hb02:=hb1.trans (hb2.mono hb1.size)
 clear hb1 hb2
 go_upto_region 2 with fail
 obtain ⟨W,hW,b3,z3,k0,k1,k2⟩:=three_blks w2 #[.int .i64 1,.int .i64 0,.int .i64 0,.slice none 0 0,.slice none 0 0,.int .i64 1,.int .i64 1,.int .i64 0,.slice none 0 0,.slice none 0 0] #[.int .i64 1,.int .i64 0,.slice none 0 0,.slice (some ⟨w2.heap.size,0,none⟩) 2 2,.slice none 0 0] #[.int .i64 4,.int .i64 1,.slice none 0 0,.slice none 0 0,.slice (some ⟨w2.heap.size+1,0,none⟩) 1 1] 42 34 34
 rw [← hW]
 have hv:∀ (S:Nat→Prop) (w:World) (i:Int),IsTm S w (.mk 1 i .zero []) (.agg #[.int .i64 1,.int .i64 i,.int .i64 0,.slice none 0 0,.slice none 0 0]):=fun S w i=>isTm_iff.2 ⟨rfl,rfl,IsTy.leaf _ _ _,Rep.Sl.nil _ _⟩
 have TT:TmR.Sl (· < W.heap.size) W [.mk 1 0 .zero [],.mk 1 1 .zero []] (.slice (some ⟨w2.heap.size,0,none⟩) 2 2):=Rep.Sl.of_blk (R:=TmR) (S:=(· < W.heap.size)) k0 (tm_ch2 (hv _ _ 0) (hv _ _ 1)) (fun _ h=>h) (by omega) rfl
 have TE:IsFm (· < W.heap.size) W (.mk 1 .zero [.mk 1 0 .zero [],.mk 1 1 .zero []] []) (.agg #[.int .i64 1,.int .i64 0,.slice none 0 0,.slice (some ⟨w2.heap.size,0,none⟩) 2 2,.slice none 0 0]):=isFm_iff.2 ⟨rfl,IsTy.leaf _ _ _,TT,Rep.Sl.nil _ _⟩
 have HF:=Lib.hid (show IsFm (· < W.heap.size) W ex7 (.agg #[.int .i64 4,.int .i64 1,.slice none 0 0,.slice none 0 0,.slice (some ⟨w2.heap.size+1,0,none⟩) 1 1]) from isFm_iff.2 ⟨rfl,IsTy.leaf _ _ _,Rep.Sl.nil _ _,Rep.Sl.of_blk (R:=FmR) (S:=(· < W.heap.size)) k1 (Rep.Ch.one (R:=FmR) (vs:=[_,_,_,_,_]) TE) (fun _ h=>h) (by omega) rfl⟩)
 have HB:=Lib.hid (hb02.trans (b3.mono hb02.size))
 have HE:Hid (ex7.size≤4096∧ex7.bulk≤300000∧FineF ex7∧ex7.asTm.low 1000000=true):=Lib.hid ⟨by decide,by decide,.quant 4 tyNat _ (by decide) (by decide) (.eq _ _ (by decide) (by decide)),by simp [ex7,Fm.asTm,asTmAll,Tm.low,lowAll]⟩
 obtain ⟨p0,p1,p2,p3,p4,_⟩:=k2.facts5
 clear hW b3 z3 k0 k1 k2 TT TE hb02 hv
 go_wp2_with fail
 refine (fUses_any ex7 _ W HE.out.2.2.1 HE.out.1 HE.out.2.1 HE.out.2.2.2 (HTab.out.after HB.out) HF.out).mono ?_
 rintro e w3 ⟨b,s,L,rfl,hu,hrow,hb3⟩
 obtain rfl:=uses_ex hu
 have hc:=fun g hg=>hrow.cells (g:=g) hg
 obtain ⟨g,cap,rfl⟩:∃ g cap,s=.slice (some ⟨g,0,none⟩) 1 cap:=by
   rcases hrow.2 with ⟨_,h0⟩ | ⟨g,cap,cur,hs,_⟩
   · cases h0
   · exact ⟨g,cap,hs⟩
 have hc0:w3.cell? ⟨g,0,none⟩ = some (.int .i64 0):=by simpa [Addr.add] using hc g rfl 0 _ rfl
 have HB3:=Lib.hid (HB.out.trans (hb3.mono HB.out.size))
 clear hu hrow hc hb3 p0 p1 p2 p3 p4
 go_wp2_with fail
 refine (fFalse_any w3).mono ?_
 rintro e w4 ⟨v4,rfl,h4,hb4⟩
 have H4:=Lib.hid (And.intro h4 hb4)
 clear h4 hb4
 go_wp2_with fail
 refine (refFalse_any w4).mono ?_
 rintro e w5 ⟨v5,rfl,h5,hb5⟩
 have T4:=Lib.hid (show IsFm (· < w5.heap.size) w5 falseFm v4 from IsFm.keep (S':=(· < w5.heap.size)) (fun b h=>Nat.lt_of_lt_of_le h.2 hb5.size) (fun q hq=>hb5.cell hq.2) _ H4.out.1)
 have T5:=Lib.hid (show IsFm (· < w5.heap.size) w5 falseFm v5 from IsFm.keep (fun b h=>h.2) (fun _ _=>rfl) _ h5)
 have HB5:=Lib.hid (HB3.out.trans ((H4.out.2.trans (hb5.mono H4.out.2.size)).mono HB3.out.size))
 clear h5 hb5
 go_wp2_with fail
 refine (sameFr_refl 1000 falseFm _ _ w5 (by decide) (by decide) T4.out T5.out).mono ?_
 rintro e w6 ⟨rfl,hb6⟩
 have HB6:=Lib.hid (HB5.out.trans (hb6.mono HB5.out.size))
 clear hb6
 go_wp2_with fail
 go_ret
 exact ⟨rfl,HB6.out⟩
end Go.Proofs.YtipfnkajdooiiaaGreatDoor
