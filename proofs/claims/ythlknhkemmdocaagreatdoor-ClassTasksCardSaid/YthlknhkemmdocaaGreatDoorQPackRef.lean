/- The second form of Check on types. -/
import Derived.Test.YthlknhkemmdocaaGreatDoorQRefSame
import Derived.Test.YthlknhkemmdocaaGreatDoorQPackSizeT
import Derived.Test.YthlknhkemmdocaaGreatDoorQMakeT
import Derived.Test.YthlknhkemmdocaaGreatDoorQPackTyp
import Derived.Deep.RegionHeld3
import Derived.Deep.QuietTactic
import Derived.BigQuiet
namespace Go.Proofs.YthlknhkemmdocaaGreatDoor
open Go.RowKit

theorem ok_mk (k:Int) (l:List Ty):(Ty.mk k l).ok=((Ty.mk k l).formed && okAll l):=by rw [Ty.ok,formed_eq]
theorem okAll_at {l:List Ty} (h:okAll l=true) (i:Nat) (hi:i<l.length):l[i].ok=true:=by
  induction l generalizing i with
  | nil=>simp at hi
  | cons t r ih=>
    simp only [okAll,Bool.and_eq_true] at h
    cases i with
    | zero=>exact h.1
    | succ i=>exact ih h.2 i (by simpa using hi)
theorem okAll_of {l:List Ty} (h:∀ i (hi:i<l.length),l[i].ok=true):okAll l=true:=by
  induction l with
  | nil=>rfl
  | cons t r ih=>
    simp only [okAll,Bool.and_eq_true]
    exact ⟨h 0 (by simp),ih fun i hi=>h (i+1) (by simpa using hi)⟩

set_option maxRecDepth 100000 in
set_option maxHeartbeats 4000000 in
theorem refSize_any (n:Nat):∀ (T:Ty) (v:Value) (w:World),T.nodes≤n→n≤400000→IsTy (· < w.heap.size) w T v →
    Calls Tryz.prog 146 #[v] w fun e w'=>e=.returned (.int .i64 (T.nodes:Int))∧Below w.heap.size w w':=by
  induction n with
  | zero=>intro T; have:=nodes_pos T; omega
  | succ n ih=>
    intro T v w hn hb hT
    obtain ⟨A,c,rfl⟩:=hT.form
    obtain ⟨k,l⟩:=T
    simp only [kind_mk_,args_mk_] at *
    obtain ⟨_,hl⟩:=hT.sl
    simp only [args_mk_] at hl
    simp only [Ty.nodes] at hn ⊢
    have hll:=nodesAll_len l
    have IH:=Lib.hid ih
    have HL:=Lib.hid hl
    have hbW:=below_box w (Obj.cells #[.int .i64 k,.slice A l.length c] 30)
    clear hT hl ih
    go_enter Tryz.func146,Tryz.ntmps146
    go_wp2_with fail
    generalize w.alloc (Obj.cells #[.int .i64 k,.slice A l.length c] 30)=W at hbW ⊢
    go_loopw [3,9] (fun cnt ix wr=>∃ j:Nat,j≤l.length∧ix=.int .i64 j∧cnt=.int .i64 ((1+nodesAll (l.take j):Nat):Int)∧Below w.heap.size w wr) (fun _ ix _=>l.length - (intOf ix).toNat)
    case atStart=>exact ⟨0,by omega,rfl,by simp [nodesAll],hbW⟩
    case round=>
      obtain ⟨j,hj,rfl,rfl,hbel⟩:=hrel
      by_cases hlt:j<l.length
      · have hl1:TyR.Sl (· < w.heap.size) wr l (.slice A l.length c):=HL.out.keep (fun _ h=>h) (fun p hp=>hbel.cell hp)
        obtain ⟨a,rfl,ha,hat⟩:=hl1.get j hlt
        obtain ⟨A1,c1,q0,q1,hx⟩:=at_ty hat
        simp only [show TyR.n=2 from rfl] at q0 q1
        have hnj:=nodesAll_get l j hlt
        have htk:=nodesAll_take l j hlt
        have htl:=nodesAll_take_le l (j+1)
        have hx1:=(IsTy.keep (S':=(· < wr.heap.size)) (fun b h=>Nat.lt_of_lt_of_le h hbel.size) (fun _ _=>rfl) _ hx).boxed (below_box wr (Obj.cells #[.int .i64 l[j].kind,.slice A1 l[j].args.length c1] 30))
        have HX:=Lib.hid (And.intro hx1 htk)
        clear hl1 hat hx hx1 htk
        go_wp2_with fail
        refine (IH.out l[j] _ _ (by omega) (by omega) HX.out.1).mono ?_
        rintro e w1 ⟨rfl,hb1⟩
        have hsum:1+nodesAll (l.take j)+l[j].nodes≤400001:=by have:=HX.out.2; omega
        go_wp2_with fail
        refine ⟨⟨j+1,by omega,by go_num,by rw [HX.out.2]; go_num,hbel.trans (((below_box wr _).trans (hb1.mono (by simp))).mono hbel.size)⟩,by simp [intOf]; omega⟩
      · have hjl:j=l.length:=by omega
        subst hjl
        rw [List.take_length]
        go_wp2_with fail
        go_ret
        exact ⟨rfl,hbel⟩

set_option maxRecDepth 100000 in
set_option maxHeartbeats 8000000 in
theorem refShape_any (n:Nat):∀ (T:Ty) (v:Value) (w:World),T.nodes≤n→n≤400000→IsTy (· < w.heap.size) w T v →
    Calls Tryz.prog 145 #[v] w fun e w'=>e=.returned (.bool T.ok)∧Below w.heap.size w w':=by
  induction n with
  | zero=>intro T; have:=nodes_pos T; omega
  | succ n ih=>
    intro T v w hn hb hT
    obtain ⟨A,c,rfl⟩:=hT.form
    obtain ⟨k,l⟩:=T
    simp only [kind_mk_,args_mk_] at *
    obtain ⟨_,hl⟩:=hT.sl
    simp only [args_mk_] at hl
    simp only [Ty.nodes] at hn
    have hll:=nodesAll_len l
    have IH:=Lib.hid ih
    have HL:=Lib.hid hl
    have hbW:=below_box w (Obj.cells #[.int .i64 k,.slice A l.length c] 30)
    clear hT hl ih
    by_cases hks:k=1∨k=2∨k=5∨k=3∨k=4
    · rcases hks with hk | hk | hk | hk | hk
      · subst hk
        by_cases hlen:l.length=0
        · have e1:((l.length:Int) != (0:Int))=false:=by simp [hlen]
          have hfo:(Ty.mk 1 l).formed=true:=by simp [Ty.formed,kind_mk_,args_mk_,hlen]
          have HFO:=Lib.hid hfo
          clear hfo hlen
          go_enter Tryz.func145,Tryz.ntmps145
          go_wp2_with fail
          generalize w.alloc (Obj.cells #[.int .i64 1,.slice A l.length c] 30)=W at hbW ⊢
          go_loopw [23] (fun ix wr=>∃ j:Nat,j≤l.length∧ix=.int .i64 j∧(∀ i (hi:i<l.length),i<j→l[i].ok=true)∧Below w.heap.size w wr) (fun ix _=>l.length - (intOf ix).toNat)
          case atStart=>exact ⟨0,by omega,rfl,fun i _ h=>by omega,hbW⟩
          case round=>
            obtain ⟨j,hj,rfl,hso,hbel⟩:=hrel
            have HSO:=Lib.hid hso
            clear hso
            by_cases hlt:j<l.length
            · have hl1:TyR.Sl (· < w.heap.size) wr l (.slice A l.length c):=HL.out.keep (fun _ h=>h) (fun p hp=>hbel.cell hp)
              obtain ⟨a,rfl,ha,hat⟩:=hl1.get j hlt
              obtain ⟨A1,c1,q0,q1,hx⟩:=at_ty hat
              simp only [show TyR.n=2 from rfl] at q0 q1
              have hnj:=nodesAll_get l j hlt
              have hx1:=(IsTy.keep (S':=(· < wr.heap.size)) (fun b h=>Nat.lt_of_lt_of_le h hbel.size) (fun _ _=>rfl) _ hx).boxed (below_box wr (Obj.cells #[.int .i64 l[j].kind,.slice A1 l[j].args.length c1] 30))
              have HX:=Lib.hid hx1
              clear hl1 hat hx hx1
              by_cases hok:l[j].ok=true
              · have HOK:=Lib.hid hok
                clear hok
                go_wp2_with fail
                refine (IH.out l[j] _ _ (by omega) (by omega) HX.out).mono ?_
                rintro e w1 ⟨rfl,hb1⟩
                rw [HOK.out]
                go_wp2_with fail
                refine ⟨⟨j+1,by omega,by go_num,?_,hbel.trans (((below_box wr _).trans (hb1.mono (by simp))).mono hbel.size)⟩,by simp [intOf]; omega⟩
                intro i hi hij
                by_cases e:i=j
                · subst e; exact HOK.out
                · exact HSO.out i hi (by omega)
              · have hok':l[j].ok=false:=by simpa using hok
                have HOK:=Lib.hid hok'
                have hf:okAll l=false:=by
                  cases h:okAll l with
                  | false=>rfl
                  | true=>exact absurd (okAll_at h j hlt) hok
                have HF:=Lib.hid hf
                clear hok hok' hf
                go_wp2_with fail
                refine (IH.out l[j] _ _ (by omega) (by omega) HX.out).mono ?_
                rintro e w1 ⟨rfl,hb1⟩
                rw [HOK.out]
                go_wp2_with fail
                go_ret
                exact ⟨by rw [ok_mk,HF.out,Bool.and_false]; rfl,hbel.trans (((below_box wr _).trans (hb1.mono (by simp))).mono hbel.size)⟩
            · have hjl:j=l.length:=by omega
              subst hjl
              go_wp2_with fail
              go_ret
              exact ⟨by rw [ok_mk,okAll_of (fun i hi=>HSO.out i hi hi),HFO.out]; rfl,hbel⟩
        · have e1:((l.length:Int) != (0:Int))=true:=by rw [bne_iff_ne]; omega
          have hfo:(Ty.mk 1 l).ok=false:=by
            rw [ok_mk]
            simp [Ty.formed,kind_mk_,args_mk_,hlen]
          have HFO:=Lib.hid hfo
          clear hfo hlen
          go_enter Tryz.func145,Tryz.ntmps145
          go_wp2_with fail
          go_ret
          exact ⟨by rw [HFO.out]; rfl,hbW⟩

      · subst hk
        by_cases hlen:l.length=0
        · have e1:((l.length:Int) != (0:Int))=false:=by simp [hlen]
          have hfo:(Ty.mk 2 l).formed=true:=by simp [Ty.formed,kind_mk_,args_mk_,hlen]
          have HFO:=Lib.hid hfo
          clear hfo hlen
          go_enter Tryz.func145,Tryz.ntmps145
          go_wp2_with fail
          generalize w.alloc (Obj.cells #[.int .i64 2,.slice A l.length c] 30)=W at hbW ⊢
          go_loopw [23] (fun ix wr=>∃ j:Nat,j≤l.length∧ix=.int .i64 j∧(∀ i (hi:i<l.length),i<j→l[i].ok=true)∧Below w.heap.size w wr) (fun ix _=>l.length - (intOf ix).toNat)
          case atStart=>exact ⟨0,by omega,rfl,fun i _ h=>by omega,hbW⟩
          case round=>
            obtain ⟨j,hj,rfl,hso,hbel⟩:=hrel
            have HSO:=Lib.hid hso
            clear hso
            by_cases hlt:j<l.length
            · have hl1:TyR.Sl (· < w.heap.size) wr l (.slice A l.length c):=HL.out.keep (fun _ h=>h) (fun p hp=>hbel.cell hp)
              obtain ⟨a,rfl,ha,hat⟩:=hl1.get j hlt
              obtain ⟨A1,c1,q0,q1,hx⟩:=at_ty hat
              simp only [show TyR.n=2 from rfl] at q0 q1
              have hnj:=nodesAll_get l j hlt
              have hx1:=(IsTy.keep (S':=(· < wr.heap.size)) (fun b h=>Nat.lt_of_lt_of_le h hbel.size) (fun _ _=>rfl) _ hx).boxed (below_box wr (Obj.cells #[.int .i64 l[j].kind,.slice A1 l[j].args.length c1] 30))
              have HX:=Lib.hid hx1
              clear hl1 hat hx hx1
              by_cases hok:l[j].ok=true
              · have HOK:=Lib.hid hok
                clear hok
                go_wp2_with fail
                refine (IH.out l[j] _ _ (by omega) (by omega) HX.out).mono ?_
                rintro e w1 ⟨rfl,hb1⟩
                rw [HOK.out]
                go_wp2_with fail
                refine ⟨⟨j+1,by omega,by go_num,?_,hbel.trans (((below_box wr _).trans (hb1.mono (by simp))).mono hbel.size)⟩,by simp [intOf]; omega⟩
                intro i hi hij
                by_cases e:i=j
                · subst e; exact HOK.out
                · exact HSO.out i hi (by omega)
              · have hok':l[j].ok=false:=by simpa using hok
                have HOK:=Lib.hid hok'
                have hf:okAll l=false:=by
                  cases h:okAll l with
                  | false=>rfl
                  | true=>exact absurd (okAll_at h j hlt) hok
                have HF:=Lib.hid hf
                clear hok hok' hf
                go_wp2_with fail
                refine (IH.out l[j] _ _ (by omega) (by omega) HX.out).mono ?_
                rintro e w1 ⟨rfl,hb1⟩
                rw [HOK.out]
                go_wp2_with fail
                go_ret
                exact ⟨by rw [ok_mk,HF.out,Bool.and_false]; rfl,hbel.trans (((below_box wr _).trans (hb1.mono (by simp))).mono hbel.size)⟩
            · have hjl:j=l.length:=by omega
              subst hjl
              go_wp2_with fail
              go_ret
              exact ⟨by rw [ok_mk,okAll_of (fun i hi=>HSO.out i hi hi),HFO.out]; rfl,hbel⟩
        · have e1:((l.length:Int) != (0:Int))=true:=by rw [bne_iff_ne]; omega
          have hfo:(Ty.mk 2 l).ok=false:=by
            rw [ok_mk]
            simp [Ty.formed,kind_mk_,args_mk_,hlen]
          have HFO:=Lib.hid hfo
          clear hfo hlen
          go_enter Tryz.func145,Tryz.ntmps145
          go_wp2_with fail
          go_ret
          exact ⟨by rw [HFO.out]; rfl,hbW⟩

      · subst hk
        by_cases hlen:l.length=0
        · have e1:((l.length:Int) != (0:Int))=false:=by simp [hlen]
          have hfo:(Ty.mk 5 l).formed=true:=by simp [Ty.formed,kind_mk_,args_mk_,hlen]
          have HFO:=Lib.hid hfo
          clear hfo hlen
          go_enter Tryz.func145,Tryz.ntmps145
          go_wp2_with fail
          generalize w.alloc (Obj.cells #[.int .i64 5,.slice A l.length c] 30)=W at hbW ⊢
          go_loopw [23] (fun ix wr=>∃ j:Nat,j≤l.length∧ix=.int .i64 j∧(∀ i (hi:i<l.length),i<j→l[i].ok=true)∧Below w.heap.size w wr) (fun ix _=>l.length - (intOf ix).toNat)
          case atStart=>exact ⟨0,by omega,rfl,fun i _ h=>by omega,hbW⟩
          case round=>
            obtain ⟨j,hj,rfl,hso,hbel⟩:=hrel
            have HSO:=Lib.hid hso
            clear hso
            by_cases hlt:j<l.length
            · have hl1:TyR.Sl (· < w.heap.size) wr l (.slice A l.length c):=HL.out.keep (fun _ h=>h) (fun p hp=>hbel.cell hp)
              obtain ⟨a,rfl,ha,hat⟩:=hl1.get j hlt
              obtain ⟨A1,c1,q0,q1,hx⟩:=at_ty hat
              simp only [show TyR.n=2 from rfl] at q0 q1
              have hnj:=nodesAll_get l j hlt
              have hx1:=(IsTy.keep (S':=(· < wr.heap.size)) (fun b h=>Nat.lt_of_lt_of_le h hbel.size) (fun _ _=>rfl) _ hx).boxed (below_box wr (Obj.cells #[.int .i64 l[j].kind,.slice A1 l[j].args.length c1] 30))
              have HX:=Lib.hid hx1
              clear hl1 hat hx hx1
              by_cases hok:l[j].ok=true
              · have HOK:=Lib.hid hok
                clear hok
                go_wp2_with fail
                refine (IH.out l[j] _ _ (by omega) (by omega) HX.out).mono ?_
                rintro e w1 ⟨rfl,hb1⟩
                rw [HOK.out]
                go_wp2_with fail
                refine ⟨⟨j+1,by omega,by go_num,?_,hbel.trans (((below_box wr _).trans (hb1.mono (by simp))).mono hbel.size)⟩,by simp [intOf]; omega⟩
                intro i hi hij
                by_cases e:i=j
                · subst e; exact HOK.out
                · exact HSO.out i hi (by omega)
              · have hok':l[j].ok=false:=by simpa using hok
                have HOK:=Lib.hid hok'
                have hf:okAll l=false:=by
                  cases h:okAll l with
                  | false=>rfl
                  | true=>exact absurd (okAll_at h j hlt) hok
                have HF:=Lib.hid hf
                clear hok hok' hf
                go_wp2_with fail
                refine (IH.out l[j] _ _ (by omega) (by omega) HX.out).mono ?_
                rintro e w1 ⟨rfl,hb1⟩
                rw [HOK.out]
                go_wp2_with fail
                go_ret
                exact ⟨by rw [ok_mk,HF.out,Bool.and_false]; rfl,hbel.trans (((below_box wr _).trans (hb1.mono (by simp))).mono hbel.size)⟩
            · have hjl:j=l.length:=by omega
              subst hjl
              go_wp2_with fail
              go_ret
              exact ⟨by rw [ok_mk,okAll_of (fun i hi=>HSO.out i hi hi),HFO.out]; rfl,hbel⟩
        · have e1:((l.length:Int) != (0:Int))=true:=by rw [bne_iff_ne]; omega
          have hfo:(Ty.mk 5 l).ok=false:=by
            rw [ok_mk]
            simp [Ty.formed,kind_mk_,args_mk_,hlen]
          have HFO:=Lib.hid hfo
          clear hfo hlen
          go_enter Tryz.func145,Tryz.ntmps145
          go_wp2_with fail
          go_ret
          exact ⟨by rw [HFO.out]; rfl,hbW⟩

      · subst hk
        by_cases hlen:l.length=2
        · have e1:((l.length:Int) != (2:Int))=false:=by simp [hlen]
          have hfo:(Ty.mk 3 l).formed=true:=by simp [Ty.formed,kind_mk_,args_mk_,hlen]
          have HFO:=Lib.hid hfo
          clear hfo hlen
          go_enter Tryz.func145,Tryz.ntmps145
          go_wp2_with fail
          generalize w.alloc (Obj.cells #[.int .i64 3,.slice A l.length c] 30)=W at hbW ⊢
          go_loopw [23] (fun ix wr=>∃ j:Nat,j≤l.length∧ix=.int .i64 j∧(∀ i (hi:i<l.length),i<j→l[i].ok=true)∧Below w.heap.size w wr) (fun ix _=>l.length - (intOf ix).toNat)
          case atStart=>exact ⟨0,by omega,rfl,fun i _ h=>by omega,hbW⟩
          case round=>
            obtain ⟨j,hj,rfl,hso,hbel⟩:=hrel
            have HSO:=Lib.hid hso
            clear hso
            by_cases hlt:j<l.length
            · have hl1:TyR.Sl (· < w.heap.size) wr l (.slice A l.length c):=HL.out.keep (fun _ h=>h) (fun p hp=>hbel.cell hp)
              obtain ⟨a,rfl,ha,hat⟩:=hl1.get j hlt
              obtain ⟨A1,c1,q0,q1,hx⟩:=at_ty hat
              simp only [show TyR.n=2 from rfl] at q0 q1
              have hnj:=nodesAll_get l j hlt
              have hx1:=(IsTy.keep (S':=(· < wr.heap.size)) (fun b h=>Nat.lt_of_lt_of_le h hbel.size) (fun _ _=>rfl) _ hx).boxed (below_box wr (Obj.cells #[.int .i64 l[j].kind,.slice A1 l[j].args.length c1] 30))
              have HX:=Lib.hid hx1
              clear hl1 hat hx hx1
              by_cases hok:l[j].ok=true
              · have HOK:=Lib.hid hok
                clear hok
                go_wp2_with fail
                refine (IH.out l[j] _ _ (by omega) (by omega) HX.out).mono ?_
                rintro e w1 ⟨rfl,hb1⟩
                rw [HOK.out]
                go_wp2_with fail
                refine ⟨⟨j+1,by omega,by go_num,?_,hbel.trans (((below_box wr _).trans (hb1.mono (by simp))).mono hbel.size)⟩,by simp [intOf]; omega⟩
                intro i hi hij
                by_cases e:i=j
                · subst e; exact HOK.out
                · exact HSO.out i hi (by omega)
              · have hok':l[j].ok=false:=by simpa using hok
                have HOK:=Lib.hid hok'
                have hf:okAll l=false:=by
                  cases h:okAll l with
                  | false=>rfl
                  | true=>exact absurd (okAll_at h j hlt) hok
                have HF:=Lib.hid hf
                clear hok hok' hf
                go_wp2_with fail
                refine (IH.out l[j] _ _ (by omega) (by omega) HX.out).mono ?_
                rintro e w1 ⟨rfl,hb1⟩
                rw [HOK.out]
                go_wp2_with fail
                go_ret
                exact ⟨by rw [ok_mk,HF.out,Bool.and_false]; rfl,hbel.trans (((below_box wr _).trans (hb1.mono (by simp))).mono hbel.size)⟩
            · have hjl:j=l.length:=by omega
              subst hjl
              go_wp2_with fail
              go_ret
              exact ⟨by rw [ok_mk,okAll_of (fun i hi=>HSO.out i hi hi),HFO.out]; rfl,hbel⟩
        · have e1:((l.length:Int) != (2:Int))=true:=by rw [bne_iff_ne]; omega
          have hfo:(Ty.mk 3 l).ok=false:=by
            rw [ok_mk]
            simp [Ty.formed,kind_mk_,args_mk_,hlen]
          have HFO:=Lib.hid hfo
          clear hfo hlen
          go_enter Tryz.func145,Tryz.ntmps145
          go_wp2_with fail
          go_ret
          exact ⟨by rw [HFO.out]; rfl,hbW⟩

      · subst hk
        by_cases hlen:l.length=2
        · have e1:((l.length:Int) != (2:Int))=false:=by simp [hlen]
          have hfo:(Ty.mk 4 l).formed=true:=by simp [Ty.formed,kind_mk_,args_mk_,hlen]
          have HFO:=Lib.hid hfo
          clear hfo hlen
          go_enter Tryz.func145,Tryz.ntmps145
          go_wp2_with fail
          generalize w.alloc (Obj.cells #[.int .i64 4,.slice A l.length c] 30)=W at hbW ⊢
          go_loopw [23] (fun ix wr=>∃ j:Nat,j≤l.length∧ix=.int .i64 j∧(∀ i (hi:i<l.length),i<j→l[i].ok=true)∧Below w.heap.size w wr) (fun ix _=>l.length - (intOf ix).toNat)
          case atStart=>exact ⟨0,by omega,rfl,fun i _ h=>by omega,hbW⟩
          case round=>
            obtain ⟨j,hj,rfl,hso,hbel⟩:=hrel
            have HSO:=Lib.hid hso
            clear hso
            by_cases hlt:j<l.length
            · have hl1:TyR.Sl (· < w.heap.size) wr l (.slice A l.length c):=HL.out.keep (fun _ h=>h) (fun p hp=>hbel.cell hp)
              obtain ⟨a,rfl,ha,hat⟩:=hl1.get j hlt
              obtain ⟨A1,c1,q0,q1,hx⟩:=at_ty hat
              simp only [show TyR.n=2 from rfl] at q0 q1
              have hnj:=nodesAll_get l j hlt
              have hx1:=(IsTy.keep (S':=(· < wr.heap.size)) (fun b h=>Nat.lt_of_lt_of_le h hbel.size) (fun _ _=>rfl) _ hx).boxed (below_box wr (Obj.cells #[.int .i64 l[j].kind,.slice A1 l[j].args.length c1] 30))
              have HX:=Lib.hid hx1
              clear hl1 hat hx hx1
              by_cases hok:l[j].ok=true
              · have HOK:=Lib.hid hok
                clear hok
                go_wp2_with fail
                refine (IH.out l[j] _ _ (by omega) (by omega) HX.out).mono ?_
                rintro e w1 ⟨rfl,hb1⟩
                rw [HOK.out]
                go_wp2_with fail
                refine ⟨⟨j+1,by omega,by go_num,?_,hbel.trans (((below_box wr _).trans (hb1.mono (by simp))).mono hbel.size)⟩,by simp [intOf]; omega⟩
                intro i hi hij
                by_cases e:i=j
                · subst e; exact HOK.out
                · exact HSO.out i hi (by omega)
              · have hok':l[j].ok=false:=by simpa using hok
                have HOK:=Lib.hid hok'
                have hf:okAll l=false:=by
                  cases h:okAll l with
                  | false=>rfl
                  | true=>exact absurd (okAll_at h j hlt) hok
                have HF:=Lib.hid hf
                clear hok hok' hf
                go_wp2_with fail
                refine (IH.out l[j] _ _ (by omega) (by omega) HX.out).mono ?_
                rintro e w1 ⟨rfl,hb1⟩
                rw [HOK.out]
                go_wp2_with fail
                go_ret
                exact ⟨by rw [ok_mk,HF.out,Bool.and_false]; rfl,hbel.trans (((below_box wr _).trans (hb1.mono (by simp))).mono hbel.size)⟩
            · have hjl:j=l.length:=by omega
              subst hjl
              go_wp2_with fail
              go_ret
              exact ⟨by rw [ok_mk,okAll_of (fun i hi=>HSO.out i hi hi),HFO.out]; rfl,hbel⟩
        · have e1:((l.length:Int) != (2:Int))=true:=by rw [bne_iff_ne]; omega
          have hfo:(Ty.mk 4 l).ok=false:=by
            rw [ok_mk]
            simp [Ty.formed,kind_mk_,args_mk_,hlen]
          have HFO:=Lib.hid hfo
          clear hfo hlen
          go_enter Tryz.func145,Tryz.ntmps145
          go_wp2_with fail
          go_ret
          exact ⟨by rw [HFO.out]; rfl,hbW⟩

    · have e1:(k == 1)=false:=by rw [beq_eq_false_iff_ne]; omega
      have e2:(k == 2)=false:=by rw [beq_eq_false_iff_ne]; omega
      have e5:(k == 5)=false:=by rw [beq_eq_false_iff_ne]; omega
      have e3:(k == 3)=false:=by rw [beq_eq_false_iff_ne]; omega
      have e4:(k == 4)=false:=by rw [beq_eq_false_iff_ne]; omega
      have hfo:(Ty.mk k l).ok=false:=by
        rw [ok_mk]
        have h1:¬ (k=1∨k=2∨k=5):=by omega
        have h2:¬ (k=3∨k=4):=by omega
        simp [Ty.formed,kind_mk_,h1,h2]
      have HFO:=Lib.hid hfo
      clear hfo hks
      go_enter Tryz.func145,Tryz.ntmps145
      go_wp2_with fail
      go_ret
      exact ⟨by rw [HFO.out]; rfl,hbW⟩

set_option maxHeartbeats 1000000 in
theorem refCheck_any (T:Ty) (v:Value) (w:World) (hsz:T.nodes≤400000) (hT:IsTy (· < w.heap.size) w T v) :
    Calls Tryz.prog 117 #[v] w fun e w'=>e=.returned (.int .i64 T.err)∧Below w.heap.size w w':=by
  obtain ⟨A,c,rfl⟩:=hT.form
  obtain ⟨b1,z1,k1⟩:=new_blk (Below.refl w.heap.size w) (Nat.le_refl _) #[.int .i64 T.kind,.slice A T.args.length c] 30
  have hT1:=hT.boxed b1
  go_enter Tryz.func117,Tryz.ntmps117
  go_wp2_with fail
  generalize w.alloc (Obj.cells #[.int .i64 T.kind,.slice A T.args.length c] 30)=W at b1 z1 k1 hT1 ⊢
  refine (refShape_any 400000 T _ W hsz (Nat.le_refl _) hT1).mono ?_
  rintro e w1 ⟨rfl,hb1⟩
  have hb01:Below w.heap.size w w1:=b1.trans (hb1.mono b1.size)
  by_cases hok:T.ok=true
  · rw [hok]
    obtain ⟨q0,q1,_,_⟩:=(k1.below hb1 (by omega)).facts2
    have HT:=Lib.hid (hT1.boxed hb1)
    have HOK:=Lib.hid hok
    clear hT hT1 hok
    go_wp2_with fail
    refine (refSize_any 400000 T _ w1 hsz (Nat.le_refl _) HT.out).mono ?_
    rintro e w2 ⟨rfl,hb2⟩
    have hb02:Below w.heap.size w w2:=hb01.trans (hb2.mono hb01.size)
    by_cases h64:T.nodes≤64
    · have e4:decide ((64:Int)<(T.nodes:Int))=false:=by simp; omega
      go_wp2_with fail
      go_ret
      exact ⟨by rw [show T.err=0 from err_zero.2 ⟨HOK.out,h64⟩]; rfl,hb02⟩
    · have e4:decide ((64:Int)<(T.nodes:Int))=true:=by simp; omega
      have he:T.err=4:=by unfold Ty.err; rw [if_pos HOK.out,if_neg h64]
      go_wp2_with fail
      go_ret
      exact ⟨by rw [he]; rfl,hb02⟩
  · have hok':T.ok=false:=by simpa using hok
    have he:T.err=2:=by unfold Ty.err; rw [if_neg hok]
    rw [hok']
    go_wp2_with fail
    go_ret
    exact ⟨by rw [he]; rfl,hb01⟩
end Go.Proofs.YthlknhkemmdocaaGreatDoor
namespace Go.Proofs.YthlknhkemmdocaaGreatDoor
open Go.RowKit

theorem sizeT_take (l:List Tm) (j:Nat) (h:j<l.length):sizeAllT (l.take (j+1))=sizeAllT (l.take j)+l[j].size:=by
  rw [List.take_succ_eq_append_getElem h,sizeAllT_append]
  simp only [sizeAllT]
  omega
theorem sizeT_take_le (l:List Tm) (j:Nat):sizeAllT (l.take j)≤sizeAllT l:=by
  have:=sizeAllT_append (l.take j) (l.drop j)
  rw [List.take_append_drop] at this
  omega

set_option maxRecDepth 100000 in
set_option maxHeartbeats 2000000 in
theorem countT_any (n:Nat):∀ (t:Tm) (v:Value) (w:World),t.bulk≤n→n≤400000→IsTm (· < w.heap.size) w t v →
    Calls Tryz.prog 90 #[v] w fun e w'=>e=.returned (.int .i64 (t.size:Int))∧Below w.heap.size w w':=by
  induction n with
  | zero=>intro t; have:=bulk_pos t; omega
  | succ n ih=>
    rintro ⟨k,i,T,l⟩ v w hn hb ht
    obtain ⟨B,d,A,c,rfl,_,hl⟩:=ht.mk_parts
    have hsb:=sizeAll_bulk l
    have hll:=bulkAll_len l
    simp only [Tm.bulk] at hn
    have HL:=Lib.hid hl
    have IH:=Lib.hid ih
    clear ht hl ih
    obtain ⟨b1,z1,k1⟩:=new_blk (Below.refl w.heap.size w) (Nat.le_refl _) #[.int .i64 k,.int .i64 i,.int .i64 T.kind,.slice B T.args.length d,.slice A l.length c] 42
    have HB:=Lib.hid (And.intro b1 k1)
    clear b1 z1 k1
    go_enter Tryz.func90,Tryz.ntmps90
    go_wp2_with fail
    have b1:=HB.out.1
    generalize w.alloc (Obj.cells #[.int .i64 k,.int .i64 i,.int .i64 T.kind,.slice B T.args.length d,.slice A l.length c] 42)=W at b1 HB ⊢
    go_loopw [3,9] (fun cnt ix wr=>∃ j:Nat,j≤l.length∧ix=.int .i64 j∧cnt=.int .i64 ((1+sizeAllT (l.take j):Nat):Int)∧Below W.heap.size W wr) (fun _ ix _=>l.length - (intOf ix).toNat)
    case atStart=>exact ⟨0,by omega,rfl,by simp [sizeAllT],Below.refl _ _⟩
    case round=>
      obtain ⟨j,hj,rfl,rfl,hbr⟩:=hrel
      have hst:=sizeT_take_le l j
      by_cases hlt:j<l.length
      · have hwr:Below w.heap.size w wr:=b1.trans (hbr.mono b1.size)
        have hs:TmR.Sl (· < w.heap.size) wr l (.slice A l.length c):=HL.out.keep (fun _ h=>h) (fun p hp=>hwr.cell hp)
        obtain ⟨a,rfl,ha,hat⟩:=hs.get j hlt
        obtain ⟨B1,d1,A1,c1,q0,q1,q2,q3,q4,hx⟩:=at_tm hat
        simp only [show TmR.n=5 from rfl] at q0 q1 q2 q3 q4
        have hnj:=bulkAll_get l j hlt
        have hxs:=size_bulk l[j]
        have HST:=Lib.hid (sizeT_take l j hlt)
        have HX:=Lib.hid hx
        have hws:=hwr.size
        have HBR:=Lib.hid hbr
        clear hs hat hx hbr hwr
        obtain ⟨u,hu⟩:∃ u,sizeAllT (l.take j)=u:=⟨_,rfl⟩
        rw [hu] at hst HST ⊢
        clear hu
        go_wp2_with fail
        have bb:=(Below.refl wr.heap.size wr).alloc (Nat.le_refl _) (Obj.cells #[.int .i64 l[j].kind,.int .i64 l[j].index,.int .i64 l[j].type.kind,.slice B1 l[j].type.args.length d1,.slice A1 l[j].args.length c1] 42)
        refine (IH.out l[j] _ _ (by omega) (by omega) (HX.out.keep (fun b hb=>by have h3:b<w.heap.size:=hb; simp; omega) (fun p hp=>World.cell?_alloc_lt _ _ _ (by have h3:p.block<w.heap.size:=hp; omega)))).mono ?_
        rintro e w2 ⟨rfl,hb2⟩
        have HB2:=Lib.hid (HBR.out.trans ((bb.trans (hb2.mono (by simp))).mono HBR.out.size))
        clear bb hb2
        obtain ⟨y,hy⟩:∃ y,l[j].size=y:=⟨_,rfl⟩
        rw [hy] at hxs HST ⊢
        clear hy
        go_wp2_with fail
        exact ⟨⟨j+1,by omega,by go_num,by rw [HST.out]; congr 1; omega,HB2.out⟩,by simp [intOf]; omega⟩
      · have hjl:j=l.length:=by omega
        subst hjl
        rw [List.take_length] at hst ⊢
        obtain ⟨u,hu⟩:∃ u,sizeAllT l=u:=⟨_,rfl⟩
        rw [hu] at hst ⊢
        have HU:=Lib.hid hu
        have HBR:=Lib.hid hbr
        clear hbr hu
        go_wp2_with fail
        go_ret
        exact ⟨ret_num (by simp only [Tm.size]; rw [HU.out]),b1.trans (HBR.out.mono b1.size)⟩
end Go.Proofs.YthlknhkemmdocaaGreatDoor
namespace Go.Proofs.YthlknhkemmdocaaGreatDoor
open Go.RowKit

theorem args_any (k:Int) (n:Nat) (h1:1≤k) (h13:k≤13) (hn:n=arities.getD k.toNat 0) (w:World) :
    Calls Tryz.prog 151 #[.int .i64 k] w fun e w'=>e=.returned (.int .i64 (n:Int))∧w' = w:=by
  have hk:k=1∨k=2∨k=3∨k=4∨k=5∨k=6∨k=7∨k=8∨k=9∨k=10∨k=11∨k=12∨k=13:=by omega
  rcases hk with rfl | rfl | rfl | rfl | rfl | rfl | rfl | rfl | rfl | rfl | rfl | rfl | rfl <;>
  · have hn':n=_:=hn.trans (by rfl)
    subst hn'
    go_enter Tryz.func151,Tryz.ntmps151
    go_wp2_with fail
    go_ret
    exact ⟨rfl,rfl⟩

theorem zero_any (i:Int) (n:Nat) (A:Option Addr) (c:Nat) (w:World) (hi:i=0) (hn:n=0) :
    Calls Tryz.prog 149 #[.agg #[.int .i64 i,.slice A n c]] w fun e w'=>e=.returned (.bool true)∧Below w.heap.size w w':=by
  subst hi
  subst hn
  obtain ⟨b1,z1,k1⟩:=new_blk (Below.refl w.heap.size w) (Nat.le_refl _) #[.int .i64 0,.slice A 0 c] 30
  obtain ⟨p0,p1,_,_⟩:=k1.facts2
  have HB:=Lib.hid b1
  clear b1 k1
  go_enter Tryz.func149,Tryz.ntmps149
  go_wp2_with fail
  go_ret
  exact ⟨rfl,HB.out⟩


def ShapeR' (w:World) (e:Ending) (w':World):Prop:=e=.returned (.bool true)∧Below w.heap.size w w'
def ShapeIH (n:Nat):Prop:=∀ (t:Tm) (v:Value) (w:World),t.bulk≤n→n≤400000→t.ok=true→IsTm (· < w.heap.size) w t v→Calls Tryz.prog 122 #[v] w (ShapeR' w)


set_option maxRecDepth 100000 in
set_option maxHeartbeats 4000000 in
theorem shape_one (n:Nat) (ih:ShapeIH n) (i:Int) (T:Ty) (l:List Tm) (v:Value) (w:World) (hn:(Tm.mk 1 i T l).bulk≤n+1) (hb:n+1≤400000) (hok:(Tm.mk 1 i T l).ok=true) (ht:IsTm (· < w.heap.size) w (.mk 1 i T l) v) :
    Calls Tryz.prog 122 #[v] w (ShapeR' w):=by
  obtain ⟨B,d,A,c,rfl,hTT,hl⟩:=ht.mk_parts
  have hll:=bulkAll_len l
  rw [okT_eq,Bool.and_eq_true] at hok
  have hfk:=formed_kind hok.1
  simp only [Tm.kind,Tm.index,Tm.type,Tm.args] at hfk hok
  simp only [Tm.bulk] at hn
  have harg:=hfk.2.2.1
  have hi0:=hfk.2.2.2.1
  have HZ:=Lib.hid (hfk.2.2.2.2.2.2 (by omega))
  have hneg:decide (i<0)=false:=by simp; omega
  have HL:=Lib.hid hl
  have IH:=Lib.hid ih
  have HO:=Lib.hid hok.2
  obtain ⟨W,hW⟩:∃ W,W=w.alloc (Obj.cells #[.int .i64 1,.int .i64 i,.int .i64 T.kind,.slice B T.args.length d,.slice A l.length c] 42):=⟨_,rfl⟩
  obtain ⟨b1,z1,k1⟩:=new_blk (Below.refl w.heap.size w) (Nat.le_refl _) #[.int .i64 1,.int .i64 i,.int .i64 T.kind,.slice B T.args.length d,.slice A l.length c] 42
  rw [← hW] at b1 z1 k1
  obtain ⟨p0,p1,p2,p3,p4,_⟩:=k1.facts5
  have HK:=Lib.hid k1
  have HB:=Lib.hid b1
  have HT:=Lib.hid (hTT.boxed' b1)
  have HAR:=Lib.hid harg
  have HSK:=Lib.hid fun (w':World) (h:Below W.heap.size W w')=>And.intro (h.cell (p:=⟨w.heap.size,0,none⟩) k1.lt |>.trans p0) (And.intro (h.cell (p:=⟨w.heap.size,1,none⟩) k1.lt |>.trans p1) (h.cell (p:=⟨w.heap.size,4,none⟩) k1.lt |>.trans p4))
  clear hl ih hok ht hTT b1 z1 k1 hfk harg
  go_enter Tryz.func122,Tryz.ntmps122
  go_upto_region 1 with fail
  rw [← hW]
  clear hW
  go_quiet ((go_at_call 151; exact Calls.quiet_of_same (args_any 1 l.length (by omega) (by omega) HAR.out _)))
  rename_i nq
  have D0:=Lib.hid (below_drewN (Below.refl W.heap.size W) nq)
  obtain ⟨p2',p3'⟩:(W.drewN nq).cell? ⟨w.heap.size,2,none⟩ = some (.int .i64 T.kind)∧(W.drewN nq).cell? ⟨w.heap.size,3,none⟩ = some (.slice B T.args.length d):=⟨p2,p3⟩
  have HTD:=Lib.hid (HT.out.boxed' D0.out)
  go_wp2_with fail
  refine (zero_any T.kind T.args.length B d _ HZ.out.1 HZ.out.2).mono ?_
  rintro e w3 ⟨rfl,hb3⟩

  have HB3:=Lib.hid (D0.out.trans (hb3.mono D0.out.size))
  obtain ⟨_,_,p4⟩:=HSK.out _ HB3.out
  clear hb3
  go_wp2_with fail
  go_loopw [44] (fun ix wr=>∃ j:Nat,j≤l.length∧ix=.int .i64 j∧Below W.heap.size W wr) (fun ix _=>l.length - (intOf ix).toNat)
  case atStart=>exact ⟨0,by omega,rfl,HB3.out⟩
  case round=>
    obtain ⟨j,hj,rfl,hbr⟩:=hrel
    have hsz:=HB.out.size
    by_cases hlt:j<l.length
    · have hwr:Below w.heap.size w wr:=HB.out.trans (hbr.mono HB.out.size)
      have hs:TmR.Sl (· < w.heap.size) wr l (.slice A l.length c):=HL.out.keep (fun _ h=>h) (fun p hp=>hwr.cell hp)
      obtain ⟨a,rfl,ha,hat⟩:=hs.get j hlt
      obtain ⟨B1,d1,A1,c1,q0,q1,q2,q3,q4,hx⟩:=at_tm hat
      simp only [show TmR.n=5 from rfl] at q0 q1 q2 q3 q4
      have hnj:=bulkAll_get l j hlt
      have hxo:=okAllT_get HO.out j hlt
      have HX:=Lib.hid (And.intro hx hxo)
      have hws:=hwr.size
      have HBR:=Lib.hid hbr
      clear hs hat hx hxo hbr hwr
      go_wp2_with fail
      have bb:=(Below.refl wr.heap.size wr).alloc (Nat.le_refl _) (Obj.cells #[.int .i64 l[j].kind,.int .i64 l[j].index,.int .i64 l[j].type.kind,.slice B1 l[j].type.args.length d1,.slice A1 l[j].args.length c1] 42)
      refine (IH.out l[j] _ _ (by omega) (by omega) HX.out.2 (HX.out.1.keep (fun b hb=>by have h3:b<w.heap.size:=hb; simp; omega) (fun p hp=>World.cell?_alloc_lt _ _ _ (by have h3:p.block<w.heap.size:=hp; omega)))).mono ?_
      rintro e w2 ⟨rfl,hb2⟩
      have HB2:=Lib.hid (HBR.out.trans ((bb.trans (hb2.mono (by simp))).mono HBR.out.size))
      clear bb hb2
      go_wp2_with fail
      exact ⟨⟨j+1,by omega,by go_num,HB2.out⟩,by simp [intOf]; omega⟩
    · have hjl:j=l.length:=by omega
      subst hjl
      have HBR:=Lib.hid hbr
      clear hbr
      go_wp2_with fail
      go_ret
      exact ⟨rfl,HB.out.trans (HBR.out.mono HB.out.size)⟩


set_option maxRecDepth 100000 in
set_option maxHeartbeats 4000000 in
theorem shape_k2 (n:Nat) (ih:ShapeIH n) (i:Int) (T:Ty) (l:List Tm) (v:Value) (w:World) (hn:(Tm.mk 2 i T l).bulk≤n+1) (hb:n+1≤400000) (hok:(Tm.mk 2 i T l).ok=true) (ht:IsTm (· < w.heap.size) w (.mk 2 i T l) v) :
    Calls Tryz.prog 122 #[v] w (ShapeR' w):=by
  obtain ⟨B,d,A,c,rfl,hTT,hl⟩:=ht.mk_parts
  have hll:=bulkAll_len l
  rw [okT_eq,Bool.and_eq_true] at hok
  have hfk:=formed_kind hok.1
  simp only [Tm.kind,Tm.index,Tm.type,Tm.args] at hfk hok
  simp only [Tm.bulk] at hn
  have harg:=hfk.2.2.1
  have hi0:=hfk.2.2.2.1
  have hTe:=hfk.2.2.2.2.2.1 (by simp)
  have hTn:=err_small hTe
  have HTE:=Lib.hid hTe
  clear hTe
  have hi1:i=0:=by rcases hfk.2.2.2.2.1 with h | h; omega; exact h
  subst hi1
  have HL:=Lib.hid hl
  have IH:=Lib.hid ih
  have HO:=Lib.hid hok.2
  obtain ⟨W,hW⟩:∃ W,W=w.alloc (Obj.cells #[.int .i64 2,.int .i64 0,.int .i64 T.kind,.slice B T.args.length d,.slice A l.length c] 42):=⟨_,rfl⟩
  obtain ⟨b1,z1,k1⟩:=new_blk (Below.refl w.heap.size w) (Nat.le_refl _) #[.int .i64 2,.int .i64 0,.int .i64 T.kind,.slice B T.args.length d,.slice A l.length c] 42
  rw [← hW] at b1 z1 k1
  obtain ⟨p0,p1,p2,p3,p4,_⟩:=k1.facts5
  have HK:=Lib.hid k1
  have HB:=Lib.hid b1
  have HT:=Lib.hid (hTT.boxed' b1)
  have HAR:=Lib.hid harg
  have D0:=Lib.hid ((Below.refl W.heap.size W).drew)
  have HSK:=Lib.hid fun (w':World) (h:Below W.heap.size W w')=>And.intro (h.cell (p:=⟨w.heap.size,0,none⟩) k1.lt |>.trans p0) (And.intro (h.cell (p:=⟨w.heap.size,1,none⟩) k1.lt |>.trans p1) (h.cell (p:=⟨w.heap.size,4,none⟩) k1.lt |>.trans p4))
  clear hl ih hok ht hTT b1 z1 k1 hfk harg
  go_enter Tryz.func122,Tryz.ntmps122
  go_upto_region 1 with fail
  rw [← hW]
  clear hW
  go_region_held3 (fun w'=>w'.cell? ⟨w.heap.size,0,none⟩ = some (.int .i64 2)∧w'.cell? ⟨w.heap.size,1,none⟩ = some (.int .i64 0)∧w'.cell? ⟨w.heap.size,4,none⟩ = some (.slice A l.length c))
    (first | with_reducible exact HSK.out _ D0.out | go_keep)
    (first
      | (go_at_call 151
         (with_reducible refine (args_any 2 l.length (by omega) (by omega) HAR.out _).mono ?_)
         rintro e w2 ⟨rfl,rfl⟩))
  obtain ⟨p2',p3'⟩:W.drew.cell? ⟨w.heap.size,2,none⟩ = some (.int .i64 T.kind)∧W.drew.cell? ⟨w.heap.size,3,none⟩ = some (.slice B T.args.length d):=⟨p2,p3⟩
  have HTD:=Lib.hid (HT.out.boxed' D0.out)
  go_wp2_with fail
  refine (refCheck_any T _ _ (by omega) HTD.out).mono ?_
  rintro e w3 ⟨rfl,hb3⟩
  rw [HTE.out]
  have HB3:=Lib.hid (D0.out.trans (hb3.mono D0.out.size))
  obtain ⟨_,_,p4⟩:=HSK.out _ HB3.out
  clear hb3
  go_wp2_with fail
  go_loopw [44] (fun ix wr=>∃ j:Nat,j≤l.length∧ix=.int .i64 j∧Below W.heap.size W wr) (fun ix _=>l.length - (intOf ix).toNat)
  case atStart=>exact ⟨0,by omega,rfl,HB3.out⟩
  case round=>
    obtain ⟨j,hj,rfl,hbr⟩:=hrel
    have hsz:=HB.out.size
    by_cases hlt:j<l.length
    · have hwr:Below w.heap.size w wr:=HB.out.trans (hbr.mono HB.out.size)
      have hs:TmR.Sl (· < w.heap.size) wr l (.slice A l.length c):=HL.out.keep (fun _ h=>h) (fun p hp=>hwr.cell hp)
      obtain ⟨a,rfl,ha,hat⟩:=hs.get j hlt
      obtain ⟨B1,d1,A1,c1,q0,q1,q2,q3,q4,hx⟩:=at_tm hat
      simp only [show TmR.n=5 from rfl] at q0 q1 q2 q3 q4
      have hnj:=bulkAll_get l j hlt
      have hxo:=okAllT_get HO.out j hlt
      have HX:=Lib.hid (And.intro hx hxo)
      have hws:=hwr.size
      have HBR:=Lib.hid hbr
      clear hs hat hx hxo hbr hwr
      go_wp2_with fail
      have bb:=(Below.refl wr.heap.size wr).alloc (Nat.le_refl _) (Obj.cells #[.int .i64 l[j].kind,.int .i64 l[j].index,.int .i64 l[j].type.kind,.slice B1 l[j].type.args.length d1,.slice A1 l[j].args.length c1] 42)
      refine (IH.out l[j] _ _ (by omega) (by omega) HX.out.2 (HX.out.1.keep (fun b hb=>by have h3:b<w.heap.size:=hb; simp; omega) (fun p hp=>World.cell?_alloc_lt _ _ _ (by have h3:p.block<w.heap.size:=hp; omega)))).mono ?_
      rintro e w2 ⟨rfl,hb2⟩
      have HB2:=Lib.hid (HBR.out.trans ((bb.trans (hb2.mono (by simp))).mono HBR.out.size))
      clear bb hb2
      go_wp2_with fail
      exact ⟨⟨j+1,by omega,by go_num,HB2.out⟩,by simp [intOf]; omega⟩
    · have hjl:j=l.length:=by omega
      subst hjl
      have HBR:=Lib.hid hbr
      clear hbr
      go_wp2_with fail
      go_ret
      exact ⟨rfl,HB.out.trans (HBR.out.mono HB.out.size)⟩


set_option maxRecDepth 100000 in
set_option maxHeartbeats 4000000 in
theorem shape_k6 (n:Nat) (ih:ShapeIH n) (i:Int) (T:Ty) (l:List Tm) (v:Value) (w:World) (hn:(Tm.mk 6 i T l).bulk≤n+1) (hb:n+1≤400000) (hok:(Tm.mk 6 i T l).ok=true) (ht:IsTm (· < w.heap.size) w (.mk 6 i T l) v) :
    Calls Tryz.prog 122 #[v] w (ShapeR' w):=by
  obtain ⟨B,d,A,c,rfl,hTT,hl⟩:=ht.mk_parts
  have hll:=bulkAll_len l
  rw [okT_eq,Bool.and_eq_true] at hok
  have hfk:=formed_kind hok.1
  simp only [Tm.kind,Tm.index,Tm.type,Tm.args] at hfk hok
  simp only [Tm.bulk] at hn
  have harg:=hfk.2.2.1
  have hi0:=hfk.2.2.2.1
  have hTe:=hfk.2.2.2.2.2.1 (by simp)
  have hTn:=err_small hTe
  have HTE:=Lib.hid hTe
  clear hTe
  have hi1:i=0:=by rcases hfk.2.2.2.2.1 with h | h; omega; exact h
  subst hi1
  have HL:=Lib.hid hl
  have IH:=Lib.hid ih
  have HO:=Lib.hid hok.2
  obtain ⟨W,hW⟩:∃ W,W=w.alloc (Obj.cells #[.int .i64 6,.int .i64 0,.int .i64 T.kind,.slice B T.args.length d,.slice A l.length c] 42):=⟨_,rfl⟩
  obtain ⟨b1,z1,k1⟩:=new_blk (Below.refl w.heap.size w) (Nat.le_refl _) #[.int .i64 6,.int .i64 0,.int .i64 T.kind,.slice B T.args.length d,.slice A l.length c] 42
  rw [← hW] at b1 z1 k1
  obtain ⟨p0,p1,p2,p3,p4,_⟩:=k1.facts5
  have HK:=Lib.hid k1
  have HB:=Lib.hid b1
  have HT:=Lib.hid (hTT.boxed' b1)
  have HAR:=Lib.hid harg
  have D0:=Lib.hid ((Below.refl W.heap.size W).drew)
  have HSK:=Lib.hid fun (w':World) (h:Below W.heap.size W w')=>And.intro (h.cell (p:=⟨w.heap.size,0,none⟩) k1.lt |>.trans p0) (And.intro (h.cell (p:=⟨w.heap.size,1,none⟩) k1.lt |>.trans p1) (h.cell (p:=⟨w.heap.size,4,none⟩) k1.lt |>.trans p4))
  clear hl ih hok ht hTT b1 z1 k1 hfk harg
  go_enter Tryz.func122,Tryz.ntmps122
  go_upto_region 1 with fail
  rw [← hW]
  clear hW
  go_region_held3 (fun w'=>w'.cell? ⟨w.heap.size,0,none⟩ = some (.int .i64 6)∧w'.cell? ⟨w.heap.size,1,none⟩ = some (.int .i64 0)∧w'.cell? ⟨w.heap.size,4,none⟩ = some (.slice A l.length c))
    (first | with_reducible exact HSK.out _ D0.out | go_keep)
    (first
      | (go_at_call 151
         (with_reducible refine (args_any 6 l.length (by omega) (by omega) HAR.out _).mono ?_)
         rintro e w2 ⟨rfl,rfl⟩))
  obtain ⟨p2',p3'⟩:W.drew.cell? ⟨w.heap.size,2,none⟩ = some (.int .i64 T.kind)∧W.drew.cell? ⟨w.heap.size,3,none⟩ = some (.slice B T.args.length d):=⟨p2,p3⟩
  have HTD:=Lib.hid (HT.out.boxed' D0.out)
  go_wp2_with fail
  refine (refCheck_any T _ _ (by omega) HTD.out).mono ?_
  rintro e w3 ⟨rfl,hb3⟩
  rw [HTE.out]
  have HB3:=Lib.hid (D0.out.trans (hb3.mono D0.out.size))
  obtain ⟨_,_,p4⟩:=HSK.out _ HB3.out
  clear hb3
  go_wp2_with fail
  go_loopw [44] (fun ix wr=>∃ j:Nat,j≤l.length∧ix=.int .i64 j∧Below W.heap.size W wr) (fun ix _=>l.length - (intOf ix).toNat)
  case atStart=>exact ⟨0,by omega,rfl,HB3.out⟩
  case round=>
    obtain ⟨j,hj,rfl,hbr⟩:=hrel
    have hsz:=HB.out.size
    by_cases hlt:j<l.length
    · have hwr:Below w.heap.size w wr:=HB.out.trans (hbr.mono HB.out.size)
      have hs:TmR.Sl (· < w.heap.size) wr l (.slice A l.length c):=HL.out.keep (fun _ h=>h) (fun p hp=>hwr.cell hp)
      obtain ⟨a,rfl,ha,hat⟩:=hs.get j hlt
      obtain ⟨B1,d1,A1,c1,q0,q1,q2,q3,q4,hx⟩:=at_tm hat
      simp only [show TmR.n=5 from rfl] at q0 q1 q2 q3 q4
      have hnj:=bulkAll_get l j hlt
      have hxo:=okAllT_get HO.out j hlt
      have HX:=Lib.hid (And.intro hx hxo)
      have hws:=hwr.size
      have HBR:=Lib.hid hbr
      clear hs hat hx hxo hbr hwr
      go_wp2_with fail
      have bb:=(Below.refl wr.heap.size wr).alloc (Nat.le_refl _) (Obj.cells #[.int .i64 l[j].kind,.int .i64 l[j].index,.int .i64 l[j].type.kind,.slice B1 l[j].type.args.length d1,.slice A1 l[j].args.length c1] 42)
      refine (IH.out l[j] _ _ (by omega) (by omega) HX.out.2 (HX.out.1.keep (fun b hb=>by have h3:b<w.heap.size:=hb; simp; omega) (fun p hp=>World.cell?_alloc_lt _ _ _ (by have h3:p.block<w.heap.size:=hp; omega)))).mono ?_
      rintro e w2 ⟨rfl,hb2⟩
      have HB2:=Lib.hid (HBR.out.trans ((bb.trans (hb2.mono (by simp))).mono HBR.out.size))
      clear bb hb2
      go_wp2_with fail
      exact ⟨⟨j+1,by omega,by go_num,HB2.out⟩,by simp [intOf]; omega⟩
    · have hjl:j=l.length:=by omega
      subst hjl
      have HBR:=Lib.hid hbr
      clear hbr
      go_wp2_with fail
      go_ret
      exact ⟨rfl,HB.out.trans (HBR.out.mono HB.out.size)⟩


set_option maxRecDepth 100000 in
set_option maxHeartbeats 4000000 in
theorem shape_k9 (n:Nat) (ih:ShapeIH n) (i:Int) (T:Ty) (l:List Tm) (v:Value) (w:World) (hn:(Tm.mk 9 i T l).bulk≤n+1) (hb:n+1≤400000) (hok:(Tm.mk 9 i T l).ok=true) (ht:IsTm (· < w.heap.size) w (.mk 9 i T l) v) :
    Calls Tryz.prog 122 #[v] w (ShapeR' w):=by
  obtain ⟨B,d,A,c,rfl,hTT,hl⟩:=ht.mk_parts
  have hll:=bulkAll_len l
  rw [okT_eq,Bool.and_eq_true] at hok
  have hfk:=formed_kind hok.1
  simp only [Tm.kind,Tm.index,Tm.type,Tm.args] at hfk hok
  simp only [Tm.bulk] at hn
  have harg:=hfk.2.2.1
  have hi0:=hfk.2.2.2.1
  have hTe:=hfk.2.2.2.2.2.1 (by simp)
  have hTn:=err_small hTe
  have HTE:=Lib.hid hTe
  clear hTe
  have hi1:i=0:=by rcases hfk.2.2.2.2.1 with h | h; omega; exact h
  subst hi1
  have HL:=Lib.hid hl
  have IH:=Lib.hid ih
  have HO:=Lib.hid hok.2
  obtain ⟨W,hW⟩:∃ W,W=w.alloc (Obj.cells #[.int .i64 9,.int .i64 0,.int .i64 T.kind,.slice B T.args.length d,.slice A l.length c] 42):=⟨_,rfl⟩
  obtain ⟨b1,z1,k1⟩:=new_blk (Below.refl w.heap.size w) (Nat.le_refl _) #[.int .i64 9,.int .i64 0,.int .i64 T.kind,.slice B T.args.length d,.slice A l.length c] 42
  rw [← hW] at b1 z1 k1
  obtain ⟨p0,p1,p2,p3,p4,_⟩:=k1.facts5
  have HK:=Lib.hid k1
  have HB:=Lib.hid b1
  have HT:=Lib.hid (hTT.boxed' b1)
  have HAR:=Lib.hid harg
  have D0:=Lib.hid ((Below.refl W.heap.size W).drew)
  have HSK:=Lib.hid fun (w':World) (h:Below W.heap.size W w')=>And.intro (h.cell (p:=⟨w.heap.size,0,none⟩) k1.lt |>.trans p0) (And.intro (h.cell (p:=⟨w.heap.size,1,none⟩) k1.lt |>.trans p1) (h.cell (p:=⟨w.heap.size,4,none⟩) k1.lt |>.trans p4))
  clear hl ih hok ht hTT b1 z1 k1 hfk harg
  go_enter Tryz.func122,Tryz.ntmps122
  go_upto_region 1 with fail
  rw [← hW]
  clear hW
  go_region_held3 (fun w'=>w'.cell? ⟨w.heap.size,0,none⟩ = some (.int .i64 9)∧w'.cell? ⟨w.heap.size,1,none⟩ = some (.int .i64 0)∧w'.cell? ⟨w.heap.size,4,none⟩ = some (.slice A l.length c))
    (first | with_reducible exact HSK.out _ D0.out | go_keep)
    (first
      | (go_at_call 151
         (with_reducible refine (args_any 9 l.length (by omega) (by omega) HAR.out _).mono ?_)
         rintro e w2 ⟨rfl,rfl⟩))
  obtain ⟨p2',p3'⟩:W.drew.cell? ⟨w.heap.size,2,none⟩ = some (.int .i64 T.kind)∧W.drew.cell? ⟨w.heap.size,3,none⟩ = some (.slice B T.args.length d):=⟨p2,p3⟩
  have HTD:=Lib.hid (HT.out.boxed' D0.out)
  go_wp2_with fail
  refine (refCheck_any T _ _ (by omega) HTD.out).mono ?_
  rintro e w3 ⟨rfl,hb3⟩
  rw [HTE.out]
  have HB3:=Lib.hid (D0.out.trans (hb3.mono D0.out.size))
  obtain ⟨_,_,p4⟩:=HSK.out _ HB3.out
  clear hb3
  go_wp2_with fail
  go_loopw [44] (fun ix wr=>∃ j:Nat,j≤l.length∧ix=.int .i64 j∧Below W.heap.size W wr) (fun ix _=>l.length - (intOf ix).toNat)
  case atStart=>exact ⟨0,by omega,rfl,HB3.out⟩
  case round=>
    obtain ⟨j,hj,rfl,hbr⟩:=hrel
    have hsz:=HB.out.size
    by_cases hlt:j<l.length
    · have hwr:Below w.heap.size w wr:=HB.out.trans (hbr.mono HB.out.size)
      have hs:TmR.Sl (· < w.heap.size) wr l (.slice A l.length c):=HL.out.keep (fun _ h=>h) (fun p hp=>hwr.cell hp)
      obtain ⟨a,rfl,ha,hat⟩:=hs.get j hlt
      obtain ⟨B1,d1,A1,c1,q0,q1,q2,q3,q4,hx⟩:=at_tm hat
      simp only [show TmR.n=5 from rfl] at q0 q1 q2 q3 q4
      have hnj:=bulkAll_get l j hlt
      have hxo:=okAllT_get HO.out j hlt
      have HX:=Lib.hid (And.intro hx hxo)
      have hws:=hwr.size
      have HBR:=Lib.hid hbr
      clear hs hat hx hxo hbr hwr
      go_wp2_with fail
      have bb:=(Below.refl wr.heap.size wr).alloc (Nat.le_refl _) (Obj.cells #[.int .i64 l[j].kind,.int .i64 l[j].index,.int .i64 l[j].type.kind,.slice B1 l[j].type.args.length d1,.slice A1 l[j].args.length c1] 42)
      refine (IH.out l[j] _ _ (by omega) (by omega) HX.out.2 (HX.out.1.keep (fun b hb=>by have h3:b<w.heap.size:=hb; simp; omega) (fun p hp=>World.cell?_alloc_lt _ _ _ (by have h3:p.block<w.heap.size:=hp; omega)))).mono ?_
      rintro e w2 ⟨rfl,hb2⟩
      have HB2:=Lib.hid (HBR.out.trans ((bb.trans (hb2.mono (by simp))).mono HBR.out.size))
      clear bb hb2
      go_wp2_with fail
      exact ⟨⟨j+1,by omega,by go_num,HB2.out⟩,by simp [intOf]; omega⟩
    · have hjl:j=l.length:=by omega
      subst hjl
      have HBR:=Lib.hid hbr
      clear hbr
      go_wp2_with fail
      go_ret
      exact ⟨rfl,HB.out.trans (HBR.out.mono HB.out.size)⟩


set_option maxRecDepth 100000 in
set_option maxHeartbeats 4000000 in
theorem shape_other (n:Nat) (ih:ShapeIH n) (k:Int) (i:Int) (T:Ty) (l:List Tm) (v:Value) (w:World) (hk1:¬ k=1) (hk2:¬ k=2) (hk6:¬ k=6) (hk9:¬ k=9) (hn:(Tm.mk k i T l).bulk≤n+1) (hb:n+1≤400000) (hok:(Tm.mk k i T l).ok=true) (ht:IsTm (· < w.heap.size) w (.mk k i T l) v) :
    Calls Tryz.prog 122 #[v] w (ShapeR' w):=by
  obtain ⟨B,d,A,c,rfl,hTT,hl⟩:=ht.mk_parts
  have hll:=bulkAll_len l
  rw [okT_eq,Bool.and_eq_true] at hok
  have hfk:=formed_kind hok.1
  simp only [Tm.kind,Tm.index,Tm.type,Tm.args] at hfk hok
  simp only [Tm.bulk] at hn
  have harg:=hfk.2.2.1
  have hi0:=hfk.2.2.2.1
  have HZ:=Lib.hid (hfk.2.2.2.2.2.2 (by omega))
  have hi1:i=0:=by rcases hfk.2.2.2.2.1 with h | h; omega; exact h
  subst hi1
  have hka:=hfk.1
  have hb1:(k != 1)=true:=by simp [hk1]
  have hb2:(k == 2)=false:=by simp [hk2]
  have hb6:(k == 6)=false:=by simp [hk6]
  have hb9:(k == 9)=false:=by simp [hk9]
  have hd1:decide (k=1)=false:=by simp [hk1]
  have hd1':(!decide (k=1))=true:=by simp [hk1]
  have hd2:decide (k=2)=false:=by simp [hk2]
  have hd6:decide (k=6)=false:=by simp [hk6]
  have hd9:decide (k=9)=false:=by simp [hk9]
  have hkb:=hfk.2.1
  have HL:=Lib.hid hl
  have IH:=Lib.hid ih
  have HO:=Lib.hid hok.2
  obtain ⟨W,hW⟩:∃ W,W=w.alloc (Obj.cells #[.int .i64 k,.int .i64 0,.int .i64 T.kind,.slice B T.args.length d,.slice A l.length c] 42):=⟨_,rfl⟩
  obtain ⟨b1,z1,k1⟩:=new_blk (Below.refl w.heap.size w) (Nat.le_refl _) #[.int .i64 k,.int .i64 0,.int .i64 T.kind,.slice B T.args.length d,.slice A l.length c] 42
  rw [← hW] at b1 z1 k1
  obtain ⟨p0,p1,p2,p3,p4,_⟩:=k1.facts5
  have HK:=Lib.hid k1
  have HB:=Lib.hid b1
  have HT:=Lib.hid (hTT.boxed' b1)
  have HAR:=Lib.hid harg
  have D0:=Lib.hid ((Below.refl W.heap.size W).drew)
  have HSK:=Lib.hid fun (w':World) (h:Below W.heap.size W w')=>And.intro (h.cell (p:=⟨w.heap.size,0,none⟩) k1.lt |>.trans p0) (And.intro (h.cell (p:=⟨w.heap.size,1,none⟩) k1.lt |>.trans p1) (h.cell (p:=⟨w.heap.size,4,none⟩) k1.lt |>.trans p4))
  clear hl ih hok ht hTT b1 z1 k1 hfk harg
  go_enter Tryz.func122,Tryz.ntmps122
  go_upto_region 1 with fail
  rw [← hW]
  clear hW
  go_region_held3 (fun w'=>w'.cell? ⟨w.heap.size,0,none⟩ = some (.int .i64 k)∧w'.cell? ⟨w.heap.size,1,none⟩ = some (.int .i64 0)∧w'.cell? ⟨w.heap.size,4,none⟩ = some (.slice A l.length c))
    (first | with_reducible exact HSK.out _ D0.out | go_keep)
    (first
      | (go_at_call 151
         (with_reducible refine (args_any k l.length (by omega) (by omega) HAR.out _).mono ?_)
         rintro e w2 ⟨rfl,rfl⟩))
  obtain ⟨p2',p3'⟩:W.drew.cell? ⟨w.heap.size,2,none⟩ = some (.int .i64 T.kind)∧W.drew.cell? ⟨w.heap.size,3,none⟩ = some (.slice B T.args.length d):=⟨p2,p3⟩
  have HTD:=Lib.hid (HT.out.boxed' D0.out)
  go_wp2_with fail
  refine (zero_any T.kind T.args.length B d _ HZ.out.1 HZ.out.2).mono ?_
  rintro e w3 ⟨rfl,hb3⟩

  have HB3:=Lib.hid (D0.out.trans (hb3.mono D0.out.size))
  obtain ⟨_,_,p4⟩:=HSK.out _ HB3.out
  clear hb3
  go_wp2_with fail
  go_loopw [44] (fun ix wr=>∃ j:Nat,j≤l.length∧ix=.int .i64 j∧Below W.heap.size W wr) (fun ix _=>l.length - (intOf ix).toNat)
  case atStart=>exact ⟨0,by omega,rfl,HB3.out⟩
  case round=>
    obtain ⟨j,hj,rfl,hbr⟩:=hrel
    have hsz:=HB.out.size
    by_cases hlt:j<l.length
    · have hwr:Below w.heap.size w wr:=HB.out.trans (hbr.mono HB.out.size)
      have hs:TmR.Sl (· < w.heap.size) wr l (.slice A l.length c):=HL.out.keep (fun _ h=>h) (fun p hp=>hwr.cell hp)
      obtain ⟨a,rfl,ha,hat⟩:=hs.get j hlt
      obtain ⟨B1,d1,A1,c1,q0,q1,q2,q3,q4,hx⟩:=at_tm hat
      simp only [show TmR.n=5 from rfl] at q0 q1 q2 q3 q4
      have hnj:=bulkAll_get l j hlt
      have hxo:=okAllT_get HO.out j hlt
      have HX:=Lib.hid (And.intro hx hxo)
      have hws:=hwr.size
      have HBR:=Lib.hid hbr
      clear hs hat hx hxo hbr hwr
      go_wp2_with fail
      have bb:=(Below.refl wr.heap.size wr).alloc (Nat.le_refl _) (Obj.cells #[.int .i64 l[j].kind,.int .i64 l[j].index,.int .i64 l[j].type.kind,.slice B1 l[j].type.args.length d1,.slice A1 l[j].args.length c1] 42)
      refine (IH.out l[j] _ _ (by omega) (by omega) HX.out.2 (HX.out.1.keep (fun b hb=>by have h3:b<w.heap.size:=hb; simp; omega) (fun p hp=>World.cell?_alloc_lt _ _ _ (by have h3:p.block<w.heap.size:=hp; omega)))).mono ?_
      rintro e w2 ⟨rfl,hb2⟩
      have HB2:=Lib.hid (HBR.out.trans ((bb.trans (hb2.mono (by simp))).mono HBR.out.size))
      clear bb hb2
      go_wp2_with fail
      exact ⟨⟨j+1,by omega,by go_num,HB2.out⟩,by simp [intOf]; omega⟩
    · have hjl:j=l.length:=by omega
      subst hjl
      have HBR:=Lib.hid hbr
      clear hbr
      go_wp2_with fail
      go_ret
      exact ⟨rfl,HB.out.trans (HBR.out.mono HB.out.size)⟩


theorem shape_any:∀ n:Nat,ShapeIH n
  | 0=>fun t v w hn=>by have:=bulk_pos t; omega
  | n+1=>fun t v w hn hb hok ht=>by
    obtain ⟨k,i,T,l⟩:=t
    have ih:=shape_any n
    by_cases h1:k=1
    · subst h1; exact shape_one n ih i T l v w hn hb hok ht
    · by_cases h2:k=2
      · subst h2; exact shape_k2 n ih i T l v w hn hb hok ht
      · by_cases h6:k=6
        · subst h6; exact shape_k6 n ih i T l v w hn hb hok ht
        · by_cases h9:k=9
          · subst h9; exact shape_k9 n ih i T l v w hn hb hok ht
          · exact shape_other n ih k i T l v w h1 h2 h6 h9 hn hb hok ht

end Go.Proofs.YthlknhkemmdocaaGreatDoor
namespace Go.Proofs.YthlknhkemmdocaaGreatDoor
open Go.RowKit

theorem refCheckT_any (t:Tm) (v:Value) (w:World) (hok:t.ok=true) (hn:t.bulk≤400000) (hsz:t.size≤4096) (hT:IsTm (· < w.heap.size) w t v) :
    Calls Tryz.prog 86 #[v] w fun e w'=>e=.returned (.int .i64 0)∧Below w.heap.size w w':=by
  obtain ⟨k,i,T,l⟩:=t
  obtain ⟨B,d,A,c,rfl,_,_⟩:=hT.mk_parts
  obtain ⟨W,hW⟩:∃ W,W=w.alloc (Obj.cells #[.int .i64 k,.int .i64 i,.int .i64 T.kind,.slice B T.args.length d,.slice A l.length c] 42):=⟨_,rfl⟩
  obtain ⟨b1,z1,k1⟩:=new_blk (Below.refl w.heap.size w) (Nat.le_refl _) #[.int .i64 k,.int .i64 i,.int .i64 T.kind,.slice B T.args.length d,.slice A l.length c] 42
  rw [← hW] at b1 z1 k1
  obtain ⟨p0,p1,p2,p3,p4,_⟩:=k1.facts5
  have HB:=Lib.hid (And.intro b1 k1)
  have HT:=Lib.hid (show IsTm (· < W.heap.size) W (.mk k i T l) _ from hT.keep (fun b h=>Nat.lt_of_lt_of_le h b1.size) (fun p hp=>b1.cell hp))
  have HO:=Lib.hid hok
  clear b1 z1 k1 hT hok
  go_enter Tryz.func86,Tryz.ntmps86
  go_wp2_with fail
  rw [← hW]
  clear hW
  refine (shape_any _ (.mk k i T l) _ W (Nat.le_refl _) hn HO.out HT.out).mono ?_
  rintro e w1 ⟨rfl,hb1⟩
  obtain ⟨p0,p1,p2,p3,p4,_⟩:=(HB.out.2.below hb1 HB.out.2.lt).facts5
  have HB1:=Lib.hid hb1
  have HT1:=Lib.hid (show IsTm (· < w1.heap.size) w1 (.mk k i T l) _ from HT.out.keep (fun b h=>Nat.lt_of_lt_of_le h hb1.size) (fun p hp=>hb1.cell hp))
  clear hb1
  go_wp2_with fail
  refine (countT_any _ (.mk k i T l) _ w1 (Nat.le_refl _) hn HT1.out).mono ?_
  rintro e w2 ⟨rfl,hb2⟩
  have HB2:=Lib.hid (HB.out.1.trans ((HB1.out.trans (hb2.mono HB1.out.size)).mono HB.out.1.size))
  clear hb2
  obtain ⟨u,hu⟩:∃ u,(Tm.mk k i T l).size=u:=⟨_,rfl⟩
  rw [hu] at hsz ⊢
  clear hu
  go_wp2_with fail
  go_ret
  exact ⟨rfl,HB2.out⟩
end Go.Proofs.YthlknhkemmdocaaGreatDoor
namespace Go.Proofs.YthlknhkemmdocaaGreatDoor
open Go.RowKit

set_option maxRecDepth 100000 in
set_option maxHeartbeats 4000000 in
theorem sameT_refl (n:Nat):∀ (t:Tm) (u v:Value) (w:World),t.bulk≤n→n≤400000→IsTm (· < w.heap.size) w t u→IsTm (· < w.heap.size) w t v →
    Calls Tryz.prog 29 #[u,v] w fun e w'=>e=.returned (.bool true)∧Below w.heap.size w w':=by
  induction n with
  | zero=>intro t; have:=bulk_pos t; omega
  | succ n ih=>
    rintro ⟨k,i,T,l⟩ u v w hn hb hu hv
    obtain ⟨B,d,A,c,rfl,hT,hl⟩:=hu.mk_parts
    obtain ⟨B',d',A',c',rfl,hT',hl'⟩:=hv.mk_parts
    have hll:=bulkAll_len l
    simp only [Tm.bulk] at hn
    have IH:=Lib.hid ih
    have HL:=Lib.hid (And.intro hl hl')
    obtain ⟨b1,z1,k1⟩:=new_blk (Below.refl w.heap.size w) (Nat.le_refl _) #[.int .i64 k,.int .i64 i,.int .i64 T.kind,.slice B T.args.length d,.slice A l.length c] 42
    obtain ⟨b2,z2,k2⟩:=new_blk b1 b1.size #[.int .i64 k,.int .i64 i,.int .i64 T.kind,.slice B' T.args.length d',.slice A' l.length c'] 42
    have k1:=k1.alloc (Obj.cells #[.int .i64 k,.int .i64 i,.int .i64 T.kind,.slice B' T.args.length d',.slice A' l.length c'] 42)
    rw [z1] at k2 z2
    obtain ⟨W,hW⟩:∃ W,W=(w.alloc (Obj.cells #[.int .i64 k,.int .i64 i,.int .i64 T.kind,.slice B T.args.length d,.slice A l.length c] 42)).alloc (Obj.cells #[.int .i64 k,.int .i64 i,.int .i64 T.kind,.slice B' T.args.length d',.slice A' l.length c'] 42):=⟨_,rfl⟩
    rw [← hW] at b2 z2 k1 k2
    have HTY:=Lib.hid (And.intro (hT.boxed' b2) (hT'.boxed' b2))
    have hTn:T.nodes≤400000:=by omega
    have HKK:=Lib.hid (And.intro k1 (And.intro k2 b2))
    obtain ⟨p0,p1,p2,p3,p4,_⟩:=k1.facts5
    obtain ⟨s0,s1,s2,s3,s4,_⟩:=k2.facts5
    clear hu hv hT hT' hl hl' ih b1 z1 k1 k2
    go_enter Tryz.func29,Tryz.ntmps29
    go_wp2_with fail
    rw [← hW]
    clear hW
    refine (refSame_any 400000 T T _ _ W hTn (Nat.le_refl _) HTY.out.1 HTY.out.2 hTn).mono ?_
    rintro e W1 ⟨rfl,hbW⟩
    rw [eqb_self]
    have HBW:=Lib.hid hbW
    have HK2:=Lib.hid (And.intro (HKK.out.1.below hbW HKK.out.1.lt) (And.intro (HKK.out.2.1.below hbW HKK.out.2.1.lt) (HKK.out.2.2.trans (hbW.mono HKK.out.2.2.size))))
    obtain ⟨_,_,_,_,q4,_⟩:=HK2.out.1.facts5
    obtain ⟨_,_,_,_,r4,_⟩:=HK2.out.2.1.facts5
    clear hbW p0 p1 p2 p3 p4 s0 s1 s2 s3 s4
    go_wp2_with fail
    go_loopw [38] (fun ix wr=>∃ j:Nat,j≤l.length∧ix=.int .i64 j∧Below W1.heap.size W1 wr) (fun ix _=>l.length - (intOf ix).toNat)
    case atStart=>exact ⟨0,by omega,rfl,Below.refl _ _⟩
    case round=>
      obtain ⟨j,hj,rfl,hbel⟩:=hrel
      have hws:=hbel.size
      have hB2:Below w.heap.size w wr:=HK2.out.2.2.trans (hbel.mono HK2.out.2.2.size)
      by_cases hlt:j<l.length
      · have hl1:TmR.Sl (· < w.heap.size) wr l (.slice A l.length c):=HL.out.1.keep (fun _ h=>h) (fun p hp=>hB2.cell hp)
        have hm1:TmR.Sl (· < w.heap.size) wr l (.slice A' l.length c'):=HL.out.2.keep (fun _ h=>h) (fun p hp=>hB2.cell hp)
        obtain ⟨a,rfl,ha,hat⟩:=hl1.get j hlt
        obtain ⟨a',rfl,ha',hat'⟩:=hm1.get j hlt
        obtain ⟨B1,d1,A1,c1,q0,q1,q2,q3,q4',hx⟩:=at_tm hat
        obtain ⟨B2,d2,A2,c2,r0,r1,r2,r3,r4',hy⟩:=at_tm hat'
        simp only [show TmR.n=5 from rfl] at q0 q1 q2 q3 q4' r0 r1 r2 r3 r4'
        have hnj:=bulkAll_get l j hlt
        have hab:(a.add (j * 5)).block<w.heap.size:=by rw [add_block]; exact ha
        have hab':(a'.add (j * 5)).block<w.heap.size:=by rw [add_block]; exact ha'
        have hwz:=hB2.size
        have k1:=HK2.out.1.below hbel HK2.out.1.lt
        have k2:=HK2.out.2.1.below hbel HK2.out.2.1.lt
        have HSK:=Lib.hid fun (w1:World) (h:Below wr.heap.size wr w1)=>And.intro (k1.below h k1.lt).facts5.2.2.2.2.1 (And.intro (k2.below h k2.lt).facts5.2.2.2.2.1
          (And.intro ((h.cell (p:=a.add (j * 5)) (by omega)).trans q0) (And.intro ((h.cell (p:=⟨(a.add (j * 5)).block,(a.add (j * 5)).off+1,none⟩) (by show (a.add (j * 5)).block<_; omega)).trans q1)
            (And.intro ((h.cell (p:=⟨(a.add (j * 5)).block,(a.add (j * 5)).off+2,none⟩) (by show (a.add (j * 5)).block<_; omega)).trans q2) (And.intro ((h.cell (p:=⟨(a.add (j * 5)).block,(a.add (j * 5)).off+3,none⟩) (by show (a.add (j * 5)).block<_; omega)).trans q3)
              (And.intro ((h.cell (p:=⟨(a.add (j * 5)).block,(a.add (j * 5)).off+4,none⟩) (by show (a.add (j * 5)).block<_; omega)).trans q4')
          (And.intro ((h.cell (p:=a'.add (j * 5)) (by omega)).trans r0) (And.intro ((h.cell (p:=⟨(a'.add (j * 5)).block,(a'.add (j * 5)).off+1,none⟩) (by show (a'.add (j * 5)).block<_; omega)).trans r1)
            (And.intro ((h.cell (p:=⟨(a'.add (j * 5)).block,(a'.add (j * 5)).off+2,none⟩) (by show (a'.add (j * 5)).block<_; omega)).trans r2) (And.intro ((h.cell (p:=⟨(a'.add (j * 5)).block,(a'.add (j * 5)).off+3,none⟩) (by show (a'.add (j * 5)).block<_; omega)).trans r3)
              ((h.cell (p:=⟨(a'.add (j * 5)).block,(a'.add (j * 5)).off+4,none⟩) (by show (a'.add (j * 5)).block<_; omega)).trans r4')))))))))))
        have ARM:=Lib.hid (show Calls Tryz.prog 29 #[.agg #[.int .i64 l[j].kind,.int .i64 l[j].index,.int .i64 l[j].type.kind,.slice B1 l[j].type.args.length d1,.slice A1 l[j].args.length c1],
            .agg #[.int .i64 l[j].kind,.int .i64 l[j].index,.int .i64 l[j].type.kind,.slice B2 l[j].type.args.length d2,.slice A2 l[j].args.length c2]] wr.drew fun e w'=>e=.returned (.bool true)∧Below wr.heap.size wr w' by
          refine (IH.out l[j] _ _ wr.drew (by omega) (by omega) (hx.keep (fun b h=>Nat.lt_of_lt_of_le h hwz) (fun p _=>World.cell?_drew _ p)) (hy.keep (fun b h=>Nat.lt_of_lt_of_le h hwz) (fun p _=>World.cell?_drew _ p))).mono ?_
          rintro e w1 ⟨h1,h2⟩
          exact ⟨h1,((Below.refl _ wr).drew).trans h2⟩)
        obtain ⟨m0,m1,_⟩:=HSK.out wr (Below.refl _ _)
        have HBL:=Lib.hid hbel
        clear hl1 hm1 hat hat' hx hy k1 k2 q0 q1 q2 q3 q4' r0 r1 r2 r3 r4' hbel hB2
        go_wp2_with fail
        go_region_held3 (fun w'=>w'.cell? ⟨w.heap.size,4,none⟩ = some (.slice (some a) l.length c)∧w'.cell? ⟨w.heap.size+1,4,none⟩ = some (.slice (some a') l.length c') ∧
            w'.cell? (a.add (j * 5))=some (.int .i64 l[j].kind)∧w'.cell? ⟨(a.add (j * 5)).block,(a.add (j * 5)).off+1,none⟩ = some (.int .i64 l[j].index)∧w'.cell? ⟨(a.add (j * 5)).block,(a.add (j * 5)).off+2,none⟩ = some (.int .i64 l[j].type.kind) ∧
            w'.cell? ⟨(a.add (j * 5)).block,(a.add (j * 5)).off+3,none⟩ = some (.slice B1 l[j].type.args.length d1)∧w'.cell? ⟨(a.add (j * 5)).block,(a.add (j * 5)).off+4,none⟩ = some (.slice A1 l[j].args.length c1) ∧
            w'.cell? (a'.add (j * 5))=some (.int .i64 l[j].kind)∧w'.cell? ⟨(a'.add (j * 5)).block,(a'.add (j * 5)).off+1,none⟩ = some (.int .i64 l[j].index)∧w'.cell? ⟨(a'.add (j * 5)).block,(a'.add (j * 5)).off+2,none⟩ = some (.int .i64 l[j].type.kind) ∧
            w'.cell? ⟨(a'.add (j * 5)).block,(a'.add (j * 5)).off+3,none⟩ = some (.slice B2 l[j].type.args.length d2)∧w'.cell? ⟨(a'.add (j * 5)).block,(a'.add (j * 5)).off+4,none⟩ = some (.slice A2 l[j].args.length c2))
          (first | with_reducible exact HSK.out _ (Below.refl _ _).drew | with_reducible exact HSK.out _ HB1.out | go_keep)
          (first
            | (go_at_call 29
               (with_reducible refine ARM.out.mono ?_)
               rintro e w1 ⟨rfl,hb1⟩
               have HB1:=Lib.hid hb1
               clear hb1))
        go_wp2_with fail
        exact ⟨⟨j+1,by omega,by go_num,HBL.out.trans (HB1.out.mono hws)⟩,by simp [intOf]; omega⟩
      · have hjl:j=l.length:=by omega
        subst hjl
        clear hbel
        go_wp2_with fail
        go_ret
        exact ⟨rfl,hB2⟩
end Go.Proofs.YthlknhkemmdocaaGreatDoor
