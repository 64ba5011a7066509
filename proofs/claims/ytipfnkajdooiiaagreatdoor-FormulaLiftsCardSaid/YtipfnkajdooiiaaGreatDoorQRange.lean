/- A range over a function whose iterator keeps cells of its own between two rounds: the caller's variables lie below the iterator's, the rest is new. -/
import Derived.Test.YtipfnkajdooiiaaGreatDoorQForms
import Derived.RangeFuncNested
import Derived.RangeFuncBound
import Derived.RangeFuncCalls
import Derived.RangeFuncLeaves
import Derived.RangeFuncBox
import Derived.Shelf.Abstract
import Derived.OwnWalkIn
import Derived.TacticsInMore
import Derived.LoopNIn
import Derived.LoopIn
import Derived.Maps.OwnIn
namespace Go.Proofs.YtipfnkajdooiiaaGreatDoor
open Go.RowKit Go.Shelf

/-- Whatever lay below n₀, or from B on, lies as it lay; nothing has gone. -/
structure Kept (n₀ B:Nat) (w w':World):Prop where
 os:w'.os=w.os
 tape:w'.tape=w.tape
 output:w'.output=w.output
 size:w.heap.size≤w'.heap.size
 block:∀ k,k<w.heap.size→(k<n₀∨B≤k)→w'.heap[k]? = w.heap[k]?

namespace Kept
theorem of_below {n₀ B m:Nat} {a b:World} (h:Below m a b) (hm:a.heap.size≤m):Kept n₀ B a b:=⟨h.os,h.tape,h.output,h.size,fun i hi _=>h.block i (by omega)⟩
theorem refl (n₀ B:Nat) (w:World):Kept n₀ B w w:=⟨rfl,rfl,rfl,Nat.le_refl _,fun _ _ _=>rfl⟩
theorem trans {n₀ B:Nat} {a b c:World} (h:Kept n₀ B a b) (k:Kept n₀ B b c):Kept n₀ B a c:=
 ⟨k.os.trans h.os,k.tape.trans h.tape,k.output.trans h.output,Nat.le_trans h.size k.size,fun i hi hb=>(k.block i (Nat.lt_of_lt_of_le hi h.size) hb).trans (h.block i hi hb)⟩
theorem mono {n₀ B B':Nat} {a b:World} (h:Kept n₀ B a b) (hB:B≤B'):Kept n₀ B' a b:=
 ⟨h.os,h.tape,h.output,h.size,fun i hi hb=>h.block i hi (by omega)⟩
theorem of_grownBy {n₀ B:Nat} {a b:World} {row:Option Nat} (hg:a.grownBy b row) (hr:∀ k,row=some k→n₀≤k∧k<B):Kept n₀ B a b:=
 ⟨hg.os,hg.tape,hg.output,hg.size,fun i hi hb=>hg.block i hi (fun e=>by have:=hr i e.symm; omega)⟩
theorem below {n₀ B:Nat} {a b:World} (h:Kept n₀ B a b) (hn:n₀≤a.heap.size):Below n₀ a b:=
 ⟨h.os,h.tape,h.output,h.size,fun i hi=>h.block i (by omega) (.inl hi)⟩
end Kept

/-- What is said of a world is kept while nothing below B turns. -/
def Low (B:Nat) (I:World→Prop):Prop:=∀ W W',I W→Below B W W'→I W'

/-- What an iterator (function gf with lb captured) promises at a wide fence: the xs come, one after the other, until a round says no. -/
def Iterates (P:Program) (n n₀ gf:Nat) (lb:Array Value) {α:Type} (enc:α→Array Value→World→Prop) (xs:List α) (w:World):Prop:=
 ∀ (l:Nat) (J:List α→World→Prop) (Jx:World→Prop) (W:World),Below w.heap.size w W→(∀ pre,Low W.heap.size (J pre))→Low W.heap.size Jx →
   (∀ pre x args W1,J pre W1→pre ++ [x] <+: xs→W.heap.size≤W1.heap.size→enc x args W1→YieldAt Fence.wide (n - 1) P l args W1 fun e W'=>
     (e=.returned (.bool true)∧J (pre ++ [x]) W'∧Kept n₀ W.heap.size W1 W')∨(e=.returned (.bool false)∧Jx W'∧Kept n₀ W.heap.size W1 W')) →
   J [] W→CallsIn Fence.wide n P gf (#[.func (.yield l) #[] #[]] ++ lb) W fun e W'=>(∃ v,e=.returned v)∧(J xs W'∨Jx W')

/-- How a round may be left. -/
def roundEnds {α:Type} (I:List α→World→Prop) (Ix:Code→World→Prop) (n₀ B:Nat) (pre:List α) (W:World):Exit→Act→World→Prop
 | .normal,_,W'=>Kept n₀ B W W'∧I pre W'
 | .ret,_,W'=>Kept n₀ B W W'∧Ix .ret W'
 | .exit id,_,W'=>Kept n₀ B W W'∧Ix (.exit id) W'
 | .goto t,_,W'=>Kept n₀ B W W'∧Ix (.goto t) W'
 | .panic _,_,_=>False
 | .outgrown,_,_=>False

theorem below_putObj {B:Nat} (W:World) (l:Nat) (o:Obj) (hl:B≤l) (hW:B≤W.heap.size):Below B W (W.putObj l o):=
 (Below.refl B W).grown (grownBy_putObj' W l o) hW (fun k e=>by cases e; exact hl)

theorem range_wp {P:Program} {n:Nat} (h1:1≤n) {g:Operand} {ps:Array Tmp} {assign body:Code} {Q:Exit→Act→World→Prop} {a:Act} {w:World} {gf:Nat} {lb:Array Value}
   (hg:a.eval g=.func (.func gf) #[] lb) (eg:∀ args w,(callFunc gf args).run P w=.ok (.enter gf args) w)
   {n₀:Nat} (hn₀:n₀≤w.heap.size) {α:Type} {enc:α→Array Value→World→Prop} {xs:List α} (henc:∀ x args W,enc x args W→args.size=ps.size)
   (hseq:Iterates P (n - 1) n₀ gf lb enc xs w)
   (I:List α→World→Prop) (Ix:Code→World→Prop) (hI:∀ pre,Low w.heap.size (I pre)) (hIx:∀ c,Low w.heap.size (Ix c)) (h0:I [] w)
   (hround:∀ pre x args W,I pre W→pre ++ [x] <+: xs→w.heap.size+2≤W.heap.size→enc x args W →
     assign.wpIn (Fence.wide.inRound (w.heap.size+1)) (n - 1 - 1) P (Exit.then (fun a₁ W₁=>Below W.heap.size W W₁ ∧
         ∀ W₂,W₁.grownBy W₂ (some (w.heap.size+1))→I pre W₂→body.wpIn (Fence.wide.inRound (w.heap.size+1)) (n - 1 - 1) P (roundEnds I Ix n₀ w.heap.size (pre ++ [x]) W₂) a₁ W₂) (fun _ _ _=>False))
       { tmps:=(ps.zip args).foldl (fun t (p,v)=>t.setIfInBounds p v) a.tmps,defers:=[] } W)
   (hdone:∀ W,I xs W→w.heap.size<W.heap.size→W.heap[w.heap.size]? = some (.deferred (some []))→Q .normal { a with defers:={ target:=.collected w.heap.size,args:=#[] } :: a.defers } W)
   (hstop:∀ c W,Ix c W→w.heap.size<W.heap.size→W.heap[w.heap.size]? = some (.deferred (some []))→c.wpIn Fence.wide n P Q { a with defers:={ target:=.collected w.heap.size,args:=#[] } :: a.defers } W) :
   (Code.rangeFunc g ps assign body).wpIn Fence.wide n P Q a w:=by
 refine wpIn_rangeFunc fun fn hfn=>?_
 let rec_:LoopState→Option Code→Loop:=fun st pe=>{ state:=st,pending:=pe,fn,tmps:=a.tmps,params:=ps,assign,body,defers:=w.heap.size }
 let W1:World:=(w.alloc (.deferred (some []))).alloc (.loop (rec_ .ready none))
 have hz1:W1.heap.size=w.heap.size+2:=by simp [W1]
 have hL1:W1.heap[w.heap.size+1]? = some (.loop (rec_ .ready none)):=by
   have:=World.alloc_heap_new (w.alloc (.deferred (some []))) (.loop (rec_ .ready none))
   rwa [World.size_alloc] at this
 have hK1:W1.heap[w.heap.size]? = some (.deferred (some [])):=
   (Below.heap_alloc _ _ _ (by simp)).trans (World.alloc_heap_new w _)
 have hb1:Below w.heap.size w W1:=((Below.refl _ w).alloc (Nat.le_refl _) _).alloc (by simp) _
 refine ⟨w.heap.size+1,[{ target:=.collected w.heap.size,args:=#[] }],W1,{ target:=.fn (.func gf) lb,args:=#[.func (.yield (w.heap.size+1)) #[] #[]] },W1,gf,
   #[.func (.yield (w.heap.size+1)) #[] #[]] ++ lb,W1,run_enterLoop_outer _ _ _ _ _,?_,fun _ _=>trivial,?_,fun _=>h1,?_⟩
 · simp only [resolve,hg]
   simp [go_sem]
 · simp [invoke,go_sem,eg]
 -- one block of the loop's own may turn
 have own:∀ (W:World) (o:Obj),w.heap.size+1<W.heap.size→Below w.heap.size W (W.putObj (w.heap.size+1) o)∧Kept n₀ W1.heap.size W (W.putObj (w.heap.size+1) o):=
   fun W o hW=>⟨below_putObj W _ o (by omega) (by omega),Kept.of_grownBy (grownBy_putObj' W _ o) (fun k e=>by cases e; omega)⟩
 refine (hseq (w.heap.size+1)
   (fun pre W=>I pre W∧W.heap[w.heap.size+1]? = some (.loop (rec_ .ready none))∧W.heap[w.heap.size]? = some (.deferred (some [])))
   (fun W=>∃ c,Ix c W∧W.heap[w.heap.size+1]? = some (.loop (rec_ .done (some c)))∧W.heap[w.heap.size]? = some (.deferred (some [])))
   W1 hb1 ?_ ?_ ?_ ⟨hI _ _ _ h0 hb1,hL1,hK1⟩).mono ?_
 · rintro pre A B ⟨hi,hl,hk⟩ hAB
   exact ⟨hI _ _ _ hi (hAB.mono (by omega)),(hAB.block _ (by omega)).trans hl,(hAB.block _ (by omega)).trans hk⟩
 · rintro A B ⟨c,hi,hl,hk⟩ hAB
   exact ⟨c,hIx _ _ _ hi (hAB.mono (by omega)),(hAB.block _ (by omega)).trans hl,(hAB.block _ (by omega)).trans hk⟩
 · rintro pre x args W ⟨hi,hl,hk⟩ hpre hW hx
   have hlt:w.heap.size+1<W.heap.size:=(Array.getElem?_eq_some_iff.1 hl).1
   have hy:=run_yield (P:=P) (args:=args) hl (henc x args W hx)
   refine ⟨fn,_,assign,body,hy,roundIn_of_wpIn hfn (wpIn_mono (hround pre x args W hi hpre (by omega) hx) ?_)⟩
   intro e a₁ W₁ h
   cases e with
   | normal=>
     obtain ⟨hb,hbody⟩:=h
     have hk1:Kept n₀ w.heap.size W W₁:=Kept.of_below hb (Nat.le_refl _)
     have hl1:W₁.heap[w.heap.size+1]? = some (.loop (rec_ .ready none)):=(hb.block _ hlt).trans hl
     have hlt1:=(Array.getElem?_eq_some_iff.1 hl1).1
     have hkd1:W₁.heap[w.heap.size]? = some (.deferred (some [])):=(hb.block _ (by omega)).trans hk
     refine ⟨_,run_beginRound hl1 rfl,?_⟩
     obtain ⟨hbb,hkk⟩:=own W₁ (.loop { rec_ .ready none with state:=.busy }) hlt1
     have hi2:=hI pre _ _ (hI pre _ _ hi (hb.mono (by omega))) hbb
     have hl2:(W₁.putObj (w.heap.size+1) (.loop { rec_ .ready none with state:=.busy })).heap[w.heap.size+1]? = some (.loop { rec_ .ready none with state:=.busy }):=World.putObj_heap_same hlt1
     have hk2:(W₁.putObj (w.heap.size+1) (.loop { rec_ .ready none with state:=.busy })).heap[w.heap.size]? = some (.deferred (some [])):=(World.putObj_heap_other (by omega)).trans hkd1
     have hz2:(W₁.putObj (w.heap.size+1) (.loop { rec_ .ready none with state:=.busy })).heap.size=W₁.heap.size:=by simp
     refine wpIn_mono (hbody _ (grownBy_putObj' W₁ _ _) hi2) ?_
     have hk12:Kept n₀ W1.heap.size W (W₁.putObj (w.heap.size+1) (.loop { rec_ .ready none with state:=.busy })):=(hk1.mono (by omega)).trans hkk
     -- behind the body
     have fin:∀ (jump:Option Code) (W3:World),Kept n₀ w.heap.size (W₁.putObj (w.heap.size+1) (.loop { rec_ .ready none with state:=.busy })) W3 →
         (Instr.endRound (w.heap.size+1) jump).run P W3=.ok (.bool jump.isNone) (W3.putObj (w.heap.size+1) (.loop (rec_ (if jump.isNone then .ready else .done) jump))) ∧
         (W3.putObj (w.heap.size+1) (.loop (rec_ (if jump.isNone then .ready else .done) jump))).heap[w.heap.size+1]? = some (.loop (rec_ (if jump.isNone then .ready else .done) jump)) ∧
         (W3.putObj (w.heap.size+1) (.loop (rec_ (if jump.isNone then .ready else .done) jump))).heap[w.heap.size]? = some (.deferred (some [])) ∧
         Below w.heap.size W3 (W3.putObj (w.heap.size+1) (.loop (rec_ (if jump.isNone then .ready else .done) jump))) ∧
         Kept n₀ W1.heap.size W (W3.putObj (w.heap.size+1) (.loop (rec_ (if jump.isNone then .ready else .done) jump))):=by
       intro jump W3 hk3
       have hl3:W3.heap[w.heap.size+1]? = some (.loop { rec_ .ready none with state:=.busy }):=(hk3.block _ (by omega) (.inr (by omega))).trans hl2
       have hd3:W3.heap[w.heap.size]? = some (.deferred (some [])):=(hk3.block _ (by omega) (.inr (Nat.le_refl _))).trans hk2
       have hlt3:=(Array.getElem?_eq_some_iff.1 hl3).1
       obtain ⟨g1,g2⟩:=own W3 (.loop (rec_ (if jump.isNone then .ready else .done) jump)) hlt3
       exact ⟨run_endRound jump hl3,World.putObj_heap_same hlt3,(World.putObj_heap_other (by omega)).trans hd3,g1,(hk12.trans (hk3.mono (by omega))).trans g2⟩
     intro e a₃ W3 hp
     cases e with
     | normal=>
       obtain ⟨hk3,hi3⟩:=hp
       obtain ⟨hr,hl4,hk4,hb4,hkp⟩:=fin none W3 hk3
       exact ⟨_,_,hr,.inl ⟨rfl,⟨hI _ _ _ hi3 hb4,hl4,hk4⟩,hkp⟩⟩
     | ret=>
       obtain ⟨hk3,hi3⟩:=hp
       obtain ⟨hr,hl4,hk4,hb4,hkp⟩:=fin (some .ret) W3 hk3
       exact ⟨_,_,hr,.inr ⟨rfl,⟨.ret,hIx _ _ _ hi3 hb4,hl4,hk4⟩,hkp⟩⟩
     | exit id=>
       obtain ⟨hk3,hi3⟩:=hp
       obtain ⟨hr,hl4,hk4,hb4,hkp⟩:=fin (some (.exit id)) W3 hk3
       exact ⟨_,_,hr,.inr ⟨rfl,⟨.exit id,hIx _ _ _ hi3 hb4,hl4,hk4⟩,hkp⟩⟩
     | goto t=>
       obtain ⟨hk3,hi3⟩:=hp
       obtain ⟨hr,hl4,hk4,hb4,hkp⟩:=fin (some (.goto t)) W3 hk3
       exact ⟨_,_,hr,.inr ⟨rfl,⟨.goto t,hIx _ _ _ hi3 hb4,hl4,hk4⟩,hkp⟩⟩
     | panic ch=>exact hp.elim
     | outgrown=>exact hp.elim
   | _=>exact h.elim
 · rintro e W2 ⟨⟨v,rfl⟩,(⟨hi,hl,hk⟩ | ⟨c,hi,hl,hk⟩)⟩
   · have hlt:=(Array.getElem?_eq_some_iff.1 hl).1
     exact ⟨none,_,run_endLoop hl (by simp [rec_]),hdone _ (hI _ _ _ hi (own W2 _ hlt).1) (by simp; omega) ((World.putObj_heap_other (by omega)).trans hk)⟩
   · have hlt:=(Array.getElem?_eq_some_iff.1 hl).1
     exact ⟨some c,_,run_endLoop hl (by simp [rec_]),hstop c _ (hIx _ _ _ hi (own W2 _ hlt).1) (by simp; omega) ((World.putObj_heap_other (by omega)).trans hk)⟩

end Go.Proofs.YtipfnkajdooiiaaGreatDoor
