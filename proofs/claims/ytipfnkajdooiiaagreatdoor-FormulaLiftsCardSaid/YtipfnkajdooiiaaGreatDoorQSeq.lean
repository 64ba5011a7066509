/- Lists of structs in memory, whatever the struct: as slices, and as slices of the call's own. -/
import Derived.Test.YtipfnkajdooiiaaGreatDoorQForms
import Derived.Deep.LoopGhost
namespace Go.Proofs.YtipfnkajdooiiaaGreatDoor
open Go.RowKit

/-- How a value of a type lies in cells: n of them, of the element type t, its own lists in blocks of a set. -/
structure Rep (α:Type) where
 n:Nat
 t:TypeId
 is:(Nat→Prop)→World→α→List Value→Prop
 pos:0<n
 len:∀ {S:Nat→Prop} {w:World} {x:α} {vs:List Value},is S w x vs→vs.length=n
 one:∀ {S:Nat→Prop} {w:World} {x:α} {vs:List Value},is S w x vs→∀ u ∈ vs,u.oneCell' = true
 keep:∀ {S S':Nat→Prop} {w w':World} {x:α} {vs:List Value},(∀ b,S b→S' b)→(∀ p:Addr,S p.block→w'.cell? p=w.cell? p)→is S w x vs→is S' w' x vs

/-- Blocks outside of X stay; nothing goes. -/
structure Turn (X:Nat→Prop) (w w':World):Prop where
 os:w'.os=w.os
 tape:w'.tape=w.tape
 output:w'.output=w.output
 size:w.heap.size≤w'.heap.size
 block:∀ k,k<w.heap.size→¬ X k→w'.heap[k]? = w.heap[k]?

namespace Turn
variable {X Y : Nat → Prop} {a b c : World}
theorem refl (X:Nat→Prop) (w:World):Turn X w w:=⟨rfl,rfl,rfl,Nat.le_refl _,fun _ _ _=>rfl⟩
theorem trans (h:Turn X a b) (k:Turn X b c):Turn X a c:=
 ⟨k.os.trans h.os,k.tape.trans h.tape,k.output.trans h.output,Nat.le_trans h.size k.size,fun i hi hx=>(k.block i (Nat.lt_of_lt_of_le hi h.size) hx).trans (h.block i hi hx)⟩
theorem mono (h:Turn X a b) (hx:∀ k,k<a.heap.size→X k→Y k):Turn Y a b:=⟨h.os,h.tape,h.output,h.size,fun i hi hy=>h.block i hi (fun e=>hy (hx i hi e))⟩
theorem below {B:Nat} (h:Below B a b) (hB:∀ k,B≤k→k<a.heap.size→X k):Turn X a b:=
 ⟨h.os,h.tape,h.output,h.size,fun i hi hx=>h.block i (Nat.lt_of_not_le fun e=>hx (hB i e hi))⟩
theorem call (h:Below a.heap.size a b):Turn X a b:=below h fun k h1 h2=>by omega
theorem grown {row:Option Nat} (h:a.grownBy b row) (hr:∀ k,row=some k→X k):Turn X a b:=⟨h.os,h.tape,h.output,h.size,fun i hi hx=>h.block i hi (fun e=>hx (hr i e.symm))⟩
theorem drew (w:World):Turn X w w.drew:=⟨rfl,rfl,rfl,Nat.le_refl _,fun _ _ _=>rfl⟩
theorem alloc (w:World) (o:Obj):Turn X w (w.alloc o):=grown (World.grownBy_alloc w o none) (fun _ e=>by cases e)
theorem setCell (w:World) (p:Addr) (u:Value) (h:X p.block):Turn X w (w.setCell p u):=
 grown (only_setCell (only_refl w (some p.block)) (.inl rfl) u) (fun k e=>by cases e; exact h)
theorem toBelow {B:Nat} (h:Turn X a b) (hB:∀ k,k<B→¬ X k) (hs:B≤a.heap.size):Below B a b:=⟨h.os,h.tape,h.output,h.size,fun i hi=>h.block i (by omega) (hB i hi)⟩
theorem blk (h:Turn X a b) {g:Nat} {t:TypeId} {cs:Array Value} (hb:Blk a g t cs) (hx:¬ X g):Blk b g t cs:=hb.carry (h.block g hb.lt hx)
end Turn

/-- Blocks that are there and that no turn of X meets. -/
def Good (X:Nat→Prop) (w:World) (b:Nat):Prop:=¬ X b∧b<w.heap.size

namespace Rep
variable {α : Type} (R : Rep α)

theorem turn {X Y:Nat→Prop} {w w':World} {x:α} {vs:List Value} (h:R.is (Good X w) w x vs) (ht:Turn X w w') (hY:∀ b,b<w.heap.size→Y b→X b:=by intro b _ h; exact h):R.is (Good Y w') w' x vs:=
 R.keep (fun b hb=>⟨fun e=>hb.1 (hY b hb.2 e),Nat.lt_of_lt_of_le hb.2 ht.size⟩) (fun p hp=>World.cell?_of_block (ht.block p.block hp.2 hp.1)) h

/-- Something at an address. -/
def At (S:Nat→Prop) (w:World) (x:α) (a:Addr):Prop:=∃ vs,R.is S w x vs∧∀ j u,vs[j]? = some u→w.cell? (a.add j)=some u
/-- A list from an address on. -/
def Arr (S:Nat→Prop) (w:World) (l:List α) (a:Addr):Prop:=∀ i (hi:i<l.length),R.At S w l[i] (a.add (i * R.n))
/-- A slice. -/
def Sl (S:Nat→Prop) (w:World) (l:List α) (v:Value):Prop:=∃ A c,v=.slice A l.length c∧(l≠[]→∃ a,A=some a∧S a.block∧R.Arr S w l a)
/-- Cells that are a list. -/
def Ch (S:Nat→Prop) (w:World) (l:List α) (xs:List Value):Prop:=
 xs.length=l.length * R.n∧∀ i (hi:i<l.length),∃ vs,(∀ j u,vs[j]? = some u→xs[i * R.n+j]? = some u)∧R.is S w l[i] vs
/-- A slice of the call's own; what it holds lies in blocks of S, none in the slice's own. -/
def Own (S:Nat→Prop) (base:Nat) (v:Value) (l:List α) (w:World):Prop:=
 ∃ xs,w.ownsRow base R.t R.n v l.length xs∧R.Ch (fun b=>S b∧b<w.heap.size∧v.ownBlock≠some b) w l xs

variable {R}
theorem At.keep {S S':Nat→Prop} {w w':World} {x:α} {a:Addr} (hS:∀ b,S b→S' b) (hc:∀ p:Addr,S p.block→w'.cell? p=w.cell? p) (ha:S a.block) (h:R.At S w x a):R.At S' w' x a:=by
 obtain ⟨vs,h1,h2⟩:=h
 exact ⟨vs,R.keep hS hc h1,fun j u hu=>(hc _ (by rw [add_block]; exact ha)).trans (h2 j u hu)⟩
theorem Arr.keep {S S':Nat→Prop} {w w':World} {l:List α} {a:Addr} (hS:∀ b,S b→S' b) (hc:∀ p:Addr,S p.block→w'.cell? p=w.cell? p) (ha:S a.block) (h:R.Arr S w l a):R.Arr S' w' l a:=
 fun i hi=>(h i hi).keep hS hc (by rw [add_block]; exact ha)
theorem Sl.keep {S S':Nat→Prop} {w w':World} {l:List α} {v:Value} (hS:∀ b,S b→S' b) (hc:∀ p:Addr,S p.block→w'.cell? p=w.cell? p) (h:R.Sl S w l v):R.Sl S' w' l v:=by
 obtain ⟨A,c,hv,h⟩:=h
 refine ⟨A,c,hv,fun hl=>?_⟩
 obtain ⟨a,ha,hs,h⟩:=h hl
 exact ⟨a,ha,hS _ hs,h.keep hS hc hs⟩
theorem Sl.turn {X Y:Nat→Prop} {w w':World} {l:List α} {v:Value} (h:R.Sl (Good X w) w l v) (ht:Turn X w w') (hY:∀ b,b<w.heap.size→Y b→X b:=by intro b _ h; exact h):R.Sl (Good Y w') w' l v:=
 Sl.keep (fun b hb=>⟨fun e=>hb.1 (hY b hb.2 e),Nat.lt_of_lt_of_le hb.2 ht.size⟩) (fun p hp=>World.cell?_of_block (ht.block p.block hp.2 hp.1)) h
theorem Sl.nil (S:Nat→Prop) (w:World):R.Sl S w [] (.slice none 0 0):=⟨none,0,rfl,fun h=>(h rfl).elim⟩
theorem Sl.form {S:Nat→Prop} {w:World} {l:List α} {v:Value} (h:R.Sl S w l v):∃ A c,v=.slice A l.length c:=by
 obtain ⟨A,c,hv,_⟩:=h
 exact ⟨A,c,hv⟩
/-- Element i: its address, and that it is there. -/
theorem Sl.get {S:Nat→Prop} {w:World} {l:List α} {A:Option Addr} {n c:Nat} (h:R.Sl S w l (.slice A n c)) (i:Nat) (hi:i<l.length):∃ a,A=some a∧S a.block∧R.At S w l[i] (a.add (i * R.n)):=by
 obtain ⟨A',c',e,h⟩:=h
 simp at e
 obtain ⟨rfl,_,_⟩:=e
 obtain ⟨a,rfl,hs,h⟩:=h (by intro e; subst e; simp at hi)
 exact ⟨a,rfl,hs,h i hi⟩
theorem Sl.none_nil {S:Nat→Prop} {w:World} {l:List α} {n c:Nat} (h:R.Sl S w l (.slice none n c)):l=[]:=by
 cases l with
 | nil=>rfl
 | cons x r=>
   obtain ⟨a,h1,_⟩:=h.get 0 (by simp)
   cases h1

theorem Ch.nil (S:Nat→Prop) (w:World):R.Ch S w [] []:=⟨by simp,fun i hi=>by simp at hi⟩
theorem Ch.keep {S S':Nat→Prop} {w w':World} {l:List α} {xs:List Value} (hS:∀ b,S b→S' b) (hc:∀ p:Addr,S p.block→w'.cell? p=w.cell? p) (h:R.Ch S w l xs):R.Ch S' w' l xs:=
 ⟨h.1,fun i hi=>by obtain ⟨vs,h1,h2⟩:=h.2 i hi; exact ⟨vs,h1,R.keep hS hc h2⟩⟩
theorem Ch.one {S:Nat→Prop} {w:World} {x:α} {vs:List Value} (h:R.is S w x vs):R.Ch S w [x] vs:=
 ⟨by simpa using R.len h,fun i hi=>by
   have:i=0:=by simpa using hi
   subst this
   exact ⟨vs,fun j u hu=>by simpa using hu,h⟩⟩
theorem Ch.append {S:Nat→Prop} {w:World} {l m:List α} {xs ys:List Value} (h:R.Ch S w l xs) (k:R.Ch S w m ys):R.Ch S w (l ++ m) (xs ++ ys):=by
 refine ⟨by simp [h.1,k.1,Nat.add_mul],fun i hi=>?_⟩
 by_cases hl:i<l.length
 · obtain ⟨vs,h1,h2⟩:=h.2 i hl
   refine ⟨vs,fun j u hu=>?_,by rw [List.getElem_append_left hl]; exact h2⟩
   have hx:=h1 j u hu
   have hlt:=(List.getElem?_eq_some_iff.1 hx).1
   rw [List.getElem?_append_left hlt]; exact hx
 · have hi':i<l.length+m.length:=by simpa using hi
   obtain ⟨vs,h1,h2⟩:=k.2 (i - l.length) (by omega)
   refine ⟨vs,fun j u hu=>?_,by rw [List.getElem_append_right (by omega)]; exact h2⟩
   have hx:=h1 j u hu
   have e:i * R.n+j - xs.length=(i - l.length) * R.n+j:=by
     rw [h.1,Nat.sub_mul]
     have:=Nat.mul_le_mul_right R.n (Nat.le_of_not_lt hl)
     omega
   have hge:xs.length≤i * R.n+j:=by
     rw [h.1]
     have:=Nat.mul_le_mul_right R.n (Nat.le_of_not_lt hl)
     omega
   rw [List.getElem?_append_right hge,e]; exact hx
theorem Ch.take {S:Nat→Prop} {w:World} {l m:List α} {xs:List Value} (h:R.Ch S w (l ++ m) xs):R.Ch S w l (xs.take (l.length * R.n)):=by
 refine ⟨by have:=h.1; simp [Nat.add_mul] at this; simp; omega,fun i hi=>?_⟩
 obtain ⟨vs,h1,h2⟩:=h.2 i (by simp; omega)
 rw [List.getElem_append_left hi] at h2
 refine ⟨vs,fun j u hu=>?_,h2⟩
 have hj:=(List.getElem?_eq_some_iff.1 hu).1
 rw [R.len h2] at hj
 have h3:i * R.n+R.n≤l.length * R.n:=by
   have:=Nat.mul_le_mul_right R.n (show i+1≤l.length from hi)
   rw [Nat.add_mul,Nat.one_mul] at this
   exact this
 rw [List.getElem?_take,if_pos (by omega)]
 exact h1 j u hu
/-- Element i of the cells, written anew. -/
theorem Ch.set_ {S:Nat→Prop} {w:World} {l:List α} {xs ys:List Value} {x:α} {vs:List Value} (h:R.Ch S w l xs) (i:Nat) (hi:i<l.length) (hx:R.is S w x vs) (hl:ys.length=xs.length)
   (h1:∀ j u,vs[j]? = some u→ys[i * R.n+j]? = some u) (h2:∀ k,(k<i * R.n∨i * R.n+R.n≤k)→ys[k]? = xs[k]?):R.Ch S w (l.set i x) ys:=by
 refine ⟨by rw [hl,h.1,List.length_set],fun k hk=>?_⟩
 rw [List.length_set] at hk
 by_cases e:k=i
 · subst e
   exact ⟨vs,h1,by rw [List.getElem_set_self]; exact hx⟩
 · obtain ⟨us,g1,g2⟩:=h.2 k hk
   refine ⟨us,fun j u hu=>?_,by rw [List.getElem_set_ne (Ne.symm e)]; exact g2⟩
   have hj:=(List.getElem?_eq_some_iff.1 hu).1
   rw [R.len g2] at hj
   rw [h2 _ ?_]
   · exact g1 j u hu
   · rcases Nat.lt_or_gt_of_ne e with h3 | h3
     · left
       have:=Nat.mul_le_mul_right R.n (show k+1≤i from h3)
       rw [Nat.add_mul,Nat.one_mul] at this
       omega
     · right
       have:=Nat.mul_le_mul_right R.n (show i+1≤k from h3)
       rw [Nat.add_mul,Nat.one_mul] at this
       omega
theorem Ch.get {S:Nat→Prop} {w:World} {l:List α} {xs:List Value} (h:R.Ch S w l xs) (i:Nat) (hi:i<l.length):∃ vs,(∀ j u,vs[j]? = some u→xs[i * R.n+j]? = some u)∧R.is S w l[i] vs:=h.2 i hi
theorem Ch.oneCells {S:Nat→Prop} {w:World} {l:List α} {xs:List Value} (h:R.Ch S w l xs):∀ u ∈ xs,u.oneCell' = true:=by
 intro u hu
 obtain ⟨k,hk⟩:=List.mem_iff_getElem?.1 hu
 have hlt:=(List.getElem?_eq_some_iff.1 hk).1
 rw [h.1] at hlt
 have hn:=R.pos
 have hi:k / R.n<l.length:=Nat.div_lt_of_lt_mul (by rwa [Nat.mul_comm] at hlt)
 obtain ⟨vs,h1,h2⟩:=h.2 (k / R.n) hi
 have hj:k % R.n<vs.length:=by rw [R.len h2]; exact Nat.mod_lt _ hn
 have e:=h1 (k % R.n) vs[k % R.n] (List.getElem?_eq_getElem hj)
 rw [Nat.div_add_mod' k R.n,hk] at e
 cases e
 exact R.one h2 _ (List.getElem_mem hj)

/-- The cells of a list that stands at an address. -/
theorem Arr.cells {S:Nat→Prop} {w:World}:∀ {l:List α} {a:Addr},R.Arr S w l a→∃ news,R.Ch S w l news∧∀ j u,news[j]? = some u→w.cell? (a.add j)=some u
 | [],a,_=>⟨[],Ch.nil _ _,fun j u h=>by simp at h⟩
 | x :: r,a,h=>by
   obtain ⟨vs,h1,h2⟩:=h 0 (by simp)
   have hr:R.Arr S w r (a.add R.n):=fun i hi=>by
     have:=h (i+1) (by simpa using hi)
     rw [add_add']
     rwa [show (i+1) * R.n=R.n+i * R.n from by rw [Nat.add_mul,Nat.one_mul,Nat.add_comm]] at this
   obtain ⟨news,hn,hc⟩:=Arr.cells hr
   refine ⟨vs ++ news,Ch.append (l:=[x]) (Ch.one h1) hn,fun j u hu=>?_⟩
   by_cases hj:j<vs.length
   · rw [List.getElem?_append_left hj] at hu
     have:=h2 j u hu
     simpa [add_zero'] using this
   · rw [List.getElem?_append_right (by omega)] at hu
     have:=hc _ u hu
     rw [add_add',R.len h1,Nat.add_sub_cancel' (by rw [← R.len h1]; omega)] at this
     exact this
theorem Arr.of_cells {S:Nat→Prop} {w:World} {l:List α} {a:Addr} {xs:List Value} (h:R.Ch S w l xs) (hc:∀ j u,xs[j]? = some u→w.cell? (a.add j)=some u):R.Arr S w l a:=fun i hi=>by
 obtain ⟨vs,h1,h2⟩:=h.2 i hi
 exact ⟨vs,h2,fun j u hu=>by rw [add_add']; exact hc _ u (h1 j u hu)⟩

/-- A slice that was just built of some elements. -/
theorem Sl.built {S:Nat→Prop} {w:World} {l:List α} {xs:List Value} (h:R.Ch S w l xs) (hS:∀ b,S b→b<w.heap.size) (S':Nat→Prop) (hS':∀ b,S b→S' b) (hn:S' w.heap.size) :
   R.Sl S' (w.alloc (.cells xs.toArray R.t)) l (.slice (some ⟨w.heap.size,0,none⟩) l.length l.length):=
 ⟨_,_,rfl,fun _=>⟨_,rfl,hn,Arr.of_cells (h.keep hS' (fun p hp=>World.cell?_alloc_lt _ _ _ (hS _ hp))) (fun j u hu=>cells_new w xs.toArray R.t j u (by simpa using hu))⟩⟩

namespace Own
variable {S : Nat → Prop} {base : Nat} {v v' : Value} {l m : List α} {w w' : World}
theorem nil (S:Nat→Prop) (base:Nat) (w:World):R.Own S base (.slice none 0 0) [] w:=⟨[],World.ownsRow_nil w base _ _,Ch.nil _ _⟩
theorem form (h:R.Own S base v l w):∃ A c,v=.slice A l.length c:=by
 obtain ⟨xs,hown,_⟩:=h
 rcases hown.2 with ⟨rfl,hn⟩ | ⟨g,cap,cur,rfl,_⟩
 · exact ⟨none,0,by rw [hn]⟩
 · exact ⟨_,cap,rfl⟩
theorem lt (h:R.Own S base v l w):∀ g,v.ownBlock=some g→base≤g∧g<w.heap.size:=by
 obtain ⟨xs,hown,_⟩:=h
 exact hown.lt
/-- The slice stands while anything but its own block turns. -/
theorem kept {row:Option Nat} (h:R.Own S base v l w) (hg:w.grownBy w' row) (hne:v.ownBlock=none∨v.ownBlock≠row) (hr:∀ k,row=some k→¬ S k):R.Own S base v l w':=by
 obtain ⟨xs,hown,hc⟩:=h
 exact ⟨xs,hown.kept hg hne,hc.keep (fun b hb=>⟨hb.1,Nat.lt_of_lt_of_le hb.2.1 hg.size,hb.2.2⟩) (fun p hp=>World.cell?_of_block (hg.block p.block hp.2.1 (fun e=>hr _ e.symm hp.1)))⟩
theorem below (h:R.Own S base v l w) (hb:Below w.heap.size w w'):R.Own S base v l w':=
 h.kept (only_of_below hb none) (by cases v.ownBlock <;> simp) (fun k e=>by cases e)
theorem far (h:R.Own S base v l w) {row:Nat} (hg:w.grownBy w' (some row)) (hr:row<base) (hS:¬ S row):R.Own S base v l w':=
 h.kept hg (by
   cases hv:v.ownBlock with
   | none=>exact .inl rfl
   | some g=>exact .inr fun e=>by have:=(h.lt g hv).1; cases e; omega) (fun k e=>by cases e; exact hS)
/-- More elements behind it. -/
theorem more {xs news:List Value} (_hown:w.ownsRow base R.t R.n v l.length xs) (hc:R.Ch (fun b=>S b∧b<w.heap.size∧v.ownBlock≠some b) w l xs)
   (hn:R.Ch (fun b=>S b∧b<w.heap.size∧v.ownBlock≠some b) w m news) (hown':w'.ownsRow base R.t R.n v' (l.length+m.length) (xs ++ news)) (hg:w.grownBy w' v.ownBlock)
   (hb:v'.ownBlock=v.ownBlock∨v'.ownBlock=some w.heap.size):R.Own S base v' (l ++ m) w':=by
 refine ⟨xs ++ news,by simpa using hown',(hc.append hn).keep (fun b hb'=>⟨hb'.1,Nat.lt_of_lt_of_le hb'.2.1 hg.size,?_⟩) (fun p hp=>World.cell?_of_block (hg.block p.block hp.2.1 (fun e=>hp.2.2 e.symm)))⟩
 rcases hb with e | e
 · rw [e]; exact hb'.2.2
 · rw [e]; intro e'; have:=hb'.2.1; simp at e'; omega
/-- A slice of the call's own is a slice. -/
theorem sl (h:R.Own S base v l w):R.Sl (fun b=>(S b∨base≤b)∧b<w.heap.size) w l v:=by
 obtain ⟨xs,hown,hc⟩:=h
 rcases hown.2 with ⟨rfl,hn⟩ | ⟨g,cap,cur,rfl,hb,hg,_⟩
 · have:l=[]:=List.eq_nil_of_length_eq_zero hn
   subst this
   exact Sl.nil _ _
 · exact ⟨_,cap,rfl,fun _=>⟨_,rfl,⟨.inr hb,(Array.getElem?_eq_some_iff.1 hg).1⟩,Arr.of_cells (hc.keep (fun b hb=>⟨.inl hb.1,hb.2.1⟩) (fun _ _=>rfl)) (fun j u hu=>hown.cells rfl j u hu)⟩⟩
/-- A slice that was just built, as one of the call's own. -/
theorem built {xs:List Value} (h:R.Ch S w l xs) (hS:∀ b,S b→b<w.heap.size) (hb:base≤w.heap.size) (hl:l.length≤maxLen) (_hne:l≠[]) :
   R.Own S base (.slice (some ⟨w.heap.size,0,none⟩) l.length l.length) l (w.alloc (.cells xs.toArray R.t)):=by
 refine ⟨xs,⟨h.1,.inr ⟨w.heap.size,l.length,xs.toArray,rfl,hb,heap_alloc_new w _,Nat.le_refl _,hl,by simpa using h.1,by simp [← h.1]⟩⟩,h.keep (fun b hb=>⟨hb,?_,?_⟩) (fun p hp=>World.cell?_alloc_lt _ _ _ (hS _ hp))⟩
 · have:=hS b hb; simp; omega
 · intro e; have:=hS b hb; simp [Value.ownBlock] at e; omega
/-- The last element. -/
theorem last {x:α} (h:R.Own S base v (l ++ [x]) w):∃ (g cap:Nat) (vs:List Value),v=.slice (some ⟨g,0,none⟩) (l.length+1) cap∧base≤g∧g<w.heap.size∧l.length+1≤cap ∧
   (∀ j u,vs[j]? = some u→w.cell? ⟨g,l.length * R.n+j,none⟩ = some u)∧R.is (fun b=>S b∧b<w.heap.size∧g≠b) w x vs∧R.Own S base (.slice (some ⟨g,0,none⟩) l.length cap) l w:=by
 obtain ⟨xs,hown,hc⟩:=h
 obtain ⟨vs,h1,h2⟩:=hc.get l.length (by simp)
 rw [List.getElem_append_right (Nat.le_refl _)] at h2
 simp only [Nat.sub_self,List.getElem_cons_zero] at h2
 rcases hown.2 with ⟨rfl,hn⟩ | ⟨g,cap,cur,rfl,hb,hg,hnc,hcm,hcs,htake⟩
 · simp at hn
 · have e2:(l ++ [x]).length=l.length+1:=by simp
   have hcell:∀ j u,xs[j]? = some u→w.cell? ⟨g,j,none⟩ = some u:=by
     intro j u hu
     have:=hown.cells rfl j u hu
     have e:(⟨g,0,none⟩:Addr).add j=⟨g,j,none⟩:=by unfold Addr.add; split <;> simp_all
     rwa [e] at this
   refine ⟨g,cap,vs,by simp,hb,(Array.getElem?_eq_some_iff.1 hg).1,by omega,fun j u hu=>hcell _ _ (h1 j u hu),R.keep (fun b hb=>⟨hb.1,hb.2.1,fun e=>hb.2.2 (by simp [Value.ownBlock,e])⟩) (fun _ _=>rfl) h2,
     xs.take (l.length * R.n),⟨?_,.inr ⟨g,cap,cur,rfl,hb,hg,by omega,hcm,hcs,?_⟩⟩,hc.take⟩
   · exact hc.take.1
   · rw [← htake,e2,List.take_take]
     congr 1
     rw [Nat.add_mul]
     omega
theorem mono {S':Nat→Prop} {base':Nat} (h:R.Own S base v l w) (hS:∀ b,S b→b<w.heap.size→S' b) (hb:base'≤base):R.Own S' base' v l w:=by
 obtain ⟨xs,⟨hl,hown⟩,hc⟩:=h
 refine ⟨xs,⟨hl,?_⟩,hc.keep (fun b hb=>⟨hS b hb.1 hb.2.1,hb.2.1,hb.2.2⟩) (fun _ _=>rfl)⟩
 rcases hown with h | ⟨g,cap,cur,hv,hg,rest⟩
 · exact .inl h
 · exact .inr ⟨g,cap,cur,hv,Nat.le_trans hb hg,rest⟩
end Own
end Rep
end Go.Proofs.YtipfnkajdooiiaaGreatDoor
