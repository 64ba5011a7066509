/- The deck of choices: what Mod, New, Few and Next do, said of cells. -/
import Derived.Test.YtipfnkajdooiiaaGreatDoorRows
import Derived.WalkKit
import Derived.WalkSpells
import Derived.WalkLawsBesides
import Derived.BigQuiet
import Derived.Deep.QuietTactic
import Derived.Lib.Hide
import Derived.Laws.OwnMore
import Derived.Deep.Draws
import Derived.Laws.Rows
namespace Go.Proofs.YtipfnkajdooiiaaGreatDoor
open Go.RowKit

/-- Block number g of the heap: the cells cs, of element type t, all of them writable. -/
def Blk (w:World) (g:Nat) (t:TypeId) (cs:Array Value):Prop:=w.heap[g]? = some (Obj.cells cs t (0,0))

namespace Blk
variable {w w' : World} {g : Nat} {t : TypeId} {cs : Array Value}
theorem lt (h:Blk w g t cs):g<w.heap.size:=(Array.getElem?_eq_some_iff.1 h).1
theorem cell (h:Blk w g t cs) (i:Nat):w.cell? ⟨g,i,none⟩ = cs[i]?:=cell_of_row w g i cs t (0,0) h
theorem frozen (h:Blk w g t cs) (i:Nat):w.frozen? ⟨g,i,none⟩ = false:=by
 have e:w.heap[g]? = some (Obj.cells cs t (0,0)):=h
 simp [World.frozen?,e]
theorem new (w:World) (t:TypeId) (cs:Array Value):Blk (w.alloc (.cells cs t)) w.heap.size t cs:=heap_alloc_new w _
/-- Whatever leaves the block as it was. -/
theorem carry (h:Blk w g t cs) (e:w'.heap[g]? = w.heap[g]?):Blk w' g t cs:=Eq.trans e h
theorem drew (h:Blk w g t cs):Blk w.drew g t cs:=carry h rfl
theorem drewN (h:Blk w g t cs) (n:Nat):Blk (w.drewN n) g t cs:=carry h rfl
theorem alloc (h:Blk w g t cs) (o:Obj):Blk (w.alloc o) g t cs:=carry h (Below.heap_alloc w o g (lt h))
theorem far (h:Blk w g t cs) {p:Addr} (hp:g≠p.block) (u:Value):Blk (w.setCell p u) g t cs:=carry h (Below.heap_setCell w p u g hp)
theorem below {B:Nat} (h:Blk w g t cs) (hb:Below B w w') (hg:g<B):Blk w' g t cs:=carry h (hb.block g hg)
theorem grown {row:Option Nat} (h:Blk w g t cs) (hb:w.grownBy w' row) (hg:some g≠row):Blk w' g t cs:=carry h (hb.block g (lt h) hg)
theorem set_ (h:Blk w g t cs) (i:Nat) (u:Value):Blk (w.setCell ⟨g,i,none⟩ u) g t (cs.setIfInBounds i u):=by
 have e:w.heap[g]? = some (Obj.cells cs t (0,0)):=h
 show (w.setCell ⟨g,i,none⟩ u).heap[g]? = _
 simp [World.setCell,Array.getElem?_modify,e]
end Blk

/-! Steps that turn at most one old block. -/
theorem only_refl (w:World) (row:Option Nat):w.grownBy w row:=World.grownBy.refl w row
theorem only_trans {a b c:World} {row:Option Nat} (h:a.grownBy b row) (k:b.grownBy c row):a.grownBy c row where
 os:=k.os.trans h.os
 tape:=k.tape.trans h.tape
 output:=k.output.trans h.output
 size:=Nat.le_trans h.size k.size
 block i hi hne:=(k.block i (Nat.lt_of_lt_of_le hi h.size) hne).trans (h.block i hi hne)
theorem only_drewN {a w:World} {row:Option Nat} (h:a.grownBy w row) (n:Nat):a.grownBy (w.drewN n) row:=only_trans h ⟨rfl,rfl,rfl,Nat.le_refl _,fun _ _ _=>rfl⟩
theorem only_alloc {a w:World} {row:Option Nat} (h:a.grownBy w row) (o:Obj):a.grownBy (w.alloc o) row:=only_trans h (World.grownBy_alloc w o row)
theorem only_of_below {a w:World} (h:Below a.heap.size a w) (row:Option Nat):a.grownBy w row:=⟨h.os,h.tape,h.output,h.size,fun i hi _=>h.block i hi⟩
theorem only_setCell {a w:World} {g:Nat} (h:a.grownBy w (some g)) {p:Addr} (hp:p.block=g∨a.heap.size≤p.block) (u:Value):a.grownBy (w.setCell p u) (some g) where
 os:=h.os
 tape:=h.tape
 output:=h.output
 size:=by have:=h.size; simp only [World.setCell,Array.size_modify]; exact this
 block i hi hne:=by
   have hpi:i≠p.block:=fun e=>by
     rcases hp with h1 | h1
     · exact hne (by rw [e,h1])
     · omega
   exact (Below.heap_setCell w p u i hpi).trans (h.block i hi hne)

theorem mod_range (x n:Int) (hn:1≤n):0≤((x.tmod n)+n) % n∧((x.tmod n)+n) % n<n∧-n<x.tmod n∧x.tmod n<n:=by
 have h1:-n<x.tmod n:=Int.lt_tmod_of_pos x (by omega)
 have h2:x.tmod n<n:=Int.tmod_lt_of_pos x (by omega)
 exact ⟨Int.emod_nonneg _ (by omega),Int.emod_lt_of_pos _ (by omega),h1,h2⟩

set_option maxHeartbeats 400000 in
theorem mod_any (x n:Int) (w:World) (hn:1≤n) (hn2:n≤1000000) :
   Calls Tryz.prog 87 #[.int .i64 x,.int .i64 n] w fun e w'=>(∃ r:Int,e=.returned (.int .i64 r)∧0≤r∧r<n)∧w=w':=by
 obtain ⟨hm1,hm2,hm3,hm4⟩:=mod_range x n hn
 go_enter Tryz.func87,Tryz.ntmps87
 go_wp2_with fail
 go_ret
 exact ⟨⟨_,rfl,hm1,hm2⟩,rfl⟩

/-- Block g is a deck over at most 500 numbers that lie below it. -/
def Deck (w:World) (g:Nat):Prop:=∃ (A:Option Addr) (len cap:Nat) (pos:Nat),
 Blk w g 83 #[.slice A len cap,.int .i64 (pos:Int)]∧pos≤len∧len≤500 ∧
 ∀ i,i<len→∃ a x,A=some a∧a.block<g∧w.cell? (a.add i)=some (.int .i64 x)

theorem Deck.grown {w w':World} {g:Nat} {row:Option Nat} (h:Deck w g) (hb:w.grownBy w' row) (hr:∀ k,row=some k→g<k):Deck w' g:=by
 obtain ⟨A,len,cap,pos,h1,h2,h3,h4⟩:=h
 refine ⟨A,len,cap,pos,h1.grown hb (fun e=>by have:=hr g e.symm; omega),h2,h3,fun i hi=>?_⟩
 obtain ⟨a,x,rfl,ha,hc⟩:=h4 i hi
 refine ⟨a,x,rfl,ha,?_⟩
 have hlt:(a.add i).block<g:=by simpa [Addr.add,apply_ite Addr.block] using ha
 exact hb.cell hc (fun e=>by have:=hr _ e.symm; omega)

/-- What Next does: a number below n, and a deck in the same block. -/
def NextR (g:Nat) (n:Int) (w:World) (e:Ending) (w':World):Prop:=
 ∃ r:Int,e=.returned (.int .i64 r)∧0≤r∧r<n∧Deck w' g∧w.grownBy w' (some g)

theorem next_kept {g len cap pos:Nat} {A:Option Addr} {w:World} (k:Nat) (h1:Blk w g 83 #[.slice A len cap,.int .i64 (pos:Int)]) (h2:pos<len) (h3:len≤500)
   (h4:∀ i,i<len→∃ a x,A=some a∧a.block<g∧w.cell? (a.add i)=some (.int .i64 x)) :
   Deck ((w.drewN k).setCell ⟨g,1,none⟩ (.int .i64 (pos+1))) g∧w.grownBy ((w.drewN k).setCell ⟨g,1,none⟩ (.int .i64 (pos+1))) (some g):=by
 refine ⟨⟨A,len,cap,pos+1,(h1.drewN k).set_ 1 _,h2,h3,fun i hi=>?_⟩,only_setCell (only_drewN (only_refl _ _) k) (.inl rfl) _⟩
 obtain ⟨a,x,rfl,ha,hc⟩:=h4 i hi
 refine ⟨a,x,rfl,ha,?_⟩
 have hlt:(a.add i).block<g:=by simpa [Addr.add,apply_ite Addr.block] using ha
 rw [World.cell?_setCell_other _ _ _ _ (fun e=>by rw [← e] at hlt; simp at hlt)]
 exact hc

set_option maxHeartbeats 400000 in
theorem next_any (g:Nat) (n:Int) (w:World) (hn:1≤n) (hn2:n≤1000000) (hd:Deck w g) :
   Calls Tryz.prog 24 #[.pointer (some ⟨g,0,none⟩),.int .i64 n] w (NextR g n w):=by
 have hd0:=hd
 obtain ⟨A,len,cap,pos,h1,h2,h3,h4⟩:=hd
 have c0:=h1.cell 0
 have c1:=h1.cell 1
 have f1:=h1.frozen 1
 simp at c0 c1
 have hd2:decide (n<1)=false:=by simp; omega
 by_cases hp:pos<len
 · have hk:=fun k=>next_kept k h1 hp h3 h4
   obtain ⟨a,x,hA,ha,hc⟩:=h4 pos hp
   subst hA
   have hd1:decide ((len:Int)≤(pos:Int))=false:=by simp; omega
   have HK:=Lib.hid hk
   have HD:=Lib.hid hd0
   clear hk h1 h4 hd0
   go_enter Tryz.func24,Tryz.ntmps24
   go_wp2_with fail
   go_quiet (fail)
   go_wp2_with fail
   go_quiet (fail)
   go_wp2_with fail
   refine (mod_any _ _ _ hn hn2).mono ?_
   rintro e w' ⟨⟨r,rfl,hr0,hr1⟩,rfl⟩
   go_wp2_with fail
   go_ret
   exact ⟨r,rfl,hr0,hr1,HK.out _⟩
 · have hd1:decide ((len:Int)≤(pos:Int))=true:=by simp; omega
   have HD:=Lib.hid hd0
   clear h1 h4 hd0
   go_enter Tryz.func24,Tryz.ntmps24
   go_wp2_with fail
   go_quiet (fail)
   go_wp2_with fail
   go_ret
   exact ⟨0,rfl,by omega,by omega,HD.out.grown (row:=none) (only_drewN (only_refl _ _) _) (by simp),only_drewN (only_refl _ _) _⟩

/-- New makes a deck. -/
theorem new_any (A:Option Addr) (len cap:Nat) (w:World) (_hlen:len≤500) (_hA:∀ i,i<len→∃ a x,A=some a∧a.block<w.heap.size∧w.cell? (a.add i)=some (.int .i64 x)) :
   Calls Tryz.prog 10 #[.slice A len cap] w fun e w'=>
     e=.returned (.pointer (some ⟨w.heap.size,0,none⟩))∧w.alloc (.cells #[.slice A len cap,.int .i64 0] 83)=w':=by
 go_enter Tryz.func10,Tryz.ntmps10
 go_wp2_with fail
 go_ret
 exact ⟨rfl,rfl⟩

theorem new_deck (A:Option Addr) (len cap:Nat) (w:World) (hlen:len≤500) (hA:∀ i,i<len→∃ a x,A=some a∧a.block<w.heap.size∧w.cell? (a.add i)=some (.int .i64 x)) :
   Deck (w.alloc (.cells #[.slice A len cap,.int .i64 0] 83)) w.heap.size:=by
 refine ⟨A,len,cap,0,Blk.new _ _ _,by omega,hlen,fun i hi=>?_⟩
 obtain ⟨a,x,rfl,ha,hc⟩:=hA i hi
 exact ⟨a,x,rfl,ha,by rw [World.cell?_alloc_lt _ _ _ (by simpa [Addr.add,apply_ite Addr.block] using ha)]; exact hc⟩

theorem few_any (A:Option Addr) (len cap:Nat) (w:World) (_hlen:len≤maxLen) :
   Calls Tryz.prog 9 #[.slice A len cap] w fun e w'=>e=.returned (.bool (decide ((len:Int)≤500)))∧w=w':=by
 go_enter Tryz.func9,Tryz.ntmps9
 go_wp2_with fail
 go_ret
 exact ⟨rfl,rfl⟩
end Go.Proofs.YtipfnkajdooiiaaGreatDoor
