/- The parts of TypeOf: fun, pairType, argTypes, ownType, variable, Context. -/
import Derived.Test.YthlknhkemmdocaaGreatDoorQPackSizeT
import Derived.Test.YthlknhkemmdocaaGreatDoorQPackPlaces
import Derived.Deep.RegionLaw
import Derived.Deep.AppendLies
import Derived.Deep.DeepAppendRoom
import Derived.ArgAppend
import Derived.Sort.LoopGhostIn
import Derived.Deep.RegionHeld3
import Derived.Lib.LazyBuf
namespace Go.Proofs.YthlknhkemmdocaaGreatDoor
open Go.RowKit

/-- A block that is known whole is a slice. -/
theorem Rep.Sl.of_blk {α:Type} {R:Rep α} {S S':Nat→Prop} {W:World} {m:Nat} {t:TypeId} {l:List α} {xs:List Value} {n c:Nat} (hb:Blk W m t xs.toArray) (h:R.Ch S W l xs) (hS:∀ b,S b→S' b) (hm:S' m) (hn:l.length=n) :
    R.Sl S' W l (.slice (some ⟨m,0,none⟩) n c):=by
  subst hn
  refine ⟨_,c,rfl,fun _=>⟨_,rfl,hm,Rep.Arr.of_cells (h.keep hS (fun _ _=>rfl)) (fun j u hu=>?_)⟩⟩
  have e:(⟨m,0,none⟩:Addr).add j=⟨m,j,none⟩:=by unfold Addr.add; split <;> simp_all
  rw [e,hb.cell]
  simpa using hu
theorem tm_one {S:Nat→Prop} {W:World} {A:Tm} {a b c d e:Value} (h:IsTm S W A (.agg #[a,b,c,d,e])):TmR.Ch S W [A] [a,b,c,d,e]:=Rep.Ch.one (R:=TmR) (vs:=[a,b,c,d,e]) h
theorem tm_cons {S:Nat→Prop} {W:World} {A:Tm} {l:List Tm} {a b c d e:Value} {xs:List Value} (h:IsTm S W A (.agg #[a,b,c,d,e])) (k:TmR.Ch S W l xs):TmR.Ch S W (A :: l) (a :: b :: c :: d :: e :: xs):=
  Rep.Ch.append (l:=[A]) (xs:=[a,b,c,d,e]) (tm_one h) k

end Go.Proofs.YthlknhkemmdocaaGreatDoor
namespace Go.Proofs.YthlknhkemmdocaaGreatDoor
open Go.RowKit

def tyNat:Ty:=.mk 1 []
def tyList:Ty:=.mk 2 []
def tyUnit:Ty:=.mk 5 []
def tyFun (A B:Ty):Ty:=.mk 4 [A,B]
/-- What the parts of a node must have. -/
def argTys (k:Int) (T:Ty):List Ty:=
  if k=5 then [tyNat] else if k=8 then [tyNat,tyList] else if k=6 then [T,tyFun tyNat (tyFun T T),tyNat] else if k=9 then [T,tyFun tyNat (tyFun tyList (tyFun T T)),tyList] else []
/-- What a node has. -/
def ownTy (k:Int) (T:Ty):Ty:=if k=4∨k=5 then tyNat else if k=7∨k=8 then tyList else if k=13 then tyUnit else T

end Go.Proofs.YthlknhkemmdocaaGreatDoor
namespace Go.Proofs.YthlknhkemmdocaaGreatDoor
open Go.RowKit

def sameAll:List Ty→List Ty→Bool
  | [],[]=>true
  | a :: r,b :: s=>a.same b && sameAll r s
  | _,_=>false
end Go.Proofs.YthlknhkemmdocaaGreatDoor
namespace Go.Proofs.YthlknhkemmdocaaGreatDoor
open Go.RowKit

def nodeTy (k:Int) (T:Ty) (ps:List Ty):Except Int Ty:=
  if k=2 then match ps with
    | [b]=>if (tyFun T b).nodes≤64 then .ok (tyFun T b) else .error 4
    | _=>.error 7
  else if k=3 then match ps with
    | [.mk 4 [s,u],a]=>if s.same a=true then .ok u else .error 7
    | _=>.error 7
  else if k=10 then if (Ty.mk 3 ps).nodes≤64 then .ok (.mk 3 ps) else .error 4
  else if k=11 then match ps with
    | [.mk 3 [a,_]]=>.ok a
    | _=>.error 7
  else if k=12 then match ps with
    | [.mk 3 [_,b]]=>.ok b
    | _=>.error 7
  else if sameAll ps (argTys k T)=true then .ok (ownTy k T) else .error 7

end Go.Proofs.YthlknhkemmdocaaGreatDoor
namespace Go.Proofs.YthlknhkemmdocaaGreatDoor
open Go.RowKit

mutual
/-- The type of a term in a context, or the error. -/
def Tm.typ:Tm→List Ty→Except Int Ty
  | .mk k i T l,g=>if k=1 then (if h:i.toNat<g.length then .ok (g[g.length - 1 - i.toNat]'(by omega)) else .error 6)
      else match typAll l (if k=2 then g ++ [T] else g) with
        | .error e=>.error e
        | .ok ps=>nodeTy k T ps
def typAll:List Tm→List Ty→Except Int (List Ty)
  | [],_=>.ok []
  | t :: r,g=>match t.typ g with
    | .error e=>.error e
    | .ok u=>match typAll r g with
      | .error e=>.error e
      | .ok us=>.ok (u :: us)
end

/-- What formed says of the kinds. -/
theorem formed_kind {t:Tm} (h:t.formed=true):1≤t.kind∧t.kind≤13∧t.args.length=arities.getD t.kind.toNat 0∧0≤t.index∧(t.kind=1∨t.index=0) ∧
    ((t.kind=2∨t.kind=6∨t.kind=9)→t.type.err=0)∧(¬ (t.kind=2∨t.kind=6∨t.kind=9)→t.type.kind=0∧t.type.args.length=0):=by
  simp only [Tm.formed,Bool.and_eq_true,decide_eq_true_eq,beq_iff_eq,Bool.or_eq_true] at h
  obtain ⟨⟨⟨⟨⟨h1,h2⟩,h3⟩,h4⟩,h5⟩,h6⟩:=h
  refine ⟨h1,h2,h3,h4,h5,fun hk=>?_,fun hk=>?_⟩
  · rw [if_pos hk] at h6; simpa using h6
  · rw [if_neg hk] at h6; simpa using h6

theorem err_small {T:Ty} (h:T.err=0):T.nodes≤64:=(err_zero.1 h).2

theorem typ_node {k i:Int} {T:Ty} {l:List Tm} {g g' ps:List Ty} (hk:k≠1) (hg:g' = if k=2 then g ++ [T] else g) (h:typAll l g' = .ok ps):(Tm.mk k i T l).typ g=nodeTy k T ps:=by
  unfold Tm.typ
  rw [if_neg hk,← hg,h]
end Go.Proofs.YthlknhkemmdocaaGreatDoor
namespace Go.Proofs.YthlknhkemmdocaaGreatDoor
open Go.RowKit

/-- The context's own cells stand. -/
def Still (base:Nat) (c:Value) (n:Nat) (w w':World):Prop:=∀ xs,w.ownsRow base 30 2 c n xs→w'.ownsRow base 30 2 c n xs

theorem own_still {S:Nat→Prop} {base:Nat} {c:Value} {g:List Ty} {w w':World} (h:TyR.Own S base c g w) (hs:Still base c g.length w w') (hg:w.grownBy w' c.ownBlock):TyR.Own S base c g w':=by
  obtain ⟨xs,hown,hc⟩:=h
  exact ⟨xs,hs xs hown,hc.keep (fun b hb=>⟨hb.1,Nat.lt_of_lt_of_le hb.2.1 hg.size,hb.2.2⟩) (fun p hp=>World.cell?_of_block (hg.block p.block hp.2.1 (fun e=>hp.2.2 e.symm)))⟩

/-- What holds when the parts of a node are gone through: the context is c', its types g'. -/
structure Rest (w W1:World) (S:Nat→Prop) (base:Nat) (c:Value) (g:List Ty) (t:Tm) (base':Nat) (c':Value) (g':List Ty):Prop where
  own:TyR.Own (fun b=>(S b∨w.heap.size+2≤b)∧c'.ownBlock≠some b) base' c' g' W1
  back:∀ W2,W1.grownBy W2 c'.ownBlock→Still base' c' g'.length W1 W2→w.grownBy W2 c.ownBlock∧Still base c g.length w W2
  lies:∀ b,c'.ownBlock=some b→(b<w.heap.size∨w.heap.size+2≤b)∧¬ S b
  g':g' = if t.kind=2 then g ++ [t.type] else g
  base':base'≤W1.heap.size
  size:w.heap.size+2≤W1.heap.size
  keeps:∀ p:Addr,S p.block→W1.cell? p=w.cell? p

theorem Rest.next {w W1 W2:World} {S:Nat→Prop} {base base':Nat} {c c':Value} {g g':List Ty} {t:Tm} (h:Rest w W1 S base c g t base' c' g') (hS:∀ b,S b→b<w.heap.size) (hg:W1.grownBy W2 c'.ownBlock) (hs:Still base' c' g'.length W1 W2):Rest w W2 S base c g t base' c' g' where
  own:=own_still h.own hs hg
  back W3 h1 h2:=h.back W3 (only_trans hg h1) (fun xs hx=>h2 xs (hs xs hx))
  lies:=h.lies
  g':=h.g'
  base':=Nat.le_trans h.base' hg.size
  size:=Nat.le_trans h.size hg.size
  keeps p hp:=(World.cell?_of_block (hg.block p.block (by have:=hS _ hp; have:=h.size; omega) (fun e=>(h.lies _ e.symm).2 hp))).trans (h.keeps p hp)

end Go.Proofs.YthlknhkemmdocaaGreatDoor
namespace Go.Proofs.YthlknhkemmdocaaGreatDoor
open Go.RowKit

end Go.Proofs.YthlknhkemmdocaaGreatDoor
