/- Forms of valid types, and levels. -/
import Derived.Test.YtipfnkajdooiiaaGreatDoorQMake
namespace Go.Proofs.YtipfnkajdooiiaaGreatDoor
open Go.RowKit

theorem IsTy.two {S:Nat→Prop} {w:World} {k:Int} {T U:Ty} {A:Option Addr} {c:Nat} (h:IsTy S w (.mk k [T,U]) (.agg #[.int .i64 k,.slice A 2 c])) :
   ∃ (a:Addr) (B:Option Addr) (d:Nat) (C:Option Addr) (e:Nat),A=some a∧S a.block∧w.cell? a=some (.int .i64 T.kind)∧w.cell? ⟨a.block,a.off+1,none⟩ = some (.slice B T.args.length d) ∧
     w.cell? ⟨a.block,a.off+2,none⟩ = some (.int .i64 U.kind)∧w.cell? ⟨a.block,a.off+2+1,none⟩ = some (.slice C U.args.length e) ∧
     IsTy S w T (.agg #[.int .i64 T.kind,.slice B T.args.length d])∧IsTy S w U (.agg #[.int .i64 U.kind,.slice C U.args.length e]):=by
 unfold IsTy at h
 obtain ⟨A',c',e,h⟩:=h
 simp at e
 obtain ⟨rfl,rfl⟩:=e
 obtain ⟨a,rfl,hs,h⟩:=h (by simp)
 obtain ⟨B,d,g0,g1,gT⟩:=h.get 0 (by simp)
 obtain ⟨C,e,k0,k1,kU⟩:=h.get 1 (by simp)
 simp only [Nat.zero_mul,add_zero',List.getElem_cons_zero] at g0 g1 gT
 simp only [Nat.one_mul,List.getElem_cons_succ,List.getElem_cons_zero] at k0 k1 kU
 exact ⟨a,B,d,C,e,rfl,hs,g0,g1,by simpa [Addr.add] using k0,by simpa [Addr.add] using k1,gT,kU⟩

/-- The forms of a valid type. -/
theorem Ty.ok_cases {T:Ty} (h:T.ok=true):(∃ k,(k=1∨k=2∨k=5)∧T=.mk k [])∨(∃ k A B,(k=3∨k=4)∧T=.mk k [A,B]∧A.ok=true∧B.ok=true):=by
 obtain ⟨k,l⟩:=T
 match l,h with
 | [],h=>exact .inl ⟨k,by simpa [Ty.ok,okAll,or_assoc] using h,rfl⟩
 | [A],h=>simp [Ty.ok,okAll] at h
 | [A,B],h=>
   simp [Ty.ok,okAll] at h
   exact .inr ⟨k,A,B,h.1,rfl,h.2.1,h.2.2⟩
 | A :: B :: C :: r,h=>simp [Ty.ok,okAll] at h

end Go.Proofs.YtipfnkajdooiiaaGreatDoor
