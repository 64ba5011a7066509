/- Terms that are made: their types, their sizes, and how often a variable occurs in them. -/
import Derived.Test.YtipfnkajdooiiaaGreatDoorQPackTyp
namespace Go.Proofs.YtipfnkajdooiiaaGreatDoor
open Go.RowKit

mutual
/-- How often the free variable n stands in a term. -/
def Tm.occ:Tm→Nat→Nat
 | .mk k i _ l,n=>if k=1 then (if i=(n:Int) then 1 else 0) else occAll l (if k=2 then n+1 else n)
def occAll:List Tm→Nat→Nat
 | [],_=>0
 | t :: r,n=>t.occ n+occAll r n
end

theorem alike_pairs:∀ (l:List (Ty × Ty)),(∀ p ∈ l,p.1=p.2∧(p.1.order2 p.2).all alike=true)→(orderSt l).all alike=true
 | [],_=>by simp [orderSt]
 | p :: r,h=>by
   obtain ⟨a,b⟩:=p
   simp only [orderSt,List.all_append,Bool.and_eq_true]
   exact ⟨alike_pairs r (fun q hq=>h q (by simp [hq])),(h (a,b) (by simp)).2⟩

/-- A term of the type t in the context G, of at most a nodes, each variable at most at p places; types in it are small. -/
structure Made (G:List Ty) (t:Ty) (a p:Nat) (T:Tm):Prop where
 ok:T.ok=true
 typ:T.typ G=.ok t
 size:T.size≤a
 occ:∀ n,T.occ n≤p
 thin:T.bulk≤4 * T.size

theorem Made.mono {G:List Ty} {t:Ty} {a p a' p':Nat} {T:Tm} (h:Made G t a p T) (ha:a≤a') (hp:p≤p'):Made G t a' p' T:=
 ⟨h.ok,h.typ,Nat.le_trans h.size ha,fun n=>Nat.le_trans (h.occ n) hp,h.thin⟩

theorem typAll1 {x:Tm} {G:List Ty} {a:Ty} (h:x.typ G=.ok a):typAll [x] G=.ok [a]:=by simp [typAll,h]
theorem typAll2 {x y:Tm} {G:List Ty} {a b:Ty} (h:x.typ G=.ok a) (k:y.typ G=.ok b):typAll [x,y] G=.ok [a,b]:=by simp [typAll,h,k]
theorem typAll3 {x y z:Tm} {G:List Ty} {a b c:Ty} (h:x.typ G=.ok a) (k:y.typ G=.ok b) (m:z.typ G=.ok c):typAll [x,y,z] G=.ok [a,b,c]:=by simp [typAll,h,k,m]

theorem made_var {G:List Ty} {t:Ty} {i:Nat} (h:G.reverse[i]? = some t):Made G t 1 1 (.mk 1 i .zero []) where
 ok:=by simp [Tm.ok,okAllT,Tm.formed,Tm.kind,Tm.index,Tm.type,Tm.args,arities,Ty.zero,Ty.kind,Ty.args]
 typ:=by
   unfold Tm.typ
   rw [if_pos rfl]
   have hi:i<G.length:=by have:=(List.getElem?_eq_some_iff.1 h).1; simpa using this
   have e:((i:Nat):Int).toNat=i:=Int.toNat_natCast i
   rw [dif_pos (by rw [e]; exact hi)]
   rw [List.getElem?_reverse hi,List.getElem?_eq_getElem (by omega)] at h
   simp only [e]
   simpa using h
 size:=by simp [Tm.size,sizeAllT]
 occ n:=by unfold Tm.occ; rw [if_pos rfl]; split <;> omega
 thin:=by simp [Tm.bulk,bulkAll,Tm.size,sizeAllT,Ty.zero,Ty.nodes,nodesAll]

theorem same_refl (n:Nat):∀ T:Ty,T.nodes≤n→T.same T=true:=by
 induction n with
 | zero=>intro T h; have:=nodes_pos T; omega
 | succ n ih=>
   intro T h
   unfold Ty.same
   rw [order2_eq,List.all_cons,Bool.and_eq_true]
   refine ⟨by simp [alike],alike_pairs _ fun p hp=>?_⟩
   obtain ⟨k,l⟩:=T
   simp only [Ty.args] at hp
   simp only [Ty.nodes] at h
   obtain ⟨i,hi,rfl⟩:=List.mem_iff_getElem.1 hp
   simp only [List.length_zip,Nat.min_self] at hi
   rw [List.getElem_zip]
   have:=nodesAll_get l i hi
   exact ⟨rfl,ih l[i] (by omega)⟩
theorem same_rfl (T:Ty):T.same T=true:=same_refl _ T (Nat.le_refl _)

section
variable {G : List Ty} {s t u : Ty} {a b c p q r : Nat} {f x y z : Tm}

theorem made_app (hf:Made G (tyFun s t) a p f) (hx:Made G s b q x):Made G t (1+a+b) (p+q) (.mk 3 0 .zero [f,x]) where
 ok:=by rw [okT_eq]; simp [okAllT,hf.ok,hx.ok,Tm.args,Tm.formed,Tm.kind,Tm.index,Tm.type,arities,Ty.zero,Ty.kind,Ty.args]
 typ:=by rw [typ_node (by decide) rfl (typAll2 hf.typ hx.typ)]; simp [nodeTy,tyFun,same_rfl]
 size:=by have:=hf.size; have:=hx.size; simp only [Tm.size,sizeAllT]; omega
 occ n:=by have:=hf.occ n; have:=hx.occ n; simp [Tm.occ,occAll]; omega
 thin:=by have:=hf.thin; have:=hx.thin; simp only [Tm.bulk,bulkAll,Tm.size,sizeAllT,Ty.zero,Ty.nodes,nodesAll]; omega
theorem made_lam (hs:s.ok=true) (hn:s.nodes≤3) (ht:t.nodes≤40) (hx:Made (G ++ [s]) t a p x):Made G (tyFun s t) (1+a) p (.mk 2 0 s [x]) where
 ok:=by
   have e:s.err=0:=err_zero.2 ⟨hs,by omega⟩
   rw [okT_eq]; simp [okAllT,hx.ok,Tm.args,Tm.formed,Tm.kind,Tm.index,Tm.type,arities,e]
 typ:=by
   rw [typ_node (by decide) rfl (typAll1 hx.typ)]
   simp only [nodeTy]
   rw [if_pos trivial,if_pos (by simp only [tyFun,Ty.nodes,nodesAll]; omega)]
 size:=by have:=hx.size; simp only [Tm.size,sizeAllT]; omega
 occ n:=by have:=hx.occ (n+1); simp [Tm.occ,occAll]; omega
 thin:=by have:=hx.thin; simp only [Tm.bulk,bulkAll,Tm.size,sizeAllT]; omega
theorem made_pair (h:s.nodes+t.nodes≤40) (hx:Made G s a p x) (hy:Made G t b q y):Made G (.mk 3 [s,t]) (1+a+b) (p+q) (.mk 10 0 .zero [x,y]) where
 ok:=by rw [okT_eq]; simp [okAllT,hx.ok,hy.ok,Tm.args,Tm.formed,Tm.kind,Tm.index,Tm.type,arities,Ty.zero,Ty.kind,Ty.args]
 typ:=by
   rw [typ_node (by decide) rfl (typAll2 hx.typ hy.typ)]
   simp only [nodeTy]
   rw [if_neg (by decide),if_neg (by decide),if_pos trivial,if_pos (by simp only [Ty.nodes,nodesAll]; omega)]
 size:=by have:=hx.size; have:=hy.size; simp only [Tm.size,sizeAllT]; omega
 occ n:=by have:=hx.occ n; have:=hy.occ n; simp [Tm.occ,occAll]; omega
 thin:=by have:=hx.thin; have:=hy.thin; simp only [Tm.bulk,bulkAll,Tm.size,sizeAllT,Ty.zero,Ty.nodes,nodesAll]; omega
theorem made_fst (hx:Made G (.mk 3 [s,t]) a p x):Made G s (1+a) p (.mk 11 0 .zero [x]) where
 ok:=by rw [okT_eq]; simp [okAllT,hx.ok,Tm.args,Tm.formed,Tm.kind,Tm.index,Tm.type,arities,Ty.zero,Ty.kind,Ty.args]
 typ:=by rw [typ_node (by decide) rfl (typAll1 hx.typ)]; simp [nodeTy]
 size:=by have:=hx.size; simp only [Tm.size,sizeAllT]; omega
 occ n:=by have:=hx.occ n; simp [Tm.occ,occAll]; omega
 thin:=by have:=hx.thin; simp only [Tm.bulk,bulkAll,Tm.size,sizeAllT,Ty.zero,Ty.nodes,nodesAll]; omega
theorem made_snd (hx:Made G (.mk 3 [s,t]) a p x):Made G t (1+a) p (.mk 12 0 .zero [x]) where
 ok:=by rw [okT_eq]; simp [okAllT,hx.ok,Tm.args,Tm.formed,Tm.kind,Tm.index,Tm.type,arities,Ty.zero,Ty.kind,Ty.args]
 typ:=by rw [typ_node (by decide) rfl (typAll1 hx.typ)]; simp [nodeTy]
 size:=by have:=hx.size; simp only [Tm.size,sizeAllT]; omega
 occ n:=by have:=hx.occ n; simp [Tm.occ,occAll]; omega
 thin:=by have:=hx.thin; simp only [Tm.bulk,bulkAll,Tm.size,sizeAllT,Ty.zero,Ty.nodes,nodesAll]; omega
theorem made_rec (hs:t.ok=true) (hn:t.nodes≤3) (hx:Made G t a p x) (hy:Made G (tyFun tyNat (tyFun t t)) b q y) (hz:Made G tyNat c r z):Made G t (1+a+b+c) (p+q+r) (.mk 6 0 t [x,y,z]) where
 ok:=by
   have e:t.err=0:=err_zero.2 ⟨hs,by omega⟩
   rw [okT_eq]; simp [okAllT,hx.ok,hy.ok,hz.ok,Tm.args,Tm.formed,Tm.kind,Tm.index,Tm.type,arities,e]
 typ:=by rw [typ_node (by decide) rfl (typAll3 hx.typ hy.typ hz.typ)]; simp [nodeTy,argTys,ownTy,sameAll,same_rfl]
 size:=by have:=hx.size; have:=hy.size; have:=hz.size; simp only [Tm.size,sizeAllT]; omega
 occ n:=by have:=hx.occ n; have:=hy.occ n; have:=hz.occ n; simp [Tm.occ,occAll]; omega
 thin:=by have:=hx.thin; have:=hy.thin; have:=hz.thin; simp only [Tm.bulk,bulkAll,Tm.size,sizeAllT]; omega
theorem made_fold (hs:t.ok=true) (hn:t.nodes≤3) (hx:Made G t a p x) (hy:Made G (tyFun tyNat (tyFun tyList (tyFun t t))) b q y) (hz:Made G tyList c r z):Made G t (1+a+b+c) (p+q+r) (.mk 9 0 t [x,y,z]) where
 ok:=by
   have e:t.err=0:=err_zero.2 ⟨hs,by omega⟩
   rw [okT_eq]; simp [okAllT,hx.ok,hy.ok,hz.ok,Tm.args,Tm.formed,Tm.kind,Tm.index,Tm.type,arities,e]
 typ:=by rw [typ_node (by decide) rfl (typAll3 hx.typ hy.typ hz.typ)]; simp [nodeTy,argTys,ownTy,sameAll,same_rfl]
 size:=by have:=hx.size; have:=hy.size; have:=hz.size; simp only [Tm.size,sizeAllT]; omega
 occ n:=by have:=hx.occ n; have:=hy.occ n; have:=hz.occ n; simp [Tm.occ,occAll]; omega
 thin:=by have:=hx.thin; have:=hy.thin; have:=hz.thin; simp only [Tm.bulk,bulkAll,Tm.size,sizeAllT]; omega
theorem made_succ (hx:Made G tyNat a p x):Made G tyNat (1+a) p (.mk 5 0 .zero [x]) where
 ok:=by rw [okT_eq]; simp [okAllT,hx.ok,Tm.args,Tm.formed,Tm.kind,Tm.index,Tm.type,arities,Ty.zero,Ty.kind,Ty.args]
 typ:=by rw [typ_node (by decide) rfl (typAll1 hx.typ)]; simp [nodeTy,argTys,ownTy,sameAll,same_rfl]
 size:=by have:=hx.size; simp only [Tm.size,sizeAllT]; omega
 occ n:=by have:=hx.occ n; simp [Tm.occ,occAll]; omega
 thin:=by have:=hx.thin; simp only [Tm.bulk,bulkAll,Tm.size,sizeAllT,Ty.zero,Ty.nodes,nodesAll]; omega
theorem made_cons (hx:Made G tyNat a p x) (hy:Made G tyList b q y):Made G tyList (1+a+b) (p+q) (.mk 8 0 .zero [x,y]) where
 ok:=by rw [okT_eq]; simp [okAllT,hx.ok,hy.ok,Tm.args,Tm.formed,Tm.kind,Tm.index,Tm.type,arities,Ty.zero,Ty.kind,Ty.args]
 typ:=by rw [typ_node (by decide) rfl (typAll2 hx.typ hy.typ)]; simp [nodeTy,argTys,ownTy,sameAll,same_rfl]
 size:=by have:=hx.size; have:=hy.size; simp only [Tm.size,sizeAllT]; omega
 occ n:=by have:=hx.occ n; have:=hy.occ n; simp [Tm.occ,occAll]; omega
 thin:=by have:=hx.thin; have:=hy.thin; simp only [Tm.bulk,bulkAll,Tm.size,sizeAllT,Ty.zero,Ty.nodes,nodesAll]; omega
theorem made_leaf {k:Int} {t:Ty} (h:k=4∧t=tyNat∨k=7∧t=tyList∨k=13∧t=tyUnit):Made G t 1 0 (.mk k 0 .zero []) where
 ok:=by rcases h with ⟨rfl,_⟩ | ⟨rfl,_⟩ | ⟨rfl,_⟩ <;> rw [okT_eq] <;> simp [okAllT,Tm.args,Tm.formed,Tm.kind,Tm.index,Tm.type,arities,Ty.zero,Ty.kind,Ty.args]
 typ:=by
   have e:typAll [] G=.ok []:=rfl
   rcases h with ⟨rfl,rfl⟩ | ⟨rfl,rfl⟩ | ⟨rfl,rfl⟩ <;> rw [typ_node (by decide) rfl (by simpa using e)] <;> simp [nodeTy,argTys,ownTy,sameAll]
 size:=by simp [Tm.size,sizeAllT]
 occ n:=by rcases h with ⟨rfl,_⟩ | ⟨rfl,_⟩ | ⟨rfl,_⟩ <;> simp [Tm.occ,occAll]
 thin:=by simp [Tm.bulk,bulkAll,Tm.size,sizeAllT,Ty.zero,Ty.nodes,nodesAll]
end

end Go.Proofs.YtipfnkajdooiiaaGreatDoor
