/- The ways of mk.Term: what is made has its type, and keeps the bounds. -/
import Derived.Test.YtipfnkajdooiiaaGreatDoorQPackKit
namespace Go.Proofs.YtipfnkajdooiiaaGreatDoor
open Go.RowKit

section
variable {G : List Ty} {s t : Ty} {k : Nat} {x y z : Tm}
theorem small_nodes {s:Ty} (h:s.nodes+1≤2 ^ (0+1)):s.nodes≤1:=by simp at h; omega
/-- Bounds of a way: for small types, for others. -/
theorem way_bound {a p:Nat} {T:Tm} (h:Made G t a p T) (h1:t.nodes≤1→a≤bdA k∧p≤bdP k) (h2:¬ t.nodes≤1→a≤bdB k∧p≤bdQ k):Made G t (bdN k t) (bdO k t) T:=by
 by_cases hn:t.nodes≤1
 · rw [(bd_one hn).1,(bd_one hn).2]; exact h.mono (h1 hn).1 (h1 hn).2
 · rw [(bd_more hn).1,(bd_more hn).2]; exact h.mono (h2 hn).1 (h2 hn).2
theorem way_var {i:Nat} (h:G.reverse[i]? = some t):Made G t (bdN k t) (bdO k t) (.mk 1 i .zero []):=by
 have:=bd_facts k
 exact way_bound (made_var h) (fun _=>by omega) (fun _=>by omega)
theorem way_apply (hs:s.ok=true) (hs1:s.nodes≤1) (ht:t.nodes≤3) (hx:Made (G ++ [s]) t (bdN k t) (bdO k t) x) (hy:Made G s (bdN k s) (bdO k s) y):Made G t (bdN (k+1) t) (bdO (k+1) t) (.mk 3 0 .zero [.mk 2 0 s [x],y]):=by
 rw [(bd_one hs1).1,(bd_one hs1).2] at hy
 have hb:=bd_facts k
 refine way_bound (made_app (made_lam hs (by omega) (by omega) hx) hy) (fun h=>?_) (fun h=>?_)
 · rw [(bd_one h).1,(bd_one h).2]; simp only [bdA,bdP]; omega
 · rw [(bd_more h).1,(bd_more h).2]; simp only [bdB,bdQ]; omega
theorem way_fst (hs1:s.nodes≤1) (ht:t.nodes≤3) (hx:Made G t (bdN k t) (bdO k t) x) (hy:Made G s (bdN k s) (bdO k s) y):Made G t (bdN (k+1) t) (bdO (k+1) t) (.mk 11 0 .zero [.mk 10 0 .zero [x,y]]):=by
 rw [(bd_one hs1).1,(bd_one hs1).2] at hy
 have hb:=bd_facts k
 refine way_bound (made_fst (made_pair (by omega) hx hy)) (fun h=>?_) (fun h=>?_)
 · rw [(bd_one h).1,(bd_one h).2]; simp only [bdA,bdP]; omega
 · rw [(bd_more h).1,(bd_more h).2]; simp only [bdB,bdQ]; omega
theorem way_snd (hs1:s.nodes≤1) (ht:t.nodes≤3) (hx:Made G s (bdN k s) (bdO k s) x) (hy:Made G t (bdN k t) (bdO k t) y):Made G t (bdN (k+1) t) (bdO (k+1) t) (.mk 12 0 .zero [.mk 10 0 .zero [x,y]]):=by
 rw [(bd_one hs1).1,(bd_one hs1).2] at hx
 have hb:=bd_facts k
 refine way_bound (made_snd (made_pair (by omega) hx hy)) (fun h=>?_) (fun h=>?_)
 · rw [(bd_one h).1,(bd_one h).2]; simp only [bdA,bdP]; omega
 · rw [(bd_more h).1,(bd_more h).2]; simp only [bdB,bdQ]; omega
theorem made_num:∀ n:Nat,Made G tyNat (n+1) 0 (numTm n)
 | 0=>made_leaf (.inl ⟨rfl,rfl⟩)
 | n+1=>(made_succ (made_num n)).mono (by omega) (Nat.le_refl _)
theorem way_num {n:Nat} (hn:n≤2):Made G tyNat (bdN k tyNat) (bdO k tyNat) (numTm n):=by
 have:=bd_facts k
 exact way_bound (made_num n) (fun _=>by omega) (fun h=>absurd (by simp [tyNat,Ty.nodes,nodesAll]) h)
theorem way_rec {n:Nat} (hn:n≤2) (hs:t.ok=true) (ht:t.nodes≤3) (hx:Made G t (bdN k t) (bdO k t) x) (hy:Made (G ++ [tyNat,t]) t (bdN k t) (bdO k t) y) :
   Made G t (bdN (k+1) t) (bdO (k+1) t) (.mk 6 0 t [x,.mk 2 0 tyNat [.mk 2 0 t [y]],numTm n]):=by
 have hb:=bd_facts k
 have hy':Made ((G ++ [tyNat]) ++ [t]) t (bdN k t) (bdO k t) y:=by rw [List.append_assoc]; exact hy
 refine way_bound (made_rec hs ht hx (made_lam rfl (by decide) (by simp only [tyFun,Ty.nodes,nodesAll]; omega) (made_lam hs ht (by omega) hy')) (made_num n)) (fun h=>?_) (fun h=>?_)
 · rw [(bd_one h).1,(bd_one h).2]; simp only [bdA,bdP]; omega
 · rw [(bd_more h).1,(bd_more h).2]; simp only [bdB,bdQ]; omega
theorem way_fold (hs:t.ok=true) (ht:t.nodes≤3) (hx:Made G t (bdN k t) (bdO k t) x) (hy:Made (G ++ [tyNat,tyList,t]) t (bdN k t) (bdO k t) y) (hz:Made G tyList (bdN k tyList) (bdO k tyList) z) :
   Made G t (bdN (k+1) t) (bdO (k+1) t) (.mk 9 0 t [x,.mk 2 0 tyNat [.mk 2 0 tyList [.mk 2 0 t [y]]],z]):=by
 have hb:=bd_facts k
 have hl:tyList.nodes≤1:=by decide
 rw [(bd_one hl).1,(bd_one hl).2] at hz
 have hy':Made (((G ++ [tyNat]) ++ [tyList]) ++ [t]) t (bdN k t) (bdO k t) y:=by rw [List.append_assoc,List.append_assoc]; exact hy
 refine way_bound (made_fold hs ht hx (made_lam rfl (by decide) (by simp only [tyFun,Ty.nodes,nodesAll]; omega) (made_lam rfl (by decide) (by simp only [tyFun,Ty.nodes,nodesAll]; omega) (made_lam hs ht (by omega) hy'))) hz) (fun h=>?_) (fun h=>?_)
 · rw [(bd_one h).1,(bd_one h).2]; simp only [bdA,bdP]; omega
 · rw [(bd_more h).1,(bd_more h).2]; simp only [bdB,bdQ]; omega
theorem way_given {i:Nat} (hi:G.reverse[i]? = some (tyFun s t)) (hn:s.nodes≤1) (hx:Made G s (bdN k s) (bdO k s) x):Made G t (bdN (k+1) t) (bdO (k+1) t) (.mk 3 0 .zero [.mk 1 i .zero [],x]):=by
 rw [(bd_one hn).1,(bd_one hn).2] at hx
 have hb:=bd_facts k
 refine way_bound (made_app (made_var hi) hx) (fun h=>?_) (fun h=>?_)
 · simp only [bdA,bdP]; omega
 · simp only [bdB,bdQ]; omega
theorem nat_bd:bdN k tyNat=bdA k∧bdO k tyNat=bdP k:=bd_one (by decide)
theorem list_bd:bdN k tyList=bdA k∧bdO k tyList=bdP k:=bd_one (by decide)
theorem way_succ (hx:Made G tyNat (bdN k tyNat) (bdO k tyNat) x):Made G tyNat (bdN (k+1) tyNat) (bdO (k+1) tyNat) (.mk 5 0 .zero [x]):=by
 rw [nat_bd.1,nat_bd.2] at hx ⊢
 have hb:=bd_facts k
 exact (made_succ hx).mono (by simp only [bdA]; omega) (by simp only [bdP]; omega)
theorem made_plus:Made G (tyFun tyNat (tyFun tyNat tyNat)) 9 0 plusTm where
 ok:=by decide
 typ:=by
   unfold plusTm lamTm recTm varTm
   simp [Tm.typ,typAll,nodeTy,tyFun,argTys,ownTy,sameAll,same_rfl,tyNat,Ty.nodes,nodesAll]
 size:=by decide
 occ n:=by simp [plusTm,lamTm,recTm,varTm,Tm.occ,occAll]; omega
 thin:=by decide
theorem made_sub:Made G (tyFun tyNat (tyFun tyNat tyNat)) 16 0 subTm where
 ok:=by decide
 typ:=by
   unfold subTm predTm lamTm recTm varTm
   simp [Tm.typ,typAll,nodeTy,tyFun,argTys,ownTy,sameAll,same_rfl,tyNat,Ty.nodes,nodesAll]
 size:=by decide
 occ n:=by simp [subTm,predTm,lamTm,recTm,varTm,Tm.occ,occAll]; omega
 thin:=by decide
theorem way_two {f:Tm} {a:Nat} (ha:a≤16) (hf:Made G (tyFun tyNat (tyFun tyNat tyNat)) a 0 f) (hx:Made G tyNat (bdN k tyNat) (bdO k tyNat) x) (hy:Made G tyNat (bdN k tyNat) (bdO k tyNat) y):Made G tyNat (bdN (k+1) tyNat) (bdO (k+1) tyNat) (appMk f [x,y]):=by
 rw [nat_bd.1,nat_bd.2] at hx hy ⊢
 have hb:=bd_facts k
 exact (made_app (made_app hf hx) hy).mono (by simp only [bdA]; omega) (by simp only [bdP]; omega)
theorem way_cons (hx:Made G tyNat (bdN k tyNat) (bdO k tyNat) x) (hy:Made G tyList (bdN k tyList) (bdO k tyList) y):Made G tyList (bdN (k+1) tyList) (bdO (k+1) tyList) (.mk 8 0 .zero [x,y]):=by
 rw [nat_bd.1,nat_bd.2] at hx
 rw [list_bd.1,list_bd.2] at hy ⊢
 have hb:=bd_facts k
 exact (made_cons hx hy).mono (by simp only [bdA]; omega) (by simp only [bdP]; omega)
theorem way_nil:Made G tyList (bdN k tyList) (bdO k tyList) (.mk 7 0 .zero []):=by
 rw [list_bd.1,list_bd.2]
 have hb:=bd_facts k
 exact (made_leaf (.inr (.inl ⟨rfl,rfl⟩))).mono (by omega) (by omega)
theorem way_unit:Made G tyUnit (bdN k tyUnit) (bdO k tyUnit) (.mk 13 0 .zero []):=by
 have h:tyUnit.nodes≤1:=by decide
 rw [(bd_one h).1,(bd_one h).2]
 have hb:=bd_facts k
 exact (made_leaf (.inr (.inr ⟨rfl,rfl⟩))).mono (by omega) (by omega)
/-- A pair, or a function: below, the depth is one less (0 stays 0). -/
theorem way_pair {a b:Ty} {d:Int} (h:(Ty.mk 3 [a,b]).nodes≤3) (hx:Made G a (bdN (d - 1).toNat a) (bdO (d - 1).toNat a) x) (hy:Made G b (bdN (d - 1).toNat b) (bdO (d - 1).toNat b) y) :
   Made G (.mk 3 [a,b]) (bdN d.toNat (.mk 3 [a,b])) (bdO d.toNat (.mk 3 [a,b])) (.mk 10 0 .zero [x,y]):=by
 simp only [Ty.nodes,nodesAll] at h
 have h1:=nodes_pos a
 have h2:=nodes_pos b
 rw [(bd_one (t:=a) (by omega)).1,(bd_one (t:=a) (by omega)).2] at hx
 rw [(bd_one (t:=b) (by omega)).1,(bd_one (t:=b) (by omega)).2] at hy
 refine way_bound (made_pair (by omega) hx hy) (fun h=>by simp only [Ty.nodes,nodesAll] at h; omega) (fun _=>?_)
 by_cases hd:0<d
 · obtain ⟨k,hk⟩:∃ k,d.toNat=k+1:=⟨d.toNat - 1,by omega⟩
   have e:(d - 1).toNat=k:=by omega
   have hb:=bd_facts k
   rw [e,hk]; simp only [bdB,bdQ]; omega
 · have e:(d - 1).toNat=0:=by omega
   have e0:d.toNat=0:=by omega
   rw [e,e0]; decide
theorem way_lam {a b:Ty} {d:Int} (h:(Ty.mk 4 [a,b]).nodes≤3) (ha:a.ok=true) (hx:Made (G ++ [a]) b (bdN (d - 1).toNat b) (bdO (d - 1).toNat b) x) :
   Made G (.mk 4 [a,b]) (bdN d.toNat (.mk 4 [a,b])) (bdO d.toNat (.mk 4 [a,b])) (.mk 2 0 a [x]):=by
 simp only [Ty.nodes,nodesAll] at h
 have h1:=nodes_pos a
 have h2:=nodes_pos b
 rw [(bd_one (t:=b) (by omega)).1,(bd_one (t:=b) (by omega)).2] at hx
 refine way_bound (made_lam ha (by omega) (by omega) hx) (fun h=>by simp only [Ty.nodes,nodesAll] at h; omega) (fun _=>?_)
 by_cases hd:0<d
 · obtain ⟨k,hk⟩:∃ k,d.toNat=k+1:=⟨d.toNat - 1,by omega⟩
   have e:(d - 1).toNat=k:=by omega
   have hb:=bd_facts k
   rw [e,hk]; simp only [bdB,bdQ]; omega
 · have e:(d - 1).toNat=0:=by omega
   have e0:d.toNat=0:=by omega
   rw [e,e0]; decide
end

theorem Deck.drewd {g:Nat} {w:World} (h:Deck w g):Deck w.drew g:=h.grown (row:=none) ⟨rfl,rfl,rfl,Nat.le_refl _,fun _ _ _=>rfl⟩ (by simp)
theorem bulk_1 {x:Tm} {a:Nat} (h:x.bulk≤a) (ha:a≤400000:=by decide):bulkAll [x]≤400000:=by simp only [bulkAll]; generalize x.bulk=i at h ⊢; omega
theorem bulk_2 {x y:Tm} {a b:Nat} (h:x.bulk≤a) (k:y.bulk≤b) (ha:a+b≤400000:=by decide):bulkAll [x,y]≤400000:=by simp only [bulkAll]; generalize x.bulk=i at h ⊢; generalize y.bulk=j at k ⊢; omega
theorem bulk_3 {x y z:Tm} {a b c:Nat} (h:x.bulk≤a) (k:y.bulk≤b) (m:z.bulk≤c) (ha:a+b+c≤400000:=by decide):bulkAll [x,y,z]≤400000:=by simp only [bulkAll]; generalize x.bulk=i at h ⊢; generalize y.bulk=j at k ⊢; generalize z.bulk=l at m ⊢; omega
theorem bulkN1 {x:Tm} {a k:Int} {n:Nat} {T:Ty} (hT:T.nodes≤3) (h:x.bulk≤n):(Tm.mk k a T [x]).bulk≤n+10:=by simp only [Tm.bulk,bulkAll]; generalize x.bulk=i at h ⊢; omega
theorem bulkN2 {x y:Tm} {a k:Int} {n m:Nat} {T:Ty} (hT:T.nodes≤3) (h:x.bulk≤n) (g:y.bulk≤m):(Tm.mk k a T [x,y]).bulk≤n+m+10:=by simp only [Tm.bulk,bulkAll]; generalize x.bulk=i at h ⊢; generalize y.bulk=j at g ⊢; omega
theorem n_call (k:Int) {l:List Tm} {s:Value} {w:World} (hb:bulkAll l≤400000) (hl:TmR.Sl (· < w.heap.size) w l s) :
   Calls Tryz.prog 67 #[.int .i64 k,s] w fun e w'=>∃ T v,T=Tm.mk k 0 .zero l∧e=.returned v∧IsTm (fun b=>w.heap.size≤b∧b<w'.heap.size) w' T v∧Below w.heap.size w w':=
 (n_any k l s w hb hl).mono fun _ _ ⟨v,h⟩=>⟨_,v,rfl,h⟩
theorem t_call (k:Int) {T:Ty} {l:List Tm} {u s:Value} {w:World} (hT0:T.nodes≤400000) (hb:bulkAll l≤400000) (hT:IsTy (· < w.heap.size) w T u) (hl:TmR.Sl (· < w.heap.size) w l s) :
   Calls Tryz.prog 68 #[.int .i64 k,u,s] w fun e w'=>∃ X v,X=Tm.mk k 0 T l∧e=.returned v∧IsTm (fun b=>w.heap.size≤b∧b<w'.heap.size) w' X v∧Below w.heap.size w w':=
 (t_any k T l u s w hT0 hb hT hl).mono fun _ _ ⟨v,h⟩=>⟨_,v,rfl,h⟩
theorem app_call {f:Tm} {l:List Tm} {v s:Value} {w:World} (hne:l≠[]) (hb:f.bulk+bulkAll l+2 * l.length≤400000) (hf:IsTm (· < w.heap.size) w f v) (hl:TmR.Sl (· < w.heap.size) w l s) :
   Calls Tryz.prog 72 #[v,s] w fun e w'=>∃ T v,T=appMk f l∧e=.returned v∧IsTm (fun b=>w.heap.size≤b∧b<w'.heap.size) w' T v∧Below w.heap.size w w':=
 (app_mk f l v s w hb hf hl).mono fun _ _ ⟨v,h1,h2,h3⟩=>⟨_,v,rfl,h1,IsTm.keep (fun b hb=>⟨by
   have h0:l.length≠0:=fun e=>hne (List.eq_nil_of_length_eq_zero e)
   have:=hb.1; omega,hb.2⟩) (fun _ _=>rfl) _ h2,h3⟩
theorem app_bulk {f x y:Tm} {a b c:Nat} (h:f.bulk≤a) (k:x.bulk≤b) (m:y.bulk≤c) (ha:a+b+c+10≤400000:=by decide):f.bulk+bulkAll [x,y]+2 * [x,y].length≤400000:=by
 simp only [bulkAll,List.length_cons,List.length_nil]; generalize f.bulk=i at h ⊢; generalize x.bulk=j at k ⊢; generalize y.bulk=l at m ⊢; omega
theorem sl_ptr {α:Type} {R:Rep α} {S:Nat→Prop} {w:World} {l:List α} {n m a b:Nat} (h:R.Sl S w l (.slice (some ⟨n,0,none⟩) a b)) (e:m=n):R.Sl S w l (.slice (some ⟨m,0,none⟩) a b):=e ▸ h
theorem num_call (n:Nat) {w:World} (hn:n≤2):Calls Tryz.prog 69 #[.int .i64 n] w fun e w'=>∃ T v,T=numTm n∧e=.returned v∧IsTm (fun b=>w.heap.size≤b∧b<w'.heap.size) w' T v∧Below w.heap.size w w':=
 (num_mk n w (by omega)).mono fun _ _ ⟨v,h⟩=>⟨_,v,rfl,h⟩
theorem numTm_bulk:∀ n:Nat,(numTm n).bulk=2 * (n+1)
 | 0=>by decide
 | n+1=>by have:=numTm_bulk n; simp only [numTm,Tm.bulk,bulkAll,Ty.zero,Ty.nodes,nodesAll] at *; omega
theorem ks_ptr {w:World} {gg gg' n:Nat} {t:TypeId} {cs:Array Value} (h:Blk w gg t cs∧n≤gg) (e:gg=gg'):Blk w gg' t cs∧n≤gg':=e ▸ h
theorem tAl (g:Nat) (w:World) (o:Obj):Turn (· = g) w (w.alloc o):=Turn.alloc w o
theorem tDr (g:Nat) (w:World):Turn (· = g) w w.drew:=Turn.drew w
theorem tRf (g:Nat) (w:World):Turn (· = g) w w:=Turn.refl _ w
theorem tCa (g:Nat) {a b:World} (h:Below a.heap.size a b):Turn (· = g) a b:=Turn.call h
/-- The deck's block, and blocks behind a number. -/
def Free (g n b:Nat):Prop:=b=g∨n<b
theorem Turn.free {g n:Nat} {a b:World} (h:Turn (· = g) a b):Turn (Free g n) a b:=h.mono fun _ _ e=>.inl e
theorem free_set5 {g n q:Nat} {w:World} (h:n<q) (a b c d e:Value):Turn (Free g n) w (((((w.setCell ⟨q,0,none⟩ a).setCell ⟨q,1,none⟩ b).setCell ⟨q,2,none⟩ c).setCell ⟨q,3,none⟩ d).setCell ⟨q,4,none⟩ e):=
 Turn.grown (only_set5 w q a b c d e) (fun _ e=>by cases e; exact .inr h)
theorem sl_alloc {α:Type} {R:Rep α} {w:World} {l:List α} {v:Value} (h:R.Sl (· < w.heap.size) w l v) (o:Obj):R.Sl (· < (w.alloc o).heap.size) (w.alloc o) l v:=
 h.keep (fun b hb=>by have hb:b<w.heap.size:=hb; simp; omega) (fun p hp=>World.cell?_alloc_lt _ _ _ hp)

/-- A term that was made and put into a block of its own. -/
def StepR (g:Nat) (Y:Tm→Prop) (W w0:World) (x:Value) (wx:World):Prop:=
 ∃ q y B e A c,x=.pointer (some ⟨q,0,none⟩)∧Y y∧Blk wx q 42 #[.int .i64 y.kind,.int .i64 y.index,.int .i64 y.type.kind,.slice B y.type.args.length e,.slice A y.args.length c]∧w0.heap.size≤q ∧
   IsTm (fun b=>W.heap.size≤b∧b≠q∧b<wx.heap.size) wx y (.agg #[.int .i64 y.kind,.int .i64 y.index,.int .i64 y.type.kind,.slice B y.type.args.length e,.slice A y.args.length c])∧Deck wx g∧Turn (· = g) w0 wx
theorem step_set {g gg lo:Nat} {Y:Tm→Prop} {W w0 w9:World} {y:Tm} {B A:Option Addr} {e c:Nat} (hy:Y y) (hb:Blk w9 gg 42 #[.int .i64 0,.int .i64 0,.int .i64 0,.slice none 0 0,.slice none 0 0]) (hg:g<W.heap.size) (hgg:w0.heap.size≤gg) (hW:W.heap.size≤w0.heap.size) (hlt:gg<lo)
   (ht:Turn (· = g) w0 w9) (hd:Deck w9 g) (hT:IsTm (fun b=>lo≤b∧b<w9.heap.size) w9 y (.agg #[.int .i64 y.kind,.int .i64 y.index,.int .i64 y.type.kind,.slice B y.type.args.length e,.slice A y.args.length c])) :
   StepR g Y W w0 (.pointer (some ⟨gg,0,none⟩)) (((((w9.setCell ⟨gg,0,none⟩ (.int .i64 y.kind)).setCell ⟨gg,1,none⟩ (.int .i64 y.index)).setCell ⟨gg,2,none⟩ (.int .i64 y.type.kind)).setCell ⟨gg,3,none⟩ (.slice B y.type.args.length e)).setCell ⟨gg,4,none⟩ (.slice A y.args.length c)):=by
 have hs:=only_set5 w9 gg (.int .i64 y.kind) (.int .i64 y.index) (.int .i64 y.type.kind) (.slice B y.type.args.length e) (.slice A y.args.length c)
 have hz:=ht.size
 refine ⟨gg,y,B,e,A,c,rfl,hy,hb.set5 _ _ _ _ _,hgg,IsTm.keep (fun b h=>⟨by omega,by omega,Nat.lt_of_lt_of_le h.2 hs.size⟩) (fun p hp=>World.cell?_of_block (hs.block p.block hp.2 (by simp; omega))) _ hT,hd.grown hs (fun k e=>by cases e; omega),?_⟩
 exact ⟨hs.os.trans ht.os,hs.tape.trans ht.tape,hs.output.trans ht.output,Nat.le_trans hz hs.size,fun k hk hx=>(hs.block k (Nat.lt_of_lt_of_le hk hz) (by simp; omega)).trans (ht.block k hk hx)⟩
theorem step_new {g lo:Nat} {Y:Tm→Prop} {W w0 w9:World} {y:Tm} {B A:Option Addr} {e c:Nat} (hy:Y y) (hW:W.heap.size≤lo)
   (ht:Turn (· = g) w0 w9) (hd:Deck w9 g) (hT:IsTm (fun b=>lo≤b∧b<w9.heap.size) w9 y (.agg #[.int .i64 y.kind,.int .i64 y.index,.int .i64 y.type.kind,.slice B y.type.args.length e,.slice A y.args.length c])) :
   StepR g Y W w0 (.pointer (some ⟨w9.heap.size,0,none⟩)) (w9.alloc (Obj.cells #[.int .i64 y.kind,.int .i64 y.index,.int .i64 y.type.kind,.slice B y.type.args.length e,.slice A y.args.length c] 42)):=
 ⟨_,y,B,e,A,c,rfl,hy,Blk.new _ _ _,ht.size,IsTm.keep (fun b h=>⟨Nat.le_trans hW h.1,by omega,by simp; omega⟩) (fun p hp=>World.cell?_alloc_lt _ _ _ hp.2) _ hT,hd.box _,ht.trans (Turn.alloc _ _)⟩
/-- Where a way of mk.Term begins: the call's facts, and the world w0 at hand. -/
structure Here (g M:Nat) (G:List Ty) (t:Ty) (d:Int) (A:Option Addr) (c:Nat) (B:Option Addr) (e:Nat) (w W w0:World):Prop where
 ih:IHT g M
 hm:4 * d.toNat+t.nodes≤M
 hd5:d≤5
 hdn:(t.nodes:Int) - 20≤d
 hlen:G.length+4 * d.toNat+t.nodes≤60
 hok:t.ok=true
 hn:t.nodes≤3
 ctx:Ctx g W G (.slice A G.length c)
 typ:Typ g W t (.agg #[.int .i64 t.kind,.slice B t.args.length e])
 typ0:Typ g w t (.agg #[.int .i64 t.kind,.slice B t.args.length e])
 box:Boxes g w W t B e
 turn:Turn (· = g) W w0
 deck:Deck w0 g
namespace Here
variable {g M : Nat} {G : List Ty} {t : Ty} {d : Int} {A : Option Addr} {c : Nat} {B : Option Addr} {e : Nat} {w W w0 w1 : World}
theorem next (h:Here g M G t d A c B e w W w0) (ht:Turn (· = g) w0 w1) (hd:Deck w1 g):Here g M G t d A c B e w W w1:={ h with turn:=h.turn.trans ht,deck:=hd }
theorem lt (h:Here g M G t d A c B e w W w0):g<w0.heap.size:=h.deck.lt
theorem sizes (h:Here g M G t d A c B e w W w0):g<w.heap.size∧W.heap.size=w.heap.size+2∧W.heap.size≤w0.heap.size:=⟨h.box.lt,h.box.size,h.turn.size⟩
theorem ctxAt (h:Here g M G t d A c B e w W w0):Ctx g w0 G (.slice A G.length c):=h.ctx.turn h.turn
theorem typAt (h:Here g M G t d A c B e w W w0):Typ g w0 t (.agg #[.int .i64 t.kind,.slice B t.args.length e]):=h.typ.turn h.turn
theorem held (h:Here g M G t d A c B e w W w0) {w':World} (ht:Turn (Pair2 g (w.heap.size+1)) w0 w'):w'.cell? ⟨w.heap.size,0,none⟩ = some (.int .i64 t.kind)∧w'.cell? ⟨w.heap.size,1,none⟩ = some (.slice B t.args.length e):=h.box.held (h.turn.pair.trans ht)
theorem heldF (h:Here g M G t d A c B e w W w0) {w':World} (ht:Turn (Free g w.heap.size) w0 w'):w'.cell? ⟨w.heap.size,0,none⟩ = some (.int .i64 t.kind)∧w'.cell? ⟨w.heap.size,1,none⟩ = some (.slice B t.args.length e):=by
 have hg:=h.box.lt
 have k:=ht.blk (h.turn.blk h.box.k0 (by omega)) (by unfold Free; omega)
 exact ⟨k.facts2.1,k.facts2.2.1⟩
theorem result (h:Here g M G t d A c B e w W w0) {w':World} (ht:Turn (· = g) w0 w'):Blk w' (w.heap.size+1) 42 #[.int .i64 0,.int .i64 0,.int .i64 0,.slice none 0 0,.slice none 0 0]:=h.box.result (h.turn.trans ht)
/-- A smaller call, one deeper. -/
theorem term (h:Here g M G t d A c B e w W w0) (hd:0<d) {G':List Ty} {t':Ty} {s' v':Value} (hc:Ctx g w1 G' s') (ht:Typ g w1 t' v') (hk:Deck w1 g) (hok:t'.ok=true) (hn:t'.nodes≤3) (hl:G'.length+t'.nodes≤G.length+t.nodes+3) :
   Calls Tryz.prog 16 #[.pointer (some ⟨g,0,none⟩),s',v',.int .i64 (d - 1)] w1 (TermR g G' t' (bdN (d - 1).toNat t') (bdO (d - 1).toNat t') w1):=by
 have h1:=h.hm
 have h2:=h.hd5
 have h3:=h.hlen
 have h4:=nodes_pos t
 exact h.ih G' t' (d - 1) s' v' w1 (by omega) (by omega) (by omega) (by omega) hok hn hc ht hk
/-- A call for a part of the type. -/
theorem part (h:Here g M G t d A c B e w W w0) {G':List Ty} {t':Ty} {s' v':Value} (hc:Ctx g w1 G' s') (ht:Typ g w1 t' v') (hk:Deck w1 g) (hok:t'.ok=true) (hn:t'.nodes+1≤t.nodes) (hl:G'.length≤G.length+1) :
   Calls Tryz.prog 16 #[.pointer (some ⟨g,0,none⟩),s',v',.int .i64 (d - 1)] w1 (TermR g G' t' (bdN (d - 1).toNat t') (bdO (d - 1).toNat t') w1):=by
 have h1:=h.hm
 have h2:=h.hd5
 have h3:=h.hlen
 have h4:=h.hdn
 have h5:=h.hn
 exact h.ih G' t' (d - 1) s' v' w1 (by omega) (by omega) (by omega) (by omega) hok (by omega) hc ht hk
/-- The parts of the type: their cells, while the deck and the result turn. -/
theorem args {k:Int} {X Y:Ty} (h:Here g M G (.mk k [X,Y]) d A c B e w W w0):∃ (a:Addr) (B1:Option Addr) (d1:Nat) (B2:Option Addr) (d2:Nat),B=some a ∧
   (∀ w',Turn (Pair2 g (w.heap.size+1)) w0 w'→w'.cell? ⟨w.heap.size,1,none⟩ = some (.slice (some a) 2 e)∧w'.cell? a=some (.int .i64 X.kind)∧w'.cell? ⟨a.block,a.off+1,none⟩ = some (.slice B1 X.args.length d1) ∧
     w'.cell? ⟨a.block,a.off+2,none⟩ = some (.int .i64 Y.kind)∧w'.cell? ⟨a.block,a.off+2+1,none⟩ = some (.slice B2 Y.args.length d2)) ∧
   Typ g w0 X (.agg #[.int .i64 X.kind,.slice B1 X.args.length d1])∧Typ g w0 Y (.agg #[.int .i64 Y.kind,.slice B2 Y.args.length d2]):=by
 obtain ⟨a,B1,d1,B2,d2,rfl,ha,g0,g1,g2,g3,tX,tY⟩:=IsTy.two (A:=B) (c:=e) (k:=k) (T:=X) (U:=Y) (w:=w) (S:=Good (· = g) w) h.typ0
 have hz:=h.box.size
 have tw:Turn (· = g) w w0:=h.box.turn.trans h.turn
 refine ⟨a,B1,d1,B2,d2,rfl,fun w' ht=>?_,Typ.turn tX tw,Typ.turn tY tw⟩
 have hblk:w'.heap[a.block]? = w.heap[a.block]?:=(ht.block a.block (Nat.lt_of_lt_of_le ha.2 tw.size) (by have h1:=ha.1; have h2:=ha.2; unfold Pair2; omega)).trans (tw.block a.block ha.2 ha.1)
 have k':∀ o,w'.cell? ⟨a.block,o,none⟩ = w.cell? ⟨a.block,o,none⟩:=fun o=>World.cell?_of_block hblk
 exact ⟨(h.held ht).2,(World.cell?_of_block hblk).trans g0,(k' _).trans g1,(k' _).trans g2,(k' _).trans g3⟩
end Here

theorem longer_ctx {g:Nat} {w:World} {G L:List Ty} {s t:Value} (hg:g<w.heap.size) (hG:G.length≤1000) (hL:L.length≤1000) (hc:Ctx g w G s) (hl:TyR.Sl (Good (· = g) w) w L t) (hlo:∀ U ∈ L,U.ok=true∧U.nodes≤3) (hne:L≠[]) :
   Calls Tryz.prog 57 #[s,t] w fun e w'=>∃ x,e=.returned x∧Ctx g w' (G ++ L) x∧Below w.heap.size w w':=by
 refine (longer_any (Good (· = g) w) G L s t w (fun b h=>h.2) hG hL hc.sl hl hc.formed hne).mono ?_
 rintro e w' ⟨x,rfl,h1,h2,h3⟩
 refine ⟨x,rfl,⟨h1.keep (fun b hb=>⟨fun e=>?_,hb.2⟩) (fun _ _=>rfl),h2,fun U hU=>(List.mem_append.1 hU).elim (hc.ok U) (hlo U)⟩,h3⟩
 rcases hb.1 with h | h
 · exact h.1 e
 · omega

/-- The part of the code behind a test that came out true. -/
def thenOf (n:Nat):Code→Option Code
 | .cond (.tmp k) a b=>if k == n then some a else match thenOf n a with
   | some x=>some x
   | none=>thenOf n b
 | .cond _ a b=>match thenOf n a with
   | some x=>some x
   | none=>thenOf n b
 | .seq a b=>match thenOf n a with
   | some x=>some x
   | none=>thenOf n b
 | .block _ a=>thenOf n a
 | .scope a=>thenOf n a
 | .loop a=>thenOf n a
 | _=>none
/-- The test itself. -/
def ifOf (n:Nat):Code→Option Code
 | .cond (.tmp k) a b=>if k == n then some (.cond (.tmp k) a b) else match ifOf n a with
   | some x=>some x
   | none=>ifOf n b
 | .seq a b=>match ifOf n a with
   | some x=>some x
   | none=>ifOf n b
 | .block _ a=>ifOf n a
 | .scope a=>ifOf n a
 | .loop a=>ifOf n a
 | _=>none
noncomputable def testAt (n:Nat):Code:=((Tryz.f16.body.bind (ifOf n)).getD .skip)
/-- Does the code begin with a region? -/
def startsAt (n:Nat):Code→Bool
 | .region k _ _=>k == n
 | .seq a _=>startsAt n a
 | _=>false
/-- The code from a region on. -/
def fromRegion (n:Nat):Code→Option Code
 | .seq a b=>if startsAt n a then some (.seq a b) else match fromRegion n a with
   | some x=>some x
   | none=>fromRegion n b
 | .block _ a=>fromRegion n a
 | .scope a=>fromRegion n a
 | .loop a=>fromRegion n a
 | _=>none
noncomputable def tailAt (n:Nat):Code:=((Tryz.f16.body.bind (fromRegion n)).getD .skip)
noncomputable def piece (n:Nat):Code:=((Tryz.f16.body.bind (thenOf n)).getD .skip)
end Go.Proofs.YtipfnkajdooiiaaGreatDoor
