/- The type of a node. -/
import Derived.Test.YtdbkphgamkeboaaDoorTypeEqual
import Derived.Deep.AppendLies
namespace Go.Proofs.YtdbkphgamkeboaaDoor
open Go.RowKit

def nodeTy (k : Int) (T : Ty) (ps : List Ty) : Except Int Ty :=
  if k = 2 then match ps with
    | [b] => if (tyFun T b).nodes ≤ 64 then .ok (tyFun T b) else .error 4
    | _ => .error 7
  else if k = 3 then match ps with
    | [.mk 4 [s, u], a] => if s.same a = true then .ok u else .error 7
    | _ => .error 7
  else if k = 10 then if (Ty.mk 3 ps).nodes ≤ 64 then .ok (.mk 3 ps) else .error 4
  else if k = 11 then match ps with
    | [.mk 3 [a, _]] => .ok a
    | _ => .error 7
  else if k = 12 then match ps with
    | [.mk 3 [_, b]] => .ok b
    | _ => .error 7
  else if sameAll ps (argTys k T) = true then .ok (ownTy k T) else .error 7

/-- What a call that returns a type or an error comes to. -/
def GivesTy (S : Nat → Prop) (r : Except Int Ty) (w : World) (e : Ending) (w' : World) : Prop :=
  Below w.heap.size w w' ∧ match r with
    | .ok U => ∃ v, e = .returned (.tuple #[v, .int .i64 0]) ∧ IsTy (fun b => (S b ∨ w.heap.size ≤ b) ∧ b < w'.heap.size) w' U v
    | .error c => e = .returned (.tuple #[.agg #[.int .i64 0, .slice none 0 0], .int .i64 c])

theorem box52_facts (w : World) (x0 x1 x2 x3 x4 : Value) : ∃ W, W = (w.alloc (Obj.cells #[x0, x1, x2, x3, x4] 34)).alloc (Obj.cells #[.int .i64 0, .slice none 0 0] 30) ∧
    Below w.heap.size w W ∧ W.heap.size = w.heap.size + 2 ∧ Blk W w.heap.size 34 #[x0, x1, x2, x3, x4] ∧ Blk W (w.heap.size + 1) 30 #[.int .i64 0, .slice none 0 0] := by
  obtain ⟨b1, z1, k1⟩ := new_blk (Below.refl w.heap.size w) (Nat.le_refl _) #[x0, x1, x2, x3, x4] 34
  generalize w.alloc (Obj.cells #[x0, x1, x2, x3, x4] 34) = W1 at b1 z1 k1 ⊢
  obtain ⟨b2, z2, k2⟩ := new_blk b1 b1.size #[.int .i64 0, .slice none 0 0] 30
  have k1 := k1.alloc (Obj.cells #[.int .i64 0, .slice none 0 0] 30)
  rw [z1] at k2
  exact ⟨_, rfl, b2, by omega, k1, k2⟩

/-- The result is stored, and the call ends: a type. -/
theorem gives_ok {S : Nat → Prop} {w w3 : World} {U : Ty} {x y : Value} {r : Except Int Ty} (hr : r = .ok U) (hS : ∀ b, S b → b < w.heap.size) (hb : Below w.heap.size w w3) (_hz : w.heap.size + 2 ≤ w3.heap.size)
    (hU : IsTy (fun b => (S b ∨ w.heap.size + 2 ≤ b) ∧ b < w3.heap.size) w3 U (.agg #[x, y])) :
    GivesTy S r w (.returned (.tuple #[.agg #[x, y], .int .i64 0])) ((w3.setCell ⟨w.heap.size + 1, 0, none⟩ x).setCell ⟨w.heap.size + 1, 1, none⟩ y) := by
  have hg := only_set2 w3 (w.heap.size + 1) x y
  subst hr
  refine ⟨hb.grown hg hb.size (fun k e => by cases e; omega), _, rfl, IsTy.keep (fun b h => ⟨h.1.imp id (fun h => by omega), Nat.lt_of_lt_of_le h.2 hg.size⟩) (fun p hp => World.cell?_of_block (hg.block p.block hp.2 (fun e => ?_))) _ hU⟩
  have e' : p.block = w.heap.size + 1 := by simpa using e
  rcases hp.1 with h | h
  · have := hS _ h; omega
  · omega
theorem gives_err {S : Nat → Prop} {w w3 : World} {c : Int} {x y : Value} {r : Except Int Ty} (hr : r = .error c) (hb : Below w.heap.size w w3) :
    GivesTy S r w (.returned (.tuple #[.agg #[.int .i64 0, .slice none 0 0], .int .i64 c])) ((w3.setCell ⟨w.heap.size + 1, 0, none⟩ x).setCell ⟨w.heap.size + 1, 1, none⟩ y) := by
  have hg := only_set2 w3 (w.heap.size + 1) x y
  subst hr
  exact ⟨hb.grown hg hb.size (fun k e => by cases e; omega), rfl⟩

theorem argTys_len (k : Int) (T : Ty) : (argTys k T).length ≤ 400000 := by
  unfold argTys
  by_cases h5 : k = 5
  · simp [h5]
  by_cases h8 : k = 8
  · simp [h8]
  by_cases h6 : k = 6
  · simp [h6]
  by_cases h9 : k = 9
  · simp [h9]
  · simp [h5, h8, h6, h9]
theorem box3_facts (w : World) (o1 : Obj) (cs : Array Value) (o3 : Obj) : Below w.heap.size w (((w.alloc o1).alloc (.cells cs 30)).alloc o3) ∧ (((w.alloc o1).alloc (.cells cs 30)).alloc o3).heap.size = w.heap.size + 3 ∧
    Blk (((w.alloc o1).alloc (.cells cs 30)).alloc o3) (w.heap.size + 1) 30 cs := by
  refine ⟨((below_box w o1).alloc (by simp) _).alloc (by simp; omega) _, by simp, ?_⟩
  have := (Blk.new (w.alloc o1) 30 cs).alloc o3
  simpa using this
theorem kind_mk (k : Int) (l : List Ty) : (Ty.mk k l).kind = k := rfl
theorem args_mk (k : Int) (l : List Ty) : (Ty.mk k l).args = l := rfl
theorem nodesAll_one (T : Ty) : nodesAll [T] = T.nodes := by simp [nodesAll]

set_option maxRecDepth 100000 in
set_option maxHeartbeats 4000000 in
/-- Nodes whose parts have given types. -/
theorem nodeType_given (S : Nat → Prop) (k i : Int) (T : Ty) (l : List Tm) (ps : List Ty) (v s : Value) (w : World) (hS : ∀ b, S b → b < w.heap.size) (hT : IsTm S w (.mk k i T l) v) (hl : TyR.Sl S w ps s)
    (hsz : nodesAll ps ≤ 400000) (_hTs : T.nodes ≤ 30000) (hk : k ≠ 2 ∧ k ≠ 3 ∧ k ≠ 10 ∧ k ≠ 11 ∧ k ≠ 12) :
    Calls Tryd.prog 162 #[v, s] w (GivesTy S (nodeTy k T ps) w) := by
  obtain ⟨B, d, A, c, rfl, hty, _⟩ := hT.mk_parts
  obtain ⟨A0, c0, rfl⟩ := hl.form
  obtain ⟨W, hW, hb, hz, k0, k1⟩ := box52_facts w (.int .i64 k) (.int .i64 i) (.int .i64 T.kind) (.slice B T.args.length d) (.slice A l.length c)
  have hTW : IsTm S W (.mk k i T l) (.agg #[.int .i64 k, .int .i64 i, .int .i64 T.kind, .slice B T.args.length d, .slice A l.length c]) := IsTm.keep (fun _ h => h) (fun p hp => hb.cell (hS _ hp)) _ hT
  have hlW : TyR.Sl S W ps (.slice A0 ps.length c0) := hl.keep (fun _ h => h) (fun p hp => hb.cell (hS _ hp))
  obtain ⟨e2, e3, e10, e11, e12⟩ : (k == 2) = false ∧ (k == 3) = false ∧ (k == 10) = false ∧ (k == 11) = false ∧ (k == 12) = false := by
    obtain ⟨h1, h2, h3, h4, h5⟩ := hk
    simp [h1, h2, h3, h4, h5]
  have hr : nodeTy k T ps = if sameAll ps (argTys k T) = true then .ok (ownTy k T) else .error 7 := by
    obtain ⟨h1, h2, h3, h4, h5⟩ := hk
    unfold nodeTy
    rw [if_neg h1, if_neg h2, if_neg h3, if_neg h4, if_neg h5]
  have HT := Lib.hid hTW
  have HL := Lib.hid hlW
  have HS := Lib.hid hS
  have HR := Lib.hid hr
  have HW := Lib.hid (And.intro hb hz)
  have hSW : ∀ b, S b → b < W.heap.size := fun b h => Nat.lt_of_lt_of_le (hS b h) hb.size
  have HSW := Lib.hid hSW
  clear hT hl hTW hlW hty hS hk hr hb hz hSW
  obtain ⟨q0, _, q2, q3, _⟩ := k0.cells5
  go_enter Tryd.func162, Tryd.ntmps162
  go_wp2_with fail
  rw [← hW]
  refine (argTypes_in S (.mk k i T l) _ W HSW.out HT.out).mono ?_
  rintro e w1 ⟨v1, rfl, hv1, hb1⟩
  obtain ⟨A1, c1, rfl⟩ := hv1.form
  simp only [Tm.kind, Tm.type] at hv1 ⊢
  have hs1 := hb1.size
  have HV1 := Lib.hid hv1
  clear hv1
  have k0 := k0.below hb1 k0.lt
  have k1 := k1.below hb1 k1.lt
  clear q0 q2 q3
  go_wp2_with fail
  refine (equal_any ps (argTys k T) _ _ w1 hsz (argTys_len k T) (HL.out.keep (fun b h => Nat.lt_of_lt_of_le (HSW.out b h) hs1) (fun p hp => hb1.cell (HSW.out _ hp))) (HV1.out.keep (fun b h => h.2) (fun _ _ => rfl))).mono ?_
  rintro e w2 ⟨rfl, hb2⟩
  have hs2 := hb2.size
  have hb02 : Below W.heap.size W w2 := hb1.trans (hb2.mono hs1)
  have k0 := k0.below hb2 k0.lt
  have k1 := k1.below hb2 k1.lt
  by_cases hsame : sameAll ps (argTys k T) = true
  · have HSA := Lib.hid hsame
    rw [hsame]
    clear hsame
    obtain ⟨q0, q1, q2, q3, q4⟩ := k0.cells5
    go_wp2_with fail
    refine (ownType_in S (.mk k i T l) _ w2 (fun b h => Nat.lt_of_lt_of_le (HSW.out b h) (hb02.size)) (IsTm.keep (fun _ h => h) (fun p hp => hb02.cell (HSW.out _ hp)) _ HT.out)).mono ?_
    rintro e w3 ⟨v3, rfl, hv3, hb3⟩
    obtain ⟨A3, c3, rfl⟩ := hv3.form
    simp only [Tm.kind, Tm.type] at hv3 ⊢
    have hs3 := hb3.size
    have k1 := k1.below hb3 k1.lt
    obtain ⟨r0, r1, f0, f1⟩ := k1.facts2
    have HV3 := Lib.hid hv3
    clear hv3 q0 q1 q2 q3 q4
    go_wp2_with fail
    obtain ⟨z0, z1, _, _⟩ := (k1.set2 (.int .i64 (ownTy k T).kind) (.slice A3 (ownTy k T).args.length c3)).facts2
    refine bodyPost_ret (v := .tuple #[.agg #[.int .i64 (ownTy k T).kind, .slice A3 (ownTy k T).args.length c3], .int .i64 0]) (by simp [results, Tryd.results162, go_sem, z0, z1]) rfl ?_
    obtain ⟨hb, hz⟩ := HW.out
    refine gives_ok (by rw [HR.out, if_pos HSA.out]) HS.out (hb.trans ((hb02.trans (hb3.mono hb02.size)).mono hb.size)) (by omega) ?_
    exact IsTy.keep (fun b h => ⟨h.1.imp id (fun h => by omega), h.2⟩) (fun _ _ => rfl) _ HV3.out
  · have hsame' : sameAll ps (argTys k T) = false := by simpa using hsame
    have HSA := Lib.hid hsame
    rw [hsame']
    clear hsame hsame'
    obtain ⟨r0, r1, f0, f1⟩ := k1.facts2
    go_wp2_with fail
    obtain ⟨z0, z1, _, _⟩ := (k1.set2 (.int .i64 0) (.slice none 0 0)).facts2
    refine bodyPost_ret (v := .tuple #[.agg #[.int .i64 0, .slice none 0 0], .int .i64 7]) (by simp [results, Tryd.results162, go_sem, z0, z1]) rfl ?_
    obtain ⟨hb, hz⟩ := HW.out
    exact gives_err (by rw [HR.out, if_neg HSA.out]) (hb.trans (hb02.mono hb.size))


set_option maxRecDepth 100000 in
set_option maxHeartbeats 4000000 in
theorem nodeType_pair (S : Nat → Prop) (i : Int) (T : Ty) (l : List Tm) (p q : Ty) (v s : Value) (w : World) (hS : ∀ b, S b → b < w.heap.size) (hT : IsTm S w (.mk 10 i T l) v) (hl : TyR.Sl S w [p, q] s)
    (hp : p.err = 0) (hq : q.err = 0) :
    Calls Tryd.prog 162 #[v, s] w (GivesTy S (nodeTy 10 T [p, q]) w) := by
  obtain ⟨B, d, A, c, rfl, hty, _⟩ := hT.mk_parts
  obtain ⟨A0, c0, rfl⟩ := hl.form
  obtain ⟨W, hW, hb, hz, k0, k1⟩ := box52_facts w (.int .i64 10) (.int .i64 i) (.int .i64 T.kind) (.slice B T.args.length d) (.slice A l.length c)
  have hTW : IsTy S W T (.agg #[.int .i64 T.kind, .slice B T.args.length d]) := IsTy.keep (fun _ h => h) (fun p hp => hb.cell (hS _ hp)) _ hty
  have hlW : TyR.Sl S W [p, q] (.slice A0 2 c0) := hl.keep (fun _ h => h) (fun p hp => hb.cell (hS _ hp))
  have hSW : ∀ b, S b → b < W.heap.size := fun b h => Nat.lt_of_lt_of_le (hS b h) hb.size
  have HSW := Lib.hid hSW
  have HT := Lib.hid hTW
  have HL := Lib.hid hlW
  have HS := Lib.hid hS
  have HW := Lib.hid (And.intro hb hz)
  obtain ⟨p1, p2⟩ := err_zero.1 hp
  obtain ⟨q1, q2⟩ := err_zero.1 hq
  have he : (Ty.mk 3 [p, q]).err = if (Ty.mk 3 [p, q]).nodes ≤ 64 then 0 else 4 := by
    unfold Ty.err
    rw [if_pos (by simp [Ty.ok, okAll, p1, q1])]
  have hr : nodeTy 10 T [p, q] = if (Ty.mk 3 [p, q]).nodes ≤ 64 then .ok (.mk 3 [p, q]) else .error 4 := rfl
  have HE := Lib.hid (And.intro he hr)
  have hsz : nodesAll [p, q] ≤ 99999 := by simp only [nodesAll]; omega
  clear hT hl hTW hlW hty hS hb hz hSW he hr hp hq
  go_enter Tryd.func162, Tryd.ntmps162
  go_wp2_with fail
  rw [← hW]
  refine (pairType_in S [p, q] _ W HSW.out hsz HL.out).mono ?_
  rintro e w1 ⟨hb1, h1⟩
  have k1 := k1.below hb1 k1.lt
  obtain ⟨r0, r1, f0, f1⟩ := k1.facts2
  obtain ⟨hb, hz⟩ := HW.out
  have hs1 := hb1.size
  have HB := Lib.hid (And.intro hb hz)
  clear hb hz
  by_cases hn : (Ty.mk 3 [p, q]).nodes ≤ 64
  · have e0 : (Ty.mk 3 [p, q]).err = 0 := by rw [HE.out.1, if_pos hn]
    rw [if_pos e0] at h1
    obtain ⟨v1, rfl, hv1⟩ := h1
    obtain ⟨A1, c1, rfl⟩ := hv1.form2
    have HV := Lib.hid hv1
    have HN := Lib.hid hn
    clear hv1 hn e0
    go_wp2_with fail
    obtain ⟨z0, z1, _, _⟩ := (k1.set2 (.int .i64 3) (.slice A1 2 c1)).facts2
    refine bodyPost_ret (v := .tuple #[.agg #[.int .i64 3, .slice A1 2 c1], .int .i64 0]) (by simp [results, Tryd.results162, go_sem, z0, z1]) rfl ?_
    obtain ⟨hb, hz⟩ := HB.out
    exact gives_ok (by rw [HE.out.2, if_pos HN.out]) HS.out (hb.trans (hb1.mono hb.size)) (by omega) (IsTy.keep (fun b h => ⟨.inl h.1, h.2⟩) (fun _ _ => rfl) _ HV.out)
  · have e0 : (Ty.mk 3 [p, q]).err = 4 := by rw [HE.out.1, if_neg hn]
    rw [if_neg (by rw [e0]; decide), e0] at h1
    subst h1
    have HN := Lib.hid hn
    clear hn e0
    go_wp2_with fail
    obtain ⟨z0, z1, _, _⟩ := (k1.set2 (.int .i64 0) (.slice none 0 0)).facts2
    refine bodyPost_ret (v := .tuple #[.agg #[.int .i64 0, .slice none 0 0], .int .i64 4]) (by simp [results, Tryd.results162, go_sem, z0, z1]) rfl ?_
    obtain ⟨hb, hz⟩ := HB.out
    exact gives_err (by rw [HE.out.2, if_neg HN.out]) (hb.trans (hb1.mono hb.size))

set_option maxRecDepth 100000 in
set_option maxHeartbeats 4000000 in
theorem nodeType_fst (S : Nat → Prop) (i : Int) (T : Ty) (l : List Tm) (p : Ty) (v s : Value) (w : World) (hS : ∀ b, S b → b < w.heap.size) (hT : IsTm S w (.mk 11 i T l) v) (hl : TyR.Sl S w [p] s) (hp : p.err = 0) :
    Calls Tryd.prog 162 #[v, s] w (GivesTy S (nodeTy 11 T [p]) w) := by
  obtain ⟨B, d, A, c, rfl, hty, _⟩ := hT.mk_parts
  obtain ⟨A0, c0, rfl⟩ := hl.form
  obtain ⟨W, hW, hb, hz, k0, k1⟩ := box52_facts w (.int .i64 11) (.int .i64 i) (.int .i64 T.kind) (.slice B T.args.length d) (.slice A l.length c)
  have hTW : IsTy S W T (.agg #[.int .i64 T.kind, .slice B T.args.length d]) := IsTy.keep (fun _ h => h) (fun p hp => hb.cell (hS _ hp)) _ hty
  have hlW : TyR.Sl S W [p] (.slice A0 1 c0) := hl.keep (fun _ h => h) (fun p hp => hb.cell (hS _ hp))
  have hSW : ∀ b, S b → b < W.heap.size := fun b h => Nat.lt_of_lt_of_le (hS b h) hb.size
  have HSW := Lib.hid hSW
  have HT := Lib.hid hTW
  have HL := Lib.hid hlW
  have HS := Lib.hid hS
  have HW := Lib.hid (And.intro hb hz)
  obtain ⟨a, rfl, ha, hat⟩ := hlW.get 0 (by simp)
  rw [Nat.zero_mul, add_zero'] at hat
  obtain ⟨A1, c1, q0, q1, hx⟩ := at_ty hat
  simp only [List.getElem_cons_zero] at q0 q1 hx
  obtain ⟨p1, p2⟩ := err_zero.1 hp
  have hsW := hb.size
  have ha' : a.block < W.heap.size := hSW _ ha
  have q0' := fun o => (World.cell?_alloc_lt W o a ha').trans q0
  clear hT hl hTW hlW hty hS hb hz hSW hp hat
  obtain ⟨b2, z2, k2⟩ := new_blk (Below.refl W.heap.size W) (Nat.le_refl _) #[.int .i64 p.kind, .slice A1 p.args.length c1] 30
  have k1' := k1.below b2 k1.lt
  obtain ⟨f0, f1, f2, f3⟩ := k1'.facts2
  obtain ⟨g0, g1, g2, g3⟩ := k2.facts2
  by_cases h3 : p.kind = 3
  · rcases Ty.ok_cases p1 with ⟨kk, hkk, rfl⟩ | ⟨kk, X, Y, hkk, rfl, hX, hY⟩
    · simp only [Ty.kind] at h3; omega
    · simp only [Ty.kind] at h3
      subst h3
      simp only [Ty.kind, Ty.args, List.length_cons, List.length_nil, Nat.reduceAdd] at q0 q1 hx k2 g0 g1 f0 f1 b2 z2 k1' q0' f2 f3 g2 g3
      have hx2 : IsTy S (W.alloc (Obj.cells #[.int .i64 3, .slice A1 2 c1] 30)) (.mk 3 [X, Y]) (.agg #[.int .i64 3, .slice A1 2 c1]) := IsTy.keep (fun _ h => h) (fun p hp => World.cell?_alloc_lt _ _ _ (HSW.out _ hp)) _ hx
      obtain ⟨a2, D, d2, E, e2, rfl, ha2, r0, r1, s0, s1, gX, gY⟩ := hx2.two
      have HX := Lib.hid gX
      have HY := Lib.hid gY
      clear hx hx2 gX gY
      subst hW
      go_enter Tryd.func162, Tryd.ntmps162
      go_wp2_with fail
      obtain ⟨bF, zF, kF⟩ := box3_facts w (Obj.cells #[.int .i64 11, .int .i64 i, .int .i64 T.kind, .slice B T.args.length d, .slice A l.length c] 34) #[.int .i64 X.kind, .slice D X.args.length d2] (Obj.cells #[.int .i64 3, .slice (some a2) 2 c1] 30)
      obtain ⟨z0, z1, _, _⟩ := kF.facts2
      refine bodyPost_ret (v := .tuple #[.agg #[.int .i64 X.kind, .slice D X.args.length d2], .int .i64 0]) (by simp [results, Tryd.results162, go_sem, z0, z1]) rfl ?_
      rw [show nodeTy 11 T [Ty.mk 3 [X, Y]] = .ok X from rfl]
      exact ⟨bF, _, rfl, IsTy.keep (fun b h => ⟨.inl h, Nat.lt_of_lt_of_le (HS.out b h) bF.size⟩) (fun p hp => (bF.cell (HS.out _ hp)).trans ((((below_box _ _).alloc (by simp) _).alloc (by simp; omega) _).cell (HS.out _ hp)).symm) _ HX.out⟩
  · have e3 : (p.kind == 3) = false := by rw [beq_eq_false_iff_ne]; exact h3
    have hr : nodeTy 11 T [p] = .error 7 := by
      rcases Ty.ok_cases p1 with ⟨kk, hkk, rfl⟩ | ⟨kk, X, Y, hkk, rfl, hX, hY⟩
      · simp [nodeTy]
      · have : kk ≠ 3 := h3
        simp [nodeTy, this]
    have HR := Lib.hid hr
    have H3 := Lib.hid h3
    have HX := Lib.hid hx
    clear hr h3 hx
    subst hW
    go_enter Tryd.func162, Tryd.ntmps162
    go_wp2_with fail
    obtain ⟨bF, zF, kF⟩ := box3_facts w (Obj.cells #[.int .i64 11, .int .i64 i, .int .i64 T.kind, .slice B T.args.length d, .slice A l.length c] 34) #[.int .i64 0, .slice none 0 0] (Obj.cells #[.int .i64 p.kind, .slice A1 p.args.length c1] 30)
    obtain ⟨z0, z1, _, _⟩ := kF.facts2
    refine bodyPost_ret (v := .tuple #[.agg #[.int .i64 0, .slice none 0 0], .int .i64 7]) (by simp [results, Tryd.results162, go_sem, z0, z1]) rfl ?_
    rw [HR.out]
    exact ⟨bF, rfl⟩

set_option maxRecDepth 100000 in
set_option maxHeartbeats 4000000 in
theorem nodeType_snd (S : Nat → Prop) (i : Int) (T : Ty) (l : List Tm) (p : Ty) (v s : Value) (w : World) (hS : ∀ b, S b → b < w.heap.size) (hT : IsTm S w (.mk 12 i T l) v) (hl : TyR.Sl S w [p] s) (hp : p.err = 0) :
    Calls Tryd.prog 162 #[v, s] w (GivesTy S (nodeTy 12 T [p]) w) := by
  obtain ⟨B, d, A, c, rfl, hty, _⟩ := hT.mk_parts
  obtain ⟨A0, c0, rfl⟩ := hl.form
  obtain ⟨W, hW, hb, hz, k0, k1⟩ := box52_facts w (.int .i64 12) (.int .i64 i) (.int .i64 T.kind) (.slice B T.args.length d) (.slice A l.length c)
  have hTW : IsTy S W T (.agg #[.int .i64 T.kind, .slice B T.args.length d]) := IsTy.keep (fun _ h => h) (fun p hp => hb.cell (hS _ hp)) _ hty
  have hlW : TyR.Sl S W [p] (.slice A0 1 c0) := hl.keep (fun _ h => h) (fun p hp => hb.cell (hS _ hp))
  have hSW : ∀ b, S b → b < W.heap.size := fun b h => Nat.lt_of_lt_of_le (hS b h) hb.size
  have HSW := Lib.hid hSW
  have HT := Lib.hid hTW
  have HL := Lib.hid hlW
  have HS := Lib.hid hS
  have HW := Lib.hid (And.intro hb hz)
  obtain ⟨a, rfl, ha, hat⟩ := hlW.get 0 (by simp)
  rw [Nat.zero_mul, add_zero'] at hat
  obtain ⟨A1, c1, q0, q1, hx⟩ := at_ty hat
  simp only [List.getElem_cons_zero] at q0 q1 hx
  obtain ⟨p1, p2⟩ := err_zero.1 hp
  have hsW := hb.size
  have ha' : a.block < W.heap.size := hSW _ ha
  have q0' := fun o => (World.cell?_alloc_lt W o a ha').trans q0
  clear hT hl hTW hlW hty hS hb hz hSW hp hat
  obtain ⟨b2, z2, k2⟩ := new_blk (Below.refl W.heap.size W) (Nat.le_refl _) #[.int .i64 p.kind, .slice A1 p.args.length c1] 30
  have k1' := k1.below b2 k1.lt
  obtain ⟨f0, f1, f2, f3⟩ := k1'.facts2
  obtain ⟨g0, g1, g2, g3⟩ := k2.facts2
  by_cases h3 : p.kind = 3
  · rcases Ty.ok_cases p1 with ⟨kk, hkk, rfl⟩ | ⟨kk, X, Y, hkk, rfl, hX, hY⟩
    · simp only [Ty.kind] at h3; omega
    · simp only [Ty.kind] at h3
      subst h3
      simp only [Ty.kind, Ty.args, List.length_cons, List.length_nil, Nat.reduceAdd] at q0 q1 hx k2 g0 g1 f0 f1 b2 z2 k1' q0' f2 f3 g2 g3
      have hx2 : IsTy S (W.alloc (Obj.cells #[.int .i64 3, .slice A1 2 c1] 30)) (.mk 3 [X, Y]) (.agg #[.int .i64 3, .slice A1 2 c1]) := IsTy.keep (fun _ h => h) (fun p hp => World.cell?_alloc_lt _ _ _ (HSW.out _ hp)) _ hx
      obtain ⟨a2, D, d2, E, e2, rfl, ha2, r0, r1, s0, s1, gX, gY⟩ := hx2.two
      have HX := Lib.hid gX
      have HY := Lib.hid gY
      clear hx hx2 gX gY
      subst hW
      go_enter Tryd.func162, Tryd.ntmps162
      go_wp2_with fail
      obtain ⟨bF, zF, kF⟩ := box3_facts w (Obj.cells #[.int .i64 12, .int .i64 i, .int .i64 T.kind, .slice B T.args.length d, .slice A l.length c] 34) #[.int .i64 Y.kind, .slice E Y.args.length e2] (Obj.cells #[.int .i64 3, .slice (some a2) 2 c1] 30)
      obtain ⟨z0, z1, _, _⟩ := kF.facts2
      refine bodyPost_ret (v := .tuple #[.agg #[.int .i64 Y.kind, .slice E Y.args.length e2], .int .i64 0]) (by simp [results, Tryd.results162, go_sem, z0, z1]) rfl ?_
      rw [show nodeTy 12 T [Ty.mk 3 [X, Y]] = .ok Y from rfl]
      exact ⟨bF, _, rfl, IsTy.keep (fun b h => ⟨.inl h, Nat.lt_of_lt_of_le (HS.out b h) bF.size⟩) (fun p hp => (bF.cell (HS.out _ hp)).trans ((((below_box _ _).alloc (by simp) _).alloc (by simp; omega) _).cell (HS.out _ hp)).symm) _ HY.out⟩
  · have e3 : (p.kind == 3) = false := by rw [beq_eq_false_iff_ne]; exact h3
    have hr : nodeTy 12 T [p] = .error 7 := by
      rcases Ty.ok_cases p1 with ⟨kk, hkk, rfl⟩ | ⟨kk, X, Y, hkk, rfl, hX, hY⟩
      · simp [nodeTy]
      · have : kk ≠ 3 := h3
        simp [nodeTy, this]
    have HR := Lib.hid hr
    have H3 := Lib.hid h3
    have HX := Lib.hid hx
    clear hr h3 hx
    subst hW
    go_enter Tryd.func162, Tryd.ntmps162
    go_wp2_with fail
    obtain ⟨bF, zF, kF⟩ := box3_facts w (Obj.cells #[.int .i64 12, .int .i64 i, .int .i64 T.kind, .slice B T.args.length d, .slice A l.length c] 34) #[.int .i64 0, .slice none 0 0] (Obj.cells #[.int .i64 p.kind, .slice A1 p.args.length c1] 30)
    obtain ⟨z0, z1, _, _⟩ := kF.facts2
    refine bodyPost_ret (v := .tuple #[.agg #[.int .i64 0, .slice none 0 0], .int .i64 7]) (by simp [results, Tryd.results162, go_sem, z0, z1]) rfl ?_
    rw [HR.out]
    exact ⟨bF, rfl⟩


theorem areIn_one {S : Nat → Prop} {W : World} {T : Ty} {x y : Value} (hS : ∀ b, S b → b < W.heap.size) (h : IsTy S W T (.agg #[x, y])) :
    AreIn (fun b => S b ∨ b = W.heap.size) (W.alloc (.cells #[x, y] 30)) [T] (.slice (some ⟨W.heap.size, 0, none⟩) 1 1) := by
  refine ⟨_, 1, rfl, fun _ => ⟨_, rfl, .inr rfl, ?_⟩⟩
  obtain ⟨h0, h1, _, _⟩ := (Blk.new W 30 #[x, y]).facts2
  unfold AreTys
  refine ⟨⟨x, y, h0, h1, IsTy.keep (fun b hb => .inl hb) (fun p hp => World.cell?_alloc_lt _ _ _ (hS _ hp)) _ h⟩, ?_⟩
  unfold AreTys
  trivial

set_option maxRecDepth 100000 in
set_option maxHeartbeats 4000000 in
theorem nodeType_lam (S : Nat → Prop) (i : Int) (T : Ty) (l : List Tm) (p : Ty) (v s : Value) (w : World) (hS : ∀ b, S b → b < w.heap.size) (hT : IsTm S w (.mk 2 i T l) v) (hl : TyR.Sl S w [p] s) (hp : p.err = 0) (hTe : T.err = 0) :
    Calls Tryd.prog 162 #[v, s] w (GivesTy S (nodeTy 2 T [p]) w) := by
  obtain ⟨B, d, A, c, rfl, hty, _⟩ := hT.mk_parts
  obtain ⟨A0, c0, rfl⟩ := hl.form
  obtain ⟨W, hW, hb, hz, k0, k1⟩ := box52_facts w (.int .i64 2) (.int .i64 i) (.int .i64 T.kind) (.slice B T.args.length d) (.slice A l.length c)
  have hTW : IsTy S W T (.agg #[.int .i64 T.kind, .slice B T.args.length d]) := IsTy.keep (fun _ h => h) (fun p hp => hb.cell (hS _ hp)) _ hty
  have hlW : TyR.Sl S W [p] (.slice A0 1 c0) := hl.keep (fun _ h => h) (fun p hp => hb.cell (hS _ hp))
  have hSW : ∀ b, S b → b < W.heap.size := fun b h => Nat.lt_of_lt_of_le (hS b h) hb.size
  obtain ⟨a, rfl, ha, hat⟩ := hlW.get 0 (by simp)
  rw [Nat.zero_mul, add_zero'] at hat
  obtain ⟨A1, c1, r0, r1, hx⟩ := at_ty hat
  simp only [List.getElem_cons_zero] at r0 r1 hx
  obtain ⟨p1, p2⟩ := err_zero.1 hp
  obtain ⟨t1, t2⟩ := err_zero.1 hTe
  have ha' : a.block < w.heap.size := hS _ ha
  have he : funErr [T] p = if (tyFun T p).nodes ≤ 64 then 0 else 4 := by
    unfold funErr
    simp only [errs, if_pos hTe, if_true, if_pos hp, nodesAll, List.length_cons, List.length_nil, tyFun, Ty.nodes]
    congr 1
    rw [eq_iff_iff]
    omega
  have hr : nodeTy 2 T [p] = if (tyFun T p).nodes ≤ 64 then .ok (tyFun T p) else .error 4 := rfl
  have hsz : nodesAll [T] + p.nodes ≤ 400000 := by simp only [nodesAll]; omega
  have HSW := Lib.hid hSW
  have HT := Lib.hid hTW
  have HX := Lib.hid hx
  have HS := Lib.hid hS
  have HW := Lib.hid (And.intro hb hz)
  have HE := Lib.hid (And.intro he hr)
  have HK1 := Lib.hid k1
  have HSK := Lib.hid fun (w1 : World) (h : Below (w.heap.size + 1) W w1) => And.intro h (And.intro (k0.below h (by omega)).cells5.2.2.1 (And.intro (k0.below h (by omega)).cells5.2.2.2.1
    (And.intro ((h.cell (p := a) (by omega)).trans r0) ((h.cell (p := ⟨a.block, a.off + 1, none⟩) (by show a.block < _; omega)).trans r1))))
  obtain ⟨_, q0, q1, q2, q3⟩ := HSK.out W (Below.refl _ _)
  have qk := k0.cells5.1
  clear hT hl hTW hlW hty hS hb hz hSW hp hTe hat hx he hr r0 r1 k0 k1
  go_enter Tryd.func162, Tryd.ntmps162
  go_wp2_with fail
  rw [← hW]
  clear hW qk
  have HA : Hid (AreIn (fun b => S b ∨ b = W.heap.size) (W.alloc (.cells #[.int .i64 T.kind, .slice B T.args.length d] 30)).drew [T] (.slice (some ⟨W.heap.size, 0, none⟩) 1 1)) :=
    Lib.hid ((areIn_one (fun b h => HSW.out b h) HT.out).keep (fun _ h => h) (fun p _ => World.cell?_drew _ p))
  by_cases hn : (tyFun T p).nodes ≤ 64
  · have HN := Lib.hid hn
    clear hn
    go_region_held3 (fun w' => Below (w.heap.size + 1) W w' ∧ w'.cell? ⟨w.heap.size, 2, none⟩ = some (.int .i64 T.kind) ∧ w'.cell? ⟨w.heap.size, 3, none⟩ = some (.slice B T.args.length d) ∧
        w'.cell? a = some (.int .i64 p.kind) ∧ w'.cell? ⟨a.block, a.off + 1, none⟩ = some (.slice A1 p.args.length c1))
      (first | exact HSK.out _ (Below.refl _ _).drew | exact HSK.out _ (((Below.refl _ W).alloc (by have := HW.out.2; omega) _).drew) | exact HSK.out _ hb1 | exact HSK.out _ ((hb1.setCell (p := ⟨w.heap.size + 1, 0, none⟩) (Nat.le_refl _) _).setCell (p := ⟨w.heap.size + 1, 1, none⟩) (Nat.le_refl _) _) | go_keep)
      (first
        | (go_at_call 186
           (with_reducible refine (function_in (fun b => S b ∨ b = W.heap.size) [T] p _ (.agg #[.int .i64 p.kind, .slice A1 p.args.length c1]) _ ?_ hsz HA.out ?_).mono ?_)
           · intro b h
             rcases h with h | rfl
             · have := HSW.out b h; simp; omega
             · simp
           · exact IsTy.keep (S := S) (w := W) (fun b h => .inl h) (fun p hp => (World.cell?_drew _ p).trans (World.cell?_alloc_lt W _ _ (HSW.out _ hp))) _ HX.out
           rintro e w1 ⟨hb1', h1⟩
           rw [if_pos (by rw [HE.out.1, if_pos HN.out])] at h1
           obtain ⟨v1, rfl, hv1⟩ := h1
           obtain ⟨A3, c3, rfl⟩ := hv1.form2
           have hb0 : Below W.heap.size W w1 := ((below_box W _).drew).trans (hb1'.mono (by simp))
           have hb1 : Below (w.heap.size + 1) W w1 := hb0.mono (by have := HW.out.2; omega)
           obtain ⟨s0, s1, f0, f1⟩ := (HK1.out.below hb0 (by have := HW.out.2; omega)).facts2))
    go_wp2_with fail
    have k3 := HK1.out.below hb0 (by have := HW.out.2; omega)
    obtain ⟨z0, z1, _, _⟩ := (k3.set2 (.int .i64 4) (.slice A3 2 c3)).facts2
    refine bodyPost_ret (v := .tuple #[.agg #[.int .i64 4, .slice A3 2 c3], .int .i64 0]) (by simp [results, Tryd.results162, go_sem, z0, z1]) rfl ?_
    obtain ⟨hb, hz⟩ := HW.out
    refine gives_ok (U := tyFun T p) (by rw [HE.out.2, if_pos HN.out]) HS.out (hb.trans (hb0.mono hb.size)) (by have := hb0.size; omega) ?_
    refine IsTy.keep (fun b h => ⟨?_, h.2⟩) (fun _ _ => rfl) _ hv1
    rcases h.1 with (h1 | rfl) | h1
    · exact .inl h1
    · exact .inr (by omega)
    · right; simp at h1; omega
  · have HN := Lib.hid hn
    clear hn
    go_region_held3 (fun w' => Below (w.heap.size + 1) W w' ∧ w'.cell? ⟨w.heap.size, 2, none⟩ = some (.int .i64 T.kind) ∧ w'.cell? ⟨w.heap.size, 3, none⟩ = some (.slice B T.args.length d) ∧
        w'.cell? a = some (.int .i64 p.kind) ∧ w'.cell? ⟨a.block, a.off + 1, none⟩ = some (.slice A1 p.args.length c1))
      (first | exact HSK.out _ (Below.refl _ _).drew | exact HSK.out _ (((Below.refl _ W).alloc (by have := HW.out.2; omega) _).drew) | exact HSK.out _ hb1 | exact HSK.out _ ((hb1.setCell (p := ⟨w.heap.size + 1, 0, none⟩) (Nat.le_refl _) _).setCell (p := ⟨w.heap.size + 1, 1, none⟩) (Nat.le_refl _) _) | go_keep)
      (first
        | (go_at_call 186
           (with_reducible refine (function_in (fun b => S b ∨ b = W.heap.size) [T] p _ (.agg #[.int .i64 p.kind, .slice A1 p.args.length c1]) _ ?_ hsz HA.out ?_).mono ?_)
           · intro b h
             rcases h with h | rfl
             · have := HSW.out b h; simp; omega
             · simp
           · exact IsTy.keep (S := S) (w := W) (fun b h => .inl h) (fun p hp => (World.cell?_drew _ p).trans (World.cell?_alloc_lt W _ _ (HSW.out _ hp))) _ HX.out
           rintro e w1 ⟨hb1', h1⟩
           rw [if_neg (by rw [HE.out.1, if_neg HN.out]; decide), HE.out.1, if_neg HN.out] at h1
           subst h1
           have hb0 : Below W.heap.size W w1 := ((below_box W _).drew).trans (hb1'.mono (by simp))
           have hb1 : Below (w.heap.size + 1) W w1 := hb0.mono (by have := HW.out.2; omega)
           obtain ⟨s0, s1, f0, f1⟩ := (HK1.out.below hb0 (by have := HW.out.2; omega)).facts2))
    go_wp2_with fail
    have k3 := HK1.out.below hb0 (by have := HW.out.2; omega)
    obtain ⟨z0, z1, _, _⟩ := (k3.set2 (.int .i64 0) (.slice none 0 0)).facts2
    refine bodyPost_ret (v := .tuple #[.agg #[.int .i64 0, .slice none 0 0], .int .i64 4]) (by simp [results, Tryd.results162, go_sem, z0, z1]) rfl ?_
    obtain ⟨hb, hz⟩ := HW.out
    exact gives_err (by rw [HE.out.2, if_neg HN.out]) (hb.trans (hb0.mono hb.size))

set_option maxRecDepth 100000 in
set_option maxHeartbeats 4000000 in
theorem nodeType_app (S : Nat → Prop) (i : Int) (T : Ty) (l : List Tm) (p q : Ty) (v s : Value) (w : World) (hS : ∀ b, S b → b < w.heap.size) (hT : IsTm S w (.mk 3 i T l) v) (hl : TyR.Sl S w [p, q] s) (hp : p.err = 0) (_hq : q.err = 0) :
    Calls Tryd.prog 162 #[v, s] w (GivesTy S (nodeTy 3 T [p, q]) w) := by
  obtain ⟨B, d, A, c, rfl, hty, _⟩ := hT.mk_parts
  obtain ⟨A0, c0, rfl⟩ := hl.form
  obtain ⟨p1, p2⟩ := err_zero.1 hp
  have hraw : ∀ W : World, Below w.heap.size w W → IsTy S W (.mk 0 [p, q]) (.agg #[.int .i64 0, .slice A0 2 c0]) := fun W hb => IsTy.of_sl (hl.keep (fun _ h => h) (fun p hp => hb.cell (hS _ hp)))
  obtain ⟨W, hW, hb, hz, k0, k1⟩ := box52_facts w (.int .i64 3) (.int .i64 i) (.int .i64 T.kind) (.slice B T.args.length d) (.slice A l.length c)
  obtain ⟨a, A1, c1, A2, c2, rfl, ha, r0, r1, s0, s1, hx, hy⟩ := (hraw W hb).two
  have ha' : a.block < w.heap.size := hS _ ha
  have hsW := hb.size
  obtain ⟨b2, z2, k2⟩ := new_blk hb hb.size #[.int .i64 p.kind, .slice A1 p.args.length c1] 30
  have hbW := below_box W (Obj.cells #[.int .i64 p.kind, .slice A1 p.args.length c1] 30)
  have k1' := k1.below hbW k1.lt
  have k0' := k0.below hbW k0.lt
  have hx' : IsTy S _ p _ := IsTy.keep (fun _ h => h) (fun p hp => hbW.cell (by have := hS _ hp; omega)) _ hx
  have hy' : IsTy S _ q _ := IsTy.keep (fun _ h => h) (fun p hp => hbW.cell (by have := hS _ hp; omega)) _ hy
  have s0' := (hbW.cell (p := ⟨a.block, a.off + 2, none⟩) (by show a.block < _; omega)).trans s0
  have s1' := (hbW.cell (p := ⟨a.block, a.off + 2 + 1, none⟩) (by show a.block < _; omega)).trans s1
  have HS := Lib.hid hS
  have HX := Lib.hid hx'
  have HY := Lib.hid hy'
  have zW : W.heap.size = w.heap.size + 1 + 1 := by omega
  rw [zW] at k2
  have HW := Lib.hid (And.intro hb (And.intro hz (And.intro hbW z2)))
  rw [hW] at r0 r1
  clear hT hl hty hS hp hraw hx hy hx' hy' s0 s1 hb hz hbW z2 zW k0 k1 b2
  by_cases h4 : p.kind = 4
  · rcases Ty.ok_cases p1 with ⟨kk, hkk, rfl⟩ | ⟨kk, X, Y, hkk, rfl, hX, hY⟩
    · simp only [Ty.kind] at h4; omega
    · simp only [Ty.kind] at h4
      subst h4
      have hr : nodeTy 3 T [Ty.mk 4 [X, Y], q] = if X.same q = true then .ok Y else .error 7 := rfl
      have HR := Lib.hid hr
      clear hr
      simp only [kind_mk, args_mk, List.length_cons, List.length_nil, Nat.reduceAdd] at r0 r1 k2 k1' k0' HX HY s0' s1' HW
      obtain ⟨q0, _, _, _⟩ := k0'.cells5
      go_enter Tryd.func162, Tryd.ntmps162
      go_wp2_with fail
      rw [← hW]
      clear hW r0 r1 q0
      generalize W.alloc (Obj.cells #[.int .i64 4, .slice A1 2 c1] 30) = W2 at k0' k1' k2 HX HY s0' s1' HW ⊢
      obtain ⟨a2, D, d2, E, e2, rfl, ha2, u0, u1, v0, v1, gX, gY⟩ := HX.out.two
      obtain ⟨p0, p1', f0, f1⟩ := k2.facts2
      obtain ⟨x0, x1, g0, g1⟩ := k1'.facts2
      have HGX := Lib.hid gX
      have HGY := Lib.hid gY
      have HK1 := Lib.hid k1'
      have HK2 := Lib.hid k2
      have hz2 : w.heap.size + 3 = W2.heap.size := by have := HW.out; omega
      have hb2 : Below w.heap.size w W2 := by have := HW.out; exact this.1.trans (this.2.2.1.mono this.1.size)
      have HZ := Lib.hid (And.intro hz2 hb2)
      have ha2' : a2.block < W2.heap.size := by have := HS.out _ ha2; omega
      have ha'' : a.block < W2.heap.size := by omega
      have HSK := Lib.hid fun (w1 : World) (h : Below W2.heap.size W2 w1) => And.intro h (And.intro (k2.below h k2.lt).facts2.1 (And.intro (k2.below h k2.lt).facts2.2.1
        (And.intro ((h.cell (p := a2) ha2').trans u0) (And.intro ((h.cell (p := ⟨a2.block, a2.off + 1, none⟩) ha2').trans u1)
          (And.intro ((h.cell (p := ⟨a.block, a.off + 2, none⟩) ha'').trans s0') ((h.cell (p := ⟨a.block, a.off + 2 + 1, none⟩) ha'').trans s1'))))))
      have hXn : X.nodes ≤ 400000 := by simp only [Ty.nodes, nodesAll] at p2; omega
      clear gX gY k0' k1' k2 hz2 hb2 HW
      have arm : ∀ (b : Bool), X.same q = b → Calls Tryd.prog 136 #[.agg #[.int .i64 X.kind, .slice D X.args.length d2], .agg #[.int .i64 q.kind, .slice A2 q.args.length c2]] W2.drew
          fun e w' => e = .returned (.bool b) ∧ Below W2.heap.size W2 w' := fun b hb => by
        refine (same_is b hb hXn (IsTy.keep (fun b h => Nat.lt_of_lt_of_le (HS.out b h) HZ.out.2.size) (fun p _ => World.cell?_drew _ p) _ HGX.out) (IsTy.keep (fun b h => Nat.lt_of_lt_of_le (HS.out b h) HZ.out.2.size) (fun p _ => World.cell?_drew _ p) _ HY.out)).mono ?_
        rintro e w1 ⟨h1, h2⟩
        exact ⟨h1, ((Below.refl _ W2).drew).trans h2⟩
      by_cases hs : X.same q = true
      · have HR2 : Hid (nodeTy 3 T [Ty.mk 4 [X, Y], q] = .ok Y) := Lib.hid (by rw [HR.out, if_pos hs])
        have ARM := Lib.hid (arm true hs)
        clear arm hs
        go_region_held3 (fun w' => Below W2.heap.size W2 w' ∧ w'.cell? ⟨w.heap.size + 1 + 1, 0, none⟩ = some (.int .i64 4) ∧ w'.cell? ⟨w.heap.size + 1 + 1, 1, none⟩ = some (.slice (some a2) 2 c1) ∧
            w'.cell? a2 = some (.int .i64 X.kind) ∧ w'.cell? ⟨a2.block, a2.off + 1, none⟩ = some (.slice D X.args.length d2) ∧
            w'.cell? ⟨a.block, a.off + 2, none⟩ = some (.int .i64 q.kind) ∧ w'.cell? ⟨a.block, a.off + 2 + 1, none⟩ = some (.slice A2 q.args.length c2))
          (first | exact HSK.out _ (Below.refl _ _).drew | exact HSK.out _ hb1 | go_keep)
          (first
            | (go_at_call 136
               (with_reducible refine ARM.out.mono ?_)
               rintro e w1 ⟨rfl, hb1⟩))
        have k1 := HK1.out.below hb1 HK1.out.lt
        have k2 := HK2.out.below hb1 HK2.out.lt
        obtain ⟨p0, p1', _, _⟩ := k2.facts2
        obtain ⟨x0, x1, g0, g1⟩ := k1.facts2
        have w0 := (hb1.cell (p := ⟨a2.block, a2.off + 2, none⟩) ha2').trans v0
        have w1' := (hb1.cell (p := ⟨a2.block, a2.off + 2 + 1, none⟩) ha2').trans v1
        clear u0 u1 v0 v1
        go_wp2_with fail
        obtain ⟨z0, z1, _, _⟩ := (k1.set2 (.int .i64 Y.kind) (.slice E Y.args.length e2)).facts2
        refine bodyPost_ret (v := .tuple #[.agg #[.int .i64 Y.kind, .slice E Y.args.length e2], .int .i64 0]) (by simp [results, Tryd.results162, go_sem, z0, z1]) rfl ?_
        obtain ⟨hz2, hb2⟩ := HZ.out
        exact gives_ok HR2.out HS.out (hb2.trans (hb1.mono hb2.size)) (by have := hb1.size; omega) (IsTy.keep (fun b h => ⟨.inl h, by have := HS.out b h; have := hb1.size; omega⟩) (fun p hp => hb1.cell (by have := HS.out _ hp; omega)) _ HGY.out)
      · have hs' : X.same q = false := by simpa using hs
        have HR2 : Hid (nodeTy 3 T [Ty.mk 4 [X, Y], q] = .error 7) := Lib.hid (by rw [HR.out, if_neg hs])
        have ARM := Lib.hid (arm false hs')
        clear arm hs hs'
        go_region_held3 (fun w' => Below W2.heap.size W2 w' ∧ w'.cell? ⟨w.heap.size + 1 + 1, 0, none⟩ = some (.int .i64 4) ∧ w'.cell? ⟨w.heap.size + 1 + 1, 1, none⟩ = some (.slice (some a2) 2 c1) ∧
            w'.cell? a2 = some (.int .i64 X.kind) ∧ w'.cell? ⟨a2.block, a2.off + 1, none⟩ = some (.slice D X.args.length d2) ∧
            w'.cell? ⟨a.block, a.off + 2, none⟩ = some (.int .i64 q.kind) ∧ w'.cell? ⟨a.block, a.off + 2 + 1, none⟩ = some (.slice A2 q.args.length c2))
          (first | exact HSK.out _ (Below.refl _ _).drew | exact HSK.out _ hb1 | go_keep)
          (first
            | (go_at_call 136
               (with_reducible refine ARM.out.mono ?_)
               rintro e w1 ⟨rfl, hb1⟩))
        have k1 := HK1.out.below hb1 HK1.out.lt
        obtain ⟨x0, x1, g0, g1⟩ := k1.facts2
        go_wp2_with fail
        obtain ⟨z0, z1, _, _⟩ := (k1.set2 (.int .i64 0) (.slice none 0 0)).facts2
        refine bodyPost_ret (v := .tuple #[.agg #[.int .i64 0, .slice none 0 0], .int .i64 7]) (by simp [results, Tryd.results162, go_sem, z0, z1]) rfl ?_
        obtain ⟨hz2, hb2⟩ := HZ.out
        exact gives_err HR2.out (hb2.trans (hb1.mono hb2.size))
  · have e4 : (p.kind == 4) = false := by rw [beq_eq_false_iff_ne]; exact h4
    have hr : nodeTy 3 T [p, q] = .error 7 := by
      rcases Ty.ok_cases p1 with ⟨kk, hkk, rfl⟩ | ⟨kk, X, Y, hkk, rfl, hX, hY⟩
      · simp [nodeTy]
      · have : kk ≠ 4 := h4
        simp [nodeTy, this]
    have HR := Lib.hid hr
    obtain ⟨q0, _, _, _⟩ := k0'.cells5
    clear hr h4
    go_enter Tryd.func162, Tryd.ntmps162
    go_wp2_with fail
    rw [← hW]
    clear hW r0 r1 q0
    generalize W.alloc (Obj.cells #[.int .i64 p.kind, .slice A1 p.args.length c1] 30) = W2 at k0' k1' k2 HX HY s0' s1' HW ⊢
    obtain ⟨p0, p1', f0, f1⟩ := k2.facts2
    go_quiet (fail)
    have k1 := k1'.drewN nq
    obtain ⟨x0, x1, g0, g1⟩ := k1.facts2
    go_wp2_with fail
    obtain ⟨z0, z1, _, _⟩ := (k1.set2 (.int .i64 0) (.slice none 0 0)).facts2
    refine bodyPost_ret (v := .tuple #[.agg #[.int .i64 0, .slice none 0 0], .int .i64 7]) (by simp [results, Tryd.results162, go_sem, z0, z1]) rfl ?_
    have hb2 : Below w.heap.size w W2 := by have := HW.out; exact this.1.trans (this.2.2.1.mono this.1.size)
    exact gives_err HR.out (below_drewN hb2 _)
end Go.Proofs.YtdbkphgamkeboaaDoor
