/- The parts of TypeOf: fun, pairType, argTypes, ownType, variable, Context. -/
import Derived.Test.YtdbkphgamkeboaaDoorSizeT
import Derived.Test.YtdbkphgamkeboaaDoorSame
namespace Go.Proofs.YtdbkphgamkeboaaDoor
open Go.RowKit

/-- A block that is known whole is a slice. -/
theorem Rep.Sl.of_blk {α : Type} {R : Rep α} {S S' : Nat → Prop} {W : World} {m : Nat} {t : TypeId} {l : List α} {xs : List Value} {n c : Nat} (hb : Blk W m t xs.toArray) (h : R.Ch S W l xs) (hS : ∀ b, S b → S' b) (hm : S' m) (hn : l.length = n) :
    R.Sl S' W l (.slice (some ⟨m, 0, none⟩) n c) := by
  subst hn
  refine ⟨_, c, rfl, fun _ => ⟨_, rfl, hm, Rep.Arr.of_cells (h.keep hS (fun _ _ => rfl)) (fun j u hu => ?_)⟩⟩
  have e : (⟨m, 0, none⟩ : Addr).add j = ⟨m, j, none⟩ := by unfold Addr.add; split <;> simp_all
  rw [e, hb.cell]
  simpa using hu
theorem ty_one {S : Nat → Prop} {W : World} {A : Ty} {x y : Value} (h : IsTy S W A (.agg #[x, y])) : TyR.Ch S W [A] [x, y] := Rep.Ch.one (R := TyR) (vs := [x, y]) h
theorem ty_cons {S : Nat → Prop} {W : World} {A : Ty} {l : List Ty} {x y : Value} {xs : List Value} (h : IsTy S W A (.agg #[x, y])) (k : TyR.Ch S W l xs) : TyR.Ch S W (A :: l) (x :: y :: xs) :=
  Rep.Ch.append (l := [A]) (xs := [x, y]) (ty_one h) k
theorem tm_one {S : Nat → Prop} {W : World} {A : Tm} {a b c d e : Value} (h : IsTm S W A (.agg #[a, b, c, d, e])) : TmR.Ch S W [A] [a, b, c, d, e] := Rep.Ch.one (R := TmR) (vs := [a, b, c, d, e]) h
theorem tm_cons {S : Nat → Prop} {W : World} {A : Tm} {l : List Tm} {a b c d e : Value} {xs : List Value} (h : IsTm S W A (.agg #[a, b, c, d, e])) (k : TmR.Ch S W l xs) : TmR.Ch S W (A :: l) (a :: b :: c :: d :: e :: xs) :=
  Rep.Ch.append (l := [A]) (xs := [a, b, c, d, e]) (tm_one h) k

/-- The tree T, in blocks of S or new ones. -/
def InTy (S : Nat → Prop) (w : World) (T : Ty) (e : Ending) (w' : World) : Prop :=
  ∃ v, e = .returned v ∧ IsTy (fun b => (S b ∨ w.heap.size ≤ b) ∧ b < w'.heap.size) w' T v ∧ Below w.heap.size w w'

set_option maxHeartbeats 1000000 in
theorem tfun_in (S : Nat → Prop) (A B : Ty) (u v : Value) (w : World) (hS : ∀ b, S b → b < w.heap.size) (hA : IsTy S w A u) (hB : IsTy S w B v) :
    Calls Tryd.prog 203 #[u, v] w (InTy S w (.mk 4 [A, B])) := by
  obtain ⟨A0, c0, rfl⟩ := hA.form
  obtain ⟨B0, d0, rfl⟩ := hB.form
  have HA := Lib.hid hA
  have HB := Lib.hid hB
  have HS := Lib.hid hS
  clear hA hB hS
  go_enter Tryd.func203, Tryd.ntmps203
  go_wp2_with fail
  obtain ⟨b1, z1, k1⟩ := new_blk (Below.refl w.heap.size w) (Nat.le_refl _) #[.int .i64 A.kind, .slice A0 A.args.length c0] 30
  generalize w.alloc (Obj.cells #[.int .i64 A.kind, .slice A0 A.args.length c0] 30) = W1 at b1 z1 k1 ⊢
  obtain ⟨b2, z2, k2⟩ := new_blk b1 b1.size #[.int .i64 B.kind, .slice B0 B.args.length d0] 30
  generalize W1.alloc (Obj.cells #[.int .i64 B.kind, .slice B0 B.args.length d0] 30) = W2 at b2 z2 k2 ⊢
  obtain ⟨b3, z3, k3⟩ := new_blk b2 b2.size #[.int .i64 4, .slice (some ⟨w.heap.size + 1 + 1 + 1, 0, none⟩) 2 2] 30
  generalize W2.alloc (Obj.cells #[.int .i64 4, .slice (some ⟨w.heap.size + 1 + 1 + 1, 0, none⟩) 2 2] 30) = W3 at b3 z3 k3 ⊢
  obtain ⟨b4, z4, k4⟩ := new_blk b3 b3.size #[.int .i64 A.kind, .slice A0 A.args.length c0, .int .i64 B.kind, .slice B0 B.args.length d0] 30
  have k3 := k3.alloc (Obj.cells #[.int .i64 A.kind, .slice A0 A.args.length c0, .int .i64 B.kind, .slice B0 B.args.length d0] 30)
  generalize W3.alloc (Obj.cells #[.int .i64 A.kind, .slice A0 A.args.length c0, .int .i64 B.kind, .slice B0 B.args.length d0] 30) = W4 at b4 z4 k3 k4 ⊢
  obtain ⟨q0, q1, _, _⟩ := k3.facts2
  rw [show W2.heap.size = w.heap.size + 1 + 1 from by omega] at q0 q1
  rw [show W3.heap.size = w.heap.size + 1 + 1 + 1 from by omega] at k4
  refine bodyPost_ret (v := .agg #[.int .i64 4, .slice (some ⟨w.heap.size + 1 + 1 + 1, 0, none⟩) 2 2]) (by simp [results, Tryd.results203, go_sem, q0, q1]) rfl ⟨_, rfl, ?_, b4⟩
  have hk : ∀ p : Addr, S p.block → W4.cell? p = w.cell? p := fun p hp => b4.cell (HS.out _ hp)
  exact IsTy.of_sl (Rep.Sl.of_blk (R := TyR) k4 (ty_cons (HA.out.keep (fun _ h => h) hk) (ty_one (HB.out.keep (fun _ h => h) hk))) (fun b hb => ⟨.inl hb, by have := HS.out b hb; omega⟩) ⟨.inr (by omega), by omega⟩ rfl)

/-- Below a type that is too large stands nothing: the pair of the parts of a node. -/
def PairS (S : Nat → Prop) (l : List Ty) (w : World) (e : Ending) (w' : World) : Prop :=
  Below w.heap.size w w' ∧ if (Ty.mk 3 l).err = 0 then ∃ v, e = .returned (.tuple #[v, .int .i64 0]) ∧ IsTy (fun b => S b ∧ b < w'.heap.size) w' (.mk 3 l) v
    else e = .returned (.tuple #[.agg #[.int .i64 0, .slice none 0 0], .int .i64 (Ty.mk 3 l).err])

set_option maxHeartbeats 1000000 in
theorem pairType_in (S : Nat → Prop) (l : List Ty) (s : Value) (w : World) (hS : ∀ b, S b → b < w.heap.size) (hsz : nodesAll l ≤ 99999) (hl : TyR.Sl S w l s) :
    Calls Tryd.prog 187 #[s] w (PairS S l w) := by
  obtain ⟨A0, c0, rfl⟩ := hl.form
  have HL := Lib.hid hl
  have HS := Lib.hid hS
  clear hl hS
  go_enter Tryd.func187, Tryd.ntmps187
  go_wp2_with fail
  obtain ⟨b1, z1, k1⟩ := new_blk (Below.refl w.heap.size w) (Nat.le_refl _) #[.int .i64 0, .slice none 0 0] 30
  generalize w.alloc (Obj.cells #[.int .i64 0, .slice none 0 0] 30) = W1 at b1 z1 k1 ⊢
  obtain ⟨b2, z2, k2⟩ := new_blk b1 b1.size #[.int .i64 3, .slice A0 l.length c0] 30
  have k1 := k1.alloc (Obj.cells #[.int .i64 3, .slice A0 l.length c0] 30)
  generalize W1.alloc (Obj.cells #[.int .i64 3, .slice A0 l.length c0] 30) = W2 at b2 z2 k1 k2 ⊢
  rw [z1] at k2
  have hT : IsTy S W2 (.mk 3 l) (.agg #[.int .i64 3, .slice A0 l.length c0]) := IsTy.of_sl (HL.out.keep (fun _ h => h) (fun p hp => b2.cell (HS.out _ hp)))
  refine (check_any (.mk 3 l) _ W2 (by simp only [Ty.nodes]; omega) (IsTy.keep (fun b h => by have := HS.out b h; omega) (fun _ _ => rfl) _ hT)).mono ?_
  rintro e w3 ⟨rfl, hb3⟩
  have hb03 : Below w.heap.size w w3 := b2.trans (hb3.mono b2.size)
  have k1 := k1.below hb3 k1.lt
  have k2 := k2.below hb3 k2.lt
  obtain ⟨p0, p1, f0, f1⟩ := k1.facts2
  obtain ⟨q0, q1, _, _⟩ := k2.facts2
  have hT3 : IsTy S w3 (.mk 3 l) (.agg #[.int .i64 3, .slice A0 l.length c0]) := IsTy.keep (fun _ h => h) (fun p hp => hb3.cell (by have := HS.out _ hp; omega)) _ hT
  have HT := Lib.hid hT3
  have HZ := Lib.hid (And.intro z1 z2)
  clear hT hT3 z1 z2
  by_cases he : (Ty.mk 3 l).err = 0
  · have e2 : ((Ty.mk 3 l).err != 0) = false := by simp [he]
    have HE := Lib.hid he
    rw [he] at e2 ⊢
    clear he
    go_wp2_with fail
    obtain ⟨z0, z1, _, _⟩ := (k1.set2 (.int .i64 3) (.slice A0 l.length c0)).facts2
    have hg := only_set2 w3 w.heap.size (.int .i64 3) (.slice A0 l.length c0)
    refine bodyPost_ret (v := .tuple #[.agg #[.int .i64 3, .slice A0 l.length c0], .int .i64 0]) (by simp [results, Tryd.results187, go_sem, z0, z1]) rfl ⟨hb03.grown hg hb03.size (fun k e => by cases e; exact Nat.le_refl _), ?_⟩
    rw [if_pos HE.out]
    exact ⟨_, rfl, IsTy.keep (fun b hb => ⟨hb, by have := HS.out b hb; have := hg.size; have := hb03.size; omega⟩) (fun p hp => World.cell?_of_block (hg.block p.block (by have := HS.out _ hp; have := hb03.size; omega) (fun e => by have := HS.out _ hp; simp at e; omega))) _ HT.out⟩
  · have e2 : ((Ty.mk 3 l).err != 0) = true := by simp [he]
    have HE := Lib.hid he
    clear he
    go_wp2_with fail
    obtain ⟨z0, z1, _, _⟩ := (k1.set2 (.int .i64 0) (.slice none 0 0)).facts2
    have hg := only_set2 w3 w.heap.size (.int .i64 0) (.slice none 0 0)
    refine bodyPost_ret (v := .tuple #[.agg #[.int .i64 0, .slice none 0 0], .int .i64 (Ty.mk 3 l).err]) (by simp [results, Tryd.results187, go_sem, z0, z1]) rfl ⟨hb03.grown hg hb03.size (fun k e => by cases e; exact Nat.le_refl _), ?_⟩
    rw [if_neg HE.out]

/-- A slice whose elements lie in blocks of S, the slice itself anywhere. -/
def Rep.Ats {α : Type} (R : Rep α) (S : Nat → Prop) (w : World) (l : List α) (v : Value) : Prop := ∃ A c, v = .slice A l.length c ∧ ∀ i (hi : i < l.length), ∃ a, A = some a ∧ a.block < w.heap.size ∧ R.At S w l[i] (a.add (i * R.n))
theorem Rep.Own.ats {α : Type} {R : Rep α} {S : Nat → Prop} {base : Nat} {v : Value} {l : List α} {w : World} (h : R.Own S base v l w) : R.Ats S w l v := by
  obtain ⟨xs, hown, hc⟩ := h
  rcases hown.2 with ⟨rfl, hn⟩ | ⟨g, cap, cur, rfl, hb, hg, _⟩
  · exact ⟨none, 0, by rw [hn], fun i hi => by omega⟩
  · refine ⟨_, cap, rfl, fun i hi => ⟨_, rfl, (Array.getElem?_eq_some_iff.1 hg).1, ?_⟩⟩
    have h2 : R.Ch S w l xs := hc.keep (fun b hb => hb.1) (fun _ _ => rfl)
    exact Rep.Arr.of_cells h2 (fun j u hu => hown.cells rfl j u hu) i hi

/-- The types of the variables: what comes of one. -/
def VarS (S : Nat → Prop) (g : List Ty) (i : Int) (w : World) (e : Ending) (w' : World) : Prop :=
  Below w.heap.size w w' ∧ if h : i.toNat < g.length then ∃ v, e = .returned (.tuple #[v, .int .i64 0]) ∧ IsTy S w' (g[g.length - 1 - i.toNat]'(by omega)) v
    else e = .returned (.tuple #[.agg #[.int .i64 0, .slice none 0 0], .int .i64 6])

set_option maxHeartbeats 1000000 in
theorem variable_in (S : Nat → Prop) (g : List Ty) (i : Int) (s : Value) (w : World) (hS : ∀ b, S b → b < w.heap.size) (hi : 0 ≤ i) (hlen : g.length ≤ 1000000) (hl : TyR.Ats S w g s) :
    Calls Tryd.prog 161 #[s, .int .i64 i] w (VarS S g i w) := by
  obtain ⟨A0, c0, rfl, hl⟩ := hl
  obtain ⟨n, rfl⟩ : ∃ n : Nat, i = (n : Int) := ⟨i.toNat, by omega⟩
  obtain ⟨b1, z1, k1⟩ := new_blk (Below.refl w.heap.size w) (Nat.le_refl _) #[.int .i64 0, .slice none 0 0] 30
  have HL := Lib.hid hl
  have HS := Lib.hid hS
  clear hl hS
  by_cases hn : n < g.length
  · have e1 : decide ((g.length : Int) ≤ (n : Int)) = false := by simp; omega
    obtain ⟨a, rfl, ha, hat0⟩ := HL.out (g.length - 1 - n) (by omega)
    have hat : TyR.At S (w.alloc (Obj.cells #[.int .i64 0, .slice none 0 0] 30)) g[g.length - 1 - n] (a.add ((g.length - 1 - n) * TyR.n)) := by
      obtain ⟨vs, h1, h2⟩ := hat0
      exact ⟨vs, TyR.keep (fun _ h => h) (fun p hp => World.cell?_alloc_lt _ _ _ (HS.out _ hp)) h1, fun j u hu => (World.cell?_alloc_lt _ _ _ (by rw [add_block, add_block]; exact ha)).trans (h2 j u hu)⟩
    obtain ⟨A1, c1, q0, q1, hx⟩ := at_ty hat
    simp only [show TyR.n = 2 from rfl] at q0 q1
    have ex : (g.length : Int) - 1 - (n : Int) = ((g.length - 1 - n : Nat) : Int) := by omega
    have HX := Lib.hid hx
    clear hat hat0 hx b1 z1 k1
    go_enter Tryd.func161, Tryd.ntmps161
    go_wp2_with fail
    obtain ⟨b1, z1, k1⟩ := new_blk (Below.refl w.heap.size w) (Nat.le_refl _) #[.int .i64 g[g.length - 1 - n].kind, .slice A1 g[g.length - 1 - n].args.length c1] 30
    obtain ⟨z0, z1, _, _⟩ := k1.facts2
    refine bodyPost_ret (v := .tuple #[.agg #[.int .i64 g[g.length - 1 - n].kind, .slice A1 g[g.length - 1 - n].args.length c1], .int .i64 0]) (by simp [results, Tryd.results161, go_sem, z0, z1]) rfl ⟨b1, ?_⟩
    rw [dif_pos (by simpa using hn)]
    exact ⟨_, rfl, IsTy.keep (fun _ h => h) (fun p hp => (World.cell?_alloc_lt _ _ _ (HS.out _ hp)).trans (World.cell?_alloc_lt _ _ _ (HS.out _ hp)).symm) _ HX.out⟩
  · have e1 : decide ((g.length : Int) ≤ (n : Int)) = true := by simp; omega
    go_enter Tryd.func161, Tryd.ntmps161
    go_wp2_with fail
    obtain ⟨z0, z1, _, _⟩ := k1.facts2
    refine bodyPost_ret (v := .tuple #[.agg #[.int .i64 0, .slice none 0 0], .int .i64 6]) (by simp [results, Tryd.results161, go_sem, z0, z1]) rfl ⟨b1, ?_⟩
    rw [dif_neg (by simpa using hn)]
end Go.Proofs.YtdbkphgamkeboaaDoor
