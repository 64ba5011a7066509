/- The types that a node asks of its parts, and its own. -/
import Derived.Test.YtdbkphgamkeboaaDoorTypeParts
import Derived.Deep.RegionLaw
namespace Go.Proofs.YtdbkphgamkeboaaDoor
open Go.RowKit

def tyNat : Ty := .mk 1 []
def tyList : Ty := .mk 2 []
def tyUnit : Ty := .mk 5 []
def tyFun (A B : Ty) : Ty := .mk 4 [A, B]
/-- What the parts of a node must have. -/
def argTys (k : Int) (T : Ty) : List Ty :=
  if k = 5 then [tyNat] else if k = 8 then [tyNat, tyList] else if k = 6 then [T, tyFun tyNat (tyFun T T), tyNat] else if k = 9 then [T, tyFun tyNat (tyFun tyList (tyFun T T)), tyList] else []
/-- What a node has. -/
def ownTy (k : Int) (T : Ty) : Ty := if k = 4 ∨ k = 5 then tyNat else if k = 7 ∨ k = 8 then tyList else if k = 13 then tyUnit else T

set_option maxHeartbeats 2000000 in
theorem ownType_in (S : Nat → Prop) (t : Tm) (v : Value) (w : World) (hS : ∀ b, S b → b < w.heap.size) (hT : IsTm S w t v) :
    Calls Tryd.prog 190 #[v] w (InTy S w (ownTy t.kind t.type)) := by
  obtain ⟨B, d, A, c, rfl, hty, _⟩ := hT.parts
  obtain ⟨k, i, T, l⟩ := t
  simp only [Tm.kind, Tm.index, Tm.type, Tm.args] at *
  have HT := Lib.hid hty
  have HS := Lib.hid hS
  clear hT hty hS
  have leaf : ∀ (kk : Int) (W : World), Below w.heap.size w W → InTy S w (.mk kk []) (.returned (.agg #[.int .i64 kk, .slice none 0 0])) W := fun kk W hb => ⟨_, rfl, IsTy.leaf _ _ _, hb⟩
  by_cases h1 : k = 4 ∨ k = 5
  · have e : ownTy k T = tyNat := by unfold ownTy; rw [if_pos h1]
    rw [e]
    rcases h1 with rfl | rfl
    all_goals
      go_enter Tryd.func190, Tryd.ntmps190
      go_wp2_with fail
      exact bodyPost_ret (v := .agg #[.int .i64 1, .slice none 0 0]) (by simp [results, Tryd.results190, go_sem]) rfl (leaf 1 _ (((Below.refl _ _).alloc (Nat.le_refl _) _).alloc (by simp) _))
  · by_cases h2 : k = 7 ∨ k = 8
    · have e : ownTy k T = tyList := by unfold ownTy; rw [if_neg h1, if_pos h2]
      rw [e]
      rcases h2 with rfl | rfl
      all_goals
        go_enter Tryd.func190, Tryd.ntmps190
        go_wp2_with fail
        exact bodyPost_ret (v := .agg #[.int .i64 2, .slice none 0 0]) (by simp [results, Tryd.results190, go_sem]) rfl (leaf 2 _ (((Below.refl _ _).alloc (Nat.le_refl _) _).alloc (by simp) _))
    · by_cases h3 : k = 13
      · have e : ownTy k T = tyUnit := by unfold ownTy; rw [if_neg h1, if_neg h2, if_pos h3]
        rw [e]
        subst h3
        go_enter Tryd.func190, Tryd.ntmps190
        go_wp2_with fail
        exact bodyPost_ret (v := .agg #[.int .i64 5, .slice none 0 0]) (by simp [results, Tryd.results190, go_sem]) rfl (leaf 5 _ (((Below.refl _ _).alloc (Nat.le_refl _) _).alloc (by simp) _))
      · have e : ownTy k T = T := by unfold ownTy; rw [if_neg h1, if_neg h2, if_neg h3]
        have e4 : (k == 4) = false := by rw [beq_eq_false_iff_ne]; omega
        have e5 : (k == 5) = false := by rw [beq_eq_false_iff_ne]; omega
        have e7 : (k == 7) = false := by rw [beq_eq_false_iff_ne]; omega
        have e8 : (k == 8) = false := by rw [beq_eq_false_iff_ne]; omega
        have e13 : (k == 13) = false := by rw [beq_eq_false_iff_ne]; omega
        rw [e]
        clear e h1 h2 h3
        go_enter Tryd.func190, Tryd.ntmps190
        go_wp2_with fail
        refine bodyPost_ret (v := .agg #[.int .i64 T.kind, .slice B T.args.length d]) (by simp [results, Tryd.results190, go_sem]) rfl ⟨_, rfl, ?_, ((Below.refl _ _).alloc (Nat.le_refl _) _).alloc (by simp) _⟩
        have hb : Below w.heap.size w ((w.alloc (Obj.cells #[.int .i64 k, .int .i64 i, .int .i64 T.kind, .slice B T.args.length d, .slice A l.length c] 34)).alloc (Obj.cells #[.int .i64 T.kind, .slice B T.args.length d] 30)) :=
          ((Below.refl _ _).alloc (Nat.le_refl _) _).alloc (by simp) _
        exact IsTy.keep (fun b hb' => ⟨.inl hb', Nat.lt_of_lt_of_le (HS.out b hb') hb.size⟩) (fun p hp => hb.cell (HS.out _ hp)) _ HT.out

/-- The list l, in blocks of S or new ones. -/
def InTys (S : Nat → Prop) (w : World) (l : List Ty) (e : Ending) (w' : World) : Prop :=
  ∃ v, e = .returned v ∧ TyR.Sl (fun b => (S b ∨ w.heap.size ≤ b) ∧ b < w'.heap.size) w' l v ∧ Below w.heap.size w w'

theorem built_tys {S : Nat → Prop} {w W : World} {l : List Ty} {xs : List Value} {n m : Nat} (hb : Below w.heap.size w W) (h : TyR.Ch (fun b => (S b ∨ w.heap.size ≤ b) ∧ b < W.heap.size) W l xs) (hn : l.length = n) (hm : W.heap.size = m) :
    TyR.Sl (fun b => (S b ∨ w.heap.size ≤ b) ∧ b < (W.alloc (.cells xs.toArray 30)).heap.size) (W.alloc (.cells xs.toArray 30)) l (.slice (some ⟨m, 0, none⟩) n n) := by
  subst hn
  subst hm
  exact Rep.Sl.built (R := TyR) h (fun b hb => hb.2) _ (fun b hb => ⟨hb.1, by have := hb.2; simp; omega⟩) ⟨.inr hb.size, by simp⟩

theorem IsTy.form2 {S : Nat → Prop} {w : World} {k : Int} {A B : Ty} {v : Value} (h : IsTy S w (.mk k [A, B]) v) : ∃ a c, v = .agg #[.int .i64 k, .slice a 2 c] := h.form

/-- The variables of argTypes. -/
theorem argTypes_world (w : World) (x0 x1 x2 x3 x4 : Value) : ∃ W, W = ((w.alloc (Obj.cells #[x0, x1, x2, x3, x4] 34)).alloc (Obj.cells #[.int .i64 1, .slice none 0 0] 30)).alloc (Obj.cells #[.int .i64 2, .slice none 0 0] 30) ∧
    Below w.heap.size w W ∧ W.heap.size = w.heap.size + 3 ∧ Blk W w.heap.size 34 #[x0, x1, x2, x3, x4] ∧ Blk W (w.heap.size + 1) 30 #[.int .i64 1, .slice none 0 0] ∧ Blk W (w.heap.size + 1 + 1) 30 #[.int .i64 2, .slice none 0 0] := by
  obtain ⟨b1, z1, k1⟩ := new_blk (Below.refl w.heap.size w) (Nat.le_refl _) #[x0, x1, x2, x3, x4] 34
  generalize w.alloc (Obj.cells #[x0, x1, x2, x3, x4] 34) = W1 at b1 z1 k1 ⊢
  obtain ⟨b2, z2, k2⟩ := new_blk b1 b1.size #[.int .i64 1, .slice none 0 0] 30
  have k1 := k1.alloc (Obj.cells #[.int .i64 1, .slice none 0 0] 30)
  generalize W1.alloc (Obj.cells #[.int .i64 1, .slice none 0 0] 30) = W2 at b2 z2 k1 k2 ⊢
  obtain ⟨b3, z3, k3⟩ := new_blk b2 b2.size #[.int .i64 2, .slice none 0 0] 30
  have k1 := k1.alloc (Obj.cells #[.int .i64 2, .slice none 0 0] 30)
  have k2 := k2.alloc (Obj.cells #[.int .i64 2, .slice none 0 0] 30)
  rw [z1] at k2
  rw [z2, z1] at k3
  exact ⟨_, rfl, b3, by omega, k1, k2, k3⟩

set_option maxRecDepth 100000 in
set_option maxHeartbeats 4000000 in
theorem argTypes_in (S : Nat → Prop) (t : Tm) (v : Value) (w : World) (hS : ∀ b, S b → b < w.heap.size) (hT : IsTm S w t v) :
    Calls Tryd.prog 189 #[v] w (InTys S w (argTys t.kind t.type)) := by
  obtain ⟨B, d, A, c, rfl, hty, _⟩ := hT.parts
  obtain ⟨k, i, T, l⟩ := t
  simp only [Tm.kind, Tm.index, Tm.type, Tm.args] at *
  obtain ⟨W, hW, hb, hz, k0, k1, k2⟩ := argTypes_world w (.int .i64 k) (.int .i64 i) (.int .i64 T.kind) (.slice B T.args.length d) (.slice A l.length c)
  have hT0 : IsTy S W T (.agg #[.int .i64 T.kind, .slice B T.args.length d]) := IsTy.keep (fun _ h => h) (fun p hp => hb.cell (hS _ hp)) _ hty
  have HT := Lib.hid hT0
  have HS := Lib.hid hS
  clear hT hty hS hT0
  by_cases h5 : k = 5
  · subst h5
    rw [show argTys 5 T = [tyNat] from rfl]
    go_enter Tryd.func189, Tryd.ntmps189
    go_wp2_with fail
    rw [← hW]
    go_ret
    exact ⟨_, rfl, built_tys hb (ty_one (IsTy.leaf (fun b => (S b ∨ w.heap.size ≤ b) ∧ b < W.heap.size) W 1)) rfl (by omega), hb.alloc hb.size _⟩
  by_cases h8 : k = 8
  · subst h8
    rw [show argTys 8 T = [tyNat, tyList] from rfl]
    go_enter Tryd.func189, Tryd.ntmps189
    go_wp2_with fail
    rw [← hW]
    go_ret
    exact ⟨_, rfl, built_tys hb (ty_cons (IsTy.leaf (fun b => (S b ∨ w.heap.size ≤ b) ∧ b < W.heap.size) W 1) (ty_one (IsTy.leaf (fun b => (S b ∨ w.heap.size ≤ b) ∧ b < W.heap.size) W 2))) rfl (by omega), hb.alloc hb.size _⟩
  by_cases h6 : k = 6
  · subst h6
    rw [show argTys 6 T = [T, tyFun tyNat (tyFun T T), tyNat] from rfl]
    go_enter Tryd.func189, Tryd.ntmps189
    go_wp2_with fail
    rw [← hW]
    have HB := Lib.hid hb
    have HK0 := Lib.hid k0
    have HK1 := Lib.hid k1
    have HK2 := Lib.hid k2
    have HZ := Lib.hid hz
    have HSK := Lib.hid fun (w1 : World) (h : Below (w.heap.size + 3) W w1) => And.intro h (And.intro (k0.below h (by omega)).cells5.2.2.1 (And.intro (k0.below h (by omega)).cells5.2.2.2.1 (And.intro (k1.below h (by omega)).facts2.1 (And.intro (k1.below h (by omega)).facts2.2.1 (And.intro (k2.below h (by omega)).facts2.1 (k2.below h (by omega)).facts2.2.1)))))
    obtain ⟨_, q0, q1, q2, q3, q4, q5⟩ := HSK.out W (Below.refl _ _)
    clear hb k0 k1 k2 hz hW
    go_region_held3 (fun w' => Below (w.heap.size + 3) W w' ∧ w'.cell? ⟨w.heap.size, 2, none⟩ = some (.int .i64 T.kind) ∧ w'.cell? ⟨w.heap.size, 3, none⟩ = some (.slice B T.args.length d) ∧
        w'.cell? ⟨w.heap.size + 1, 0, none⟩ = some (.int .i64 1) ∧ w'.cell? ⟨w.heap.size + 1, 1, none⟩ = some (.slice none 0 0) ∧ w'.cell? ⟨w.heap.size + 1 + 1, 0, none⟩ = some (.int .i64 2) ∧ w'.cell? ⟨w.heap.size + 1 + 1, 1, none⟩ = some (.slice none 0 0))
      (first | exact HSK.out _ (Below.refl _ _).drew | exact HSK.out _ hb1 | exact HSK.out _ hb2 | exact HSK.out _ (hb2.alloc (by have := hb2.size; have := HZ.out; omega) _) | go_keep)
      (first
        | (go_at_call 203
           (with_reducible refine (tfun_in (fun b => (S b ∨ w.heap.size + 3 ≤ b) ∧ b < w1.heap.size) tyNat (tyFun T T) (.agg #[.int .i64 1, .slice none 0 0]) (.agg #[.int .i64 4, .slice A1 2 c1]) _ ?_ ?_ ?_).mono ?_)
           · intro b hb; exact hb.2
           · exact IsTy.leaf _ _ _
           · exact hy1
           rintro e w2 ⟨x2, rfl, hx2, hb2'⟩
           obtain ⟨A2, c2, rfl⟩ := hx2.form2
           have hb2 : Below (w.heap.size + 3) W w2 := hb1.trans (hb2'.mono (by have := HZ.out; have := hb1.size; omega))
           have hy2 : IsTy (fun b => (S b ∨ w.heap.size + 3 ≤ b) ∧ b < w2.heap.size) w2 (tyFun tyNat (tyFun T T)) (.agg #[.int .i64 4, .slice A2 2 c2]) := IsTy.keep (fun b h => ⟨by rcases h.1 with h1 | h1; exact h1.1; have := HZ.out; have := hb1.size; right; omega, h.2⟩) (fun _ _ => rfl) _ hx2)
        | (go_at_call 203
           (with_reducible refine (tfun_in (fun b => (S b ∨ w.heap.size + 3 ≤ b) ∧ b < W.heap.size) T T (.agg #[.int .i64 T.kind, .slice B T.args.length d]) (.agg #[.int .i64 T.kind, .slice B T.args.length d]) _ ?_ ?_ ?_).mono ?_)
           · intro b hb; exact hb.2
           · exact IsTy.keep (S := S) (w := W) (w' := W.drew) (fun b h => ⟨.inl h, by have := HS.out b h; have := HZ.out; omega⟩) (fun p _ => World.cell?_drew W p) T HT.out
           · exact IsTy.keep (S := S) (w := W) (w' := W.drew) (fun b h => ⟨.inl h, by have := HS.out b h; have := HZ.out; omega⟩) (fun p _ => World.cell?_drew W p) T HT.out
           rintro e w1 ⟨x1, rfl, hx1, hb1'⟩
           obtain ⟨A1, c1, rfl⟩ := hx1.form2
           have hb1 : Below (w.heap.size + 3) W w1 := (((Below.refl _ W).drew).trans hb1').mono (by have := HZ.out; show w.heap.size + 3 ≤ W.heap.size; omega)
           have hy1 : IsTy (fun b => (S b ∨ w.heap.size + 3 ≤ b) ∧ b < w1.heap.size) w1 (tyFun T T) (.agg #[.int .i64 4, .slice A1 2 c1]) := IsTy.keep (fun b h => ⟨by rcases h.1 with h1 | h1; exact h1.1; have := HZ.out; right; show w.heap.size + 3 ≤ b; have h2 : W.heap.size ≤ b := h1; omega, h.2⟩) (fun _ _ => rfl) _ hx1))
    go_wp2_with fail
    go_ret
    have hbw : Below w.heap.size w w2 := HB.out.trans (hb2.mono (by omega))
    have hT2 : IsTy (fun b => (S b ∨ w.heap.size ≤ b) ∧ b < w2.heap.size) w2 T (.agg #[.int .i64 T.kind, .slice B T.args.length d]) := IsTy.keep (fun b h => ⟨.inl h, by have := HS.out b h; have := hbw.size; omega⟩) (fun p hp => hb2.cell (by have := HS.out _ hp; omega)) _ HT.out
    have hy : IsTy (fun b => (S b ∨ w.heap.size ≤ b) ∧ b < w2.heap.size) w2 _ _ := IsTy.keep (fun b h => ⟨h.1.imp id (fun h1 => by omega), h.2⟩) (fun _ _ => rfl) _ hy2
    exact ⟨_, rfl, built_tys hbw (ty_cons hT2 (ty_cons hy (ty_one (IsTy.leaf _ _ 1)))) rfl rfl, hbw.alloc hbw.size _⟩
  by_cases h9 : k = 9
  · subst h9
    rw [show argTys 9 T = [T, tyFun tyNat (tyFun tyList (tyFun T T)), tyList] from rfl]
    go_enter Tryd.func189, Tryd.ntmps189
    go_wp2_with fail
    rw [← hW]
    have HB := Lib.hid hb
    have HK0 := Lib.hid k0
    have HK1 := Lib.hid k1
    have HK2 := Lib.hid k2
    have HZ := Lib.hid hz
    have HSK := Lib.hid fun (w1 : World) (h : Below (w.heap.size + 3) W w1) => And.intro h (And.intro (k0.below h (by omega)).cells5.2.2.1 (And.intro (k0.below h (by omega)).cells5.2.2.2.1 (And.intro (k1.below h (by omega)).facts2.1 (And.intro (k1.below h (by omega)).facts2.2.1 (And.intro (k2.below h (by omega)).facts2.1 (k2.below h (by omega)).facts2.2.1)))))
    obtain ⟨_, q0, q1, q2, q3, q4, q5⟩ := HSK.out W (Below.refl _ _)
    clear hb k0 k1 k2 hz hW
    go_region_held3 (fun w' => Below (w.heap.size + 3) W w' ∧ w'.cell? ⟨w.heap.size, 2, none⟩ = some (.int .i64 T.kind) ∧ w'.cell? ⟨w.heap.size, 3, none⟩ = some (.slice B T.args.length d) ∧
        w'.cell? ⟨w.heap.size + 1, 0, none⟩ = some (.int .i64 1) ∧ w'.cell? ⟨w.heap.size + 1, 1, none⟩ = some (.slice none 0 0) ∧ w'.cell? ⟨w.heap.size + 1 + 1, 0, none⟩ = some (.int .i64 2) ∧ w'.cell? ⟨w.heap.size + 1 + 1, 1, none⟩ = some (.slice none 0 0))
      (first | exact HSK.out _ (Below.refl _ _).drew | exact HSK.out _ hb1 | exact HSK.out _ hb2 | exact HSK.out _ hb3 | exact HSK.out _ (hb3.alloc (by have := hb3.size; have := HZ.out; omega) _) | go_keep)
      (first
        | (go_at_call 203
           (with_reducible refine (tfun_in (fun b => (S b ∨ w.heap.size + 3 ≤ b) ∧ b < w2.heap.size) tyNat (tyFun tyList (tyFun T T)) (.agg #[.int .i64 1, .slice none 0 0]) (.agg #[.int .i64 4, .slice A2 2 c2]) _ ?_ ?_ ?_).mono ?_)
           · intro b hb; exact hb.2
           · exact IsTy.leaf _ _ _
           · exact hy2
           rintro e w3 ⟨x3, rfl, hx3, hb3'⟩
           obtain ⟨A3, c3, rfl⟩ := hx3.form2
           have hb3 : Below (w.heap.size + 3) W w3 := hb2.trans (hb3'.mono (by have := HZ.out; have := hb2.size; omega))
           have hy3 : IsTy (fun b => (S b ∨ w.heap.size + 3 ≤ b) ∧ b < w3.heap.size) w3 (tyFun tyNat (tyFun tyList (tyFun T T))) (.agg #[.int .i64 4, .slice A3 2 c3]) := IsTy.keep (fun b h => ⟨by rcases h.1 with h1 | h1; exact h1.1; have := HZ.out; have := hb2.size; right; omega, h.2⟩) (fun _ _ => rfl) _ hx3)
        | (go_at_call 203
           (with_reducible refine (tfun_in (fun b => (S b ∨ w.heap.size + 3 ≤ b) ∧ b < w1.heap.size) tyList (tyFun T T) (.agg #[.int .i64 2, .slice none 0 0]) (.agg #[.int .i64 4, .slice A1 2 c1]) _ ?_ ?_ ?_).mono ?_)
           · intro b hb; exact hb.2
           · exact IsTy.leaf _ _ _
           · exact hy1
           rintro e w2 ⟨x2, rfl, hx2, hb2'⟩
           obtain ⟨A2, c2, rfl⟩ := hx2.form2
           have hb2 : Below (w.heap.size + 3) W w2 := hb1.trans (hb2'.mono (by have := HZ.out; have := hb1.size; omega))
           have hy2 : IsTy (fun b => (S b ∨ w.heap.size + 3 ≤ b) ∧ b < w2.heap.size) w2 (tyFun tyList (tyFun T T)) (.agg #[.int .i64 4, .slice A2 2 c2]) := IsTy.keep (fun b h => ⟨by rcases h.1 with h1 | h1; exact h1.1; have := HZ.out; have := hb1.size; right; omega, h.2⟩) (fun _ _ => rfl) _ hx2)
        | (go_at_call 203
           (with_reducible refine (tfun_in (fun b => (S b ∨ w.heap.size + 3 ≤ b) ∧ b < W.heap.size) T T (.agg #[.int .i64 T.kind, .slice B T.args.length d]) (.agg #[.int .i64 T.kind, .slice B T.args.length d]) _ ?_ ?_ ?_).mono ?_)
           · intro b hb; exact hb.2
           · exact IsTy.keep (S := S) (w := W) (w' := W.drew) (fun b h => ⟨.inl h, by have := HS.out b h; have := HZ.out; omega⟩) (fun p _ => World.cell?_drew W p) T HT.out
           · exact IsTy.keep (S := S) (w := W) (w' := W.drew) (fun b h => ⟨.inl h, by have := HS.out b h; have := HZ.out; omega⟩) (fun p _ => World.cell?_drew W p) T HT.out
           rintro e w1 ⟨x1, rfl, hx1, hb1'⟩
           obtain ⟨A1, c1, rfl⟩ := hx1.form2
           have hb1 : Below (w.heap.size + 3) W w1 := (((Below.refl _ W).drew).trans hb1').mono (by have := HZ.out; show w.heap.size + 3 ≤ W.heap.size; omega)
           have hy1 : IsTy (fun b => (S b ∨ w.heap.size + 3 ≤ b) ∧ b < w1.heap.size) w1 (tyFun T T) (.agg #[.int .i64 4, .slice A1 2 c1]) := IsTy.keep (fun b h => ⟨by rcases h.1 with h1 | h1; exact h1.1; have := HZ.out; right; show w.heap.size + 3 ≤ b; have h2 : W.heap.size ≤ b := h1; omega, h.2⟩) (fun _ _ => rfl) _ hx1))
    go_wp2_with fail
    go_ret
    have hbw : Below w.heap.size w w3 := HB.out.trans (hb3.mono (by omega))
    have hT3 : IsTy (fun b => (S b ∨ w.heap.size ≤ b) ∧ b < w3.heap.size) w3 T (.agg #[.int .i64 T.kind, .slice B T.args.length d]) := IsTy.keep (fun b h => ⟨.inl h, by have := HS.out b h; have := hbw.size; omega⟩) (fun p hp => hb3.cell (by have := HS.out _ hp; omega)) _ HT.out
    have hy : IsTy (fun b => (S b ∨ w.heap.size ≤ b) ∧ b < w3.heap.size) w3 _ _ := IsTy.keep (fun b h => ⟨h.1.imp id (fun h1 => by omega), h.2⟩) (fun _ _ => rfl) _ hy3
    exact ⟨_, rfl, built_tys hbw (ty_cons hT3 (ty_cons hy (ty_one (IsTy.leaf _ _ 2)))) rfl rfl, hbw.alloc hbw.size _⟩
  have e : argTys k T = [] := by unfold argTys; rw [if_neg h5, if_neg h8, if_neg h6, if_neg h9]
  have e5 : (k == 5) = false := by rw [beq_eq_false_iff_ne]; omega
  have e8 : (k == 8) = false := by rw [beq_eq_false_iff_ne]; omega
  have e6 : (k == 6) = false := by rw [beq_eq_false_iff_ne]; omega
  have e9 : (k == 9) = false := by rw [beq_eq_false_iff_ne]; omega
  rw [e]
  clear e h5 h6 h8 h9
  go_enter Tryd.func189, Tryd.ntmps189
  go_wp2_with fail
  rw [← hW]
  go_ret
  exact ⟨_, rfl, Rep.Sl.nil _ _, hb⟩
end Go.Proofs.YtdbkphgamkeboaaDoor
