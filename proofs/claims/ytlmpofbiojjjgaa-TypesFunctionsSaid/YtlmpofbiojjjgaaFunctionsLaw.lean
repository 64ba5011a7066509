/- The walk of the law on functions. -/
import Derived.Test.YtlmpofbiojjjgaaLevelsLaw
namespace Go.Proofs.Ytlmpofbiojjjgaa
open Go.RowKit Go.Shelf

theorem result_is (T : Ty) (v : Value) (w : World) (he : T.err = 0) (hT : IsTy (· < w.heap.size) w T v) :
    Calls Try.prog 18 #[v] w fun e w' => ∃ s v', e = .returned (.tuple #[s, v', .int .i64 0]) ∧ AreIn (· < w'.heap.size) w' T.argsOf s ∧ IsTy (· < w'.heap.size) w' T.res v' ∧ Below w.heap.size w w' := by
  refine (result_any T v w (by have := (err_zero.1 he).2; omega) hT).mono ?_
  rintro e w' ⟨hb', h⟩
  rw [if_pos he] at h
  obtain ⟨s, v', rfl, h1, h2⟩ := h
  have h3 := h1.isTy 0
  unfold IsTy at h3
  obtain ⟨A, c, e, h3⟩ := h3
  simp at e
  exact ⟨s, v', rfl, ⟨A, c, e, fun hne => by
    obtain ⟨a, ha, hs, h4⟩ := h3 hne
    exact ⟨a, ha, hs.2, AreTys.keep (fun b hb => hb.2) (fun _ _ => rfl) _ hs h4⟩⟩, IsTy.keep (fun b hb => Nat.lt_of_lt_of_le hb hb'.size) (fun _ _ => rfl) _ h2, hb'⟩

theorem data_is (T : Ty) (b : Bool) (v : Value) (w : World) (he : T.err = 0) (hd : T.data = b) (hT : IsTy (· < w.heap.size) w T v) :
    Calls Try.prog 16 #[v] w fun e w' => e = .returned (.tuple #[.bool b, .int .i64 0]) ∧ Below w.heap.size w w' := by
  refine (data_any T v w (by have := (err_zero.1 he).2; omega) hT).mono ?_
  rintro e w' ⟨rfl, hb⟩
  exact ⟨by rw [he, hd]; simp, hb⟩

theorem same_is (S T : Ty) (b : Bool) (u v : Value) (w : World) (hsz : S.nodes ≤ 100000) (hs : S.same T = b) (hS : IsTy (· < w.heap.size) w S u) (hT : IsTy (· < w.heap.size) w T v) :
    Calls Try.prog 24 #[u, v] w fun e w' => e = .returned (.bool b) ∧ Below w.heap.size w w' := by
  refine (same_any S T u v w hsz hS hT).mono ?_
  rintro e w' ⟨rfl, hb⟩
  exact ⟨by rw [hs], hb⟩

/-- The function of what a type takes, with what it returns, is the type. -/
theorem funTy_back (n : Nat) : ∀ T : Ty, T.nodes ≤ n → T.ok = true → funTy T.argsOf T.res = T := by
  induction n with
  | zero => intro T h; have := nodes_pos T; omega
  | succ n ih =>
    intro T h hok
    by_cases h4 : T.kind = 4
    · rcases Ty.ok_cases hok with ⟨k, hk, rfl⟩ | ⟨k, A, B, hk, rfl, hA, hB⟩
      · simp only [Ty.kind] at h4; omega
      · simp only [Ty.kind] at h4
        subst h4
        rw [argsOf_fun, res_fun]
        simp only [Ty.nodes, nodesAll] at h
        have := ih B (by omega) hB
        simp only [funTy, List.foldr_cons] at this ⊢
        rw [this]
    · obtain ⟨h1, h2⟩ := argsOf_other hok h4
      rw [h1, h2]
      rfl
theorem res_kind (n : Nat) : ∀ T : Ty, T.nodes ≤ n → T.ok = true → T.res.kind ≠ 4 ∧ T.res.ok = true ∧ errs T.argsOf = 0 ∨ T.nodes > 64 := by
  induction n with
  | zero => intro T h; have := nodes_pos T; omega
  | succ n ih =>
    intro T h hok
    by_cases h4 : T.kind = 4
    · rcases Ty.ok_cases hok with ⟨k, hk, rfl⟩ | ⟨k, A, B, hk, rfl, hA, hB⟩
      · simp only [Ty.kind] at h4; omega
      · simp only [Ty.kind] at h4
        subst h4
        rw [argsOf_fun, res_fun]
        simp only [Ty.nodes, nodesAll] at h ⊢
        rcases ih B (by omega) hB with ⟨h1, h2, h3⟩ | h1
        · by_cases hAs : A.nodes ≤ 64
          · refine .inl ⟨h1, h2, ?_⟩
            simp only [errs]
            rw [if_pos (err_zero.2 ⟨hA, hAs⟩), h3]
          · exact .inr (by omega)
        · exact .inr (by omega)
    · obtain ⟨h1, h2⟩ := argsOf_other hok h4
      rw [h1, h2]
      exact .inl ⟨h4, hok, rfl⟩
theorem funTy_nodes (l : List Ty) (T : Ty) : (funTy l T).nodes = l.length + nodesAll l + T.nodes := by
  induction l with
  | nil => simp [funTy, nodesAll]
  | cons a r ih =>
    simp only [funTy, List.foldr_cons, Ty.nodes, nodesAll, List.length_cons] at ih ⊢
    omega
theorem fun_of_result {T : Ty} (he : T.err = 0) : funErr T.argsOf T.res = 0 ∧ nodesAll T.argsOf + T.res.nodes ≤ 64 ∧ T.res.kind ≠ 4 := by
  obtain ⟨hok, hsz⟩ := err_zero.1 he
  have h1 := funTy_back _ T (Nat.le_refl _) hok
  have h2 := funTy_nodes T.argsOf T.res
  rw [h1] at h2
  rcases res_kind _ T (Nat.le_refl _) hok with ⟨h3, h4, h5⟩ | h3
  · refine ⟨?_, by omega, h3⟩
    unfold funErr
    rw [if_pos h5, if_pos (err_zero.2 ⟨h4, by omega⟩), if_pos (by omega)]
  · omega

mutual
theorem same_self : ∀ T : Ty, T.same T = true
  | .mk k l => by
    unfold Ty.same
    rw [Ty.order2, List.all_cons]
    simp only [Bool.and_eq_true]
    exact ⟨by simp [alike], sameArgs_self l⟩
theorem sameArgs_self : ∀ l : List Ty, (orderArgs l l).all alike = true
  | [] => by simp [orderArgs]
  | a :: r => by
    simp only [orderArgs, List.all_append, Bool.and_eq_true]
    exact ⟨sameArgs_self r, same_self a⟩
end

theorem data_level (n : Nat) : ∀ T : Ty, T.nodes ≤ n → T.ok = true → (T.data = true ↔ T.level = 0) := by
  induction n with
  | zero => intro T h; have := nodes_pos T; omega
  | succ n ih =>
    intro T h hok
    rcases Ty.ok_cases hok with ⟨k, hk, rfl⟩ | ⟨k, A, B, hk, rfl, hA, hB⟩
    · simp only [level_leaf, Ty.data, Ty.order, orderAll, List.all_cons, List.all_nil, Ty.kind]
      simp
      omega
    · simp only [Ty.nodes, nodesAll] at h
      have h1 := ih A (by omega) hA
      have h2 := ih B (by omega) hB
      simp only [Ty.data] at h1 h2
      rcases hk with rfl | rfl
      · rw [level_pair]
        have e : max A.level B.level = 0 ↔ B.level = 0 ∧ A.level = 0 := by omega
        simp only [Ty.data, Ty.order, orderAll, List.all_cons, List.all_append, List.nil_append, Bool.and_eq_true]
        rw [h1, h2, e]
        exact ⟨fun h => h.2, fun h => ⟨rfl, h⟩⟩
      · rw [level_fun]
        simp [Ty.data, Ty.order, Ty.kind]

set_option maxRecDepth 100000 in
set_option maxHeartbeats 4000000 in
theorem functionsLaw_small (A : Option Addr) (len cap : Nat) (w : World) (hlen : len ≤ 500) (hA : ∀ i, i < len → ∃ a x, A = some a ∧ a.block < w.heap.size ∧ w.cell? (a.add i) = some (.int .i64 x)) :
    Calls Try.prog 4 #[.slice A len cap] w fun e w' => e = .returned (.bool true) ∧ Below w.heap.size w w' := by
  have hA' := Lib.hid hA
  clear hA
  have e500 : decide ((len : Int) ≤ 500) = true := by simp; omega
  go_enter Try.func4, Try.ntmps4
  go_wp2_with fail
  refine (sane_any w).mono ?_
  rintro e w1 ⟨rfl, hb1⟩
  go_wp2_with fail
  refine (few_any A len cap w1 (by simp only [maxLen]; omega)).mono ?_
  rintro e w1' ⟨rfl, rfl⟩
  rw [e500]
  go_wp2_with fail
  have hA1 : ∀ i, i < len → ∃ a x, A = some a ∧ a.block < w1.heap.size ∧ w1.cell? (a.add i) = some (.int .i64 x) := fun i hi => by
    obtain ⟨a, x, h1, h2, h3⟩ := hA'.out i hi
    exact ⟨a, x, h1, Nat.lt_of_lt_of_le h2 hb1.size, (hb1.cell (by rw [add_block]; exact h2)).trans h3⟩
  refine (new_any A len cap w1 hlen hA1).mono ?_
  rintro e w2 ⟨rfl, hw2⟩
  have hd2 := new_deck A len cap w1 hlen hA1
  rw [hw2] at hd2
  have hb2 : Below w.heap.size w w2 := by rw [← hw2]; exact hb1.alloc hb1.size _
  have hz2 : w1.heap.size < w2.heap.size := hd2.lt
  clear hw2 hA1
  go_wp2_with fail
  refine (type_any 3 3 w1.heap.size w2 (by omega) (by omega) (by omega) hd2).mono ?_
  rintro e w3 ⟨X, x, rfl, okX, szX, tyX, hd3, hg3⟩
  have hx : IsTy (· < w3.heap.size) w3 X x := IsTy.keep (fun b h => h.2) (fun _ _ => rfl) _ tyX
  have hb3 : Below w.heap.size w w3 := hb2.grown hg3 hb2.size (fun k e => by cases e; exact hb1.size)
  clear hd2 hd3 hg3 tyX hb1 hb2
  obtain ⟨A1, c1, rfl⟩ := hx.form
  have e16 : 2 ^ (3 + 1) = 16 := rfl
  rw [e16] at szX
  have heX : X.err = 0 := err_zero.2 ⟨okX, by omega⟩
  obtain ⟨heF, hnF, hkF⟩ := fun_of_result heX
  have hback := funTy_back _ X (Nat.le_refl _) okX
  have hdl := data_level _ X (Nat.le_refl _) okX
  have hss := same_self X
  have HX := Lib.hid (And.intro heX (And.intro heF (And.intro hnF (And.intro hkF (And.intro hback (And.intro hdl hss))))))
  clear e16 heX heF hnF hkF hback hdl hss
  go_wp2_with fail
  obtain ⟨k4, z4, b4⟩ := alloc_facts hb3 hb3.size #[.int .i64 X.kind, .slice A1 X.args.length c1] 25
  have hbox := (Below.refl w3.heap.size w3).alloc (Nat.le_refl _) (Obj.cells #[.int .i64 X.kind, .slice A1 X.args.length c1] 25)
  have hx := hx.boxed hbox
  clear hbox
  generalize w3.alloc (Obj.cells #[.int .i64 X.kind, .slice A1 X.args.length c1] 25) = w4 at k4 z4 b4 hx ⊢
  refine (result_is X _ w4 HX.out.1 hx).mono ?_
  rintro e w5 ⟨s, r, rfl, ls, hr, hb5⟩
  obtain ⟨A2, c2, rfl⟩ := hr.form
  obtain ⟨A3, c3, rfl, ls⟩ := ls
  have ls : AreIn (· < w5.heap.size) w5 X.argsOf (.slice A3 X.argsOf.length c3) := ⟨A3, c3, rfl, ls⟩
  have b4 := b4.below hb5 b4.lt
  have hx := hx.boxed hb5
  have k5 := k4.trans (hb5.mono k4.size)
  go_wp2_with fail
  obtain ⟨k6, z6, b6⟩ := alloc_facts k5 k5.size #[.int .i64 X.res.kind, .slice A2 X.res.args.length c2] 25
  have hbox := (Below.refl w5.heap.size w5).alloc (Nat.le_refl _) (Obj.cells #[.int .i64 X.res.kind, .slice A2 X.res.args.length c2] 25)
  have hx := hx.boxed hbox
  have hr := hr.boxed hbox
  have ls := ls.keep (S' := (· < (w5.alloc (Obj.cells #[.int .i64 X.res.kind, .slice A2 X.res.args.length c2] 25)).heap.size)) (fun b h => Nat.lt_of_lt_of_le h hbox.size) (fun p hp => hbox.cell hp)
  have b4 := b4.alloc (Obj.cells #[.int .i64 X.res.kind, .slice A2 X.res.args.length c2] 25)
  clear hbox
  generalize w5.alloc (Obj.cells #[.int .i64 X.res.kind, .slice A2 X.res.args.length c2] 25) = w6 at k6 z6 b6 hx hr ls b4 ⊢
  have ha : X.argsOf.length ≤ 64 := by have := nodesAll_len X.argsOf; have := HX.out.2.2.1; omega
  refine (function_is X.argsOf X.res _ _ w6 (by have := HX.out.2.2.1; omega) HX.out.2.1 ls hr).mono ?_
  rintro e w7 ⟨v, rfl, hv, hb7⟩
  rw [HX.out.2.2.2.2.1] at hv
  obtain ⟨A4, c4, rfl⟩ := hv.form
  have b4 := b4.below hb7 b4.lt
  have b6 := b6.below hb7 b6.lt
  have hx := hx.boxed hb7
  have k7 := k6.trans (hb7.mono k6.size)
  have a0 := fun o => (b4.alloc o).facts2.1
  have a1 := fun o => (b4.alloc o).facts2.2.1
  go_wp2_with fail
  clear a0 a1
  obtain ⟨k8, z8, b8⟩ := alloc_facts k7 k7.size #[.int .i64 X.kind, .slice A4 X.args.length c4] 25
  have hbox := (Below.refl w7.heap.size w7).alloc (Nat.le_refl _) (Obj.cells #[.int .i64 X.kind, .slice A4 X.args.length c4] 25)
  have hx := hx.boxed hbox
  have hv := hv.boxed hbox
  have b4 := b4.alloc (Obj.cells #[.int .i64 X.kind, .slice A4 X.args.length c4] 25)
  have b6 := b6.alloc (Obj.cells #[.int .i64 X.kind, .slice A4 X.args.length c4] 25)
  clear hbox
  generalize w7.alloc (Obj.cells #[.int .i64 X.kind, .slice A4 X.args.length c4] 25) = w8 at k8 z8 b8 hx hv b4 b6 ⊢
  refine (levelOf_is X X.level _ w8 HX.out.1 rfl hx).mono ?_
  rintro e w9 ⟨rfl, hb9⟩
  have b4 := b4.below hb9 b4.lt
  have b6 := b6.below hb9 b6.lt
  have b8 := b8.below hb9 b8.lt
  have hx := hx.boxed hb9
  have hv := hv.boxed hb9
  have k9 := k8.trans (hb9.mono k8.size)
  obtain ⟨c4a, c4b, _, _⟩ := b4.facts2
  go_wp2_with fail
  clear c4a c4b
  obtain ⟨bd, hbd⟩ : ∃ b, X.data = b := ⟨_, rfl⟩
  refine (data_is X bd _ w9 HX.out.1 hbd hx).mono ?_
  rintro e w10 ⟨rfl, hb10⟩
  have b4 := b4.below hb10 b4.lt
  have b6 := b6.below hb10 b6.lt
  have b8 := b8.below hb10 b8.lt
  have hx := hx.boxed hb10
  have hv := hv.boxed hb10
  have k10 := k9.trans (hb10.mono k9.size)
  have hd : (bd == ((X.level : Int) == 0)) = true := by
    have h := HX.out.2.2.2.2.2.1
    rw [hbd] at h
    cases bd <;> simp at h ⊢ <;> omega
  have h4 : (X.res.kind == 4) = false := by have := HX.out.2.2.2.1; simp [this]
  have h4' : (X.res.kind != 4) = true := by have := HX.out.2.2.2.1; simp [this]
  have HD := Lib.hid hbd
  clear hbd
  obtain ⟨c4a, c4b, _, _⟩ := b4.facts2
  obtain ⟨c8a, c8b, _, _⟩ := b8.facts2
  go_wp2_with fail
  refine (same_is X X true _ _ w10 (by omega) HX.out.2.2.2.2.2.2 hx hv).mono ?_
  rintro e w11 ⟨rfl, hb11⟩
  have b6 := b6.below hb11 b6.lt
  obtain ⟨c6a, c6b, _, _⟩ := b6.facts2
  have k11 := k10.trans (hb11.mono k10.size)
  go_wp2_with fail
  go_ret
  exact ⟨rfl, k11⟩

theorem functionsLaw_long (A : Option Addr) (len cap : Nat) (w : World) (hlen : 500 < len) (hmax : len ≤ maxLen) :
    Calls Try.prog 4 #[.slice A len cap] w fun e w' => e = .returned (.bool true) ∧ Below w.heap.size w w' := by
  have e500 : decide ((len : Int) ≤ 500) = false := by simp; omega
  go_enter Try.func4, Try.ntmps4
  go_wp2_with fail
  refine (sane_any w).mono ?_
  rintro e w1 ⟨rfl, hb1⟩
  go_wp2_with fail
  refine (few_any A len cap w1 hmax).mono ?_
  rintro e w1' ⟨rfl, rfl⟩
  rw [e500]
  go_wp2_with fail
  go_ret
  exact ⟨rfl, hb1⟩
end Go.Proofs.Ytlmpofbiojjjgaa
