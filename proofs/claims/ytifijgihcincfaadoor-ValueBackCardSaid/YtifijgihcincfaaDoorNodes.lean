/- The iterator over the nodes of a type. -/
import Derived.Test.YtifijgihcincfaaDoorRange
import Derived.Sort.LoopGhostIn
namespace Go.Proofs.YtifijgihcincfaaDoor
open Go.RowKit Go.Shelf

attribute [local go_sem] Oper.semAt_some

mutual
/-- The nodes in the order in which they come: each before its Args, the last of these first. -/
def Ty.order : Ty → List Ty
  | .mk k l => .mk k l :: orderAll l
def orderAll : List Ty → List Ty
  | [] => []
  | t :: r => orderAll r ++ t.order
end

theorem orderAll_append : ∀ (l r : List Ty), orderAll (l ++ r) = orderAll r ++ orderAll l
  | [], r => by simp [orderAll]
  | t :: l, r => by simp [orderAll, orderAll_append l r]
theorem orderAll_snoc (l : List Ty) (t : Ty) : orderAll (l ++ [t]) = t :: orderAll (l ++ t.args) := by
  rw [orderAll_append, orderAll_append]
  cases t
  simp [orderAll, Ty.order, Ty.args]

mutual
theorem order_length : ∀ t : Ty, t.order.length = t.nodes
  | .mk k l => by simp only [Ty.order, Ty.nodes, List.length_cons, orderAll_length l]; omega
theorem orderAll_length : ∀ l : List Ty, (orderAll l).length = nodesAll l
  | [] => by simp [orderAll, nodesAll]
  | t :: r => by simp only [orderAll, nodesAll, List.length_append, orderAll_length r, order_length t]; omega
end
theorem nodesAll_append : ∀ (l r : List Ty), nodesAll (l ++ r) = nodesAll l + nodesAll r
  | [], r => by simp [nodesAll]
  | t :: l, r => by simp only [List.cons_append, nodesAll, nodesAll_append l r]; omega

/-- The last tree of a row. -/
theorem Row.last {S : Nat → Prop} {base : Nat} {s : Value} {ts : List Ty} {t : Ty} {w : World} (h : Row S base s (ts ++ [t]) w) :
    ∃ (g cap : Nat) (A : Option Addr) (c : Nat), s = .slice (some ⟨g, 0, none⟩) (ts.length + 1) cap ∧ base ≤ g ∧ g < w.heap.size ∧ ts.length + 1 ≤ cap ∧
      w.cell? ⟨g, ts.length * 2, none⟩ = some (.int .i64 t.kind) ∧ w.cell? ⟨g, ts.length * 2 + 1, none⟩ = some (.slice A t.args.length c) ∧
      IsTy (fun b => S b ∧ b < w.heap.size) w t (.agg #[.int .i64 t.kind, .slice A t.args.length c]) ∧ Row S base (.slice (some ⟨g, 0, none⟩) ts.length cap) ts w := by
  obtain ⟨xs, hown, ht⟩ := h
  obtain ⟨v0, v1, h0, h1, h2⟩ := ht ts.length (by simp)
  obtain ⟨A, c, e⟩ := h2.form
  simp at e
  obtain ⟨rfl, rfl⟩ := e
  have hx : xs.length = (ts.length + 1) * 2 := by simpa using hown.1
  rcases hown.2 with ⟨rfl, hn⟩ | ⟨g, cap, cur, rfl, hb, hg, hnc, hcm, hcs, htake⟩
  · simp at hn
  · have hcell : ∀ j u, xs[j]? = some u → w.cell? ⟨g, j, none⟩ = some u := by
      intro j u hu
      have := hown.cells rfl j u hu
      have e : (⟨g, 0, none⟩ : Addr).add j = ⟨g, j, none⟩ := by unfold Addr.add; split <;> simp_all
      rwa [e] at this
    have e1 : (ts ++ [t])[ts.length]'(by simp) = t := by simp
    have e2 : (ts ++ [t]).length = ts.length + 1 := by simp
    rw [e1] at h2
    refine ⟨g, cap, A, c, by simp, hb, (Array.getElem?_eq_some_iff.1 hg).1, by omega, hcell _ _ h0, hcell _ _ h1, IsTy.keep (fun b hb => ⟨hb.1, hb.2.1⟩) (fun _ _ => rfl) _ h2, xs.take (ts.length * 2), ⟨?_, .inr ⟨g, cap, cur, rfl, hb, hg, ?_, hcm, hcs, ?_⟩⟩, fun i hi => ?_⟩
    · simp; omega
    · omega
    · rw [← htake, e2, List.take_take]; congr 1; omega
    · obtain ⟨u0, u1, k0, k1, k2⟩ := ht i (by simp; omega)
      rw [List.getElem_append_left hi] at k2
      exact ⟨u0, u1, by rw [List.getElem?_take, if_pos (by omega)]; exact k0, by rw [List.getElem?_take, if_pos (by omega)]; exact k1, k2⟩

/-- A row of one tree, just built. -/
theorem Row.one {S : Nat → Prop} {w : World} {T : Ty} {x y : Value} (hS : ∀ b, S b → b < w.heap.size) (h : IsTy S (w.alloc (.cells #[x, y] 30)) T (.agg #[x, y])) :
    Row S w.heap.size (.slice (some ⟨w.heap.size, 0, none⟩) 1 1) [T] (w.alloc (.cells #[x, y] 30)) := by
  refine ⟨[x, y], ⟨by simp, .inr ⟨w.heap.size, 1, #[x, y], rfl, Nat.le_refl _, heap_alloc_new w _, by simp, by simp [maxLen], by simp, by simp⟩⟩, fun i hi => ?_⟩
  have : i = 0 := by simpa using hi
  subst this
  refine ⟨x, y, rfl, rfl, IsTy.keep (fun b hb => ⟨hb, ?_, ?_⟩) (fun _ _ => rfl) _ h⟩
  · have := hS b hb; simp; omega
  · intro e; have := hS b hb; simp [Value.ownBlock] at e; omega

/-- The cells of a list of trees. -/
theorem AreTys.cells {S : Nat → Prop} {w : World} : ∀ {l : List Ty} {a : Addr}, AreTys S w l a → ∃ news : List Value, news.length = l.length * 2 ∧ (∀ j u, news[j]? = some u → w.cell? (a.add j) = some u) ∧
    (∀ u ∈ news, u.oneCell' = true) ∧ ∀ i (hi : i < l.length), ∃ v0 v1, news[i * 2]? = some v0 ∧ news[i * 2 + 1]? = some v1 ∧ IsTy S w l[i] (.agg #[v0, v1])
  | [], a, _ => ⟨[], rfl, fun j u h => by simp at h, fun u h => by simp at h, fun i hi => by simp at hi⟩
  | t :: r, a, h => by
    unfold AreTys at h
    obtain ⟨⟨v0, v1, h0, h1, ht⟩, hr⟩ := h
    obtain ⟨news, hl, hc, ho, hi⟩ := AreTys.cells hr
    obtain ⟨A, c, e⟩ := ht.form
    simp at e
    obtain ⟨rfl, rfl⟩ := e
    refine ⟨.int .i64 t.kind :: .slice A t.args.length c :: news, by simp [hl, Nat.add_mul], fun j u hu => ?_, fun u hu => ?_, fun i hii => ?_⟩
    · match j, hu with
      | 0, hu => simp at hu; rw [add_zero', ← hu]; exact h0
      | 1, hu => simp at hu; rw [← hu]; exact h1
      | j + 2, hu =>
        have := hc j u (by simpa using hu)
        rw [add_add', Nat.add_comm] at this
        exact this
    · simp at hu
      rcases hu with rfl | rfl | hu
      · simp [Value.oneCell']
      · simp [Value.oneCell']
      · exact ho u hu
    · match i, hii with
      | 0, _ => exact ⟨_, _, rfl, rfl, ht⟩
      | i + 1, hii =>
        obtain ⟨u0, u1, k0, k1, kt⟩ := hi i (by simpa using hii)
        refine ⟨u0, u1, ?_, ?_, kt⟩
        · rw [show (i + 1) * 2 = i * 2 + 1 + 1 from by omega]; simpa using k0
        · rw [show (i + 1) * 2 + 1 = i * 2 + 1 + 1 + 1 from by omega]; simpa using k1

/-- More trees behind a row. -/
theorem Row.more {S : Nat → Prop} {base : Nat} {v v' : Value} {ts l : List Ty} {w w' : World} {xs news : List Value}
    (hown : w.ownsRow base 30 2 v ts.length xs) (ht : Trees S v ts xs w) (_hl : news.length = l.length * 2)
    (hn : ∀ i (hi : i < l.length), ∃ v0 v1, news[i * 2]? = some v0 ∧ news[i * 2 + 1]? = some v1 ∧ IsTy (fun b => S b ∧ b < w.heap.size ∧ v.ownBlock ≠ some b) w l[i] (.agg #[v0, v1]))
    (hown' : w'.ownsRow base 30 2 v' (ts.length + l.length) (xs ++ news)) (hg : w.grownBy w' v.ownBlock)
    (hb : v'.ownBlock = v.ownBlock ∨ v'.ownBlock = some w.heap.size) : Row S base v' (ts ++ l) w' := by
  have hx : xs.length = ts.length * 2 := hown.1
  have hkeep : ∀ (u : Ty) (x : Value), IsTy (fun b => S b ∧ b < w.heap.size ∧ v.ownBlock ≠ some b) w u x → IsTy (fun b => S b ∧ b < w'.heap.size ∧ v'.ownBlock ≠ some b) w' u x := by
    intro u x hu
    refine IsTy.keep (fun b hb' => ⟨hb'.1, Nat.lt_of_lt_of_le hb'.2.1 hg.size, ?_⟩) (fun p hp => World.cell?_of_block (hg.block p.block hp.2.1 (fun e => hp.2.2 e.symm))) _ hu
    rcases hb with e | e
    · rw [e]; exact hb'.2.2
    · rw [e]; intro e'; have := hb'.2.1; simp at e'; omega
  refine ⟨xs ++ news, by simpa using hown', fun i hi => ?_⟩
  by_cases hlt : i < ts.length
  · obtain ⟨u0, u1, h0, h1, h2⟩ := ht i hlt
    refine ⟨u0, u1, ?_, ?_, ?_⟩
    · rw [List.getElem?_append_left (by omega)]; exact h0
    · rw [List.getElem?_append_left (by omega)]; exact h1
    · rw [List.getElem_append_left hlt]; exact hkeep _ _ h2
  · have hi' : i < ts.length + l.length := by simpa using hi
    obtain ⟨u0, u1, h0, h1, h2⟩ := hn (i - ts.length) (by omega)
    refine ⟨u0, u1, ?_, ?_, ?_⟩
    · rw [List.getElem?_append_right (by omega), hx, show i * 2 - ts.length * 2 = (i - ts.length) * 2 from by omega]; exact h0
    · rw [List.getElem?_append_right (by omega), hx, show i * 2 + 1 - ts.length * 2 = (i - ts.length) * 2 + 1 from by omega]; exact h1
    · rw [List.getElem_append_right (by omega)]; exact hkeep _ _ h2

/-- A row, while a round turns the caller's variables. -/
theorem Row.round {n₀ B : Nat} {v : Value} {ts : List Ty} {w w' : World} (h : Row (· < n₀) B v ts w) (hk : Kept n₀ B w w') : Row (· < n₀) B v ts w' := by
  obtain ⟨xs, hown, ht⟩ := h
  have hlt := hown.lt
  refine ⟨xs, ⟨hown.1, ?_⟩, fun i hi => ?_⟩
  · rcases hown.2 with hn | ⟨g, cap, cur, rfl, hb, hg, rest⟩
    · exact .inl hn
    · exact .inr ⟨g, cap, cur, rfl, hb, (hk.block g (Array.getElem?_eq_some_iff.1 hg).1 (.inr hb)).trans hg, rest⟩
  · obtain ⟨v0, v1, h0, h1, h2⟩ := ht i hi
    exact ⟨v0, v1, h0, h1, IsTy.keep (fun b hb => ⟨hb.1, Nat.lt_of_lt_of_le hb.2.1 hk.size, hb.2.2⟩) (fun p hp => World.cell?_of_block (hk.block p.block hp.2.1 (.inl hp.1))) _ h2⟩

theorem IsTy.nil_args {S : Nat → Prop} {w : World} {t : Ty} {k : Value} {n c : Nat} (h : IsTy S w t (.agg #[k, .slice none n c])) : t.args.length = 0 := by
  cases t with
  | mk k l =>
    unfold IsTy at h
    obtain ⟨A, c', e, h⟩ := h
    simp at e
    cases l with
    | nil => rfl
    | cons x y =>
      obtain ⟨a, h1, _⟩ := h (by simp)
      rw [h1] at e
      simp at e

/-- A tree stands as a value. -/
def EncTy (n₀ : Nat) (T : Ty) (args : Array Value) (w : World) : Prop := ∃ v, args = #[v] ∧ IsTy (· < n₀) w T v

def NodesRel (n₀ B : Nat) (T : Ty) (J : List Ty → World → Prop) (k : Nat) (s : Value) (wr : World) : Prop :=
  ∃ pre st, Row (· < n₀) B s st wr ∧ pre ++ orderAll st = T.order ∧ nodesAll st = k ∧ J pre wr ∧ B ≤ wr.heap.size

theorem IsTy.arg_cells {S : Nat → Prop} {w : World} {t : Ty} {k : Value} {a : Addr} {n c : Nat} (h : IsTy S w t (.agg #[k, .slice (some a) n c])) :
    ∃ news : List Value, news.length = t.args.length * 2 ∧ (∀ j u, news[j]? = some u → w.cell? (a.add j) = some u) ∧
    (∀ u ∈ news, u.oneCell' = true) ∧ ∀ i (hi : i < t.args.length), ∃ v0 v1, news[i * 2]? = some v0 ∧ news[i * 2 + 1]? = some v1 ∧ IsTy S w t.args[i] (.agg #[v0, v1]) := by
  cases t with
  | mk k l =>
    unfold IsTy at h
    obtain ⟨A, c', e, h⟩ := h
    simp at e
    obtain ⟨_, e, _, _⟩ := e
    subst e
    cases l with
    | nil => exact ⟨[], rfl, fun j u h => by simp at h, fun u h => by simp at h, fun i hi => by simp [Ty.args] at hi⟩
    | cons x y =>
      obtain ⟨a', h1, _, h2⟩ := h (by simp)
      cases h1
      exact h2.cells

theorem nodesRel_step {n₀ B gk : Nat} {T t : Ty} {J : List Ty → World → Prop} {pre ts _l st : List Ty} {s : Value} {w : World} (hrow : Row (· < n₀) B s st w) (hl : st = ts ++ t.args)
    (hord : pre ++ orderAll (ts ++ [t]) = T.order) (hk : nodesAll (ts ++ [t]) = gk) (hJ : J (pre ++ [t]) w) (hB : B ≤ w.heap.size) : NodesRel n₀ B T J (gk - 1) s w := by
  refine ⟨pre ++ [t], st, hrow, ?_, ?_, hJ, hB⟩
  · rw [← hord, hl, orderAll_snoc]; simp
  · have h3 : t.nodes = 1 + nodesAll t.args := by cases t; simp [Ty.nodes, Ty.args]
    rw [hl, ← hk, nodesAll_append, nodesAll_append]
    simp only [nodesAll]
    omega
theorem nodes_drop {ts : List Ty} {t : Ty} {gk : Nat} (h : nodesAll (ts ++ [t]) = gk) : gk - 1 < gk := by
  have := nodes_pos t
  rw [nodesAll_append] at h
  simp only [nodesAll] at h
  omega

set_option maxRecDepth 100000 in
set_option maxHeartbeats 2000000 in
theorem nodes_iter (n n₀ bt : Nat) (T : Ty) (v : Value) (w : World) (hn : 1 ≤ n) (hn₀ : n₀ ≤ w.heap.size) (hT : IsTy (· < n₀) w T v) (hsz : T.nodes ≤ 400000) (hbt : bt < w.heap.size)
    (hb : ∀ x y, v = .agg #[x, y] → Blk w bt 30 #[x, y]) :
    Iterates Tryd.prog n n₀ 138 #[.pointer (some ⟨bt, 0, none⟩)] (EncTy n₀) T.order w := by
  intro l J Jx W hW hJ hJx hY h0
  obtain ⟨A0, c0, rfl⟩ := hT.form
  have hB := (hb _ _ rfl).below hW hbt
  obtain ⟨q0, q1, _, _⟩ := hB.facts2
  have hTW := hT.keep (S' := (· < n₀)) (fun _ h => h) (fun p hp => hW.cell (by omega))
  have HT := Lib.hid hTW
  have HY := Lib.hid hY
  have HJ := Lib.hid hJ
  clear hT hTW hY hb
  refine callsIn_of_wp Tryd.func138 rfl trivial ?_ rfl
  simp only [Tryd.ntmps138, List.size_toArray, List.length_cons, List.length_nil, Nat.reduceAdd, Nat.reduceSub, Array.replicate_succ, Array.replicate_zero, List.push_toArray, List.append_toArray, List.nil_append, List.cons_append]
  gi_wp2
  gi_loopg [3] T.nodes (fun k s wr => NodesRel n₀ W.heap.size T J k s wr)
  case atStart =>
    exact ⟨[], [T], Row.one (fun b hb => by have := hW.size; omega) (HT.out.keep (fun b h => h) (fun p hp => World.cell?_alloc_lt _ _ _ (by have := hW.size; omega))), by simp [orderAll], by simp [nodesAll], HJ.out _ _ _ h0 ((Below.refl _ _).alloc (Nat.le_refl _) _), by simp⟩
  case round =>
    obtain ⟨pre, st, hrow, hord, hk, hJp, hBw⟩ := hrel
    rcases List.eq_nil_or_concat st with rfl | ⟨ts, t, rfl⟩
    · obtain ⟨A3, c3, rfl⟩ := hrow.form
      gi_wp2
      go_end0
      have e : pre = T.order := by simpa [orderAll] using hord
      exact ⟨⟨_, rfl⟩, .inl (by rw [← e]; exact hJp)⟩
    · simp only [List.concat_eq_append] at hrow hord hk
      obtain ⟨g, cap, A, c, rfl, hg0, hg1, hcap, k0, k1, ht, hrow2⟩ := hrow.last
      have hpre : pre ++ [t] <+: T.order := by rw [← hord, orderAll_snoc]; simp
      have hlen : ts.length + 1 ≤ 400000 := by
        have h1 := congrArg List.length hord
        rw [List.length_append, orderAll_length, order_length] at h1
        have h2 := nodesAll_len (ts ++ [t])
        simp only [List.length_append, List.length_cons, List.length_nil] at h2
        omega
      have HO := Lib.hid hord
      have HK := Lib.hid hk
      have HP := Lib.hid hpre
      clear hord hk hpre
      have ht1 : IsTy (· < n₀) (wr.alloc (.cells #[.int .i64 t.kind, .slice A t.args.length c] 30)) t (.agg #[.int .i64 t.kind, .slice A t.args.length c]) :=
        IsTy.keep (fun b hb => hb.1) (fun p hp => World.cell?_alloc_lt _ _ _ hp.2) _ ht
      obtain ⟨fn, tmps, assign, body, hy, hR⟩ := HY.out pre t #[.agg #[.int .i64 t.kind, .slice A t.args.length c]] (wr.alloc (.cells #[.int .i64 t.kind, .slice A t.args.length c] 30))
        (HJ.out _ _ _ hJp ((Below.refl _ _).alloc hBw _)) HP.out (by simp; omega) ⟨_, rfl, ht1⟩
      gi_wp2
      refine hR.mono ?_
      rintro e W' (⟨rfl, hJ', hkp⟩ | ⟨rfl, hJx', _⟩)
      · have hbx : Blk W' wr.heap.size 30 #[.int .i64 t.kind, .slice A t.args.length c] :=
          (Blk.new wr 30 #[.int .i64 t.kind, .slice A t.args.length c]).carry (hkp.block _ (by simp) (.inr hBw))
        have hsz' := hkp.size
        simp only [World.size_alloc] at hsz'
        have hrow3 := (hrow2.kept (World.grownBy_alloc wr (.cells #[.int .i64 t.kind, .slice A t.args.length c] 30) none) (by simp)).round hkp
        obtain ⟨b0, b1, _, _⟩ := hbx.facts2
        have ht2 : IsTy (· < n₀) W' t (.agg #[.int .i64 t.kind, .slice A t.args.length c]) :=
          IsTy.keep (fun b hb => hb) (fun p hp => World.cell?_of_block (hkp.block p.block (by have := hW.size; simp; omega) (.inl hp))) _ ht1
        cases A with
        | none =>
          have he := ht2.nil_args
          have hta : t.args = [] := List.eq_nil_of_length_eq_zero he
          rw [he] at b1 ⊢
          have hc2 : ts.length ≤ cap := by omega
          gi_wp2
          gi_roundg (gk - 1)
          case rel => exact nodesRel_step (_l := []) hrow3 (by rw [hta, List.append_nil]) HO.out HK.out hJ' (by omega)
          case measure => have := HK.out; exact nodes_drop this
        | some a =>
          obtain ⟨news, hnl, hnc, hno, hni⟩ := ht2.arg_cells
          obtain ⟨xs, hown, hts⟩ := hrow3
          obtain ⟨i0, hi, hz0, hz1, hz2⟩ := info_parts info_type
          have hargs : t.args.length ≤ 400000 := by
            have h1 := congrArg List.length HO.out
            rw [List.length_append, orderAll_length, order_length, nodesAll_append] at h1
            have h2 := nodesAll_len t.args
            have h3 : t.nodes = 1 + nodesAll t.args := by cases t; simp [Ty.nodes, Ty.args]
            simp only [nodesAll] at h1
            omega
          have HN := Lib.hid hnl
          have HI := Lib.hid hni
          have HS := Lib.hid hts
          have HC := Lib.hid hnc
          clear hnl hni hts hnc
          gi_wp2_with (gi_at_builtin; refine wpListIn_append_own_at _ rfl _ _ 27 rfl W.heap.size 30 i0 _ 2 32 Tryd.underlying27 hi hz0 hz1 hz2 rfl (by decide) _ ts.length xs rfl hown a t.args.length c news rfl HN.out HC.out hno (by simp only [maxLen]; omega) (by omega) (by omega) ?_; intro v2 w2 hown2 hg2 hnil2 hat2)
          gi_roundg (gk - 1)
          case rel =>
            refine nodesRel_step (_l := t.args) ?_ rfl HO.out HK.out (HJ.out _ _ _ hJ' ((Below.refl _ _).grown hg2 (by omega) (fun k e => by cases e; exact hg0))) (by have := hg2.size; omega)
            exact Row.more hown HS.out HN.out (fun i hi => by
              obtain ⟨v0, v1, g0, g1, g2⟩ := HI.out i hi
              exact ⟨v0, v1, g0, g1, IsTy.keep (fun b hb => ⟨hb, by have := hW.size; omega, fun e => by cases e; have h1 : g < n₀ := hb; have := hW.size; omega⟩) (fun _ _ => rfl) _ g2⟩) hown2 hg2 hat2
          case measure => have := HK.out; exact nodes_drop this
      · gi_wp2
        refine bodyPost_ret (results_none rfl _ _ _) rfl ?_
        exact ⟨⟨_, rfl⟩, .inr hJx'⟩
end Go.Proofs.YtifijgihcincfaaDoor
