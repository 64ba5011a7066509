/- subst.Uses: the free variables, ascending. -/
import Derived.Test.YtdhidofmojaheaaDoorPackSubst
import Derived.Test.YtdhidofmojaheaaDoorLay
import Derived.Maps.OwnSet
import Derived.Maps.Range
import Derived.Lib.SlKeysI
namespace Go.Proofs.YtdhidofmojaheaaDoor
open Go.RowKit Go.Shelf Go.Maps Go.Sort

attribute [local go_sem] Oper.semAt_some

/-! Mathematics. -/
/-- A list holds the free variables of a term, ascending. -/
def UsesOf (t : Tm) (L : List Int) : Prop := L.Pairwise (· < ·) ∧ ∀ x : Int, x ∈ L ↔ ∃ y ∈ t.vars 0, (y.2 : Int) ≤ y.1 ∧ x = y.1 - y.2
theorem rising_one : ∀ {l m : List Int}, l.Pairwise (· < ·) → m.Pairwise (· < ·) → (∀ x, x ∈ l ↔ x ∈ m) → l = m
  | [], [], _, _, _ => rfl
  | [], b :: r, _, _, h => by have := (h b).2 (by simp); simp at this
  | a :: l, [], _, _, h => by have := (h a).1 (by simp); simp at this
  | a :: l, b :: m, hl, hm, h => by
    rw [List.pairwise_cons] at hl hm
    have e : a = b := by
      have h1 := (h a).1 (by simp)
      have h2 := (h b).2 (by simp)
      rw [List.mem_cons] at h1 h2
      rcases h1 with h1 | h1
      · exact h1
      · rcases h2 with h2 | h2
        · exact h2.symm
        · have := hm.1 a h1; have := hl.1 b h2; omega
    subst e
    rw [rising_one hl.2 hm.2 fun x => ?_]
    have hx := h x
    rw [List.mem_cons, List.mem_cons] at hx
    constructor
    · intro k
      rcases hx.1 (.inr k) with e | e
      · have := hl.1 x k; omega
      · exact e
    · intro k
      rcases hx.2 (.inr k) with e | e
      · have := hm.1 x k; omega
      · exact e
/-- The set of the free variables that have come. -/
def usesD (xs : List (Int × Nat)) : DataW Unit := xs.foldl (fun D x => if (x.2 : Int) ≤ x.1 then D.put (.int .i64 (x.1 - x.2)) (.lit (.bool true)) else D) (.map [])
theorem usesD_snoc (pre : List (Int × Nat)) (x : Int × Nat) : usesD (pre ++ [x]) = if (x.2 : Int) ≤ x.1 then (usesD pre).put (.int .i64 (x.1 - x.2)) (.lit (.bool true)) else usesD pre := by simp [usesD]
theorem isKey_int (n : Int) : WideAt.IsKeyLit (.int .i64 n) := trivial
theorem usesD_facts : ∀ (n : Nat) (xs : List (Int × Nat)), xs.length = n → Tidy (usesD xs) ∧ Maps.size (usesD xs) ≤ xs.length ∧ ∀ z : Int, has (usesD xs) (.int .i64 z) = true ↔ ∃ y ∈ xs, (y.2 : Int) ≤ y.1 ∧ z = y.1 - y.2 := by
  intro n
  induction n with
  | zero =>
    intro xs h
    obtain rfl := List.eq_nil_of_length_eq_zero h
    exact ⟨tidy_empty, by simp [usesD, Maps.size], fun z => by simp [usesD, Maps.has]⟩
  | succ n ih =>
    intro xs h
    rcases List.eq_nil_or_concat xs with rfl | ⟨pre, x, rfl⟩
    · simp at h
    · simp only [List.concat_eq_append] at h ⊢
      obtain ⟨h1, h2, h3⟩ := ih pre (by simp at h; exact h)
      rw [usesD_snoc]
      by_cases hx : (x.2 : Int) ≤ x.1
      · rw [if_pos hx]
        refine ⟨h1.put (isKey_int _) _, ?_, fun z => ?_⟩
        · have := size_put (k := .int .i64 (x.1 - x.2)) h1 (.lit (.bool true))
          rw [this]
          simp only [List.length_append, List.length_cons, List.length_nil]
          split <;> omega
        · by_cases hz : z = x.1 - x.2
          · subst hz
            rw [has_put_same h1.isMap (isKey_int _)]
            exact ⟨fun _ => ⟨x, by simp, hx, rfl⟩, fun _ => rfl⟩
          · rw [has_put_other (fun e => hz (by simpa using e)), h3]
            constructor
            · rintro ⟨y, hy, h⟩; exact ⟨y, by simp [hy], h⟩
            · rintro ⟨y, hy, h⟩
              rcases List.mem_append.1 hy with hy | hy
              · exact ⟨y, hy, h⟩
              · rw [List.mem_singleton.1 hy] at h; exact (hz h.2).elim
      · rw [if_neg hx]
        refine ⟨h1, by simp; omega, fun z => ?_⟩
        rw [h3]
        constructor
        · rintro ⟨y, hy, h⟩; exact ⟨y, by simp [hy], h⟩
        · rintro ⟨y, hy, h⟩
          rcases List.mem_append.1 hy with hy | hy
          · exact ⟨y, hy, h⟩
          · rw [List.mem_singleton.1 hy] at h; exact (hx h.1).elim
/-- The keys, sorted. -/
theorem usesD_sorted {P : Program} {k : TypeId} {R : Value → Option (DataW Unit × List MemPlace)} {w : World} {b n : Nat} {t : Tm} {ss : List Int} (hown : w.ownsMap P k R b n (usesD (t.vars 0))) (K : Keyed P k) (hk : P.underlying k = some (.int .i64)) (hp : ss.Perm (intKeys (usesD (t.vars 0)))) :
    UsesOf t (ss.mergeSort (fun x y => decide (x ≤ y))) := by
  obtain ⟨es, hD, hpw, _⟩ := hown.entries K
  obtain ⟨es', hD', hko⟩ := hown.keysOf
  obtain rfl : es = es' := by rw [hD] at hD'; simpa using hD'
  have hint : ∀ p ∈ es, ∃ x, p.1 = .int .i64 x := fun p hp => by obtain ⟨v, hv⟩ := hko p hp; obtain ⟨x, _, hx, _⟩ := Maps.keyOf_i64 hk hv; exact ⟨x, hx⟩
  have hmem := (usesD_facts _ (t.vars 0) rfl).2.2
  rw [hD] at hp hmem
  have hnd : (intKeys (.map es)).Nodup := by
    show (es.map fun p => Go.intOf p.1).Nodup
    refine List.pairwise_map.2 (hpw.imp_of_mem fun {p q} hp' hq' hne e => hne ?_)
    obtain ⟨a, ha⟩ := hint p hp'
    obtain ⟨b, hb⟩ := hint q hq'
    rw [ha, hb] at e ⊢
    exact congrArg _ e
  have hk2 : ∀ x, x ∈ intKeys (.map es) ↔ has (.map es) (.int .i64 x) = true := fun x => by
    rw [has_eq, List.any_eq_true]
    show x ∈ es.map (fun p => Go.intOf p.1) ↔ _
    rw [List.mem_map]
    constructor
    · rintro ⟨p, hp', rfl⟩
      obtain ⟨a, ha⟩ := hint p hp'
      exact ⟨p, hp', by rw [ha]; simp [Lit.sameKey, Go.intOf]⟩
    · rintro ⟨p, hp', hs⟩
      obtain ⟨a, ha⟩ := hint p hp'
      rw [ha] at hs
      exact ⟨p, hp', by rw [ha]; simpa [Lit.sameKey, Go.intOf] using hs⟩
  have hperm := (List.mergeSort_perm ss (fun x y => decide (x ≤ y))).trans hp
  refine ⟨?_, fun x => by rw [hperm.mem_iff, hk2, hmem]⟩
  have hs := List.pairwise_mergeSort (le := fun x y : Int => decide (x ≤ y)) (fun a b c h1 h2 => by simp only [decide_eq_true_eq] at *; omega) (fun a b => by simp only [Bool.or_eq_true, decide_eq_true_eq]; omega) ss
  have hn : (ss.mergeSort (fun x y => decide (x ≤ y))).Nodup := hperm.nodup_iff.2 hnd
  refine (hs.and hn).imp fun {a b} h => ?_
  have h1 := h.1
  simp only [decide_eq_true_eq] at h1
  have h2 := h.2
  omega

/-! The walk. -/
/-- How the loop stands: the map's block, and the local that holds the map. -/
def UsesI (w : World) (pre : List (Int × Nat)) (W : World) : Prop :=
  Below w.heap.size w W ∧ Blk W (w.heap.size + 1) 58 #[.map (some w.heap.size)] ∧ W.ownsMap Tryd.prog 3 (plainElem (H := Unit) Tryd.prog 4) w.heap.size pre.length (usesD pre)
theorem usesI_low {w : World} {B : Nat} (hB : w.heap.size + 2 ≤ B) (pre : List (Int × Nat)) : Low B (UsesI w pre) := by
  rintro W W' ⟨h0, h1, h2⟩ hb
  refine ⟨h0.trans (hb.mono (by omega)), h1.below hb (by omega), ?_⟩
  obtain ⟨es, ck, hh, hF, hs, hD⟩ := h2
  exact ⟨es, ck, (hb.block _ (by omega)).trans hh, hF, hs, hD⟩
theorem map3_facts (w : World) (c2 c3 : Array Value) (t2 t3 : TypeId) : ∃ W, W = ((w.alloc (.map #[] 0)).alloc (.cells c2 t2)).alloc (.cells c3 t3) ∧
    Below w.heap.size w W ∧ W.heap.size = w.heap.size + 3 ∧ Blk W (w.heap.size + 1) t2 c2 ∧ Blk W (w.heap.size + 1 + 1) t3 c3 ∧ W.ownsMap Tryd.prog 3 (plainElem (H := Unit) Tryd.prog 4) w.heap.size 0 (.map []) := by
  have hm := World.ownsMap_made w Tryd.prog 3 (plainElem (H := Unit) Tryd.prog 4)
  have b1 := (Below.refl _ w).alloc (Nat.le_refl _) (.map #[] 0)
  have z1 := World.size_alloc w (.map #[] 0)
  generalize w.alloc (.map #[] 0) = W1 at hm b1 z1 ⊢
  obtain ⟨b2, z2, k2⟩ := new_blk b1 b1.size c2 t2
  have hm2 := hm.alloc (.cells c2 t2)
  generalize W1.alloc (.cells c2 t2) = W2 at b2 z2 k2 hm2 ⊢
  rw [z1] at k2 z2
  obtain ⟨b3, z3, k3⟩ := new_blk b2 b2.size c3 t3
  rw [z2] at k3
  exact ⟨_, rfl, b3, by omega, k2.alloc _, k3, hm2.alloc _⟩

/-- maps.Keys hands back its iterator. -/
theorem keys_any (mb : Option Nat) (w : World) : Calls Tryd.prog 72 #[.map mb] w fun e w' =>
    e = .returned (.func (.func 105) #[] #[.pointer (some ⟨w.heap.size, 0, none⟩)]) ∧ w' = w.alloc (.cells #[.map mb] 58) :=
  (callsIn_wide (n := 5)).1 (AnyZI.keys_in Tryd.keysU Fence.wide 5 trivial rfl mb w)
theorem sorts_any (m : Nat) : AnyZI.SortsIn Tryd.prog Tryd.sortedU_ren Fence.wide m :=
  ⟨fun blk off cap ss W hH hblk hsz => callsIn_wide.2 (AnyM.slices_Sort_int Tryd.sortU blk off cap ss W hH hblk hsz),
   fun p cap W => callsIn_wide.2 (AnyM.slices_Sort_int_none Tryd.sortU p cap W)⟩
/-- slices.Sorted of the keys of a map. -/
theorem sorted_any {b nn Bm : Nat} {D0 : DataW Unit} {R : Value → Option (DataW Unit × List MemPlace)} {w : World} (hBm : Bm < w.heap.size) (hm : w.cell? ⟨Bm, 0, none⟩ = some (.map (some b))) (hown : w.ownsMap Tryd.prog 3 R b nn D0) (hmax : Maps.size D0 ≤ 1000000) :
    Calls Tryd.prog 71 #[.func (.func 105) #[] #[.pointer (some ⟨Bm, 0, none⟩)]] w fun e w' => ∃ (v : Value) (ss : List Int), e = .returned v ∧ ss.Perm (intKeys D0) ∧
      w'.ownsRow w.heap.size 3 1 v ss.length ((ss.mergeSort (fun x y => decide (x ≤ y))).map encZ) ∧ Below w.heap.size w w' := by
  have hseq : SeqGives Fence.wide 2 Tryd.prog 105 #[.pointer (some ⟨Bm, 0, none⟩)] encZ (fun ss => ss.Perm (intKeys D0)) (Maps.size D0) w :=
    AnyZI.keys_gives (ρ := Tryd.keysU_ren) { Tryd.keysU with } Fence.wide _ trivial rfl (by omega) Bm b nn D0 _ hBm hm hown
  have cS := AnyZI.sorted_in Tryd.sortedU Fence.wide 5 trivial trivial trivial trivial rfl (by omega) (sorts_any _) (enters_of Tryd.func104 (by kernel_rfl) rfl) 105 #[.pointer (some ⟨Bm, 0, none⟩)] trivial (enters_of Tryd.func105 (by kernel_rfl) rfl) _ _ (by unfold maxLen; omega) (by omega) _ hseq
  change CallsIn _ _ Tryd.prog 71 _ _ _ at cS
  refine ((callsIn_wide (n := 5)).1 cS).mono ?_
  rintro e w' ⟨v, ss, rfl, hS, hrow, _, hb⟩
  exact ⟨v, ss, rfl, hS, hrow, hb⟩

set_option maxRecDepth 100000 in
set_option maxHeartbeats 2000000 in
theorem uses_any (t : Tm) (v : Value) (w : World) (hsz : t.bulk ≤ 390000) (he : t.err = 0) (hlow : t.low 1000000 = true) (htab : Tab w) (hT : IsTm (· < w.heap.size) w t v) :
    Calls Tryd.prog 29 #[v] w fun e w' => ∃ (s : Value) (L : List Int), e = .returned (.tuple #[s, .int .i64 0]) ∧ UsesOf t L ∧ w'.ownsRow w.heap.size 3 1 s L.length (L.map encZ) ∧ Below w.heap.size w w' := by
  obtain ⟨Bt, d, A, c, rfl, _⟩ := hT.form
  have hmm := @run_makeMap Tryd.prog
  have hok := (errT_zero.1 he).1
  have HT := Lib.hid (And.intro hT (And.intro htab (And.intro hok (And.intro he hlow))))
  clear hT htab hok he hlow
  refine (callsIn_wide (n := 8)).1 (callsIn_of_wp_marks Tryd.func29 rfl trivial ?_ rfl)
  simp only [Tryd.ntmps29, List.size_toArray, List.length_cons, List.length_nil, Nat.reduceAdd, Nat.reduceSub, Array.replicate_succ, Array.replicate_zero, List.push_toArray, List.append_toArray, List.nil_append, List.cons_append]
  obtain ⟨b0, z0, k0⟩ := new_blk (Below.refl w.heap.size w) (Nat.le_refl _) #[.int .i64 t.kind, .int .i64 t.index, .int .i64 t.type.kind, .slice Bt t.type.args.length d, .slice A t.args.length c] 34
  have H0 := Lib.hid (And.intro b0 k0)
  clear b0 z0 k0
  gi_wp2_with (first
    | (refine ⟨trivial, ?_⟩; gi_at_call 54; refine (callsIn_wide.2 (checkT_ok (t := t) HT.out.2.2.2.1 (by omega) (HT.out.2.1.after H0.out.1) (IsTm.boxed HT.out.1 H0.out.1))).mono ?_; rintro e w1 ⟨rfl, hb1⟩
       have H1 := Lib.hid (And.intro (H0.out.1.trans (hb1.mono H0.out.1.size)) (H0.out.2.below hb1 H0.out.2.lt))
       obtain ⟨r0, r1, r2, r3, r4, _, _, _, _, _⟩ := H1.out.2.facts5
       obtain ⟨s0, s1, s2, s3, s4, _, _, _, _, _⟩ := ((H1.out.2.alloc (.map #[] 0)).alloc (.cells #[.map (some w1.heap.size)] 58)).facts5
       clear hb1)
    | (refine ⟨trivial, ?_⟩; gi_at_call 70; refine (callsIn_wide.2 (variables_any _ _ _ _ _ _)).mono ?_; rintro e w' ⟨rfl, rfl⟩))
  obtain ⟨W0, hW0, hb, hz, k2, k3, hm0⟩ := map3_facts w1 #[.map (some w1.heap.size)] #[.int .i64 t.kind, .int .i64 t.index, .int .i64 t.type.kind, .slice Bt t.type.args.length d, .slice A t.args.length c] 58 34
  rw [← hW0]
  clear hW0 r0 r1 r2 r3 r4 s0 s1 s2 s3 s4
  have hz1 := H1.out.1.size
  have hT0 := HT.out.1.keep (S' := (· < w1.heap.size)) (w' := W0) (fun b h => Nat.lt_of_lt_of_le h hz1) (fun p hp => (hb.cell (Nat.lt_of_lt_of_le hp hz1)).trans (H1.out.1.cell hp))
  refine range_wp (by omega) (gf := 101) (lb := #[.pointer (some ⟨w1.heap.size + 1 + 1, 0, none⟩)]) rfl (enters_of Tryd.func101 (by kernel_rfl) rfl) (n₀ := w1.heap.size) (by omega)
    (enc := EncVar) (xs := t.vars 0) (fun x args W h => by rw [show args = _ from h]; rfl)
    (vars_iter _ _ _ t Bt A d c W0 (by omega) hT0 (by omega) k3)
    (UsesI w1) (fun _ _ => False) (fun pre => usesI_low (by omega) pre) (fun c W W' h _ => h) ⟨hb, k2, hm0⟩ ?round ?done ?stop
  case round =>
    rintro pre x args W ⟨j0, j1, j2⟩ hpre hW hx
    have hx' : args = #[.int .i64 x.1, .int .i64 x.2] := hx
    subst hx'
    gi_wp2
    refine ⟨Below.refl _ _, ?_⟩
    rintro W₂ hg ⟨i0, i1, i2⟩
    have hmem : x ∈ t.vars 0 := hpre.subset (by simp)
    have hlx := vars_low t 0 HT.out.2.2.2.2 x hmem
    have hnx := vars_nat t 0 HT.out.2.2.1 x hmem
    have hdx := (vars_deep t 0 x hmem).2
    have hln := hpre.length_le
    have hvb := vars_bulk t 0
    simp only [List.length_append, List.length_cons, List.length_nil] at hln
    have HSN := Lib.hid (usesD_snoc pre x)
    obtain ⟨xi, xd⟩ := x
    simp only at hlx hnx hdx
    obtain ⟨q1, f1⟩ := i1.facts1
    have hpl : pre.length < maxLen := by unfold maxLen; omega
    clear hg hmem hpre j0 j1 j2
    by_cases hge : (xd : Int) ≤ xi
    · have e1 : decide (xi ≥ (xd : Int)) = true := decide_eq_true hge
      have e2 : decide ((xd : Int) ≤ xi) = true := decide_eq_true hge
      have hwf : (Lit.int .i64 (xi - xd)).wf = true := WalkArith.wf_i64 (by omega)
      gi_wp2_with (gi_at_mapUpdate; refine wpListIn_mapUpdate_own _ rfl _ _ _ 58 rfl 3 4 (Maps.int_keyed Tryd.underlying3) Tryd.underlying58 _ w1.heap.size pre.length _ rfl i2 hpl _ _ _ rfl rfl (Maps.keyOf_int_mk Tryd.underlying3 hwf) _ [] (plainElem_bool Tryd.underlying4 true) ?_; intro w3 hown3 hgrow3)
      refine ⟨Kept.of_grownBy hgrow3 (fun k e => by cases e; omega), i0.grown hgrow3 i0.size (fun k e => by cases e; exact Nat.le_refl _), i1.grown hgrow3 (by simp), ?_⟩
      rw [HSN.out, if_pos hge, List.length_append]
      exact hown3
    · have e1 : decide (xi ≥ (xd : Int)) = false := decide_eq_false hge
      have e2 : decide ((xd : Int) ≤ xi) = false := decide_eq_false hge
      gi_wp2
      refine ⟨Kept.refl _ _ _, i0, i1, ?_⟩
      rw [HSN.out, if_neg (by omega)]
      exact i2.mono (by simp)
  case done =>
    rintro W ⟨j0, j1, j2⟩ hzW hD
    obtain ⟨q1, f1⟩ := j1.facts1
    have hsz2 := (usesD_facts _ (t.vars 0) rfl).2.1
    have hvb := vars_bulk t 0
    have HJ := Lib.hid (And.intro j0 j2)
    have hj0 := j0.size
    have hbx := below_box W (.cells #[.map (some w1.heap.size)] 58)
    have kx := Blk.new W 58 #[.map (some w1.heap.size)]
    have HX := Lib.hid (And.intro hbx kx)
    clear j0 j2 hbx kx
    gi_wp2_with (first
      | (refine ⟨trivial, ?_⟩; gi_at_call 72; refine (callsIn_wide.2 (keys_any _ _)).mono ?_; rintro e w' ⟨rfl, rfl⟩)
      | (refine ⟨trivial, ?_⟩; gi_at_call 71; refine (callsIn_wide.2 (sorted_any (Bm := W.heap.size) (by simp) HX.out.2.facts1.1 (HJ.out.2.alloc _) (by omega))).mono ?_; rintro e w4 ⟨v4, ss, rfl, hp4, hrow4, hb4⟩))
    have hz4 := hb4.size
    simp only [World.size_alloc] at hz4
    have hb5 : Below W.heap.size W w4 := HX.out.1.trans (hb4.mono (by simp))
    have hD4 : w4.heap[W0.heap.size]? = some (.deferred (some [])) := (hb5.block _ hzW).trans hD
    rw [hz] at hD4 hzW
    have hg4 := grownBy_putObj' w4 (w1.heap.size + 3) (.deferred none)
    have hr5 := hrow4.kept hg4 (by
      cases hv : v4.ownBlock with
      | none => exact .inl rfl
      | some q => exact .inr fun e => by have h1 := (hrow4.lt q hv).1; cases e; simp at h1; omega)
    have hBW : Below w.heap.size w w4 := H1.out.1.trans ((HJ.out.1.trans (hb5.mono hj0)).mono hz1)
    refine marks_end (v := .tuple #[v4, .int .i64 0]) hD4 (by simp [results, Tryd.results29, go_sem]) ⟨v4, ss.mergeSort (fun x y => decide (x ≤ y)), rfl, usesD_sorted HJ.out.2 (Maps.int_keyed Tryd.underlying3) Tryd.underlying3 hp4, ?_, below_put hBW _ (Nat.le_refl _) (by omega)⟩
    rw [List.length_mergeSort]
    exact ownsRow_base_a hr5 (by rw [World.size_alloc]; omega)
  case stop =>
    rintro c W h
    exact h.elim
end Go.Proofs.YtdhidofmojaheaaDoor
