/- What Put and Lift make of terms that are made. -/
import Derived.Test.YtnodebcbnfkioaaDoorPackEndL
import Derived.Test.YtnodebcbnfkioaaDoorSameEq
import Derived.Test.YtnodebcbnfkioaaDoorRefSame
import Derived.Test.YtnodebcbnfkioaaDoorPackLift
import Derived.Test.YtnodebcbnfkioaaDoorSizeDef
import Derived.Test.YtnodebcbnfkioaaDoorMakeT
import Derived.Test.YtnodebcbnfkioaaDoorPackMk
import Derived.Laws.OwnMore
import Derived.Deep.AppendLies
namespace Go.Proofs.YtnodebcbnfkioaaDoor
open Go.RowKit

theorem okT_bulk1 : ∀ (t : Tm), t.ok = true → t.bulk ≤ 65 * t.size := fun t => Tm.rec (motive_1 := fun t => t.ok = true → t.bulk ≤ 65 * t.size) (motive_2 := fun l => okAllT l = true → bulkAll l ≤ 65 * sizeAllT l)
  (fun k i T l ih h => by
    rw [okT_eq, Bool.and_eq_true] at h
    have hfk := formed_kind h.1
    have h2 := ih h.2
    simp only [Tm.kind, Tm.index, Tm.type, Tm.args] at hfk
    have hT : T.nodes ≤ 64 := by
      by_cases hk : k = 2 ∨ k = 6 ∨ k = 9
      · have := hfk.2.2.2.2.2.1 hk; exact (err_zero.1 this).2
      · obtain ⟨_, h0⟩ := hfk.2.2.2.2.2.2 hk
        cases T with
        | mk k' l' =>
          have : l' = [] := List.eq_nil_of_length_eq_zero h0
          subst this
          simp only [Ty.nodes, nodesAll]; omega
    simp only [Tm.bulk, Tm.size]
    omega)
  (fun _ => by simp [bulkAll])
  (fun x r ihx ihr h => by
    simp only [okAllT, Bool.and_eq_true] at h
    have h1 := ihx h.1
    have h2 := ihr h.2
    simp only [bulkAll, sizeAllT]
    omega) t

theorem made_low {G : List Ty} {t : Ty} {a p : Nat} {T : Tm} (h : Made G t a p T) (hG : G.length ≤ 1000) (ha : a ≤ 4096) : T.low 536870912 = true :=
  low_mono (by have := h.size; omega) T (typ_low T G h.ok h.typ)
theorem made_err {G : List Ty} {t : Ty} {a p : Nat} {T : Tm} (h : Made G t a p T) (ha : a ≤ 4096) : T.err = 0 := errT_zero.2 ⟨h.ok, by have := h.size; omega⟩
theorem made_put {G : List Ty} {S U : Ty} {a p b q : Nat} {x y : Tm} (hx : Made (G ++ [S]) U a p x) (hy : Made G S b q y) (hab : a + p * b ≤ 4096) :
    (x.put 0 y).ok = true ∧ (x.put 0 y).size ≤ 4096 ∧ (x.put 0 y).typ G = .ok U ∧ (x.put 0 y).bulk ≤ 399000 := by
  have h1 := put_size y x 0 hx.ok
  have h2 : x.occ 0 * y.size ≤ p * b := Nat.mul_le_mul (hx.occ 0) hy.size
  have h3 := hx.size
  have h4 : (x.put 0 y).size ≤ 4096 := by omega
  have h5 := put_ok y hy.ok x 0 hx.ok
  have h6 := put_typ G S y hy.ok hy.typ x [] hx.ok (by simpa using hx.typ)
  rw [List.append_nil] at h6
  have h7 := okT_bulk1 _ h5
  exact ⟨h5, h4, h6, by omega⟩
theorem made_lift {G : List Ty} {S V : Ty} {b q : Nat} {y : Tm} (hy : Made G S b q y) (hb : b ≤ 4096) :
    (y.lift 0 1).ok = true ∧ (y.lift 0 1).size ≤ 4096 ∧ (y.lift 0 1).typ (G ++ [V]) = .ok S ∧ (y.lift 0 1).bulk ≤ 399000 := by
  have h1 := lift_size y 0 1
  have h2 := hy.size
  have h3 := lift_ok y 0 1 hy.ok
  have h6 := lift_typ G [V] y [] hy.ok (by simpa using hy.typ)
  rw [List.append_nil] at h6
  have h7 := okT_bulk1 _ h3
  exact ⟨h3, by omega, h6, by omega⟩
theorem bd_put (U S : Ty) : bdN ((3 : Int)).toNat U + bdO ((3 : Int)).toNat U * bdN ((2 : Int)).toNat S ≤ 4096 := by
  unfold bdN bdO; split <;> split <;> decide
theorem bd_3 (U : Ty) : bdN ((3 : Int)).toNat U ≤ 300 := by unfold bdN; split <;> decide
theorem bd_2 (U : Ty) : bdN ((2 : Int)).toNat U ≤ 100 := by unfold bdN; split <;> decide
end Go.Proofs.YtnodebcbnfkioaaDoor
namespace Go.Proofs.YtnodebcbnfkioaaDoor
open Go.RowKit

theorem bd_small1 (t : Ty) : bdN 1 t ≤ 100 := by unfold bdN; split <;> decide
theorem same_eqb (S T : Ty) : S.same T = S.eqb T := by
  cases h : S.eqb T with
  | true => rw [(eqb_iff S T).1 h, same_rfl]
  | false =>
    cases h2 : S.same T with
    | false => rfl
    | true => rw [same_eq h2, eqb_self] at h; cases h
theorem typeOf_in {G : List Ty} {T : Tm} (h1 : T.ok = true) (h2 : T.size ≤ 4096) (hG : G.length ≤ 16) (hok : ∀ U ∈ G, U.ok = true ∧ U.nodes ≤ 3) : T.typeOf G = T.typ G := by
  have hc : ctxErr G = 0 := by
    unfold ctxErr
    rw [if_neg (by omega)]
    clear hG
    induction G with
    | nil => rfl
    | cons U r ih =>
      unfold errs
      have h0 := hok U (by simp)
      have e : U.err = 0 := err_zero.2 ⟨h0.1, by omega⟩
      rw [if_pos e]
      exact ih (fun V hV => hok V (by simp [hV]))
  unfold Tm.typeOf
  rw [if_pos hc, if_pos (errT_zero.2 ⟨h1, h2⟩)]
theorem app_made {G : List Ty} {s t v : Ty} {a b p q : Nat} {x z P : Tm} (hP : P = .mk 3 0 .zero [x, z]) (hx : Made G (tyFun s t) a p x) (hz : Made G v b q z) (ha : a + b ≤ 4000) (hG : G.length ≤ 16) (hok : ∀ U ∈ G, U.ok = true ∧ U.nodes ≤ 3) :
    P.bulk ≤ 390000 ∧ P.typeOf G = if s.eqb v = true then .ok t else .error 7 := by
  subst hP
  have h1 := hx.size
  have h2 := hz.size
  have h3 := hx.thin
  have h4 := hz.thin
  have e1 : (Tm.mk 3 0 .zero [x, z]).ok = true := by rw [okT_eq]; simp [okAllT, hx.ok, hz.ok, Tm.args, Tm.formed, Tm.kind, Tm.index, Tm.type, arities, Ty.zero, Ty.kind, Ty.args]
  have e2 : (Tm.mk 3 0 .zero [x, z]).size ≤ 4096 := by simp only [Tm.size, sizeAllT]; omega
  refine ⟨by simp only [Tm.bulk, bulkAll, Ty.zero, Ty.nodes, nodesAll]; omega, ?_⟩
  rw [typeOf_in e1 e2 hG hok, typ_node (by decide) rfl (typAll2 hx.typ hz.typ)]
  simp only [nodeTy, tyFun, ← same_eqb]
  rfl
theorem var_made {G : List Ty} {P : Tm} (k : Nat) (hP : P = .mk 1 k .zero []) (hG : G.length ≤ 16) (hok : ∀ U ∈ G, U.ok = true ∧ U.nodes ≤ 3) :
    P.bulk ≤ 390000 ∧ (∀ h : k < G.length, P.typeOf G = .ok (G[G.length - 1 - k]'(by omega))) ∧ (G.length ≤ k → P.typeOf G = .error 6) := by
  subst hP
  have e1 : (Tm.mk 1 (k : Int) .zero []).ok = true := by simp [Tm.ok, okAllT, Tm.formed, Tm.kind, Tm.index, Tm.type, Tm.args, arities, Ty.zero, Ty.kind, Ty.args]
  have e2 : (Tm.mk 1 (k : Int) .zero []).size ≤ 4096 := by simp [Tm.size, sizeAllT]
  have et : ((k : Nat) : Int).toNat = k := Int.toNat_natCast k
  refine ⟨by simp [Tm.bulk, bulkAll, Ty.zero, Ty.nodes, nodesAll], fun h => ?_, fun h => ?_⟩
  · rw [typeOf_in e1 e2 hG hok]
    unfold Tm.typ
    rw [if_pos rfl, dif_pos (by rw [et]; exact h)]
    simp only [et]
  · rw [typeOf_in e1 e2 hG hok]
    unfold Tm.typ
    rw [if_pos rfl, dif_neg (by rw [et]; omega)]
mutual
/-- A type in memory lies outside of the block of a type that nobody has set. -/
theorem IsTy.goodz {S : Nat → Prop} {w : World} {q : Nat} (hk : Blk w q 30 #[.int .i64 0, .slice none 0 0]) : ∀ (t : Ty) {v : Value}, t.ok = true → IsTy S w t v → IsTy (fun b => S b ∧ b ≠ q) w t v
  | .mk k l, v, hok, h => by
    have hokl : okAll l = true := by simp only [Ty.ok, Bool.and_eq_true] at hok; exact hok.2
    unfold IsTy at h ⊢
    obtain ⟨A, c, rfl, h⟩ := h
    refine ⟨A, c, rfl, fun hl => ?_⟩
    obtain ⟨a, rfl, hs, h⟩ := h hl
    refine ⟨a, rfl, ⟨hs, fun e => ?_⟩, AreTys.goodz hk l hokl h⟩
    match l, hl, hokl, h with
    | t :: r, _, hokl, h =>
      simp only [okAll, Bool.and_eq_true] at hokl
      unfold AreTys at h
      obtain ⟨⟨v0, v1, h0, h1, ht⟩, _⟩ := h
      obtain ⟨A', c', e'⟩ := ht.form
      simp at e'
      obtain ⟨rfl, rfl⟩ := e'
      have hs : a.spot = none := by
        cases hsp : a.spot with
        | none => rfl
        | some x =>
          unfold World.cell? at h0
          rw [hsp] at h0
          split at h0
          · simp at h0
          · cases h0
      have ea : a = ⟨q, a.off, none⟩ := by rw [← hs, ← e]
      have e0 : w.cell? ⟨q, a.off, none⟩ = w.cell? a := by rw [← ea]
      have c0 := hk.cell a.off
      rw [e0.trans h0] at c0
      match ho : a.off with
      | 0 =>
        rw [ho] at c0
        simp at c0
        obtain ⟨k', l'⟩ := t
        simp only [Ty.kind] at c0
        subst c0
        simp [Ty.ok] at hokl
      | o + 1 =>
        rw [ho] at c0
        match o with
        | 0 => simp at c0
        | o + 1 => simp at c0
theorem AreTys.goodz {S : Nat → Prop} {w : World} {q : Nat} (hk : Blk w q 30 #[.int .i64 0, .slice none 0 0]) : ∀ (l : List Ty) {a : Addr}, okAll l = true → AreTys S w l a → AreTys (fun b => S b ∧ b ≠ q) w l a
  | [], a, _, _ => by unfold AreTys; trivial
  | t :: r, a, hok, h => by
    simp only [okAll, Bool.and_eq_true] at hok
    unfold AreTys at h ⊢
    obtain ⟨⟨v0, v1, h0, h1, ht⟩, hr⟩ := h
    exact ⟨⟨v0, v1, h0, h1, IsTy.goodz hk t hok.1 ht⟩, AreTys.goodz hk r hok.2 hr⟩
end
theorem IsTy.goodz' {S : Nat → Prop} {w : World} {q : Nat} (hk : Blk w q 30 #[.int .i64 0, .slice none 0 0]) {t : Ty} {v : Value} (hok : t.ok = true ∨ t = .mk 0 []) (h : IsTy S w t v) : IsTy (fun b => S b ∧ b ≠ q) w t v := by
  rcases hok with hok | rfl
  · exact IsTy.goodz hk t hok h
  · unfold IsTy at h ⊢
    obtain ⟨A, c, hv, _⟩ := h
    exact ⟨A, c, hv, fun h => (h rfl).elim⟩

/-- A type that was put into a block of its own. -/
def TyStep (g : Nat) (w0 : World) (T : Ty) (x : Value) (wx : World) : Prop :=
  ∃ q A c, x = .pointer (some ⟨q, 0, none⟩) ∧ Blk wx q 30 #[.int .i64 T.kind, .slice A T.args.length c] ∧ w0.heap.size ≤ q ∧
    IsTy (fun b => b ≠ g ∧ b ≠ q ∧ b < wx.heap.size) wx T (.agg #[.int .i64 T.kind, .slice A T.args.length c]) ∧ Deck wx g ∧ Turn (· = g) w0 wx
theorem tystep_set {g q : Nat} {w0 w9 : World} {T : Ty} {A : Option Addr} {c : Nat} (hok : T.ok = true ∨ T = .mk 0 []) (hb : Blk w9 q 30 #[.int .i64 0, .slice none 0 0]) (hg : g < w0.heap.size) (hq : w0.heap.size ≤ q)
    (ht : Turn (· = g) w0 w9) (hd : Deck w9 g) (hT : IsTy (· < w9.heap.size) w9 T (.agg #[.int .i64 T.kind, .slice A T.args.length c])) :
    TyStep g w0 T (.pointer (some ⟨q, 0, none⟩)) ((w9.setCell ⟨q, 0, none⟩ (.int .i64 T.kind)).setCell ⟨q, 1, none⟩ (.slice A T.args.length c)) := by
  have hs := only_set2 w9 q (.int .i64 T.kind) (.slice A T.args.length c)
  have hz := ht.size
  have h1 := IsTy.goodz' hb hok (IsTy.good hd (fun _ h => h) T hT)
  refine ⟨q, A, c, rfl, hb.set2 _ _, hq, IsTy.keep (fun b h => ⟨h.1.1, h.2, Nat.lt_of_lt_of_le h.1.2 hs.size⟩) (fun p hp => World.cell?_of_block (hs.block p.block hp.1.2 (fun e => hp.2 (by simpa using e)))) _ h1, hd.grown hs (fun k e => by cases e; omega), ?_⟩
  exact ⟨hs.os.trans ht.os, hs.tape.trans ht.tape, hs.output.trans ht.output, Nat.le_trans hz hs.size, fun k hk hx => (hs.block k (Nat.lt_of_lt_of_le hk hz) (by simp; omega)).trans (ht.block k hk hx)⟩
theorem tystep_new {g : Nat} {w0 w9 : World} {T : Ty} {A : Option Addr} {c : Nat}
    (ht : Turn (· = g) w0 w9) (hd : Deck w9 g) (hT : IsTy (· < w9.heap.size) w9 T (.agg #[.int .i64 T.kind, .slice A T.args.length c])) :
    TyStep g w0 T (.pointer (some ⟨w9.heap.size, 0, none⟩)) (w9.alloc (Obj.cells #[.int .i64 T.kind, .slice A T.args.length c] 30)) :=
  ⟨_, A, c, rfl, Blk.new _ _ _, ht.size, IsTy.keep (fun b h => ⟨h.1, by have := h.2; omega, by have := h.2; simp; omega⟩) (fun p hp => World.cell?_alloc_lt _ _ _ hp.2) _ (IsTy.good hd (fun _ h => h) T hT), hd.box _, ht.trans (Turn.alloc _ _)⟩

theorem free_set2 {g n q : Nat} {w : World} (h : n < q) (a b : Value) : Turn (Free g n) w ((w.setCell ⟨q, 0, none⟩ a).setCell ⟨q, 1, none⟩ b) :=
  Turn.grown (only_set2 w q a b) (fun _ e => by cases e; exact .inr h)
theorem free_set5b {g R q : Nat} {w : World} {t : TypeId} {cs : Array Value} (hb : Blk w q t cs ∧ R ≤ q) (hR : g < R) (a b c d e : Value) :
    Turn (Free g (R - 1)) w (((((w.setCell ⟨q, 0, none⟩ a).setCell ⟨q, 1, none⟩ b).setCell ⟨q, 2, none⟩ c).setCell ⟨q, 3, none⟩ d).setCell ⟨q, 4, none⟩ e) :=
  free_set5 (by have := hb.2; omega) a b c d e
theorem free_set2b {g R q : Nat} {w : World} {t : TypeId} {cs : Array Value} (hb : Blk w q t cs ∧ R ≤ q) (hR : g < R) (a b : Value) : Turn (Free g (R - 1)) w ((w.setCell ⟨q, 0, none⟩ a).setCell ⟨q, 1, none⟩ b) :=
  free_set2 (by have := hb.2; omega) a b
/-- The type of the application, or its error, and a block of its own with it. -/
def RefStep (g : Nat) (w0 : World) (S U V : Ty) (x y : Value) (wx : World) : Prop :=
  ∃ T er, y = .int .i64 er ∧ (S.eqb V = true ∧ T = U ∧ er = 0 ∨ S.eqb V = false ∧ T = .mk 0 [] ∧ er = 7) ∧ TyStep g w0 T x wx
end Go.Proofs.YtnodebcbnfkioaaDoor
namespace Go.Proofs.YtnodebcbnfkioaaDoor
open Go.RowKit

/-- The free variables of what Put gives. -/
theorem uses_put {t s : Tm} {A B C : List Int} (ht : t.ok = true) (hs : s.ok = true) (hA : UsesOf t A) (hB : UsesOf s B) (hC : UsesOf (t.put 0 s) C) (x : Int) : x ∈ C ↔ (∃ z ∈ A, z ≠ 0 ∧ x = z - 1) ∨ (0 ∈ A ∧ x ∈ B) := by
  have h0 : ∀ z ∈ A, 0 ≤ z := fun z hz => by obtain ⟨y, _, h, rfl⟩ := (hA.2 z).1 hz; omega
  have h := free_put s hs t 0 ht x
  rw [hC.2 x]
  refine h.trans ?_
  constructor
  · rintro (⟨z, hz, hp, rfl⟩ | ⟨h1, h2⟩)
    · exact .inl ⟨z, (hA.2 z).2 hz, by omega, rfl⟩
    · exact .inr ⟨(hA.2 0).2 h1, (hB.2 x).2 h2⟩
  · rintro (⟨z, hz, hp, rfl⟩ | ⟨h1, h2⟩)
    · have := h0 z hz
      exact .inl ⟨z, (hA.2 z).1 hz, by omega, rfl⟩
    · exact .inr ⟨(hA.2 0).1 h1, (hB.2 x).1 h2⟩
end Go.Proofs.YtnodebcbnfkioaaDoor
namespace Go.Proofs.YtnodebcbnfkioaaDoor
open Go.RowKit Go.Maps

/-- The map that holds these numbers. -/
def setD (xs : List Int) : DataW Unit := xs.foldl (fun D x => D.put (.int .i64 x) (.lit (.bool true))) (.map [])
theorem setD_snoc (pre : List Int) (x : Int) : setD (pre ++ [x]) = (setD pre).put (.int .i64 x) (.lit (.bool true)) := by simp [setD]
theorem setD_facts : ∀ (n : Nat) (xs : List Int), xs.length = n → Tidy (setD xs) ∧ (∀ z : Int, has (setD xs) (.int .i64 z) = true ↔ z ∈ xs) ∧ ∃ K : List Int, K.Nodup ∧ K.length = Maps.size (setD xs) ∧ ∀ z, z ∈ K ↔ z ∈ xs := by
  intro n
  induction n with
  | zero =>
    intro xs h
    obtain rfl := List.eq_nil_of_length_eq_zero h
    exact ⟨tidy_empty, fun z => by simp [setD, Maps.has], [], List.nodup_nil, by simp [setD, Maps.size], fun z => Iff.rfl⟩
  | succ n ih =>
    intro xs h
    rcases List.eq_nil_or_concat xs with rfl | ⟨pre, x, rfl⟩
    · simp at h
    · simp only [List.concat_eq_append] at h ⊢
      obtain ⟨h1, h2, K, h3, h4, h5⟩ := ih pre (by simp at h; exact h)
      rw [setD_snoc]
      refine ⟨h1.put (isKey_int _) _, fun z => ?_, ?_⟩
      · by_cases hz : z = x
        · subst hz
          rw [has_put_same h1.isMap (isKey_int _)]
          simp
        · rw [has_put_other (fun e => hz (by simpa using e)), h2, List.mem_append, List.mem_singleton]
          exact ⟨.inl, fun h => h.resolve_right hz⟩
      · have hs := size_put (k := .int .i64 x) h1 (.lit (.bool true))
        by_cases hx : x ∈ pre
        · refine ⟨K, h3, ?_, fun z => ?_⟩
          · rw [hs, if_pos ((h2 x).2 hx)]; exact h4
          · rw [h5, List.mem_append, List.mem_singleton]
            exact ⟨.inl, fun h => h.elim id fun e => e ▸ hx⟩
        · refine ⟨x :: K, List.nodup_cons.2 ⟨fun h => hx ((h5 x).1 h), h3⟩, ?_, fun z => ?_⟩
          · rw [hs, if_neg (fun h => hx ((h2 x).1 h)), List.length_cons, h4]
          · rw [List.mem_cons, h5, List.mem_append, List.mem_singleton, or_comm]
/-- The size of the set is the length of a rising list of the same numbers. -/
theorem setD_size {xs C : List Int} (hC : C.Pairwise (· < ·)) (h : ∀ z, z ∈ C ↔ z ∈ xs) : Maps.size (setD xs) = C.length := by
  obtain ⟨_, _, K, h3, h4, h5⟩ := setD_facts _ xs rfl
  have hn : C.Nodup := hC.imp fun {a b} hab => by omega
  rw [← h4]
  exact ((List.perm_ext_iff_of_nodup h3 hn).2 fun z => (h5 z).trans (h z).symm).length_eq
theorem setD_at : ∀ (n : Nat) (xs : List Int), xs.length = n → ∀ x ∈ xs, ∀ zd, (setD xs).atKey (.int .i64 x) zd = .lit (.bool true) := by
  intro n
  induction n with
  | zero =>
    intro xs h x hx
    obtain rfl := List.eq_nil_of_length_eq_zero h
    simp at hx
  | succ n ih =>
    intro xs h
    rcases List.eq_nil_or_concat xs with rfl | ⟨pre, y, rfl⟩
    · simp at h
    · simp only [List.concat_eq_append] at h ⊢
      intro x hx zd
      rw [setD_snoc]
      by_cases hz : x = y
      · subst hz
        exact atKey_put_same (setD_facts _ pre rfl).1.isMap (isKey_int _) _ _
      · rw [atKey_put_other (fun e => hz (by simpa using e))]
        refine ih pre (by simp at h; exact h) x ?_ zd
        rw [List.mem_append, List.mem_singleton] at hx
        exact hx.resolve_right hz
end Go.Proofs.YtnodebcbnfkioaaDoor
namespace Go.Proofs.YtnodebcbnfkioaaDoor
open Go.RowKit

theorem sizeN_take (l : List Tm) (j : Nat) (h : j < l.length) : sizeAllT (l.take (j + 1)) = sizeAllT (l.take j) + l[j].size := by
  rw [List.take_succ_eq_append_getElem h, sizeAllT_append]
  simp only [sizeAllT]
  omega
theorem sizeN_take_le (l : List Tm) (j : Nat) : sizeAllT (l.take j) ≤ sizeAllT l := by
  have := sizeAllT_append (l.take j) (l.drop j)
  rw [List.take_append_drop] at this
  omega

set_option maxRecDepth 100000 in
set_option maxHeartbeats 2000000 in
theorem nodesOf_any (n : Nat) : ∀ (t : Tm) (v : Value) (w : World), t.bulk ≤ n → n ≤ 400000 → IsTm (· < w.heap.size) w t v →
    Calls Tryd.prog 16 #[v] w fun e w' => e = .returned (.int .i64 (t.size : Int)) ∧ Below w.heap.size w w' := by
  induction n with
  | zero => intro t; have := bulk_pos t; omega
  | succ n ih =>
    rintro ⟨k, i, T, l⟩ v w hn hb ht
    obtain ⟨B, d, A, c, rfl, _, hl⟩ := ht.mk_parts
    have hsb := sizeAll_bulk l
    have hll := bulkAll_len l
    simp only [Tm.bulk] at hn
    have HL := Lib.hid hl
    have IH := Lib.hid ih
    clear ht hl ih
    obtain ⟨b1, z1, k1⟩ := new_blk (Below.refl w.heap.size w) (Nat.le_refl _) #[.int .i64 k, .int .i64 i, .int .i64 T.kind, .slice B T.args.length d, .slice A l.length c] 34
    have HB := Lib.hid (And.intro b1 k1)
    clear b1 z1 k1
    go_enter Tryd.func16, Tryd.ntmps16
    go_wp2_with fail
    have b1 := HB.out.1
    generalize w.alloc (Obj.cells #[.int .i64 k, .int .i64 i, .int .i64 T.kind, .slice B T.args.length d, .slice A l.length c] 34) = W at b1 HB ⊢
    go_loopw [3, 9] (fun cnt ix wr => ∃ j : Nat, j ≤ l.length ∧ ix = .int .i64 j ∧ cnt = .int .i64 ((1 + sizeAllT (l.take j) : Nat) : Int) ∧ Below W.heap.size W wr) (fun _ ix _ => l.length - (intOf ix).toNat)
    case atStart => exact ⟨0, by omega, rfl, by simp [sizeAllT], Below.refl _ _⟩
    case round =>
      obtain ⟨j, hj, rfl, rfl, hbr⟩ := hrel
      have hst := sizeN_take_le l j
      by_cases hlt : j < l.length
      · have hwr : Below w.heap.size w wr := b1.trans (hbr.mono b1.size)
        have hs : TmR.Sl (· < w.heap.size) wr l (.slice A l.length c) := HL.out.keep (fun _ h => h) (fun p hp => hwr.cell hp)
        obtain ⟨a, rfl, ha, hat⟩ := hs.get j hlt
        obtain ⟨B1, d1, A1, c1, q0, q1, q2, q3, q4, hx⟩ := at_tm hat
        simp only [show TmR.n = 5 from rfl] at q0 q1 q2 q3 q4
        have hnj := bulkAll_get l j hlt
        have hxs := size_bulk l[j]
        have HST := Lib.hid (sizeN_take l j hlt)
        have HX := Lib.hid hx
        have hws := hwr.size
        have HBR := Lib.hid hbr
        clear hs hat hx hbr hwr
        obtain ⟨u, hu⟩ : ∃ u, sizeAllT (l.take j) = u := ⟨_, rfl⟩
        rw [hu] at hst HST ⊢
        clear hu
        go_wp2_with fail
        have bb := (Below.refl wr.heap.size wr).alloc (Nat.le_refl _) (Obj.cells #[.int .i64 l[j].kind, .int .i64 l[j].index, .int .i64 l[j].type.kind, .slice B1 l[j].type.args.length d1, .slice A1 l[j].args.length c1] 34)
        refine (IH.out l[j] _ _ (by omega) (by omega) (HX.out.keep (fun b hb => by have h3 : b < w.heap.size := hb; simp; omega) (fun p hp => World.cell?_alloc_lt _ _ _ (by have h3 : p.block < w.heap.size := hp; omega)))).mono ?_
        rintro e w2 ⟨rfl, hb2⟩
        have HB2 := Lib.hid (HBR.out.trans ((bb.trans (hb2.mono (by simp))).mono HBR.out.size))
        clear bb hb2
        obtain ⟨y, hy⟩ : ∃ y, l[j].size = y := ⟨_, rfl⟩
        rw [hy] at hxs HST ⊢
        clear hy
        go_wp2_with fail
        exact ⟨⟨j + 1, by omega, by go_num, by rw [HST.out]; congr 1; omega, HB2.out⟩, by simp [intOf]; omega⟩
      · have hjl : j = l.length := by omega
        subst hjl
        rw [List.take_length] at hst ⊢
        obtain ⟨u, hu⟩ : ∃ u, sizeAllT l = u := ⟨_, rfl⟩
        rw [hu] at hst ⊢
        have HU := Lib.hid hu
        have HBR := Lib.hid hbr
        clear hbr hu
        go_wp2_with fail
        go_ret
        exact ⟨ret_num (by simp only [Tm.size]; rw [HU.out]), b1.trans (HBR.out.mono b1.size)⟩
end Go.Proofs.YtnodebcbnfkioaaDoor
namespace Go.Proofs.YtnodebcbnfkioaaDoor
open Go.RowKit

theorem Turn.far {X : Nat → Prop} {a b c : World} (h : Turn X a b) (k : Below a.heap.size b c) : Turn X a c :=
  ⟨k.os.trans h.os, k.tape.trans h.tape, k.output.trans h.output, Nat.le_trans h.size k.size, fun i hi hx => (k.block i hi).trans (h.block i hi hx)⟩
/-- Blocks of another kind than g, as of a world. -/
theorem blk_new1 (w : World) (o : Obj) (cs : Array Value) (t : TypeId) : Blk ((w.alloc o).alloc (.cells cs t)) (w.heap.size + 1) t cs := by
  have h := Blk.new (w.alloc o) t cs
  rwa [World.size_alloc] at h

/-- What append is given: a list of types, in cells that lie apart from the slice's own. -/
def Src (S : Nat → Prop) (v : Value) (w : World) (m : List Ty) (u : Value) : Prop :=
  (u = .slice none 0 0 ∧ m = []) ∨ ∃ ad c news, u = .slice (some ad) m.length c ∧ TyR.Ch (fun b => S b ∧ b < w.heap.size ∧ v.ownBlock ≠ some b) w m news ∧ ∀ j y, news[j]? = some y → w.cell? (ad.add j) = some y

theorem src_ctx {g : Nat} {R w : World} {G : List Ty} {s v : Value} (h : Ctx g R G s) (ht : Turn (· = g) R w) (hv : ∀ b, v.ownBlock = some b → R.heap.size ≤ b) : Src (Good (· = g) R) v w G s := by
  have hs : TyR.Sl (fun b => Good (· = g) R b ∧ b < w.heap.size ∧ v.ownBlock ≠ some b) w G s :=
    h.sl.keep (fun b hb => ⟨hb, Nat.lt_of_lt_of_le hb.2 ht.size, fun e => by have := hv b e; have := hb.2; omega⟩) (fun p hp => World.cell?_of_block (ht.block p.block hp.2 hp.1))
  rcases h.formed with rfl | ⟨a, n, c, rfl, _⟩
  · exact .inl ⟨rfl, hs.none_nil⟩
  · right
    obtain ⟨A, c', e, hA⟩ := hs
    simp only [Value.slice.injEq] at e
    obtain ⟨rfl, rfl, rfl⟩ := e
    by_cases hG : G = []
    · subst hG
      exact ⟨a, _, [], rfl, Rep.Ch.nil _ _, fun j y hy => by simp at hy⟩
    · obtain ⟨a', ea, _, har⟩ := hA hG
      cases ea
      obtain ⟨news, h1, h2⟩ := har.cells
      exact ⟨a, _, news, rfl, h1, h2⟩

theorem src_one {g q : Nat} {R w : World} {T : Ty} {x y v : Value} (hk : Blk w q 30 #[x, y]) (h : Typ g R T (.agg #[x, y])) (ht : Turn (· = g) R w) (hv : ∀ b, v.ownBlock = some b → R.heap.size ≤ b) :
    Src (Good (· = g) R) v w [T] (.slice (some ⟨q, 0, none⟩) 1 1) := by
  have hi : IsTy (fun b => Good (· = g) R b ∧ b < w.heap.size ∧ v.ownBlock ≠ some b) w T (.agg #[x, y]) :=
    IsTy.keep (fun b hb => ⟨hb, Nat.lt_of_lt_of_le hb.2 ht.size, fun e => by have := hv b e; have := hb.2; omega⟩) (fun p hp => World.cell?_of_block (ht.block p.block hp.2 hp.1)) _ h
  refine .inr ⟨_, 1, [x, y], rfl, Rep.Ch.one (R := TyR) (vs := [x, y]) hi, World.news_of_block hk⟩

theorem run_append_ty {w : World} {S : Nat → Prop} {base : Nat} {l m : List Ty} {v u : Value} (ty : TypeId) (hown : TyR.Own S base v l w) (hsrc : Src S v w m u) (hlen : l.length + m.length ≤ 1000000) (hbase : base ≤ w.heap.size) :
    ∃ v' w', (Builtin.append_ #[27, 27] ty #[v, u]).run Tryd.prog w = .ok v' w' ∧ TyR.Own S base v' (l ++ m) w' ∧ w.grownBy w' v.ownBlock ∧ (v'.ownBlock = v.ownBlock ∨ v'.ownBlock = some w.heap.size) := by
  obtain ⟨i0, hi, hz0, hz1, hz2⟩ := info_parts info_type
  obtain ⟨xs, hxo, hxc⟩ := hown
  rcases hsrc with ⟨rfl, rfl⟩ | ⟨ad, c, news, rfl, hnc, hnl⟩
  · refine ⟨v, w, run_append_owned_none (P := Tryd.prog) (w := w) base 27 ty 30 i0 2 Tryd.underlying27 hi v _ xs hxo, ?_, ⟨rfl, rfl, rfl, Nat.le_refl _, fun _ _ _ => rfl⟩, .inl rfl⟩
    rw [List.append_nil]
    exact ⟨xs, hxo, hxc⟩
  · obtain ⟨v', w', hr, h2, h3, _, h5⟩ := run_append_own_at (P := Tryd.prog) w base 27 ty 30 i0 _ 2 32 Tryd.underlying27 hi hz0 hz1 hz2 rfl (by decide) v _ xs hxo ad m.length c news hnc.1 hnl hnc.oneCells (by simp only [maxLen]; omega) (by omega) hbase
    exact ⟨v', w', hr, Rep.Own.more (R := TyR) hxo hxc hnc h2 h3 h5, h3, h5⟩

theorem step_append_ty {w : World} {ops : Array Oper} {o : Oper} {a : Act} {K : Act → World → Prop} {Q : Exit → Act → World → Prop} {E : Prop} (hgd : o.guard = none) (s x : Operand)
    (ho : o.op = .call { callee := .builtin .append, args := #[s, x], argTypes := #[27, 27] }) {S : Nat → Prop} {base : Nat} {l m : List Ty} {v u : Value} (hs : a.eval s = v) (hx : a.eval x = u)
    (hown : TyR.Own S base v l w) (hsrc : Src S v w m u) (hlen : l.length + m.length ≤ 1000000) (hbase : base ≤ w.heap.size)
    (h : ∀ v' w', TyR.Own S base v' (l ++ m) w' → w.grownBy w' v.ownBlock → (v'.ownBlock = v.ownBlock ∨ v'.ownBlock = some w.heap.size) → Below base w w' → K (a.put o.dst v') w') :
    if Region.wanted o (yielded ops a.tmps) = true then Oper.wp Tryd.prog o a w K Q else E := by
  have hw : Region.wanted o (yielded ops a.tmps) = true := by simp [Region.wanted, hgd]
  rw [if_pos hw]
  obtain ⟨v', w', hr, h1, h2, h3⟩ := run_append_ty (w := w) o.type hown hsrc hlen hbase
  unfold Oper.wp execOp
  simp only [ho, resolve, invoke, builtin, Sem.run_bind, Sem.run_pure, Result.andThen_ok, List.map_toArray, List.map_cons, List.map_nil, hs, hx, hr]
  exact h v' w' h1 h2 h3 ⟨h2.os, h2.tape, h2.output, h2.size, fun i hi => h2.block i (by omega) (fun e => by have := (hown.lt i e.symm).1; omega)⟩

/-- A slice of the call's own as a context. -/
theorem own_ctx {g : Nat} {R w : World} {v : Value} {l : List Ty} (h : TyR.Own (Good (· = g) R) R.heap.size v l w) (hR : g < R.heap.size) (hok : ∀ U ∈ l, U.ok = true ∧ U.nodes ≤ 3) : Ctx g w l v :=
  ⟨h.sl.keep (fun b hb => ⟨fun e => hb.1.elim (fun x => x.1 e) (fun x => by have e' : b = g := e; omega), hb.2⟩) (fun _ _ => rfl), own_formed h, hok⟩
theorem own_ne {v v' : Value} {n q : Nat} (h : v'.ownBlock = v.ownBlock ∨ v'.ownBlock = some n) (hv : v.ownBlock = none) (hq : q < n) : v'.ownBlock ≠ some q := by
  intro e
  rcases h with h | h
  · rw [h, hv] at e; cases e
  · rw [h] at e; cases e; omega
theorem own_far {S : Nat → Prop} {base q : Nat} {v : Value} {l : List Ty} {w : World} (h : TyR.Own S base v l w) (hq : w.heap.size ≤ q) : v.ownBlock ≠ some q := fun e => by have := (h.lt q e).2; omega
theorem Blk.grownNe {w w' : World} {q : Nat} {t : TypeId} {cs : Array Value} {row : Option Nat} (h : Blk w q t cs) (hg : w.grownBy w' row) (hne : row ≠ some q) : Blk w' q t cs := h.carry (hg.block q h.lt (fun e => hne e.symm))
end Go.Proofs.YtnodebcbnfkioaaDoor
namespace Go.Proofs.YtnodebcbnfkioaaDoor
open Go.RowKit

/-- A type was made, and a term of it in a longer context, in a block of its own. -/
def StepU (g : Nat) (G : List Ty) (S : Ty) (W : World) (x : Value) (wx : World) : Prop :=
  ∃ U : Ty, U.ok = true ∧ U.nodes ≤ 3 ∧ StepR g (fun y => Made (G ++ [S]) U (bdN ((3 : Int)).toNat U) (bdO ((3 : Int)).toNat U) y) W W x wx
theorem made_low6' {G : List Ty} {t : Ty} {T : Tm} (ho : T.ok = true) (h : T.typ G = .ok t) (hs : T.size ≤ 4096) (hG : G.length ≤ 1000) : T.low 1000000 = true :=
  low_mono (by omega) T (typ_low T G ho h)
open Go.Maps in
/-- How the map of the wanted numbers stands. -/
def WantAt (wk : World) (n : Nat) (D : DataW Unit) (W : World) : Prop :=
  W.ownsMap Tryd.prog 3 (plainElem (H := Unit) Tryd.prog 4) wk.heap.size n D ∧ Below wk.heap.size wk W
theorem want_made (wk : World) : WantAt wk 0 (setD []) (wk.alloc (.map #[] 0)) :=
  ⟨World.ownsMap_made wk _ _ _, (Below.refl _ wk).alloc (Nat.le_refl _) _⟩
/-- The free variables of a term behind one that is put in place of the first. -/
def lowD (L : List Int) : List Int := (L.filter fun v => v != 0).map fun v => v - 1
theorem lowD_zero {L : List Int} {j : Nat} (hj : j < L.length) (h : L[j] = 0) : lowD (L.take (j + 1)) = lowD (L.take j) := by
  rw [List.take_succ_eq_append_getElem hj]
  simp [lowD, h]
theorem lowD_more {L : List Int} {j : Nat} (hj : j < L.length) (h : L[j] ≠ 0) : lowD (L.take (j + 1)) = lowD (L.take j) ++ [L[j] - 1] := by
  unfold lowD
  rw [List.take_succ_eq_append_getElem hj, List.filter_append, List.map_append, List.filter_cons_of_pos (by simpa using h)]
  rfl
theorem mem_lowD {L : List Int} {x : Int} : x ∈ lowD L ↔ ∃ z ∈ L, z ≠ 0 ∧ x = z - 1 := by
  unfold lowD
  rw [List.mem_map]
  constructor
  · rintro ⟨z, hz, rfl⟩
    rw [List.mem_filter] at hz
    exact ⟨z, hz.1, by simpa using hz.2, rfl⟩
  · rintro ⟨z, hz, h0, rfl⟩
    exact ⟨z, List.mem_filter.2 ⟨hz, by simpa using h0⟩, rfl⟩
theorem zero_in {L : List Int} {j : Nat} (hj : j < L.length) : decide ((0 : Int) ∈ L.take (j + 1)) = (decide ((0 : Int) ∈ L.take j) || decide (L[j] = 0)) := by
  rw [List.take_succ_eq_append_getElem hj, ← Bool.decide_or]
  refine decide_eq_decide.2 ?_
  rw [List.mem_append, List.mem_singleton]
  exact ⟨fun h => h.elim .inl fun e => .inr e.symm, fun h => h.elim .inl fun e => .inr e.symm⟩
theorem rising_len : ∀ (L : List Int) (c b : Int), L.Pairwise (· < ·) → (∀ x ∈ L, c ≤ x ∧ x ≤ b) → c ≤ b + 1 → (L.length : Int) ≤ b - c + 1
  | [], c, b, _, _, h => by simp; omega
  | x :: r, c, b, hp, h, _ => by
    rw [List.pairwise_cons] at hp
    have hx := h x (by simp)
    have := rising_len r (x + 1) b hp.2 (fun y hy => ⟨by have := hp.1 y hy; omega, (h y (by simp [hy])).2⟩) (by omega)
    simp
    omega
theorem uses_len {t : Tm} {L : List Int} (hl : t.low 1000000 = true) (h : UsesOf t L) : L.length ≤ 1000001 := by
  have := rising_len L 0 1000000 h.1 (fun x hx => by have := uses_small (b := 1000000) hl h x hx; omega) (by omega)
  omega
theorem zeroBool (w : World) : (zeroValue 4).run Tryd.prog w = .ok (.bool false) w := by kernel_rfl
theorem elem_bool {P : Program} {e : TypeId} (he : P.underlying e = some .bool) {v : Value} {b : Bool} {ps : List MemPlace} (h : plainElem (H := Unit) P e v = some (.lit (.bool b), ps)) : v = .bool b := by
  unfold plainElem at h
  rw [he] at h
  cases v <;> simp at h
  rw [h.1]
theorem want_look {wk W : World} {n : Nat} {K : List Int} {x : Int} (h : WantAt wk n (setD K) W) (hx : x ∈ K) (hwf : (Lit.int .i64 x).wf = true) :
    (Instr.lookup 41 (.map (some wk.heap.size)) (.int .i64 x) false).run Tryd.prog W = .ok (.bool true) W := by
  obtain ⟨v, ps, hrun, hv⟩ := h.1.lookup (Maps.int_keyed Tryd.underlying3) Tryd.underlying41 (zeroBool W) (plainElem_bool (H := Unit) Tryd.underlying4 false) (Maps.keyOf_int_mk Tryd.underlying3 hwf)
  rw [setD_at _ K rfl x hx] at hv
  obtain rfl := elem_bool Tryd.underlying4 hv
  exact hrun
theorem want_len {wk W : World} {n : Nat} {K C : List Int} (h : WantAt wk n (setD K) W) (hC : C.Pairwise (· < ·)) (hm : ∀ z, z ∈ C ↔ z ∈ K) (ty : TypeId) :
    (Builtin.len_ #[41] ty #[.map (some wk.heap.size)]).run Tryd.prog W = .ok (.int .i64 C.length) W := by
  have e := h.1.len Tryd.underlying41 ty
  rwa [setD_size hC hm] at e
theorem want_below {wk W W' : World} {n : Nat} {D : DataW Unit} (h : WantAt wk n D W) (hb : Below W.heap.size W W') : WantAt wk n D W' := by
  have hlt := h.1.lt
  obtain ⟨⟨es, ck, hh, hF, hs, hD⟩, h2⟩ := h
  exact ⟨⟨es, ck, (hb.block _ hlt).trans hh, hF, hs, hD⟩, h2.trans (hb.mono h2.size)⟩
theorem size_rest {x y z : Tm} (hx : x.ok = true) (hz : z = x.put 0 y) (_hy : 1 < y.size) : ((z.size : Int) - x.size).tmod ((y.size : Int) - 1) = 0 := by
  have h := put_size y x 0 hx
  rw [← hz] at h
  have h2 : (z.size : Int) - x.size = ((y.size : Int) - 1) * x.occ 0 := by
    have h3 : (z.size : Int) + x.occ 0 = x.size + x.occ 0 * y.size := by exact_mod_cast h
    rw [Int.sub_mul, Int.one_mul, Int.mul_comm (y.size : Int)]
    omega
  rw [h2]
  exact Int.mul_tmod_right _ _
/-- A slice of the call's own stays while the deck turns. -/
theorem own_turn {g : Nat} {R w w' : World} {v : Value} {l : List Ty} (h : TyR.Own (Good (· = g) R) R.heap.size v l w) (hR : g < R.heap.size) (ht : Turn (· = g) w w') : TyR.Own (Good (· = g) R) R.heap.size v l w' := by
  obtain ⟨xs, h1, h2⟩ := h
  refine ⟨xs, ?_, h2.keep (fun b hb => ⟨hb.1, Nat.lt_of_lt_of_le hb.2.1 ht.size, hb.2.2⟩) (fun p hp => World.cell?_of_block (ht.block p.block hp.2.1 hp.1.1))⟩
  obtain ⟨e, h1⟩ := h1
  refine ⟨e, ?_⟩
  rcases h1 with h1 | ⟨g', cap, cur, rfl, hb, hh, r⟩
  · exact .inl h1
  · have hne : ¬ g' = g := by omega
    exact .inr ⟨g', cap, cur, rfl, hb, (ht.block g' (Array.getElem?_eq_some_iff.1 hh).1 hne).trans hh, r⟩
/-- A type that was made stays while a slice that was there before grows. -/
theorem typ_far {g lo : Nat} {w w1 w' : World} {t : Ty} {v : Value} {row : Option Nat} (h : IsTy (fun b => lo ≤ b ∧ b < w.heap.size) w t v) (hg : g < lo) (hb : Below w.heap.size w w1) (hr : w1.grownBy w' row) (hne : ∀ k, row = some k → k < lo) : Typ g w' t v :=
  IsTy.keep (fun b h => ⟨by omega, by have := hb.size; have := hr.size; omega⟩) (fun p hp => (World.cell?_of_block (hr.block p.block (by have := hb.size; omega) (fun e => by have := hne p.block e.symm; omega))).trans (hb.cell hp.2)) _ h
end Go.Proofs.YtnodebcbnfkioaaDoor
