/- What has no type: an application to an argument of another type, a variable that is not there. -/
import Derived.Test.YtieafbmabnohhaaDoorTypesLawT0
import Derived.Test.YtieafbmabnohhaaDoorSameEq
import Derived.Test.YtieafbmabnohhaaDoorRefSame
namespace Go.Proofs.YtieafbmabnohhaaDoor
open Go.RowKit

theorem bd_small1 (t : Ty) : bdN 1 t ≤ 100 := by unfold bdN; split <;> decide
theorem same_eqb (S T : Ty) : S.same T = S.eqb T := by
  cases h : S.eqb T with
  | true => rw [(eqb_iff S T).1 h, same_rfl]
  | false =>
    cases h2 : S.same T with
    | false => rfl
    | true => rw [same_eq h2, eqb_self] at h; cases h
theorem typeOf_in {G : List Ty} {T : Tm} (h1 : T.ok = true) (h2 : T.size ≤ 4096) (hG : G.length ≤ 16) (hok : ∀ U ∈ G, U.ok = true ∧ U.nodes ≤ 3) : T.typeOf G = T.typ G := by
  have hc : ctxErr G = 0 := by
    unfold ctxErr
    rw [if_neg (by omega)]
    clear hG
    induction G with
    | nil => rfl
    | cons U r ih =>
      unfold errs
      have h0 := hok U (by simp)
      have e : U.err = 0 := err_zero.2 ⟨h0.1, by omega⟩
      rw [if_pos e]
      exact ih (fun V hV => hok V (by simp [hV]))
  unfold Tm.typeOf
  rw [if_pos hc, if_pos (errT_zero.2 ⟨h1, h2⟩)]
theorem app_made {G : List Ty} {s t v : Ty} {a b p q : Nat} {x z P : Tm} (hP : P = .mk 3 0 .zero [x, z]) (hx : Made G (tyFun s t) a p x) (hz : Made G v b q z) (ha : a + b ≤ 4000) (hG : G.length ≤ 16) (hok : ∀ U ∈ G, U.ok = true ∧ U.nodes ≤ 3) :
    P.bulk ≤ 390000 ∧ P.typeOf G = if s.eqb v = true then .ok t else .error 7 := by
  subst hP
  have h1 := hx.size
  have h2 := hz.size
  have h3 := hx.thin
  have h4 := hz.thin
  have e1 : (Tm.mk 3 0 .zero [x, z]).ok = true := by rw [okT_eq]; simp [okAllT, hx.ok, hz.ok, Tm.args, Tm.formed, Tm.kind, Tm.index, Tm.type, arities, Ty.zero, Ty.kind, Ty.args]
  have e2 : (Tm.mk 3 0 .zero [x, z]).size ≤ 4096 := by simp only [Tm.size, sizeAllT]; omega
  refine ⟨by simp only [Tm.bulk, bulkAll, Ty.zero, Ty.nodes, nodesAll]; omega, ?_⟩
  rw [typeOf_in e1 e2 hG hok, typ_node (by decide) rfl (typAll2 hx.typ hz.typ)]
  simp only [nodeTy, tyFun, ← same_eqb]
  rfl
theorem var_made {G : List Ty} {P : Tm} (k : Nat) (hP : P = .mk 1 k .zero []) (hG : G.length ≤ 16) (hok : ∀ U ∈ G, U.ok = true ∧ U.nodes ≤ 3) :
    P.bulk ≤ 390000 ∧ (∀ h : k < G.length, P.typeOf G = .ok (G[G.length - 1 - k]'(by omega))) ∧ (G.length ≤ k → P.typeOf G = .error 6) := by
  subst hP
  have e1 : (Tm.mk 1 (k : Int) .zero []).ok = true := by simp [Tm.ok, okAllT, Tm.formed, Tm.kind, Tm.index, Tm.type, Tm.args, arities, Ty.zero, Ty.kind, Ty.args]
  have e2 : (Tm.mk 1 (k : Int) .zero []).size ≤ 4096 := by simp [Tm.size, sizeAllT]
  have et : ((k : Nat) : Int).toNat = k := Int.toNat_natCast k
  refine ⟨by simp [Tm.bulk, bulkAll, Ty.zero, Ty.nodes, nodesAll], fun h => ?_, fun h => ?_⟩
  · rw [typeOf_in e1 e2 hG hok]
    unfold Tm.typ
    rw [if_pos rfl, dif_pos (by rw [et]; exact h)]
    simp only [et]
  · rw [typeOf_in e1 e2 hG hok]
    unfold Tm.typ
    rw [if_pos rfl, dif_neg (by rw [et]; omega)]
mutual
/-- A type in memory lies outside of the block of a type that nobody has set. -/
theorem IsTy.goodz {S : Nat → Prop} {w : World} {q : Nat} (hk : Blk w q 30 #[.int .i64 0, .slice none 0 0]) : ∀ (t : Ty) {v : Value}, t.ok = true → IsTy S w t v → IsTy (fun b => S b ∧ b ≠ q) w t v
  | .mk k l, v, hok, h => by
    have hokl : okAll l = true := by simp only [Ty.ok, Bool.and_eq_true] at hok; exact hok.2
    unfold IsTy at h ⊢
    obtain ⟨A, c, rfl, h⟩ := h
    refine ⟨A, c, rfl, fun hl => ?_⟩
    obtain ⟨a, rfl, hs, h⟩ := h hl
    refine ⟨a, rfl, ⟨hs, fun e => ?_⟩, AreTys.goodz hk l hokl h⟩
    match l, hl, hokl, h with
    | t :: r, _, hokl, h =>
      simp only [okAll, Bool.and_eq_true] at hokl
      unfold AreTys at h
      obtain ⟨⟨v0, v1, h0, h1, ht⟩, _⟩ := h
      obtain ⟨A', c', e'⟩ := ht.form
      simp at e'
      obtain ⟨rfl, rfl⟩ := e'
      have hs : a.spot = none := by
        cases hsp : a.spot with
        | none => rfl
        | some x =>
          unfold World.cell? at h0
          rw [hsp] at h0
          split at h0
          · simp at h0
          · cases h0
      have ea : a = ⟨q, a.off, none⟩ := by rw [← hs, ← e]
      have e0 : w.cell? ⟨q, a.off, none⟩ = w.cell? a := by rw [← ea]
      have c0 := hk.cell a.off
      rw [e0.trans h0] at c0
      match ho : a.off with
      | 0 =>
        rw [ho] at c0
        simp at c0
        obtain ⟨k', l'⟩ := t
        simp only [Ty.kind] at c0
        subst c0
        simp [Ty.ok] at hokl
      | o + 1 =>
        rw [ho] at c0
        match o with
        | 0 => simp at c0
        | o + 1 => simp at c0
theorem AreTys.goodz {S : Nat → Prop} {w : World} {q : Nat} (hk : Blk w q 30 #[.int .i64 0, .slice none 0 0]) : ∀ (l : List Ty) {a : Addr}, okAll l = true → AreTys S w l a → AreTys (fun b => S b ∧ b ≠ q) w l a
  | [], a, _, _ => by unfold AreTys; trivial
  | t :: r, a, hok, h => by
    simp only [okAll, Bool.and_eq_true] at hok
    unfold AreTys at h ⊢
    obtain ⟨⟨v0, v1, h0, h1, ht⟩, hr⟩ := h
    exact ⟨⟨v0, v1, h0, h1, IsTy.goodz hk t hok.1 ht⟩, AreTys.goodz hk r hok.2 hr⟩
end
theorem IsTy.goodz' {S : Nat → Prop} {w : World} {q : Nat} (hk : Blk w q 30 #[.int .i64 0, .slice none 0 0]) {t : Ty} {v : Value} (hok : t.ok = true ∨ t = .mk 0 []) (h : IsTy S w t v) : IsTy (fun b => S b ∧ b ≠ q) w t v := by
  rcases hok with hok | rfl
  · exact IsTy.goodz hk t hok h
  · unfold IsTy at h ⊢
    obtain ⟨A, c, hv, _⟩ := h
    exact ⟨A, c, hv, fun h => (h rfl).elim⟩

/-- A type that was put into a block of its own. -/
def TyStep (g : Nat) (w0 : World) (T : Ty) (x : Value) (wx : World) : Prop :=
  ∃ q A c, x = .pointer (some ⟨q, 0, none⟩) ∧ Blk wx q 30 #[.int .i64 T.kind, .slice A T.args.length c] ∧ w0.heap.size ≤ q ∧
    IsTy (fun b => b ≠ g ∧ b ≠ q ∧ b < wx.heap.size) wx T (.agg #[.int .i64 T.kind, .slice A T.args.length c]) ∧ Deck wx g ∧ Turn (· = g) w0 wx
theorem tystep_set {g q : Nat} {w0 w9 : World} {T : Ty} {A : Option Addr} {c : Nat} (hok : T.ok = true ∨ T = .mk 0 []) (hb : Blk w9 q 30 #[.int .i64 0, .slice none 0 0]) (hg : g < w0.heap.size) (hq : w0.heap.size ≤ q)
    (ht : Turn (· = g) w0 w9) (hd : Deck w9 g) (hT : IsTy (· < w9.heap.size) w9 T (.agg #[.int .i64 T.kind, .slice A T.args.length c])) :
    TyStep g w0 T (.pointer (some ⟨q, 0, none⟩)) ((w9.setCell ⟨q, 0, none⟩ (.int .i64 T.kind)).setCell ⟨q, 1, none⟩ (.slice A T.args.length c)) := by
  have hs := only_set2 w9 q (.int .i64 T.kind) (.slice A T.args.length c)
  have hz := ht.size
  have h1 := IsTy.goodz' hb hok (IsTy.good hd (fun _ h => h) T hT)
  refine ⟨q, A, c, rfl, hb.set2 _ _, hq, IsTy.keep (fun b h => ⟨h.1.1, h.2, Nat.lt_of_lt_of_le h.1.2 hs.size⟩) (fun p hp => World.cell?_of_block (hs.block p.block hp.1.2 (fun e => hp.2 (by simpa using e)))) _ h1, hd.grown hs (fun k e => by cases e; omega), ?_⟩
  exact ⟨hs.os.trans ht.os, hs.tape.trans ht.tape, hs.output.trans ht.output, Nat.le_trans hz hs.size, fun k hk hx => (hs.block k (Nat.lt_of_lt_of_le hk hz) (by simp; omega)).trans (ht.block k hk hx)⟩
theorem tystep_new {g : Nat} {w0 w9 : World} {T : Ty} {A : Option Addr} {c : Nat}
    (ht : Turn (· = g) w0 w9) (hd : Deck w9 g) (hT : IsTy (· < w9.heap.size) w9 T (.agg #[.int .i64 T.kind, .slice A T.args.length c])) :
    TyStep g w0 T (.pointer (some ⟨w9.heap.size, 0, none⟩)) (w9.alloc (Obj.cells #[.int .i64 T.kind, .slice A T.args.length c] 30)) :=
  ⟨_, A, c, rfl, Blk.new _ _ _, ht.size, IsTy.keep (fun b h => ⟨h.1, by have := h.2; omega, by have := h.2; simp; omega⟩) (fun p hp => World.cell?_alloc_lt _ _ _ hp.2) _ (IsTy.good hd (fun _ h => h) T hT), hd.box _, ht.trans (Turn.alloc _ _)⟩

/-- What TypeOf returns: the type, or one error. -/
theorem typeTop_two {t : Tm} {g : List Ty} {U : Ty} {b : Bool} {k : Int} {s v : Value} {w : World} (hU : t.typeOf g = if b = true then .ok U else .error k) (hk : U.ok = true) (htab : Tab w) (hsz : t.bulk ≤ 390000) (hgs : nodesAll g ≤ 400000) (hlen : g.length ≤ 1000000) (hnil : g = [] → s = .slice none 0 0) (hg : TyR.Sl (· < w.heap.size) w g s)
    (hT : IsTm (· < w.heap.size) w t v) : Calls Tryd.prog 21 #[s, v] w fun e w' => ∃ T v' er, e = .returned (.tuple #[v', .int .i64 er]) ∧ (b = true ∧ T = U ∧ er = 0 ∨ b = false ∧ T = .mk 0 [] ∧ er = k) ∧ (T.ok = true ∨ T = .mk 0 []) ∧ IsTy (· < w'.heap.size) w' T v' ∧ Below w.heap.size w w' := by
  refine (typeTop_any t g s v w htab hsz hgs hlen hnil hg hT).mono ?_
  rintro e w' ⟨h1, h2⟩
  rw [hU] at h2
  cases b with
  | true =>
    simp only [if_true] at h2
    obtain ⟨v', h3, h4⟩ := h2
    exact ⟨U, v', 0, h3, .inl ⟨rfl, rfl, rfl⟩, .inl hk, h4, h1⟩
  | false =>
    simp only [if_false, Bool.false_eq_true] at h2
    exact ⟨.mk 0 [], _, k, h2, .inr ⟨rfl, rfl, rfl⟩, .inr rfl, IsTy.leaf _ _ _, h1⟩
theorem free_set2 {g n q : Nat} {w : World} (h : n < q) (a b : Value) : Turn (Free g n) w ((w.setCell ⟨q, 0, none⟩ a).setCell ⟨q, 1, none⟩ b) :=
  Turn.grown (only_set2 w q a b) (fun _ e => by cases e; exact .inr h)
theorem free_set5b {g R q : Nat} {w : World} {t : TypeId} {cs : Array Value} (hb : Blk w q t cs ∧ R ≤ q) (hR : g < R) (a b c d e : Value) :
    Turn (Free g (R - 1)) w (((((w.setCell ⟨q, 0, none⟩ a).setCell ⟨q, 1, none⟩ b).setCell ⟨q, 2, none⟩ c).setCell ⟨q, 3, none⟩ d).setCell ⟨q, 4, none⟩ e) :=
  free_set5 (by have := hb.2; omega) a b c d e
theorem free_set2b {g R q : Nat} {w : World} {t : TypeId} {cs : Array Value} (hb : Blk w q t cs ∧ R ≤ q) (hR : g < R) (a b : Value) : Turn (Free g (R - 1)) w ((w.setCell ⟨q, 0, none⟩ a).setCell ⟨q, 1, none⟩ b) :=
  free_set2 (by have := hb.2; omega) a b
/-- The type of the application, or its error, and a block of its own with it. -/
def RefStep (g : Nat) (w0 : World) (S U V : Ty) (x y : Value) (wx : World) : Prop :=
  ∃ T er, y = .int .i64 er ∧ (S.eqb V = true ∧ T = U ∧ er = 0 ∨ S.eqb V = false ∧ T = .mk 0 [] ∧ er = 7) ∧ TyStep g w0 T x wx
end Go.Proofs.YtieafbmabnohhaaDoor
