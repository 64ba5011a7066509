/- Plain values as trees in memory. -/
import Derived.Test.YtieafbmabnohhaaTerm
namespace Go.Proofs.Ytieafbmabnohhaa
open Go.RowKit

inductive Va where
  | mk (kind num : Int) (list : List Int) (args : List Va)

def Va.kind : Va → Int | .mk k _ _ _ => k
def Va.num : Va → Int | .mk _ n _ _ => n
def Va.list : Va → List Int | .mk _ _ l _ => l
def Va.args : Va → List Va | .mk _ _ _ l => l

mutual
/-- Nodes, and the numbers of their lists. -/
def Va.bulk : Va → Nat
  | .mk _ _ m l => 1 + m.length + bulkAllV l
def bulkAllV : List Va → Nat
  | [] => 0
  | t :: r => t.bulk + bulkAllV r
end

/-- Whole numbers in cells. -/
def ZR : Rep Int where
  n := 1
  t := 3
  is _ _ x vs := vs = [.int .i64 x]
  pos := by decide
  len h := by rw [h]; rfl
  one h := by rw [h]; intro u hu; simp at hu; rw [hu]; rfl
  keep _ _ h := h

mutual
/-- The value v is the plain value t, its lists lying in blocks of S. -/
def IsVa (S : Nat → Prop) (w : World) : Va → Value → Prop
  | .mk k i m l, v => ∃ B d A c, v = .agg #[.int .i64 k, .int .i64 i, .slice B m.length d, .slice A l.length c] ∧
      ZR.Sl S w m (.slice B m.length d) ∧ (l ≠ [] → ∃ a, A = some a ∧ S a.block ∧ AreVas S w l a)
def AreVas (S : Nat → Prop) (w : World) : List Va → Addr → Prop
  | [], _ => True
  | t :: r, a => (∃ vs : List Value, IsVa S w t (.agg vs.toArray) ∧ ∀ j u, vs[j]? = some u → w.cell? (a.add j) = some u) ∧ AreVas S w r (a.add 4)
end

mutual
theorem IsVa.keep {S S' : Nat → Prop} {w w' : World} (hS : ∀ b, S b → S' b) (hc : ∀ p : Addr, S p.block → w'.cell? p = w.cell? p) : ∀ (t : Va) {v : Value}, IsVa S w t v → IsVa S' w' t v
  | .mk k i m l, v, h => by
    unfold IsVa at h ⊢
    obtain ⟨B, d, A, c, hv, hT, h⟩ := h
    refine ⟨B, d, A, c, hv, Rep.Sl.keep hS hc hT, fun hl => ?_⟩
    obtain ⟨a, ha, hs, h⟩ := h hl
    exact ⟨a, ha, hS _ hs, AreVas.keep hS hc l hs h⟩
theorem AreVas.keep {S S' : Nat → Prop} {w w' : World} (hS : ∀ b, S b → S' b) (hc : ∀ p : Addr, S p.block → w'.cell? p = w.cell? p) : ∀ (l : List Va) {a : Addr}, S a.block → AreVas S w l a → AreVas S' w' l a
  | [], a, _, h => by unfold AreVas; trivial
  | t :: r, a, hs, h => by
    unfold AreVas at h ⊢
    obtain ⟨⟨vs, h1, h2⟩, hr⟩ := h
    exact ⟨⟨vs, IsVa.keep hS hc t h1, fun j u hu => (hc _ (by rw [add_block]; exact hs)).trans (h2 j u hu)⟩, AreVas.keep hS hc r (by rw [add_block]; exact hs) hr⟩
end

theorem IsVa.form {S : Nat → Prop} {w : World} {t : Va} {v : Value} (h : IsVa S w t v) :
    ∃ B d A c, v = .agg #[.int .i64 t.kind, .int .i64 t.num, .slice B t.list.length d, .slice A t.args.length c] := by
  cases t
  unfold IsVa at h
  obtain ⟨B, d, A, c, h, _, _⟩ := h
  exact ⟨B, d, A, c, h⟩

/-- Plain values in cells. -/
def VaR : Rep Va where
  n := 4
  t := 29
  is S w T vs := IsVa S w T (.agg vs.toArray)
  pos := by decide
  len h := by
    obtain ⟨B, d, A, c, e⟩ := h.form
    have := congrArg (fun x => match x with | Value.agg a => a.size | _ => 0) e
    simpa using this
  one h := by
    obtain ⟨B, d, A, c, e⟩ := h.form
    intro u hu
    simp only [Value.agg.injEq] at e
    have e' := congrArg Array.toList e
    simp only at e'
    rw [e'] at hu
    simp at hu
    rcases hu with rfl | rfl | rfl | rfl <;> rfl
  keep hS hc h := IsVa.keep hS hc _ h

theorem areVas_arr {S : Nat → Prop} {w : World} : ∀ {l : List Va} {a : Addr}, AreVas S w l a ↔ VaR.Arr S w l a
  | [], a => by
    unfold AreVas
    exact ⟨fun _ i hi => by simp at hi, fun _ => trivial⟩
  | t :: r, a => by
    unfold AreVas
    rw [areVas_arr (l := r)]
    constructor
    · rintro ⟨h, hr⟩ i hi
      cases i with
      | zero => rw [Nat.zero_mul, add_zero']; exact h
      | succ i =>
        have := hr i (by simpa using hi)
        rw [add_add'] at this
        rw [show (i + 1) * VaR.n = 4 + i * VaR.n from by show (i + 1) * 4 = 4 + i * 4; omega]
        simpa using this
    · intro h
      refine ⟨by have := h 0 (by simp); rw [Nat.zero_mul, add_zero'] at this; exact this, fun i hi => ?_⟩
      have := h (i + 1) (by simpa using hi)
      rw [add_add', show 4 + i * VaR.n = (i + 1) * VaR.n from by show 4 + i * 4 = (i + 1) * 4; omega]
      simpa using this

/-- A plain value is its node's fields and the list of its parts. -/
theorem isVa_iff {S : Nat → Prop} {w : World} {k i : Int} {m : List Int} {l : List Va} {x0 x1 x2 x3 : Value} : IsVa S w (.mk k i m l) (.agg #[x0, x1, x2, x3]) ↔
    x0 = .int .i64 k ∧ x1 = .int .i64 i ∧ ZR.Sl S w m x2 ∧ VaR.Sl S w l x3 := by
  unfold IsVa
  constructor
  · rintro ⟨B, d, A, c, e, hT, h⟩
    simp at e
    obtain ⟨rfl, rfl, rfl, rfl⟩ := e
    refine ⟨rfl, rfl, hT, A, c, rfl, fun hl => ?_⟩
    obtain ⟨a, ha, hs, h⟩ := h hl
    exact ⟨a, ha, hs, areVas_arr.1 h⟩
  · rintro ⟨rfl, rfl, hT, A, c, rfl, h⟩
    obtain ⟨B, d, rfl⟩ := hT.form
    refine ⟨B, d, A, c, rfl, hT, fun hl => ?_⟩
    obtain ⟨a, ha, hs, h⟩ := h hl
    exact ⟨a, ha, hs, areVas_arr.2 h⟩

theorem IsVa.parts {S : Nat → Prop} {w : World} {t : Va} {v : Value} (h : IsVa S w t v) : ∃ B d A c, v = .agg #[.int .i64 t.kind, .int .i64 t.num, .slice B t.list.length d, .slice A t.args.length c] ∧
    ZR.Sl S w t.list (.slice B t.list.length d) ∧ VaR.Sl S w t.args (.slice A t.args.length c) := by
  obtain ⟨B, d, A, c, rfl⟩ := h.form
  refine ⟨B, d, A, c, rfl, ?_⟩
  cases t
  exact (isVa_iff.1 h).2.2

/-- The cells of a plain value at an address, as the walk asks for them. -/
theorem at_va {S : Nat → Prop} {w : World} {t : Va} {a : Addr} (h : VaR.At S w t a) : ∃ B d A c,
    w.cell? a = some (.int .i64 t.kind) ∧ w.cell? ⟨a.block, a.off + 1, none⟩ = some (.int .i64 t.num) ∧ w.cell? ⟨a.block, a.off + 2, none⟩ = some (.slice B t.list.length d) ∧
    w.cell? ⟨a.block, a.off + 3, none⟩ = some (.slice A t.args.length c) ∧ IsVa S w t (.agg #[.int .i64 t.kind, .int .i64 t.num, .slice B t.list.length d, .slice A t.args.length c]) := by
  obtain ⟨vs, h1, h2⟩ := h
  have h1' : IsVa S w t (.agg vs.toArray) := h1
  obtain ⟨B, d, A, c, e⟩ := h1'.form
  simp only [Value.agg.injEq] at e
  have e' := congrArg Array.toList e
  simp only at e'
  subst e'
  refine ⟨B, d, A, c, by simpa [add_zero'] using h2 0 _ rfl, ?_, ?_, ?_, h1'⟩
  · simpa [Addr.add] using h2 1 _ rfl
  · simpa [Addr.add] using h2 2 _ rfl
  · simpa [Addr.add] using h2 3 _ rfl
theorem at_z {S : Nat → Prop} {w : World} {x : Int} {a : Addr} (h : ZR.At S w x a) : w.cell? a = some (.int .i64 x) := by
  obtain ⟨vs, h1, h2⟩ := h
  have h1' : vs = [.int .i64 x] := h1
  subst h1'
  simpa [add_zero'] using h2 0 _ rfl

theorem bulkV_pos (t : Va) : 1 ≤ t.bulk := by cases t; simp only [Va.bulk]; omega
theorem bulkAllV_get : ∀ (l : List Va) (i : Nat) (h : i < l.length), l[i].bulk ≤ bulkAllV l
  | [], i, h => by simp at h
  | t :: r, 0, h => by simp [bulkAllV]
  | t :: r, i + 1, h => by
    have := bulkAllV_get r i (by simpa using h)
    simp only [bulkAllV, List.getElem_cons_succ]
    omega
theorem bulkAllV_len : ∀ (l : List Va), l.length ≤ bulkAllV l
  | [] => by simp [bulkAllV]
  | t :: r => by
    have := bulkAllV_len r
    have := bulkV_pos t
    simp only [bulkAllV, List.length_cons]
    omega
theorem bulkAllV_append : ∀ (l r : List Va), bulkAllV (l ++ r) = bulkAllV l + bulkAllV r
  | [], r => by simp [bulkAllV]
  | t :: l, r => by simp only [List.cons_append, bulkAllV, bulkAllV_append l r]; omega
theorem bulkV_eq (t : Va) : t.bulk = 1 + t.list.length + bulkAllV t.args := by cases t; rfl

theorem info_value : (Try.prog.info? 29).map (fun i => (i.zero, i.size, i.bytes)) = some (some (.agg #[.int .i64 0, .int .i64 0, .slice none 0 0, .slice none 0 0]), 4, 64) := by kernel_rfl

theorem Blk.facts4 {w : World} {g : Nat} {t : TypeId} {a b c d : Value} (h : Blk w g t #[a, b, c, d]) :
    w.cell? ⟨g, 0, none⟩ = some a ∧ w.cell? ⟨g, 1, none⟩ = some b ∧ w.cell? ⟨g, 2, none⟩ = some c ∧ w.cell? ⟨g, 3, none⟩ = some d ∧
      w.frozen? ⟨g, 0, none⟩ = false ∧ w.frozen? ⟨g, 1, none⟩ = false ∧ w.frozen? ⟨g, 2, none⟩ = false ∧ w.frozen? ⟨g, 3, none⟩ = false :=
  ⟨by simpa using h.cell 0, by simpa using h.cell 1, by simpa using h.cell 2, by simpa using h.cell 3, h.frozen 0, h.frozen 1, h.frozen 2, h.frozen 3⟩

theorem Blk.set4 {w : World} {g : Nat} {t : TypeId} {x0 x1 x2 x3 : Value} (h : Blk w g t #[x0, x1, x2, x3]) (a b c d : Value) :
    Blk ((((w.setCell ⟨g, 0, none⟩ a).setCell ⟨g, 1, none⟩ b).setCell ⟨g, 2, none⟩ c).setCell ⟨g, 3, none⟩ d) g t #[a, b, c, d] := by
  simpa using (((h.set_ 0 a).set_ 1 b).set_ 2 c).set_ 3 d
theorem only_set4 (w : World) (g : Nat) (a b c d : Value) : w.grownBy ((((w.setCell ⟨g, 0, none⟩ a).setCell ⟨g, 1, none⟩ b).setCell ⟨g, 2, none⟩ c).setCell ⟨g, 3, none⟩ d) (some g) :=
  only_setCell (only_setCell (only_setCell (only_setCell (only_refl w (some g)) (p := ⟨g, 0, none⟩) (.inl rfl) a) (p := ⟨g, 1, none⟩) (.inl rfl) b) (p := ⟨g, 2, none⟩) (.inl rfl) c) (p := ⟨g, 3, none⟩) (.inl rfl) d
theorem box_tv (w : World) (x0 x1 y0 y1 y2 y3 : Value) : ∃ W, W = (w.alloc (Obj.cells #[x0, x1] 33)).alloc (Obj.cells #[y0, y1, y2, y3] 29) ∧
    Below w.heap.size w W ∧ W.heap.size = w.heap.size + 2 ∧ Blk W w.heap.size 33 #[x0, x1] ∧ Blk W (w.heap.size + 1) 29 #[y0, y1, y2, y3] := by
  have b1 := (Below.refl w.heap.size w).alloc (Nat.le_refl _) (Obj.cells #[x0, x1] 33)
  have k1 := Blk.new w 33 #[x0, x1]
  have z1 := World.size_alloc w (Obj.cells #[x0, x1] 33)
  generalize w.alloc (Obj.cells #[x0, x1] 33) = W1 at b1 z1 k1 ⊢
  have k2 := Blk.new W1 29 #[y0, y1, y2, y3]
  rw [z1] at k2
  exact ⟨_, rfl, b1.alloc b1.size _, by simp [z1], k1.alloc _, k2⟩

/-! What is right of a plain value. -/
/-- A node is as it must be, but for what its parts are. -/
def Va.formed : Va → Bool
  | .mk k n m l => (k == 1 && decide (0 ≤ n) && m.isEmpty && l.isEmpty) || (k == 2 && n == 0 && m.all (fun x => decide (0 ≤ x)) && l.isEmpty) ||
      (k == 3 && n == 0 && m.isEmpty && l.length == 2) || (k == 4 && n == 0 && m.isEmpty && l.isEmpty)
mutual
def Va.nodes : Va → Nat
  | .mk _ _ _ l => 1 + nodesAllV l
def nodesAllV : List Va → Nat
  | [] => 0
  | t :: r => t.nodes + nodesAllV r
end
mutual
def Va.ok : Va → Bool
  | .mk k n m l => (Va.mk k n m l).formed && okAllV l
def okAllV : List Va → Bool
  | [] => true
  | t :: r => t.ok && okAllV r
end
theorem nodesV_eq (t : Va) : t.nodes = 1 + nodesAllV t.args := by cases t; rfl
theorem okV_eq (t : Va) : t.ok = (t.formed && okAllV t.args) := by cases t; rfl
theorem nodesAllV_append : ∀ (l r : List Va), nodesAllV (l ++ r) = nodesAllV l + nodesAllV r
  | [], r => by simp [nodesAllV]
  | t :: l, r => by simp only [List.cons_append, nodesAllV, nodesAllV_append l r]; omega
theorem okAllV_append : ∀ (l r : List Va), okAllV (l ++ r) = (okAllV l && okAllV r)
  | [], r => by simp [okAllV]
  | t :: l, r => by simp only [List.cons_append, okAllV, okAllV_append l r, Bool.and_assoc]
mutual
theorem nodesV_bulk : ∀ t : Va, t.nodes ≤ t.bulk
  | .mk k i m l => by have := nodesAllV_bulk l; simp only [Va.nodes, Va.bulk]; omega
theorem nodesAllV_bulk : ∀ l : List Va, nodesAllV l ≤ bulkAllV l
  | [] => by simp [nodesAllV, bulkAllV]
  | t :: r => by have := nodesV_bulk t; have := nodesAllV_bulk r; simp only [nodesAllV, bulkAllV]; omega
end
theorem nodesV_pos (t : Va) : 1 ≤ t.nodes := by rw [nodesV_eq]; omega
/-- The error of Check. -/
def Va.err (t : Va) : Int := if t.ok then if t.nodes ≤ 64 then 0 else 4 else 2
end Go.Proofs.Ytieafbmabnohhaa
