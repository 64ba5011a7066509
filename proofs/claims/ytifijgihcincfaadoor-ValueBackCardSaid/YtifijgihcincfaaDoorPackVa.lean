/- Plain values as trees in memory. -/
import Derived.Test.YtifijgihcincfaaDoorTerm
import Derived.Test.YtifijgihcincfaaDoorNumTm
import Derived.Test.YtifijgihcincfaaDoorSizeDef
import Derived.Test.YtifijgihcincfaaDoorMakeT
import Derived.Sort.LoopGhostIn
import Derived.Test.YtifijgihcincfaaDoorRangeQ
import Derived.Test.YtifijgihcincfaaDoorMarks
import Derived.Stop.RegionWithIn
import Derived.Deep.RegionHeld3
import Derived.Test.YtifijgihcincfaaDoorStepCall
import Derived.Test.YtifijgihcincfaaDoorRefSame
namespace Go.Proofs.YtifijgihcincfaaDoor
open Go.RowKit

inductive Va where
  | mk (kind num : Int) (list : List Int) (args : List Va)

def Va.kind : Va → Int | .mk k _ _ _ => k
def Va.num : Va → Int | .mk _ n _ _ => n
def Va.list : Va → List Int | .mk _ _ l _ => l
def Va.args : Va → List Va | .mk _ _ _ l => l

mutual
/-- Nodes, and the numbers of their lists. -/
def Va.bulk : Va → Nat
  | .mk _ _ m l => 1 + m.length + bulkAllV l
def bulkAllV : List Va → Nat
  | [] => 0
  | t :: r => t.bulk + bulkAllV r
end

/-- Whole numbers in cells. -/
def ZR : Rep Int where
  n := 1
  t := 3
  is _ _ x vs := vs = [.int .i64 x]
  pos := by decide
  len h := by rw [h]; rfl
  one h := by rw [h]; intro u hu; simp at hu; rw [hu]; rfl
  keep _ _ h := h

mutual
/-- The value v is the plain value t, its lists lying in blocks of S. -/
def IsVa (S : Nat → Prop) (w : World) : Va → Value → Prop
  | .mk k i m l, v => ∃ B d A c, v = .agg #[.int .i64 k, .int .i64 i, .slice B m.length d, .slice A l.length c] ∧
      ZR.Sl S w m (.slice B m.length d) ∧ (l ≠ [] → ∃ a, A = some a ∧ S a.block ∧ AreVas S w l a)
def AreVas (S : Nat → Prop) (w : World) : List Va → Addr → Prop
  | [], _ => True
  | t :: r, a => (∃ vs : List Value, IsVa S w t (.agg vs.toArray) ∧ ∀ j u, vs[j]? = some u → w.cell? (a.add j) = some u) ∧ AreVas S w r (a.add 4)
end

mutual
theorem IsVa.keep {S S' : Nat → Prop} {w w' : World} (hS : ∀ b, S b → S' b) (hc : ∀ p : Addr, S p.block → w'.cell? p = w.cell? p) : ∀ (t : Va) {v : Value}, IsVa S w t v → IsVa S' w' t v
  | .mk k i m l, v, h => by
    unfold IsVa at h ⊢
    obtain ⟨B, d, A, c, hv, hT, h⟩ := h
    refine ⟨B, d, A, c, hv, Rep.Sl.keep hS hc hT, fun hl => ?_⟩
    obtain ⟨a, ha, hs, h⟩ := h hl
    exact ⟨a, ha, hS _ hs, AreVas.keep hS hc l hs h⟩
theorem AreVas.keep {S S' : Nat → Prop} {w w' : World} (hS : ∀ b, S b → S' b) (hc : ∀ p : Addr, S p.block → w'.cell? p = w.cell? p) : ∀ (l : List Va) {a : Addr}, S a.block → AreVas S w l a → AreVas S' w' l a
  | [], a, _, h => by unfold AreVas; trivial
  | t :: r, a, hs, h => by
    unfold AreVas at h ⊢
    obtain ⟨⟨vs, h1, h2⟩, hr⟩ := h
    exact ⟨⟨vs, IsVa.keep hS hc t h1, fun j u hu => (hc _ (by rw [add_block]; exact hs)).trans (h2 j u hu)⟩, AreVas.keep hS hc r (by rw [add_block]; exact hs) hr⟩
end

theorem IsVa.form {S : Nat → Prop} {w : World} {t : Va} {v : Value} (h : IsVa S w t v) :
    ∃ B d A c, v = .agg #[.int .i64 t.kind, .int .i64 t.num, .slice B t.list.length d, .slice A t.args.length c] := by
  cases t
  unfold IsVa at h
  obtain ⟨B, d, A, c, h, _, _⟩ := h
  exact ⟨B, d, A, c, h⟩

/-- Plain values in cells. -/
def VaR : Rep Va where
  n := 4
  t := 45
  is S w T vs := IsVa S w T (.agg vs.toArray)
  pos := by decide
  len h := by
    obtain ⟨B, d, A, c, e⟩ := h.form
    have := congrArg (fun x => match x with | Value.agg a => a.size | _ => 0) e
    simpa using this
  one h := by
    obtain ⟨B, d, A, c, e⟩ := h.form
    intro u hu
    simp only [Value.agg.injEq] at e
    have e' := congrArg Array.toList e
    simp only at e'
    rw [e'] at hu
    simp at hu
    rcases hu with rfl | rfl | rfl | rfl <;> rfl
  keep hS hc h := IsVa.keep hS hc _ h

theorem areVas_arr {S : Nat → Prop} {w : World} : ∀ {l : List Va} {a : Addr}, AreVas S w l a ↔ VaR.Arr S w l a
  | [], a => by
    unfold AreVas
    exact ⟨fun _ i hi => by simp at hi, fun _ => trivial⟩
  | t :: r, a => by
    unfold AreVas
    rw [areVas_arr (l := r)]
    constructor
    · rintro ⟨h, hr⟩ i hi
      cases i with
      | zero => rw [Nat.zero_mul, add_zero']; exact h
      | succ i =>
        have := hr i (by simpa using hi)
        rw [add_add'] at this
        rw [show (i + 1) * VaR.n = 4 + i * VaR.n from by show (i + 1) * 4 = 4 + i * 4; omega]
        simpa using this
    · intro h
      refine ⟨by have := h 0 (by simp); rw [Nat.zero_mul, add_zero'] at this; exact this, fun i hi => ?_⟩
      have := h (i + 1) (by simpa using hi)
      rw [add_add', show 4 + i * VaR.n = (i + 1) * VaR.n from by show 4 + i * 4 = (i + 1) * 4; omega]
      simpa using this

/-- A plain value is its node's fields and the list of its parts. -/
theorem isVa_iff {S : Nat → Prop} {w : World} {k i : Int} {m : List Int} {l : List Va} {x0 x1 x2 x3 : Value} : IsVa S w (.mk k i m l) (.agg #[x0, x1, x2, x3]) ↔
    x0 = .int .i64 k ∧ x1 = .int .i64 i ∧ ZR.Sl S w m x2 ∧ VaR.Sl S w l x3 := by
  unfold IsVa
  constructor
  · rintro ⟨B, d, A, c, e, hT, h⟩
    simp at e
    obtain ⟨rfl, rfl, rfl, rfl⟩ := e
    refine ⟨rfl, rfl, hT, A, c, rfl, fun hl => ?_⟩
    obtain ⟨a, ha, hs, h⟩ := h hl
    exact ⟨a, ha, hs, areVas_arr.1 h⟩
  · rintro ⟨rfl, rfl, hT, A, c, rfl, h⟩
    obtain ⟨B, d, rfl⟩ := hT.form
    refine ⟨B, d, A, c, rfl, hT, fun hl => ?_⟩
    obtain ⟨a, ha, hs, h⟩ := h hl
    exact ⟨a, ha, hs, areVas_arr.2 h⟩

theorem IsVa.parts {S : Nat → Prop} {w : World} {t : Va} {v : Value} (h : IsVa S w t v) : ∃ B d A c, v = .agg #[.int .i64 t.kind, .int .i64 t.num, .slice B t.list.length d, .slice A t.args.length c] ∧
    ZR.Sl S w t.list (.slice B t.list.length d) ∧ VaR.Sl S w t.args (.slice A t.args.length c) := by
  obtain ⟨B, d, A, c, rfl⟩ := h.form
  refine ⟨B, d, A, c, rfl, ?_⟩
  cases t
  exact (isVa_iff.1 h).2.2

/-- The cells of a plain value at an address, as the walk asks for them. -/
theorem at_va {S : Nat → Prop} {w : World} {t : Va} {a : Addr} (h : VaR.At S w t a) : ∃ B d A c,
    w.cell? a = some (.int .i64 t.kind) ∧ w.cell? ⟨a.block, a.off + 1, none⟩ = some (.int .i64 t.num) ∧ w.cell? ⟨a.block, a.off + 2, none⟩ = some (.slice B t.list.length d) ∧
    w.cell? ⟨a.block, a.off + 3, none⟩ = some (.slice A t.args.length c) ∧ IsVa S w t (.agg #[.int .i64 t.kind, .int .i64 t.num, .slice B t.list.length d, .slice A t.args.length c]) := by
  obtain ⟨vs, h1, h2⟩ := h
  have h1' : IsVa S w t (.agg vs.toArray) := h1
  obtain ⟨B, d, A, c, e⟩ := h1'.form
  simp only [Value.agg.injEq] at e
  have e' := congrArg Array.toList e
  simp only at e'
  subst e'
  refine ⟨B, d, A, c, by simpa [add_zero'] using h2 0 _ rfl, ?_, ?_, ?_, h1'⟩
  · simpa [Addr.add] using h2 1 _ rfl
  · simpa [Addr.add] using h2 2 _ rfl
  · simpa [Addr.add] using h2 3 _ rfl
theorem at_z {S : Nat → Prop} {w : World} {x : Int} {a : Addr} (h : ZR.At S w x a) : w.cell? a = some (.int .i64 x) := by
  obtain ⟨vs, h1, h2⟩ := h
  have h1' : vs = [.int .i64 x] := h1
  subst h1'
  simpa [add_zero'] using h2 0 _ rfl

theorem bulkV_pos (t : Va) : 1 ≤ t.bulk := by cases t; simp only [Va.bulk]; omega
theorem bulkAllV_get : ∀ (l : List Va) (i : Nat) (h : i < l.length), l[i].bulk ≤ bulkAllV l
  | [], i, h => by simp at h
  | t :: r, 0, h => by simp [bulkAllV]
  | t :: r, i + 1, h => by
    have := bulkAllV_get r i (by simpa using h)
    simp only [bulkAllV, List.getElem_cons_succ]
    omega
theorem bulkAllV_len : ∀ (l : List Va), l.length ≤ bulkAllV l
  | [] => by simp [bulkAllV]
  | t :: r => by
    have := bulkAllV_len r
    have := bulkV_pos t
    simp only [bulkAllV, List.length_cons]
    omega
theorem bulkAllV_append : ∀ (l r : List Va), bulkAllV (l ++ r) = bulkAllV l + bulkAllV r
  | [], r => by simp [bulkAllV]
  | t :: l, r => by simp only [List.cons_append, bulkAllV, bulkAllV_append l r]; omega
theorem bulkV_eq (t : Va) : t.bulk = 1 + t.list.length + bulkAllV t.args := by cases t; rfl

theorem info_value : (Tryd.prog.info? 45).map (fun i => (i.zero, i.size, i.bytes)) = some (some (.agg #[.int .i64 0, .int .i64 0, .slice none 0 0, .slice none 0 0]), 4, 64) := by kernel_rfl

theorem Blk.facts4 {w : World} {g : Nat} {t : TypeId} {a b c d : Value} (h : Blk w g t #[a, b, c, d]) :
    w.cell? ⟨g, 0, none⟩ = some a ∧ w.cell? ⟨g, 1, none⟩ = some b ∧ w.cell? ⟨g, 2, none⟩ = some c ∧ w.cell? ⟨g, 3, none⟩ = some d ∧
      w.frozen? ⟨g, 0, none⟩ = false ∧ w.frozen? ⟨g, 1, none⟩ = false ∧ w.frozen? ⟨g, 2, none⟩ = false ∧ w.frozen? ⟨g, 3, none⟩ = false :=
  ⟨by simpa using h.cell 0, by simpa using h.cell 1, by simpa using h.cell 2, by simpa using h.cell 3, h.frozen 0, h.frozen 1, h.frozen 2, h.frozen 3⟩

theorem Blk.set4 {w : World} {g : Nat} {t : TypeId} {x0 x1 x2 x3 : Value} (h : Blk w g t #[x0, x1, x2, x3]) (a b c d : Value) :
    Blk ((((w.setCell ⟨g, 0, none⟩ a).setCell ⟨g, 1, none⟩ b).setCell ⟨g, 2, none⟩ c).setCell ⟨g, 3, none⟩ d) g t #[a, b, c, d] := by
  simpa using (((h.set_ 0 a).set_ 1 b).set_ 2 c).set_ 3 d
theorem only_set4 (w : World) (g : Nat) (a b c d : Value) : w.grownBy ((((w.setCell ⟨g, 0, none⟩ a).setCell ⟨g, 1, none⟩ b).setCell ⟨g, 2, none⟩ c).setCell ⟨g, 3, none⟩ d) (some g) :=
  only_setCell (only_setCell (only_setCell (only_setCell (only_refl w (some g)) (p := ⟨g, 0, none⟩) (.inl rfl) a) (p := ⟨g, 1, none⟩) (.inl rfl) b) (p := ⟨g, 2, none⟩) (.inl rfl) c) (p := ⟨g, 3, none⟩) (.inl rfl) d
theorem box_tv (w : World) (x0 x1 y0 y1 y2 y3 : Value) : ∃ W, W = (w.alloc (Obj.cells #[x0, x1] 30)).alloc (Obj.cells #[y0, y1, y2, y3] 45) ∧
    Below w.heap.size w W ∧ W.heap.size = w.heap.size + 2 ∧ Blk W w.heap.size 30 #[x0, x1] ∧ Blk W (w.heap.size + 1) 45 #[y0, y1, y2, y3] := by
  have b1 := (Below.refl w.heap.size w).alloc (Nat.le_refl _) (Obj.cells #[x0, x1] 30)
  have k1 := Blk.new w 30 #[x0, x1]
  have z1 := World.size_alloc w (Obj.cells #[x0, x1] 30)
  generalize w.alloc (Obj.cells #[x0, x1] 30) = W1 at b1 z1 k1 ⊢
  have k2 := Blk.new W1 45 #[y0, y1, y2, y3]
  rw [z1] at k2
  exact ⟨_, rfl, b1.alloc b1.size _, by simp [z1], k1.alloc _, k2⟩

/-! What is right of a plain value. -/
/-- A node is as it must be, but for what its parts are. -/
def Va.formed : Va → Bool
  | .mk k n m l => (k == 1 && decide (0 ≤ n) && m.isEmpty && l.isEmpty) || (k == 2 && n == 0 && m.all (fun x => decide (0 ≤ x)) && l.isEmpty) ||
      (k == 3 && n == 0 && m.isEmpty && l.length == 2) || (k == 4 && n == 0 && m.isEmpty && l.isEmpty)
mutual
def Va.nodes : Va → Nat
  | .mk _ _ _ l => 1 + nodesAllV l
def nodesAllV : List Va → Nat
  | [] => 0
  | t :: r => t.nodes + nodesAllV r
end
mutual
def Va.ok : Va → Bool
  | .mk k n m l => (Va.mk k n m l).formed && okAllV l
def okAllV : List Va → Bool
  | [] => true
  | t :: r => t.ok && okAllV r
end
theorem nodesV_eq (t : Va) : t.nodes = 1 + nodesAllV t.args := by cases t; rfl
theorem okV_eq (t : Va) : t.ok = (t.formed && okAllV t.args) := by cases t; rfl
theorem nodesAllV_append : ∀ (l r : List Va), nodesAllV (l ++ r) = nodesAllV l + nodesAllV r
  | [], r => by simp [nodesAllV]
  | t :: l, r => by simp only [List.cons_append, nodesAllV, nodesAllV_append l r]; omega
theorem okAllV_append : ∀ (l r : List Va), okAllV (l ++ r) = (okAllV l && okAllV r)
  | [], r => by simp [okAllV]
  | t :: l, r => by simp only [List.cons_append, okAllV, okAllV_append l r, Bool.and_assoc]
mutual
theorem nodesV_bulk : ∀ t : Va, t.nodes ≤ t.bulk
  | .mk k i m l => by have := nodesAllV_bulk l; simp only [Va.nodes, Va.bulk]; omega
theorem nodesAllV_bulk : ∀ l : List Va, nodesAllV l ≤ bulkAllV l
  | [] => by simp [nodesAllV, bulkAllV]
  | t :: r => by have := nodesV_bulk t; have := nodesAllV_bulk r; simp only [nodesAllV, bulkAllV]; omega
end
theorem nodesV_pos (t : Va) : 1 ≤ t.nodes := by rw [nodesV_eq]; omega
/-- The error of Check. -/
def Va.err (t : Va) : Int := if t.ok then if t.nodes ≤ 64 then 0 else 4 else 2
end Go.Proofs.YtifijgihcincfaaDoor
namespace Go.Proofs.YtifijgihcincfaaDoor
open Go.RowKit

def listTm : List Int → Tm
  | [] => .mk 7 0 .zero []
  | x :: r => .mk 8 0 .zero [numTm x.toNat, listTm r]
mutual
def Va.term : Va → Tm
  | .mk k n m l => if k = 1 then numTm n.toNat else if k = 2 then listTm m else if k = 3 then .mk 10 0 .zero (termsV l) else .mk 13 0 .zero []
def termsV : List Va → List Tm
  | [] => []
  | t :: r => t.term :: termsV r
end
/-- The sum of a list's numbers, each with two nodes more. -/
def intsN : List Int → Int
  | [] => 0
  | x :: r => 2 + min x 4096 + intsN r
mutual
/-- What the program counts. -/
def Va.weight : Va → Int
  | .mk _ n m l => 1 + min n 4096 + intsN m + weightAll l
def weightAll : List Va → Int
  | [] => 0
  | t :: r => t.weight + weightAll r
end
theorem termsV_length : ∀ l : List Va, (termsV l).length = l.length
  | [] => rfl
  | t :: r => by simp [termsV, termsV_length r]
theorem intsN_append : ∀ (l r : List Int), intsN (l ++ r) = intsN l + intsN r
  | [], r => by simp [intsN]
  | t :: l, r => by simp only [List.cons_append, intsN, intsN_append l r]; omega
theorem weightAll_append : ∀ (l r : List Va), weightAll (l ++ r) = weightAll l + weightAll r
  | [], r => by simp [weightAll]
  | t :: l, r => by simp only [List.cons_append, weightAll, weightAll_append l r]; omega

theorem numTm_size : ∀ n : Nat, (numTm n).size = n + 1
  | 0 => by simp [numTm, Tm.size, sizeAllT]
  | n + 1 => by simp only [numTm, Tm.size, sizeAllT, numTm_size n]; omega
theorem numTm_bulk : ∀ n : Nat, (numTm n).bulk = 2 * (n + 1)
  | 0 => by simp [numTm, Tm.bulk, bulkAll, Ty.zero, Ty.nodes, nodesAll]
  | n + 1 => by simp only [numTm, Tm.bulk, bulkAll, numTm_bulk n, Ty.zero, Ty.nodes, nodesAll]; omega
theorem listTm_size : ∀ l : List Int, (∀ x ∈ l, 0 ≤ x ∧ x ≤ 4096) → ((listTm l).size : Int) = 1 + intsN l
  | [], _ => by simp [listTm, Tm.size, sizeAllT, intsN]
  | x :: r, h => by
    have h0 := h x (by simp)
    have h1 := listTm_size r (fun y hy => h y (by simp [hy]))
    have h2 := numTm_size x.toNat
    simp only [listTm, Tm.size, sizeAllT, intsN, h2]
    omega

/-! The values that are made. -/
def num5 (V : Va) : Prop := ∃ n : Nat, n ≤ 4 ∧ V = .mk 1 n [] []
def list4 (V : Va) : Prop := ∃ m : List Int, m.length ≤ 3 ∧ (∀ x ∈ m, 0 ≤ x ∧ x ≤ 3) ∧ V = .mk 2 0 m []
def leafV (T : Ty) (V : Va) : Prop := (T = .mk 1 [] ∧ num5 V) ∨ (T = .mk 2 [] ∧ list4 V) ∨ (T = .mk 5 [] ∧ V = .mk 4 0 [] [])
def MadeV (T : Ty) (V : Va) : Prop := leafV T V ∨ ∃ A B a b, T = .mk 3 [A, B] ∧ leafV A a ∧ leafV B b ∧ V = .mk 3 0 [] [a, b]

theorem intsN_bound : ∀ m : List Int, (∀ x ∈ m, 0 ≤ x ∧ x ≤ 3) → 0 ≤ intsN m ∧ intsN m ≤ 5 * m.length
  | [], _ => by simp [intsN]
  | x :: r, h => by
    have h0 := h x (by simp)
    have h1 := intsN_bound r (fun y hy => h y (by simp [hy]))
    simp only [intsN, List.length_cons]
    omega
/-- What is known of a made value. -/
structure SmallV (V : Va) (k : Nat) : Prop where
  ok : V.ok = true
  nodes : V.nodes ≤ k
  bulk : V.bulk ≤ 4 * k
  pos : 1 ≤ V.weight
  weight : V.weight ≤ 16 * k
  size : (V.term.size : Int) = V.weight
theorem leafV_small {T : Ty} {V : Va} (h : leafV T V) : SmallV V 1 := by
  rcases h with ⟨_, n, hn, rfl⟩ | ⟨_, m, hl, hm, rfl⟩ | ⟨_, rfl⟩
  · refine ⟨by simp [Va.ok, okAllV, Va.formed], by simp [Va.nodes, nodesAllV], by simp [Va.bulk, bulkAllV], ?_, ?_, ?_⟩
    · simp only [Va.weight, intsN, weightAll]; omega
    · simp only [Va.weight, intsN, weightAll]; omega
    · simp only [Va.weight, intsN, weightAll, Va.term, if_pos, numTm_size, Int.toNat_natCast]; omega
  · have h1 := intsN_bound m hm
    have h2 := listTm_size m (fun x hx => by have := hm x hx; omega)
    refine ⟨?_, by simp [Va.nodes, nodesAllV], by simp only [Va.bulk, bulkAllV]; omega, ?_, ?_, ?_⟩
    · have h3 : (m.all fun x => decide (0 ≤ x)) = true := by rw [List.all_eq_true]; intro x hx; simpa using (hm x hx).1
      simp [Va.ok, okAllV, Va.formed, h3]
    · simp only [Va.weight, weightAll]; omega
    · simp only [Va.weight, weightAll]; omega
    · rw [show (Va.mk 2 0 m []).term = listTm m from by simp [Va.term]]
      rw [h2]
      simp only [Va.weight, weightAll]; omega
  · refine ⟨by simp [Va.ok, okAllV, Va.formed], by simp [Va.nodes, nodesAllV], by simp [Va.bulk, bulkAllV], ?_, ?_, ?_⟩
    · simp only [Va.weight, intsN, weightAll]; omega
    · simp only [Va.weight, intsN, weightAll]; omega
    · rw [show (Va.mk 4 0 [] []).term = .mk 13 0 .zero [] from by simp [Va.term]]
      simp only [Va.weight, intsN, weightAll, Tm.size, sizeAllT]; omega
theorem madeV_small {T : Ty} {V : Va} (h : MadeV T V) : SmallV V 3 := by
  rcases h with h | ⟨A, B, a, b, _, ha, hb, rfl⟩
  · obtain ⟨h1, h2, h3, h4, h5, h6⟩ := leafV_small h
    exact ⟨h1, by omega, by omega, h4, by omega, h6⟩
  · obtain ⟨a1, a2, a3, a4, a5, a6⟩ := leafV_small ha
    obtain ⟨b1, b2, b3, b4, b5, b6⟩ := leafV_small hb
    refine ⟨by simp [Va.ok, okAllV, a1, b1, Va.formed], by simp only [Va.nodes, nodesAllV]; omega, by simp only [Va.bulk, bulkAllV, List.length_nil]; omega, ?_, ?_, ?_⟩
    · simp only [Va.weight, weightAll, intsN]; omega
    · simp only [Va.weight, weightAll, intsN]; omega
    · rw [show (Va.mk 3 0 [] [a, b]).term = .mk 10 0 .zero [a.term, b.term] from by simp [Va.term, termsV]]
      simp only [Va.weight, weightAll, intsN, Tm.size, sizeAllT]
      omega
end Go.Proofs.YtifijgihcincfaaDoor
namespace Go.Proofs.YtifijgihcincfaaDoor
open Go.RowKit

theorem negative_any (x : Int) (w : World) : Calls Tryd.prog 95 #[.int .i64 x] w fun e w' => e = .returned (.bool (decide (x < 0))) ∧ w = w' := by
  go_enter Tryd.func95, Tryd.ntmps95
  go_wp2_with fail
  go_ret
  exact ⟨rfl, rfl⟩

def MinusOne (w : World) (e : Ending) (w' : World) : Prop := e = .returned (.int .i64 (-1)) ∧ w = w'
/-- A list without negative numbers has no such place. -/
theorem indexFunc_none (m : List Int) (A : Option Addr) (c : Nat) (S : Nat → Prop) (w : World) (hm : ∀ x ∈ m, 0 ≤ x) (hl : m.length ≤ 400000) (hs : ZR.Sl S w m (.slice A m.length c)) :
    Calls Tryd.prog 110 #[.slice A m.length c, .func (.func 95) #[] #[]] w (MinusOne w) := by
  have HM := Lib.hid hm
  have HS := Lib.hid hs
  clear hm hs
  go_enter Tryd.func110, Tryd.ntmps110
  go_wp2_with fail
  go_loop [8] (fun i => ∃ j : Nat, j ≤ m.length ∧ i = .int .i64 j) (fun i => m.length - (intOf i).toNat)
  case atStart => exact ⟨0, Nat.zero_le _, rfl⟩
  case round =>
    obtain ⟨j, hj, rfl⟩ := hrel
    by_cases hlt : j < m.length
    · obtain ⟨a, rfl, ha, hat⟩ := HS.out.get j hlt
      have q0 := at_z hat
      simp only [show ZR.n = 1 from rfl, Nat.mul_one] at q0
      have hx : decide (m[j] < 0) = false := by have := HM.out _ (List.getElem_mem hlt); simp; omega
      go_wp2_with fail
      refine (negative_any _ _).mono ?_
      rintro e w' ⟨rfl, rfl⟩
      rw [hx]
      go_wp2_with fail
      go_round
      case rel => exact ⟨j + 1, by omega, by go_num⟩
      case measure => simp [intOf]; omega
    · go_wp2_with fail
      go_ret
      exact ⟨rfl, rfl⟩

theorem containsFunc_none (m : List Int) (A : Option Addr) (c : Nat) (S : Nat → Prop) (w : World) (hm : ∀ x ∈ m, 0 ≤ x) (hl : m.length ≤ 400000) (hs : ZR.Sl S w m (.slice A m.length c)) :
    Calls Tryd.prog 94 #[.slice A m.length c, .func (.func 95) #[] #[]] w fun e w' => e = .returned (.bool false) ∧ w = w' := by
  have HM := Lib.hid (And.intro hm (And.intro hl hs))
  clear hm hl hs
  go_enter Tryd.func94, Tryd.ntmps94
  go_wp2_with fail
  refine (indexFunc_none m A c S w HM.out.1 HM.out.2.1 HM.out.2.2).mono ?_
  rintro e w' ⟨rfl, rfl⟩
  go_wp2_with fail
  go_ret
  exact ⟨rfl, rfl⟩

theorem formed_cases {V : Va} (h : V.formed = true) : (∃ n, 0 ≤ n ∧ V = .mk 1 n [] []) ∨ (∃ m, (∀ x ∈ m, (0 : Int) ≤ x) ∧ V = .mk 2 0 m []) ∨ (∃ a b, V = .mk 3 0 [] [a, b]) ∨ V = .mk 4 0 [] [] := by
  obtain ⟨k, n, m, l⟩ := V
  simp only [Va.formed, Bool.or_eq_true, Bool.and_eq_true, beq_iff_eq, decide_eq_true_eq, List.isEmpty_iff, List.all_eq_true] at h
  rcases h with ((⟨⟨⟨rfl, h⟩, rfl⟩, rfl⟩ | ⟨⟨⟨rfl, rfl⟩, h⟩, rfl⟩) | ⟨⟨⟨rfl, rfl⟩, rfl⟩, h⟩) | ⟨⟨⟨rfl, rfl⟩, rfl⟩, rfl⟩
  · exact .inl ⟨n, h, rfl⟩
  · exact .inr (.inl ⟨m, h, rfl⟩)
  · obtain ⟨a, b, rfl⟩ : ∃ a b, l = [a, b] := by
      match l, h with
      | [a, b], _ => exact ⟨a, b, rfl⟩
    exact .inr (.inr (.inl ⟨a, b, rfl⟩))
  · exact .inr (.inr (.inr rfl))

set_option maxRecDepth 100000 in
set_option maxHeartbeats 1000000 in
theorem formedV_true (V : Va) (v : Value) (w : World) (hf : V.formed = true) (hb : V.bulk ≤ 400000) (hV : IsVa (· < w.heap.size) w V v) :
    Calls Tryd.prog 73 #[v] w fun e w' => e = .returned (.bool true) ∧ Below w.heap.size w w' := by
  obtain ⟨B, d, A, c, rfl, hm, _⟩ := hV.parts
  clear hV
  rcases formed_cases hf with ⟨n, hn, rfl⟩ | ⟨m, hm0, rfl⟩ | ⟨a, b, rfl⟩ | rfl
  · simp only [Va.kind, Va.num, Va.list, Va.args, List.length_nil]
    clear hm hf hb
    go_enter Tryd.func73, Tryd.ntmps73
    go_wp2_with fail
    go_ret
    exact ⟨rfl, (Below.refl _ _).alloc (Nat.le_refl _) _⟩
  · simp only [Va.kind, Va.num, Va.list, Va.args, List.length_nil] at hm ⊢
    simp only [Va.bulk] at hb
    have HM := Lib.hid hm
    have HB := Lib.hid (show m.length ≤ 400000 by omega)
    have H0 := Lib.hid hm0
    clear hm hf hb hm0
    go_enter Tryd.func73, Tryd.ntmps73
    go_wp2_with fail
    refine (containsFunc_none m B d (· < w.heap.size) _ H0.out HB.out (HM.out.keep (fun _ h => h) (fun p hp => World.cell?_alloc_lt _ _ _ hp))).mono ?_
    rintro e w' ⟨rfl, rfl⟩
    go_wp2_with fail
    go_ret
    exact ⟨rfl, (Below.refl _ _).alloc (Nat.le_refl _) _⟩
  · simp only [Va.kind, Va.num, Va.list, Va.args, List.length_nil, List.length_cons]
    clear hm hf hb
    go_enter Tryd.func73, Tryd.ntmps73
    go_wp2_with fail
    go_ret
    exact ⟨rfl, (Below.refl _ _).alloc (Nat.le_refl _) _⟩
  · simp only [Va.kind, Va.num, Va.list, Va.args, List.length_nil]
    clear hm hf hb
    go_enter Tryd.func73, Tryd.ntmps73
    go_wp2_with fail
    go_ret
    exact ⟨rfl, (Below.refl _ _).alloc (Nat.le_refl _) _⟩
end Go.Proofs.YtifijgihcincfaaDoor
namespace Go.Proofs.YtifijgihcincfaaDoor
open Go.RowKit

/-- The last value of a slice of the call's own, as the walk asks for it. -/
theorem own_last_va {S : Nat → Prop} {base : Nat} {v : Value} {ts : List Va} {x : Va} {w : World} (h : VaR.Own S base v (ts ++ [x]) w) : ∃ (g cap : Nat) (B : Option Addr) (d : Nat) (A : Option Addr) (c : Nat),
    v = .slice (some ⟨g, 0, none⟩) (ts.length + 1) cap ∧ base ≤ g ∧ g < w.heap.size ∧ ts.length + 1 ≤ cap ∧
    w.cell? ⟨g, ts.length * 4, none⟩ = some (.int .i64 x.kind) ∧ w.cell? ⟨g, ts.length * 4 + 1, none⟩ = some (.int .i64 x.num) ∧
    w.cell? ⟨g, ts.length * 4 + 2, none⟩ = some (.slice B x.list.length d) ∧ w.cell? ⟨g, ts.length * 4 + 3, none⟩ = some (.slice A x.args.length c) ∧
    IsVa (fun b => S b ∧ b < w.heap.size) w x (.agg #[.int .i64 x.kind, .int .i64 x.num, .slice B x.list.length d, .slice A x.args.length c]) ∧
    VaR.Own S base (.slice (some ⟨g, 0, none⟩) ts.length cap) ts w := by
  obtain ⟨g, cap, vs, rfl, hg0, hg1, hcap, hcell, hx, ho⟩ := h.last
  have hx' : IsVa (fun b => S b ∧ b < w.heap.size ∧ g ≠ b) w x (.agg vs.toArray) := hx
  obtain ⟨B, d, A, c, e⟩ := hx'.form
  simp only [Value.agg.injEq] at e
  have e' := congrArg Array.toList e
  simp only at e'
  subst e'
  exact ⟨g, cap, B, d, A, c, rfl, hg0, hg1, hcap, hcell 0 _ rfl, hcell 1 _ rfl, hcell 2 _ rfl, hcell 3 _ rfl, IsVa.keep (fun b hb => ⟨hb.1, hb.2.1⟩) (fun _ _ => rfl) _ hx', ho⟩

/-- The cells of a slice that is there. -/
theorem slV_cells {S : Nat → Prop} {w : World} {l : List Va} {a : Addr} {n c : Nat} (h : VaR.Sl S w l (.slice (some a) n c)) : ∃ news, VaR.Ch S w l news ∧ ∀ j u, news[j]? = some u → w.cell? (a.add j) = some u := by
  cases l with
  | nil => exact ⟨[], Rep.Ch.nil _ _, fun j u h => by simp at h⟩
  | cons x r =>
    obtain ⟨A, c', e, h⟩ := h
    simp at e
    obtain ⟨a', h1, _, h2⟩ := h (by simp)
    rw [← e.1] at h1
    cases h1
    exact h2.cells

def CheckRel (w : World) (t : Va) (k : Nat) (cnt s : Value) (wr : World) : Prop :=
  ∃ (st : List Va) (n : Nat), cnt = .int .i64 (n : Int) ∧ VaR.Own (· < w.heap.size) (w.heap.size + 1) s st wr ∧ okAllV st = true ∧ n + nodesAllV st = t.nodes ∧ bulkAllV st ≤ 400000 ∧ nodesAllV st = k ∧ Below w.heap.size w wr ∧ w.heap.size + 1 ≤ wr.heap.size

set_option maxRecDepth 100000 in
set_option maxHeartbeats 2000000 in
theorem checkV_any (t : Va) (v : Value) (w : World) (hsz : t.bulk ≤ 400000) (hok : t.ok = true) (hT : IsVa (· < w.heap.size) w t v) :
    Calls Tryd.prog 48 #[v] w fun e w' => e = .returned (.int .i64 t.err) ∧ Below w.heap.size w w' := by
  obtain ⟨B, d, A, c, rfl, _, _⟩ := hT.parts
  have HT := Lib.hid hT
  have HOK := Lib.hid hok
  clear hT hok
  go_enter Tryd.func48, Tryd.ntmps48
  go_wp2_with fail
  obtain ⟨b1, z1, k0⟩ := new_blk (Below.refl w.heap.size w) (Nat.le_refl _) #[.int .i64 t.kind, .int .i64 t.num, .slice B t.list.length d, .slice A t.args.length c] 45
  go_loopg [3, 4] t.nodes (fun k cnt s wr => CheckRel w t k cnt s wr)
  case atStart =>
    have e : (w.alloc (Obj.cells #[.int .i64 t.kind, .int .i64 t.num, .slice B t.list.length d, .slice A t.args.length c] 45)).heap.size = w.heap.size + 1 := z1
    refine ⟨[t], 0, rfl, ?_, by simp [okAllV, HOK.out], by simp [nodesAllV], by simpa [bulkAllV] using hsz, by simp [nodesAllV], b1.alloc b1.size _, by simp⟩
    have h0 : IsVa (· < w.heap.size) _ t _ := IsVa.keep (fun b h => h) (fun p hp => b1.cell hp) _ HT.out
    have h1 := Rep.Own.built (R := VaR) (base := w.heap.size + 1) (Rep.Ch.one (R := VaR) (vs := [_, _, _, _]) h0) (fun b hb => by have : b < w.heap.size := hb; omega) (by omega) (by simp [maxLen]) (by simp)
    rw [e] at h1
    exact h1
  case round =>
    obtain ⟨st, n, rfl, hown, hokl, hsum, hbk, hk, hbel, hz⟩ := hrel
    clear b1 z1 k0
    rcases List.eq_nil_or_concat st with rfl | ⟨ts, x, rfl⟩
    · obtain ⟨A3, c3, rfl⟩ := hown.form
      have hn : n = t.nodes := by simpa [nodesAllV] using hsum
      subst hn
      have hbd := nodesV_bulk t
      by_cases hle : t.nodes ≤ 64
      · have e4 : decide ((64 : Int) < (t.nodes : Int)) = false := by simp; omega
        go_wp2_with fail
        go_ret
        exact ⟨by simp [Va.err, HOK.out, hle], hbel⟩
      · have e4 : decide ((64 : Int) < (t.nodes : Int)) = true := by simp; omega
        go_wp2_with fail
        go_ret
        exact ⟨by simp [Va.err, HOK.out, hle], hbel⟩
    · simp only [List.concat_eq_append] at hown hokl hsum hbk hk
      obtain ⟨g, cap, B1, d1, A1, c1, rfl, hg0, hg1, hcap, q0, q1, q2, q3, hx, hown2⟩ := own_last_va hown
      have hxb : x.bulk ≤ 400000 := by rw [bulkAllV_append] at hbk; simp only [bulkAllV] at hbk; omega
      have hxe := bulkV_eq x
      have hxa := bulkAllV_len x.args
      have hxal : x.args.length ≤ 400000 := by omega
      have hll := bulkAllV_len (ts ++ [x])
      simp only [List.length_append, List.length_cons, List.length_nil] at hll
      have hbd := nodesV_bulk t
      have hlen : ts.length + 1 ≤ 400000 := by omega
      have hnn : n + 1 ≤ 400000 := by
        have := nodesV_pos x
        rw [nodesAllV_append] at hsum
        simp only [nodesAllV] at hsum
        omega
      have hxo : x.ok = true ∧ okAllV ts = true := by
        rw [okAllV_append] at hokl
        simp only [okAllV, Bool.and_true, Bool.and_eq_true] at hokl
        exact ⟨hokl.2, hokl.1⟩
      have hxf : x.formed = true ∧ okAllV x.args = true := by
        have := hxo.1
        rw [okV_eq] at this
        simpa using this
      have HXO := Lib.hid (And.intro hxf.1 (And.intro hxf.2 hxo.2))
      have HXB := Lib.hid hxb
      have HX := Lib.hid hx
      have HO := Lib.hid hown2
      have HF := Lib.hid (And.intro hsum (And.intro hbk hk))
      have HXE := Lib.hid hxe
      clear hx hown2 hokl hsum hbk hk hown hxe hll hbd hxa hxb hxo hxf
      go_wp2_with fail
      have hbx := Blk.new wr 45 #[.int .i64 x.kind, .int .i64 x.num, .slice B1 x.list.length d1, .slice A1 x.args.length c1]
      have hx1 : IsVa (· < w.heap.size) (wr.alloc (Obj.cells #[.int .i64 x.kind, .int .i64 x.num, .slice B1 x.list.length d1, .slice A1 x.args.length c1] 45)) x
          (.agg #[.int .i64 x.kind, .int .i64 x.num, .slice B1 x.list.length d1, .slice A1 x.args.length c1]) :=
        IsVa.keep (fun b hb => hb.1) (fun p hp => World.cell?_alloc_lt _ _ _ hp.2) _ HX.out
      have z1 := World.size_alloc wr (Obj.cells #[.int .i64 x.kind, .int .i64 x.num, .slice B1 x.list.length d1, .slice A1 x.args.length c1] 45)
      have hb1 := hbel.alloc hbel.size (Obj.cells #[.int .i64 x.kind, .int .i64 x.num, .slice B1 x.list.length d1, .slice A1 x.args.length c1] 45)
      have ho1 := HO.out.below ((Below.refl wr.heap.size wr).alloc (Nat.le_refl _) (Obj.cells #[.int .i64 x.kind, .int .i64 x.num, .slice B1 x.list.length d1, .slice A1 x.args.length c1] 45))
      have HX1 := Lib.hid hx1
      have HO1 := Lib.hid ho1
      clear HX HO hx1 ho1 hbel q0 q1 q2 q3
      generalize wr.alloc (Obj.cells #[.int .i64 x.kind, .int .i64 x.num, .slice B1 x.list.length d1, .slice A1 x.args.length c1] 45) = W1 at hbx HX1 HO1 hb1 z1 ⊢
      have hbs := hb1.size
      refine (formedV_true x _ W1 HXO.out.1 HXB.out (IsVa.keep (fun b hb => Nat.lt_of_lt_of_le hb hbs) (fun _ _ => rfl) _ HX1.out)).mono ?_
      rintro e W2 ⟨rfl, hb2⟩
      have hb2' : Below w.heap.size w W2 := hb1.trans (hb2.mono hbs)
      have hs2 := hb2.size
      obtain ⟨_, _, _, p3, _, _, _, _⟩ := (hbx.below hb2 (by omega)).facts4
      have hx2 : IsVa (· < w.heap.size) W2 x _ := IsVa.keep (fun b hb => hb) (fun p hp => hb2.cell (by omega)) _ HX1.out
      have hargs : VaR.Sl (· < w.heap.size) W2 x.args (.slice A1 x.args.length c1) := by
        cases x; exact (isVa_iff.1 hx2).2.2.2
      clear hx2
      cases A1 with
      | none =>
        have hnil := hargs.none_nil
        have hnl : x.args.length = 0 := by rw [hnil]; rfl
        rw [hnl] at p3
        have HN := Lib.hid hnil
        clear hargs hnil
        go_wp2_with fail
        go_roundg (nodesAllV ts)
        case rel =>
          obtain ⟨f2, f3, f4⟩ := HF.out
          have hxs : x.nodes = 1 := by rw [nodesV_eq, HN.out]; rfl
          refine ⟨ts, n + 1, by go_num, HO1.out.below hb2, HXO.out.2.2, ?_, ?_, rfl, hb2', by omega⟩
          · rw [← f2, nodesAllV_append]; simp only [nodesAllV, hxs]; omega
          · rw [bulkAllV_append] at f3; omega
        case measure =>
          obtain ⟨f2, f3, f4⟩ := HF.out
          have := nodesV_pos x
          rw [nodesAllV_append] at f4; simp only [nodesAllV] at f4; omega
      | some a =>
        obtain ⟨news, hch, hnc⟩ := slV_cells hargs
        obtain ⟨xs, hown, hxs⟩ := HO1.out.below hb2
        obtain ⟨i0, hi, hz0, hz1, hz2⟩ := info_parts info_value
        have HCH := Lib.hid hch
        have HNC := Lib.hid hnc
        have HXS := Lib.hid hxs
        have hno := hch.oneCells
        have hnl : news.length = x.args.length * 4 := hch.1
        clear hch hnc hxs hargs
        go_wp2_with (at_builtin; go_loud (refine wpList_append_own_at _ rfl _ _ 43 rfl (w.heap.size + 1) 45 i0 _ 4 64 Tryd.underlying43 hi hz0 hz1 hz2 rfl (by decide) _ ts.length xs rfl hown a x.args.length c1 news rfl hnl HNC.out hno (by simp only [maxLen]; omega) (by omega) (by omega) ?_); intro v2 w2 hown2 hg2 hnil2 hat2)
        go_roundg (nodesAllV (ts ++ x.args))
        case rel =>
          obtain ⟨f2, f3, f4⟩ := HF.out
          refine ⟨ts ++ x.args, n + 1, by go_num, ?_, ?_, ?_, ?_, rfl, hb2'.grown hg2 (by omega) (fun k e => by cases e; show w.heap.size ≤ g; omega), by have := hg2.size; omega⟩
          · exact Rep.Own.more (R := VaR) hown HXS.out (HCH.out.keep (fun b hb => ⟨hb, by have : b < w.heap.size := hb; omega, fun e => by cases e; have : g < w.heap.size := hb; omega⟩) (fun _ _ => rfl)) hown2 hg2 hat2
          · rw [okAllV_append]; simp [HXO.out.2.1, HXO.out.2.2]
          · rw [← f2, nodesAllV_append, nodesAllV_append]; simp only [nodesAllV, nodesV_eq x]; omega
          · rw [bulkAllV_append] at f3 ⊢; simp only [bulkAllV, bulkV_eq x] at f3; omega
        case measure =>
          obtain ⟨f2, f3, f4⟩ := HF.out
          rw [nodesAllV_append] at f4 ⊢; simp only [nodesAllV, nodesV_eq x] at f4; omega
end Go.Proofs.YtifijgihcincfaaDoor
namespace Go.Proofs.YtifijgihcincfaaDoor
open Go.RowKit

theorem capped_any (x : Int) (w : World) : Calls Tryd.prog 74 #[.int .i64 x] w fun e w' => e = .returned (.int .i64 (min x 4096)) ∧ w = w' := by
  by_cases h : x ≤ 4096
  · rw [Int.min_eq_left h]
    go_enter Tryd.func74, Tryd.ntmps74
    go_wp2_with fail
    go_ret
    exact ⟨rfl, rfl⟩
  · rw [Int.min_eq_right (by omega)]
    have h' : 4096 < x := by omega
    clear h
    go_enter Tryd.func74, Tryd.ntmps74
    go_wp2_with fail
    go_ret
    exact ⟨rfl, rfl⟩

theorem intsN_nonneg : ∀ m : List Int, (∀ x ∈ m, 0 ≤ x) → 0 ≤ intsN m ∧ intsN m ≤ 4098 * m.length
  | [], _ => by simp [intsN]
  | x :: r, h => by
    have h0 := h x (by simp)
    have h1 := intsN_nonneg r (fun y hy => h y (by simp [hy]))
    simp only [intsN, List.length_cons]
    omega
theorem intsN_take (m : List Int) (j : Nat) (h : j < m.length) : intsN (m.take (j + 1)) = intsN (m.take j) + (2 + min m[j] 4096) := by
  rw [List.take_succ_eq_append_getElem h, intsN_append]
  simp only [intsN]
  omega
theorem weight_take (l : List Va) (j : Nat) (h : j < l.length) : weightAll (l.take (j + 1)) = weightAll (l.take j) + l[j].weight := by
  rw [List.take_succ_eq_append_getElem h, weightAll_append]
  simp only [weightAll]
  omega
theorem formed_num {k n : Int} {m : List Int} {l : List Va} (h : (Va.mk k n m l).formed = true) : 0 ≤ n ∧ ∀ x ∈ m, 0 ≤ x := by
  rcases formed_cases h with ⟨i, hi, e⟩ | ⟨i, hi, e⟩ | ⟨a, b, e⟩ | e
  · cases e; exact ⟨hi, by simp⟩
  · cases e; exact ⟨Int.le_refl _, hi⟩
  · cases e; exact ⟨Int.le_refl _, by simp⟩
  · cases e; exact ⟨Int.le_refl _, by simp⟩
mutual
theorem weight_bound : ∀ V : Va, V.ok = true → 0 ≤ V.weight ∧ V.weight ≤ 4098 * V.bulk
  | .mk k n m l, h => by
    simp only [Va.ok, Bool.and_eq_true] at h
    have h1 := formed_num h.1
    have h2 := intsN_nonneg m h1.2
    have h3 := weightAll_bound l h.2
    simp only [Va.weight, Va.bulk]
    have := h1.1
    omega
theorem weightAll_bound : ∀ l : List Va, okAllV l = true → 0 ≤ weightAll l ∧ weightAll l ≤ 4098 * bulkAllV l
  | [], _ => by simp [weightAll, bulkAllV]
  | t :: r, h => by
    simp only [okAllV, Bool.and_eq_true] at h
    have h1 := weight_bound t h.1
    have h2 := weightAll_bound r h.2
    simp only [weightAll, bulkAllV]
    omega
end
theorem okAllV_get {l : List Va} (h : okAllV l = true) : ∀ i (hi : i < l.length), l[i].ok = true := by
  induction l with
  | nil => intro i hi; simp at hi
  | cons t r ih =>
    simp only [okAllV, Bool.and_eq_true] at h
    intro i hi
    cases i with
    | zero => exact h.1
    | succ i => exact ih h.2 i (by simpa using hi)
theorem okAllV_take {l : List Va} (h : okAllV l = true) (j : Nat) : okAllV (l.take j) = true := by
  induction l generalizing j with
  | nil => simp [okAllV]
  | cons t r ih =>
    simp only [okAllV, Bool.and_eq_true] at h
    cases j with
    | zero => rfl
    | succ j => simp only [List.take_succ_cons, okAllV, h.1, ih h.2 j, Bool.and_self]
theorem bulkAllV_take (l : List Va) (j : Nat) : bulkAllV (l.take j) ≤ bulkAllV l := by
  have := bulkAllV_append (l.take j) (l.drop j)
  rw [List.take_append_drop] at this
  omega

set_option maxRecDepth 100000 in
set_option maxHeartbeats 2000000 in
theorem sizeV_any (b : Nat) : ∀ (V : Va) (v : Value) (w : World), V.bulk ≤ b → b ≤ 400000 → V.ok = true → IsVa (· < w.heap.size) w V v →
    Calls Tryd.prog 49 #[v] w fun e w' => e = .returned (.int .i64 V.weight) ∧ Below w.heap.size w w' := by
  induction b with
  | zero => intro V; have := bulkV_pos V; omega
  | succ b ih =>
    rintro ⟨k, n, m, l⟩ v w hb hb4 hok hV
    obtain ⟨B, d, A, c, rfl, hm, hl⟩ := hV.parts
    simp only [Va.kind, Va.num, Va.list, Va.args] at *
    have hwb := weight_bound _ hok
    simp only [Va.ok, Bool.and_eq_true] at hok
    have hfn := formed_num hok.1
    have hib := intsN_nonneg m hfn.2
    have hlb := bulkAllV_len l
    simp only [Va.bulk] at hb
    have HM := Lib.hid hm
    have HL := Lib.hid hl
    have HOK := Lib.hid (And.intro hok hfn.2)
    have hn0 := hfn.1
    have IH := Lib.hid ih
    clear hm hl hok hfn ih hV hwb
    have hnm : min n 4096 = min n 4096 := rfl
    obtain ⟨n', hn'⟩ : ∃ n', min n 4096 = n' := ⟨_, rfl⟩
    have hn1 : 0 ≤ n' ∧ n' ≤ 4096 := by omega
    have HN := Lib.hid hn'
    clear hn' hnm
    go_enter Tryd.func49, Tryd.ntmps49
    go_wp2_with fail
    refine (capped_any n _).mono ?_
    rintro e w' ⟨rfl, rfl⟩
    rw [HN.out]
    obtain ⟨b1, z1, k0⟩ := new_blk (Below.refl w.heap.size w) (Nat.le_refl _) #[.int .i64 k, .int .i64 n, .slice B m.length d, .slice A l.length c] 45
    generalize w.alloc (Obj.cells #[.int .i64 k, .int .i64 n, .slice B m.length d, .slice A l.length c] 45) = W at b1 z1 k0 ⊢
    obtain ⟨_, _, c2, c3, _⟩ := k0.facts4
    have HB := Lib.hid (And.intro b1 (And.intro z1 k0))
    clear b1 z1 k0
    go_wp2_with fail
    go_loop [3, 16] (fun cnt i => ∃ j : Nat, j ≤ m.length ∧ i = .int .i64 j ∧ cnt = .int .i64 (1 + n' + intsN (m.take j))) (fun _ i => m.length - (intOf i).toNat)
    case atStart => exact ⟨0, Nat.zero_le _, rfl, by simp [intsN]⟩
    case round =>
      obtain ⟨j, hj, rfl, rfl⟩ := hrel
      have hij := intsN_nonneg (m.take j) (fun x hx => HOK.out.2 x (List.mem_of_mem_take hx))
      have htl : (m.take j).length = j := by simp; omega
      by_cases hlt : j < m.length
      · have hs : ZR.Sl (· < w.heap.size) W m (.slice B m.length d) := HM.out.keep (fun _ h => h) (fun p hp => HB.out.1.cell hp)
        obtain ⟨a, rfl, ha, hat⟩ := hs.get j hlt
        have q0 := at_z hat
        simp only [show ZR.n = 1 from rfl, Nat.mul_one] at q0
        have hx := HOK.out.2 _ (List.getElem_mem hlt)
        have hst := Lib.hid (intsN_take m j hlt)
        obtain ⟨x, hxx⟩ : ∃ x, m[j] = x := ⟨_, rfl⟩
        rw [hxx] at q0 hx
        obtain ⟨x', hx'⟩ : ∃ x', min x 4096 = x' := ⟨_, rfl⟩
        have hx1 : 0 ≤ x' ∧ x' ≤ 4096 := by omega
        have HX := Lib.hid (And.intro hxx hx')
        have hij2 : intsN (m.take j) ≤ 4098 * 400000 := by rw [htl] at hij; omega
        have hij1 := hij.1
        clear hs ha hat hxx hx' htl hij
        obtain ⟨I, hI⟩ : ∃ I, intsN (m.take j) = I := ⟨_, rfl⟩
        rw [hI] at hij1 hij2 hst ⊢
        clear hI
        go_wp2_with fail
        refine (capped_any x _).mono ?_
        rintro e w' ⟨rfl, rfl⟩
        rw [HX.out.2]
        go_wp2_with fail
        go_round
        case rel => exact ⟨j + 1, by omega, by go_num, by rw [hst.out, HX.out.1, HX.out.2]; congr 1; omega⟩
        case measure => simp [intOf]; omega
      · have hjm : j = m.length := by omega
        subst hjm
        rw [List.take_length] at hij ⊢
        obtain ⟨I, hI⟩ : ∃ I, intsN m = I := ⟨_, rfl⟩
        rw [hI] at hij hib ⊢
        have HI := Lib.hid hI
        have hij2 : I ≤ 4098 * 400000 := by omega
        have hij1 := hij.1
        clear hij hib htl hI
        go_wp2_with fail
        go_loopw [3, 29] (fun cnt i wr => ∃ j : Nat, j ≤ l.length ∧ i = .int .i64 j ∧ cnt = .int .i64 (1 + n' + I + weightAll (l.take j)) ∧ Below W.heap.size W wr) (fun _ i _ => l.length - (intOf i).toNat)
        case atStart => exact ⟨0, Nat.zero_le _, rfl, by simp [weightAll], Below.refl _ _⟩
        case round =>
          obtain ⟨j, hj, rfl, rfl, hbr⟩ := hrel
          have hwj := weightAll_bound (l.take j) (okAllV_take HOK.out.1.2 j)
          have hbj := bulkAllV_take l j
          by_cases hlt : j < l.length
          · have hs : VaR.Sl (· < w.heap.size) wr l (.slice A l.length c) := HL.out.keep (fun _ h => h) (fun p hp => (HB.out.1.trans (hbr.mono HB.out.1.size)).cell hp)
            obtain ⟨a, rfl, ha, hat⟩ := hs.get j hlt
            obtain ⟨B1, d1, A1, c1, q0, q1, q2, q3, hx⟩ := at_va hat
            simp only [show VaR.n = 4 from rfl] at q0 q1 q2 q3
            have hxo := okAllV_get HOK.out.1.2 j hlt
            have hxb := bulkAllV_get l j hlt
            have hxw := weight_bound l[j] hxo
            have hst := Lib.hid (weight_take l j hlt)
            have HX := Lib.hid (And.intro hx (And.intro hxo hxb))
            have hw2 : weightAll (l.take j) ≤ 4098 * 400000 := by omega
            have hw1 := hwj.1
            have hxw2 : l[j].weight ≤ 4098 * 400000 := by omega
            have hxw1 := hxw.1
            have HBR := Lib.hid hbr
            clear hs ha hat hx hxo hwj hbj hxw hbr hxb
            obtain ⟨u, hu⟩ : ∃ u, weightAll (l.take j) = u := ⟨_, rfl⟩
            rw [hu] at hw1 hw2 hst ⊢
            clear hu
            go_wp2_with fail
            have bb := (Below.refl wr.heap.size wr).alloc (Nat.le_refl _) (Obj.cells #[.int .i64 l[j].kind, .int .i64 l[j].num, .slice B1 l[j].list.length d1, .slice A1 l[j].args.length c1] 45)
            refine (IH.out l[j] _ _ (by have := HX.out.2.2; omega) (by omega) HX.out.2.1 (HX.out.1.keep (fun b hb => by have h1 := HB.out.1.size; have h2 := HBR.out.size; have h3 : b < w.heap.size := hb; simp; omega) (fun p hp => World.cell?_alloc_lt _ _ _ (by have h1 := HB.out.1.size; have h2 := HBR.out.size; omega)))).mono ?_
            rintro e w2 ⟨rfl, hb2⟩
            have HB2 := Lib.hid (HBR.out.trans ((bb.trans (hb2.mono (by simp))).mono HBR.out.size))
            clear bb hb2
            obtain ⟨y, hy⟩ : ∃ y, l[j].weight = y := ⟨_, rfl⟩
            rw [hy] at hxw1 hxw2 hst ⊢
            clear hy
            go_wp2_with fail
            exact ⟨⟨j + 1, by omega, by go_num, by rw [hst.out]; congr 1; omega, HB2.out⟩, by simp [intOf]; omega⟩
          · have hjl : j = l.length := by omega
            subst hjl
            rw [List.take_length] at hwj ⊢
            obtain ⟨u, hu⟩ : ∃ u, weightAll l = u := ⟨_, rfl⟩
            rw [hu] at hwj ⊢
            have HU := Lib.hid hu
            have hw2 : u ≤ 4098 * 400000 := by omega
            have hw1 := hwj.1
            have HBR := Lib.hid hbr
            clear hwj hbj hbr hu
            go_wp2_with fail
            go_ret
            exact ⟨ret_num (by simp only [Va.weight]; rw [HN.out, HI.out, HU.out]), HB.out.1.trans (HBR.out.mono HB.out.1.size)⟩
end Go.Proofs.YtifijgihcincfaaDoor
namespace Go.Proofs.YtifijgihcincfaaDoor
open Go.RowKit Go.Shelf

attribute [local go_sem] Oper.semAt_some

theorem makeFunc_runV (fn : Fn) (first cap : Array Value) (w : World) : (Instr.makeFunc fn first cap).run Tryd.prog w = .ok (.func fn first cap) w := rfl

def BackR (s : Value) (w : World) (e : Ending) (w' : World) : Prop :=
  e = .returned (.func (.func 111) #[] #[.pointer (some ⟨w.heap.size, 0, none⟩)]) ∧ w.alloc (.cells #[s] 22) = w'
theorem backward_any (A : Option Addr) (n c : Nat) (w : World) : Calls Tryd.prog 96 #[.slice A n c] w (BackR (.slice A n c) w) := by
  have hmf := makeFunc_runV
  go_enter Tryd.func96, Tryd.ntmps96
  go_wp2_with fail
  go_ret
  exact ⟨rfl, rfl⟩

/-- A number that the iterator hands out, with some place. -/
def EncB (x : Int) (args : Array Value) (_w : World) : Prop := ∃ i : Int, args = #[.int .i64 i, .int .i64 x]
def BackRel (m : List Int) (J : List Int → World → Prop) (k : Nat) (s : Value) (wr : World) : Prop :=
  k ≤ m.length ∧ s = .int .i64 ((k : Int) - 1) ∧ J (m.reverse.take (m.length - k)) wr
theorem rev_step {m : List Int} {k : Nat} (h : k < m.length) : m.reverse.take (m.length - (k + 1)) ++ [m[k]] = m.reverse.take (m.length - k) := by
  have h1 : m.length - (k + 1) < m.reverse.length := by simp; omega
  have h2 := List.take_succ_eq_append_getElem h1
  rw [show m.length - k = m.length - (k + 1) + 1 by omega, h2]
  congr 2
  rw [List.getElem_reverse]
  congr 1
  omega

set_option maxRecDepth 100000 in
set_option maxHeartbeats 2000000 in
theorem backward_iter (n q : Nat) (S : Nat → Prop) (m : List Int) (A : Option Addr) (c : Nat) (w : World) (hn : 1 ≤ n) (hl : m.length ≤ 400000) (hq : q < w.heap.size) (hk : Blk w q 22 #[.slice A m.length c]) :
    IteratesQ Tryd.prog (fun W => Blk W q 22 #[.slice A m.length c] ∧ ZR.Sl S W m (.slice A m.length c)) n 111 #[.pointer (some ⟨q, 0, none⟩)] EncB m.reverse w := by
  intro l J Jx W hW hJK hY h0
  have q0 : W.cell? ⟨q, 0, none⟩ = some (.slice A m.length c) := by simpa using (hk.below hW hq).cell 0
  have HY := Lib.hid hY
  have HK := Lib.hid hJK
  clear hY hJK hk
  refine callsIn_of_wp Tryd.func111 rfl trivial ?_ rfl
  simp only [Tryd.ntmps111, List.size_toArray, List.length_cons, List.length_nil, Nat.reduceAdd, Nat.reduceSub, Array.replicate_succ, Array.replicate_zero, List.push_toArray, List.append_toArray, List.nil_append, List.cons_append]
  gi_wp2
  gi_loopg [3] m.length (fun k s wr => BackRel m J k s wr)
  case atStart => exact ⟨Nat.le_refl _, rfl, by simpa using h0⟩
  case round =>
    obtain ⟨hkm, rfl, hJp⟩ := hrel
    obtain ⟨j, hj⟩ | hz : (∃ j, gk = j + 1) ∨ gk = 0 := by cases gk; exact .inr rfl; exact .inl ⟨_, rfl⟩
    · subst hj
      have hjm : j < m.length := by omega
      obtain ⟨hkb, hsl⟩ := HK.out _ _ hJp
      obtain ⟨a, rfl, ha, hat⟩ := hsl.get j hjm
      have q1 := at_z hat
      simp only [show ZR.n = 1 from rfl, Nat.mul_one] at q1
      have qk := hkb.cell 0
      simp at qk
      have HST := Lib.hid (rev_step hjm)
      have hpre : m.reverse.take (m.length - (j + 1)) ++ [m[j]] <+: m.reverse := by rw [HST.out]; exact List.take_prefix _ _
      obtain ⟨fn, tmps, assign, body, hy, hR⟩ := HY.out _ m[j] #[.int .i64 j, .int .i64 m[j]] wr hJp hpre ⟨j, rfl⟩
      have ej : ((j + 1 : Nat) : Int) - 1 = (j : Int) := by omega
      rw [ej]
      clear hsl hat hpre hkm ej hkb
      gi_wp2
      refine hR.mono ?_
      rintro e W' (⟨rfl, hJ'⟩ | ⟨rfl, hJx'⟩)
      · gi_wp2
        gi_roundg j
        case rel => exact ⟨by omega, rfl, by rw [← HST.out]; exact hJ'⟩
        case measure => omega
      · gi_wp2
        refine bodyPost_ret (results_none rfl _ _ _) rfl ?_
        exact ⟨⟨_, rfl⟩, .inr hJx'⟩
    · subst hz
      gi_wp2
      go_end0
      rw [Nat.sub_zero, List.take_of_length_le (by simp)] at hJp
      exact ⟨⟨_, rfl⟩, .inl hJp⟩
end Go.Proofs.YtifijgihcincfaaDoor
namespace Go.Proofs.YtifijgihcincfaaDoor
open Go.RowKit

def NodeV (k : Int) (s : Value) (w : World) (e : Ending) (w' : World) : Prop := e = .returned (.agg #[.int .i64 k, .int .i64 0, .int .i64 0, .slice none 0 0, s]) ∧ Below w.heap.size w w'
theorem node_any (k : Int) (A : Option Addr) (n c : Nat) (w : World) :
    Calls Tryd.prog 77 #[.int .i64 k, .slice A n c] w (NodeV k (.slice A n c) w) := by
  go_enter Tryd.func77, Tryd.ntmps77
  go_wp2_with fail
  have hb := (Below.refl w.heap.size w).alloc (Nat.le_refl _) (Obj.cells #[.int .i64 k, .int .i64 0, .int .i64 0, .slice none 0 0, .slice A n c] 34)
  refine bodyPost_ret (v := .agg #[.int .i64 k, .int .i64 0, .int .i64 0, .slice none 0 0, .slice A n c]) (by simp [results, Tryd.results77, go_sem]) rfl ⟨rfl, ?_⟩
  exact hb
end Go.Proofs.YtifijgihcincfaaDoor
namespace Go.Proofs.YtifijgihcincfaaDoor
open Go.RowKit

/-- The term of m stands in block q. -/
def NumRelV (w : World) (q m : Nat) (wr : World) : Prop :=
  ∃ A c, Blk wr q 34 #[.int .i64 (numTm m).kind, .int .i64 0, .int .i64 0, .slice none 0 0, .slice A (numTm m).args.length c] ∧
    IsTm (fun b => (w.heap.size ≤ b ∧ b ≠ w.heap.size ∧ b ≠ q) ∧ b < wr.heap.size) wr (numTm m) (.agg #[.int .i64 (numTm m).kind, .int .i64 0, .int .i64 0, .slice none 0 0, .slice A (numTm m).args.length c]) ∧
    Blk wr w.heap.size 34 #[.int .i64 0, .int .i64 0, .int .i64 0, .slice none 0 0, .slice none 0 0] ∧ Below w.heap.size w wr

theorem numV_step {w wr w2 : World} {q m : Nat} {g0 g1 g2 g3 g4 : Value} (hq : w.heap.size < q) (hb : Blk wr q 34 #[g0, g1, g2, g3, g4])
    (ht : IsTm (fun b => (w.heap.size ≤ b ∧ b ≠ w.heap.size ∧ b ≠ q) ∧ b < wr.heap.size) wr (numTm m) (.agg #[g0, g1, g2, g3, g4]))
    (k1 : Blk wr w.heap.size 34 #[.int .i64 0, .int .i64 0, .int .i64 0, .slice none 0 0, .slice none 0 0]) (hbel : Below w.heap.size w wr)
    (hb2 : Below (wr.alloc (.cells #[g0, g1, g2, g3, g4] 34)).heap.size (wr.alloc (.cells #[g0, g1, g2, g3, g4] 34)) w2) :
    NumRelV w q (m + 1) (((((w2.setCell ⟨q, 0, none⟩ (.int .i64 5)).setCell ⟨q, 1, none⟩ (.int .i64 0)).setCell ⟨q, 2, none⟩ (.int .i64 0)).setCell ⟨q, 3, none⟩ (.slice none 0 0)).setCell ⟨q, 4, none⟩ (.slice (some ⟨wr.heap.size, 0, none⟩) 1 1)) := by
  have hz := hbel.size
  have hz1 := hb.lt
  have g1' : wr.grownBy (wr.alloc (.cells #[g0, g1, g2, g3, g4] 34)) none := World.grownBy_alloc _ _ _
  have hsl := Rep.Sl.built (R := TmR) (Rep.Ch.one (R := TmR) (vs := [g0, g1, g2, g3, g4]) ht) (fun b hb => hb.2) (fun b => (w.heap.size ≤ b ∧ b ≠ w.heap.size ∧ b ≠ q) ∧ b < wr.heap.size + 1) (fun b hb => ⟨hb.1, by have := hb.2; omega⟩) (by omega)
  have s1 := World.size_alloc wr (.cells #[g0, g1, g2, g3, g4] 34)
  have hsl : TmR.Sl (fun b => (w.heap.size ≤ b ∧ b ≠ w.heap.size ∧ b ≠ q) ∧ b < wr.heap.size + 1) (wr.alloc (.cells #[g0, g1, g2, g3, g4] 34)) [numTm m] (.slice (some ⟨wr.heap.size, 0, none⟩) 1 1) := hsl
  generalize wr.alloc (.cells #[g0, g1, g2, g3, g4] 34) = W1 at s1 g1' hsl hb2 ⊢
  have g2' : wr.grownBy w2 none := only_trans g1' (only_of_below hb2 none)
  have s2 := hb2.size
  have hg := only_set5 w2 q (.int .i64 5) (.int .i64 0) (.int .i64 0) (.slice none 0 0) (.slice (some ⟨wr.heap.size, 0, none⟩) 1 1)
  have kx := (hb.grown g2' (by simp)).set5 (.int .i64 5) (.int .i64 0) (.int .i64 0) (.slice none 0 0) (.slice (some ⟨wr.heap.size, 0, none⟩) 1 1)
  have hs := hg.size
  refine ⟨some ⟨wr.heap.size, 0, none⟩, 1, kx, isTm_iff.2 ⟨rfl, rfl, IsTy.leaf _ _ _, ?_⟩, (k1.grown g2' (by simp)).grown hg (by simp; omega), (hbel.grown g2' hz (by simp)).grown hg (by omega) (fun k e => by cases e; omega)⟩
  exact hsl.keep (fun b hb => ⟨hb.1, by have := hb.2; omega⟩) (fun p hp => (World.cell?_of_block (hg.block p.block (by have := hp.2; omega) (by have := hp.1.2.2; simp; omega))).trans (hb2.cell (by have := hp.2; omega)))

set_option maxRecDepth 100000 in
set_option maxHeartbeats 1000000 in
theorem numberV_any (n : Nat) (w : World) (hn : n ≤ 4096) :
    Calls Tryd.prog 75 #[.int .i64 n] w (FreshT w (numTm n)) := by
  go_enter Tryd.func75, Tryd.ntmps75
  go_wp2_with fail
  have hk0 := Blk.new w 34 #[.int .i64 0, .int .i64 0, .int .i64 0, .slice none 0 0, .slice none 0 0]
  refine (node_any 4 none 0 0 _).mono ?_
  rintro e w1 ⟨rfl, hb1⟩
  have hz1 := hb1.size
  rw [World.size_alloc] at hz1
  have START : NumRelV w w1.heap.size 0 (w1.alloc (Obj.cells #[.int .i64 4, .int .i64 0, .int .i64 0, .slice none 0 0, .slice none 0 0] 34)) := by
    have hbw : Below w.heap.size w w1 := ((Below.refl _ _).alloc (Nat.le_refl _) _).trans (hb1.mono (by simp))
    exact ⟨none, 0, Blk.new _ _ _, isTm_iff.2 ⟨rfl, rfl, IsTy.leaf _ _ _, Rep.Sl.nil _ _⟩, ((hk0.below hb1 (by simp)).alloc _), hbw.alloc hbw.size _⟩
  have HS := Lib.hid START
  clear START hb1 hk0
  go_wp2_with fail
  go_loopw [6] (fun kx wq => ∃ k : Nat, k ≤ n ∧ kx = .int .i64 k ∧ NumRelV w w1.heap.size k wq) (fun kx _ => n - (intOf kx).toNat)
  case atStart => exact ⟨0, Nat.zero_le _, rfl, HS.out⟩
  case round =>
    obtain ⟨k, hk, rfl, A2, c2, kx, hx, ky, hBq⟩ := hrel
    have hqs := hBq.size
    have HX := Lib.hid hx
    clear hx
    by_cases h0 : k < n
    · obtain ⟨r0, r1, r2, r3, r4, _⟩ := kx.facts5
      have KX := Lib.hid kx
      have KY := Lib.hid ky
      have HQ := Lib.hid hBq
      clear ky hBq kx
      go_wp2_with fail
      refine (node_any 5 _ 1 1 _).mono ?_
      rintro e w2 ⟨rfl, hb2⟩
      have AFTER := Lib.hid (numV_step (by omega) KX.out HX.out KY.out HQ.out hb2)
      obtain ⟨_, _, _, _, _, f0, f1, f2, f3, f4⟩ := (KX.out.alloc (.cells #[.int .i64 (numTm k).kind, .int .i64 0, .int .i64 0, .slice none 0 0, .slice A2 (numTm k).args.length c2] 34)).below hb2 (by have := KX.out.lt; simp; omega) |>.facts5
      clear hb2
      go_wp2_with fail
      exact ⟨⟨k + 1, by omega, by go_num, AFTER.out⟩, by simp [intOf]; omega⟩
    · have hk0 : k = n := by omega
      subst hk0
      obtain ⟨r0, r1, r2, r3, r4, _, _, _, _, _⟩ := kx.facts5
      obtain ⟨_, _, _, _, _, f0, f1, f2, f3, f4⟩ := ky.facts5
      go_wp2_with fail
      obtain ⟨z0, z1, z2, z3, z4⟩ := (ky.set5 (.int .i64 (numTm k).kind) (.int .i64 0) (.int .i64 0) (.slice none 0 0) (.slice A2 (numTm k).args.length c2)).cells5
      have hg := only_set5 wr w.heap.size (.int .i64 (numTm k).kind) (.int .i64 0) (.int .i64 0) (.slice none 0 0) (.slice A2 (numTm k).args.length c2)
      refine bodyPost_ret (v := .agg #[.int .i64 (numTm k).kind, .int .i64 0, .int .i64 0, .slice none 0 0, .slice A2 (numTm k).args.length c2]) (by simp [results, Tryd.results75, go_sem, z0, z1, z2, z3, z4]) rfl ⟨_, rfl, ?_, hBq.grown hg hqs (fun k e => by cases e; omega)⟩
      exact IsTm.keep (fun b h => ⟨h.1.1, Nat.lt_of_lt_of_le h.2 hg.size⟩) (fun p hp => World.cell?_of_block (hg.block p.block hp.2 (by have := hp.1.2.1; simp; omega))) _ HX.out
end Go.Proofs.YtifijgihcincfaaDoor
namespace Go.Proofs.YtifijgihcincfaaDoor
open Go.RowKit Go.Shelf

attribute [local go_sem] Oper.semAt_some

/-- Between two rounds: the term of what has come stands in block q1. -/
def ListI (w : World) (q1 B qb : Nat) (s : Value) (pre : List Int) (W : World) : Prop :=
  ∃ A c, Blk W q1 34 #[.int .i64 (listTm pre.reverse).kind, .int .i64 0, .int .i64 0, .slice none 0 0, .slice A (listTm pre.reverse).args.length c] ∧
    IsTm (fun b => (w.heap.size < b ∧ b ≠ q1 ∧ ¬ Loop2 B b) ∧ b < W.heap.size) W (listTm pre.reverse) (.agg #[.int .i64 (listTm pre.reverse).kind, .int .i64 0, .int .i64 0, .slice none 0 0, .slice A (listTm pre.reverse).args.length c]) ∧
    Blk W w.heap.size 34 #[.int .i64 0, .int .i64 0, .int .i64 0, .slice none 0 0, .slice none 0 0] ∧ Below w.heap.size w W ∧ Blk W qb 22 #[s] ∧ B + 2 ≤ W.heap.size + 2

theorem listI_turn {w : World} {q1 B qb : Nat} {s : Value} (hq : q1 < B) (hqb : qb < B) (hw : w.heap.size < q1) {pre : List Int} {W W' : World} (h : ListI w q1 B qb s pre W) (ht : Turn (Loop2 B) W W') : ListI w q1 B qb s pre W' := by
  obtain ⟨A, c, h1, h2, h3, h4, h5, h6⟩ := h
  have n1 : ∀ k, k < B → ¬ Loop2 B k := fun k hk e => by rcases e with e | e <;> omega
  have hs := ht.size
  refine ⟨A, c, ht.blk h1 (n1 _ hq), IsTm.keep (fun b hb => ⟨hb.1, Nat.lt_of_lt_of_le hb.2 hs⟩) (fun p hp => World.cell?_of_block (ht.block p.block hp.2 hp.1.2.2)) _ h2, ht.blk h3 (n1 _ (by omega)), ?_, ht.blk h5 (n1 _ hqb), by omega⟩
  exact h4.trans (ht.toBelow (fun k hk => n1 k (by omega)) h4.size)

/-- One more number before the list. -/
theorem listI_step {w W₂ W3 W4 : World} {q1 B qb n c2 : Nat} {s : Value} {pre : List Int} {A2 : Option Addr} {x0 x1 x2 x3 x4 : Value} (hq : q1 < B) (_hqb : qb < B) (hw : w.heap.size < q1) (hqq : qb ≠ q1) (hB : B + 2 ≤ W₂.heap.size)
    (k1 : Blk W₂ q1 34 #[.int .i64 (listTm pre.reverse).kind, .int .i64 0, .int .i64 0, .slice none 0 0, .slice A2 (listTm pre.reverse).args.length c2])
    (ht : IsTm (fun b => (w.heap.size < b ∧ b ≠ q1 ∧ ¬ Loop2 B b) ∧ b < W₂.heap.size) W₂ (listTm pre.reverse) (.agg #[.int .i64 (listTm pre.reverse).kind, .int .i64 0, .int .i64 0, .slice none 0 0, .slice A2 (listTm pre.reverse).args.length c2]))
    (k0 : Blk W₂ w.heap.size 34 #[.int .i64 0, .int .i64 0, .int .i64 0, .slice none 0 0, .slice none 0 0]) (hbw : Below w.heap.size w W₂) (kq : Blk W₂ qb 22 #[s])
    (ht3 : IsTm (fun b => W₂.drew.heap.size ≤ b ∧ b < W3.heap.size) W3 (numTm n) (.agg #[x0, x1, x2, x3, x4])) (hb3 : Below W₂.heap.size W₂ W3)
    (hb4 : Below (W3.alloc (.cells #[x0, x1, x2, x3, x4, .int .i64 (listTm pre.reverse).kind, .int .i64 0, .int .i64 0, .slice none 0 0, .slice A2 (listTm pre.reverse).args.length c2] 34)).heap.size
      (W3.alloc (.cells #[x0, x1, x2, x3, x4, .int .i64 (listTm pre.reverse).kind, .int .i64 0, .int .i64 0, .slice none 0 0, .slice A2 (listTm pre.reverse).args.length c2] 34)) W4) :
    Turn (Not2 B) W₂ (((((W4.setCell ⟨q1, 0, none⟩ (.int .i64 8)).setCell ⟨q1, 1, none⟩ (.int .i64 0)).setCell ⟨q1, 2, none⟩ (.int .i64 0)).setCell ⟨q1, 3, none⟩ (.slice none 0 0)).setCell ⟨q1, 4, none⟩ (.slice (some ⟨W3.heap.size, 0, none⟩) 2 2)) ∧
    ListI w q1 B qb s (pre ++ [(n : Int)]) (((((W4.setCell ⟨q1, 0, none⟩ (.int .i64 8)).setCell ⟨q1, 1, none⟩ (.int .i64 0)).setCell ⟨q1, 2, none⟩ (.int .i64 0)).setCell ⟨q1, 3, none⟩ (.slice none 0 0)).setCell ⟨q1, 4, none⟩ (.slice (some ⟨W3.heap.size, 0, none⟩) 2 2)) := by
  have hz := hbw.size
  have hz3 := hb3.size
  have ew : W₂.drew.heap.size = W₂.heap.size := rfl
  have n1 : ∀ k, k < B → ¬ Loop2 B k := fun k hk e => by rcases e with e | e <;> omega
  have n2 : ∀ k, W₂.heap.size ≤ k → ¬ Loop2 B k := fun k hk e => by rcases e with e | e <;> omega
  have ht2 : IsTm (fun b => (w.heap.size < b ∧ b ≠ q1 ∧ ¬ Loop2 B b) ∧ b < W3.heap.size) W3 (listTm pre.reverse) _ := IsTm.keep (fun b h => ⟨h.1, by omega⟩) (fun p hp => hb3.cell hp.2) _ ht
  have ht3' : IsTm (fun b => (w.heap.size < b ∧ b ≠ q1 ∧ ¬ Loop2 B b) ∧ b < W3.heap.size) W3 (numTm n) _ := IsTm.keep (fun b h => ⟨⟨by omega, by have := k1.lt; omega, n2 b (by omega)⟩, h.2⟩) (fun _ _ => rfl) _ ht3
  have hc := (Rep.Ch.one (R := TmR) (vs := [x0, x1, x2, x3, x4]) ht3').append (Rep.Ch.one (R := TmR) (vs := [.int .i64 (listTm pre.reverse).kind, .int .i64 0, .int .i64 0, .slice none 0 0, .slice A2 (listTm pre.reverse).args.length c2]) ht2)
  have hsl := Rep.Sl.built (R := TmR) hc (fun b h => h.2) (fun b => (w.heap.size < b ∧ b ≠ q1 ∧ ¬ Loop2 B b) ∧ b < W3.heap.size + 1) (fun b h => ⟨h.1, by omega⟩) ⟨⟨by omega, by have := k1.lt; omega, n2 _ (by omega)⟩, by omega⟩
  have s3 := World.size_alloc W3 (.cells #[x0, x1, x2, x3, x4, .int .i64 (listTm pre.reverse).kind, .int .i64 0, .int .i64 0, .slice none 0 0, .slice A2 (listTm pre.reverse).args.length c2] 34)
  have g3 : W3.grownBy (W3.alloc (.cells #[x0, x1, x2, x3, x4, .int .i64 (listTm pre.reverse).kind, .int .i64 0, .int .i64 0, .slice none 0 0, .slice A2 (listTm pre.reverse).args.length c2] 34)) none := World.grownBy_alloc _ _ _
  have hsl : TmR.Sl (fun b => (w.heap.size < b ∧ b ≠ q1 ∧ ¬ Loop2 B b) ∧ b < W3.heap.size + 1) (W3.alloc (.cells #[x0, x1, x2, x3, x4, .int .i64 (listTm pre.reverse).kind, .int .i64 0, .int .i64 0, .slice none 0 0, .slice A2 (listTm pre.reverse).args.length c2] 34)) [numTm n, listTm pre.reverse] (.slice (some ⟨W3.heap.size, 0, none⟩) 2 2) := hsl
  generalize W3.alloc (.cells #[x0, x1, x2, x3, x4, .int .i64 (listTm pre.reverse).kind, .int .i64 0, .int .i64 0, .slice none 0 0, .slice A2 (listTm pre.reverse).args.length c2] 34) = W5 at s3 g3 hsl hb4 ⊢
  have g4 : W₂.grownBy W4 none := only_trans (only_of_below hb3 none) (only_trans g3 (only_of_below hb4 none))
  have s4 := hb4.size
  have hg := only_set5 W4 q1 (.int .i64 8) (.int .i64 0) (.int .i64 0) (.slice none 0 0) (.slice (some ⟨W3.heap.size, 0, none⟩) 2 2)
  have kx := (k1.grown g4 (by simp)).set5 (.int .i64 8) (.int .i64 0) (.int .i64 0) (.slice none 0 0) (.slice (some ⟨W3.heap.size, 0, none⟩) 2 2)
  have hs := hg.size
  refine ⟨(Turn.grown g4 (fun k e => by cases e)).trans (Turn.grown hg (fun k e => by cases e; exact n1 _ hq)), ?_⟩
  have er : listTm (pre ++ [(n : Int)]).reverse = .mk 8 0 .zero [numTm n, listTm pre.reverse] := by
    rw [List.reverse_append]; simp [listTm]
  unfold ListI
  rw [er]
  refine ⟨some ⟨W3.heap.size, 0, none⟩, 2, kx, isTm_iff.2 ⟨rfl, rfl, IsTy.leaf _ _ _, ?_⟩, (k0.grown g4 (by simp)).grown hg (by simp; omega), (hbw.grown g4 (by omega) (by simp)).grown hg (by omega) (fun k e => by cases e; omega), (kq.grown g4 (by simp)).grown hg (by simp; exact hqq), by omega⟩
  exact hsl.keep (fun b hb => ⟨hb.1, by have := hb.2; omega⟩) (fun p hp => (World.cell?_of_block (hg.block p.block (by have := hp.2; omega) (by have := hp.1.2.1; simp; omega))).trans (hb4.cell (by have := hp.2; omega)))

set_option maxRecDepth 100000 in
set_option maxHeartbeats 2000000 in
theorem listV_any (m : List Int) (A : Option Addr) (c : Nat) (w : World) (hm : ∀ x ∈ m, 0 ≤ x ∧ x ≤ 4096) (hl : m.length ≤ 400000) (hs : ZR.Sl (· < w.heap.size) w m (.slice A m.length c)) :
    Calls Tryd.prog 76 #[.slice A m.length c] w (FreshT w (listTm m)) := by
  have HS := Lib.hid hs
  have HM := Lib.hid hm
  clear hs hm
  refine (callsIn_wide (n := 3)).1 (callsIn_of_wp_marks Tryd.func76 rfl trivial ?_ rfl)
  simp only [Tryd.ntmps76, List.size_toArray, List.length_cons, List.length_nil, Nat.reduceAdd, Nat.reduceSub, Array.replicate_succ, Array.replicate_zero, List.push_toArray, List.append_toArray, List.nil_append, List.cons_append]
  gi_wp2_with (first
    | (refine ⟨trivial, ?_⟩; gi_at_call 77; refine (callsIn_wide.2 (node_any 7 none 0 0 _)).mono ?_; rintro e w1 ⟨rfl, hb1⟩)
    | (refine ⟨trivial, ?_⟩; gi_at_call 96; refine (callsIn_wide.2 (backward_any _ _ _ _)).mono ?_; rintro e w2 ⟨rfl, rfl⟩))
  have z0 := hb1.size
  rw [World.size_alloc] at z0
  have k0 : Blk w1 w.heap.size 34 #[.int .i64 0, .int .i64 0, .int .i64 0, .slice none 0 0, .slice none 0 0] := (Blk.new w _ _).below hb1 (by simp)
  have hbw : Below w.heap.size w w1 := ((Below.refl _ _).alloc (Nat.le_refl _) _).trans (hb1.mono (by simp))
  obtain ⟨W0, hW0, zW, kW1, kW0, kWq, hbW⟩ : ∃ W0, W0 = (w1.alloc (Obj.cells #[.int .i64 7, .int .i64 0, .int .i64 0, .slice none 0 0, .slice none 0 0] 34)).alloc (Obj.cells #[.slice A m.length c] 22) ∧
      W0.heap.size = w1.heap.size + 2 ∧ Blk W0 w1.heap.size 34 #[.int .i64 7, .int .i64 0, .int .i64 0, .slice none 0 0, .slice none 0 0] ∧ Blk W0 w.heap.size 34 #[.int .i64 0, .int .i64 0, .int .i64 0, .slice none 0 0, .slice none 0 0] ∧
      Blk W0 (w1.heap.size + 1) 22 #[.slice A m.length c] ∧ Below w.heap.size w W0 := by
    have z1 := World.size_alloc w1 (Obj.cells #[.int .i64 7, .int .i64 0, .int .i64 0, .slice none 0 0, .slice none 0 0] 34)
    have kq := Blk.new (w1.alloc (Obj.cells #[.int .i64 7, .int .i64 0, .int .i64 0, .slice none 0 0, .slice none 0 0] 34)) 22 #[.slice A m.length c]
    rw [z1] at kq
    exact ⟨_, rfl, by simp, (Blk.new w1 _ _).alloc _, (k0.alloc _).alloc _, kq, (hbw.alloc hbw.size _).alloc (by have := hbw.size; simp; omega) _⟩
  rw [← hW0]
  clear hW0 hb1 k0 hbw
  have HI0 : ListI w w1.heap.size W0.heap.size (w1.heap.size + 1) (.slice A m.length c) [] W0 :=
    ⟨none, 0, kW1, isTm_iff.2 ⟨rfl, rfl, IsTy.leaf _ _ _, Rep.Sl.nil _ _⟩, kW0, hbW, kWq, by omega⟩
  refine range_wpQ (by omega) (gf := 111) (lb := #[.pointer (some ⟨w1.heap.size + 1, 0, none⟩)]) rfl (enters_of Tryd.func111 (by kernel_rfl) rfl)
    (enc := EncB) (xs := m.reverse) (fun x args W h => by obtain ⟨i, rfl⟩ := h; rfl)
    (backward_iter _ (w1.heap.size + 1) (· < w.heap.size) m A c W0 (by omega) hl (by omega) kWq)
    (ListI w w1.heap.size W0.heap.size (w1.heap.size + 1) (.slice A m.length c)) (fun _ _ => False) (fun pre W W' h ht => listI_turn (by omega) (by omega) (by omega) h ht) (fun _ _ _ h => h.elim) HI0
    (fun pre W h => by obtain ⟨A1, c1, h1, h2, h3, h4, h5, h6⟩ := h; exact ⟨h5, HS.out.keep (fun _ h => h) (fun p hp => h4.cell hp)⟩) ?round ?done (fun _ _ h => h.elim)
  case round =>
    rintro pre x args W _ hpre hW ⟨i, rfl⟩
    have hxm : x ∈ m := by
      have : x ∈ m.reverse := hpre.subset (by simp)
      simpa using this
    obtain ⟨n, rfl⟩ : ∃ n : Nat, x = (n : Int) := ⟨x.toNat, by have := HM.out x hxm; omega⟩
    have hn : n ≤ 4096 := by have := HM.out _ hxm; omega
    gi_wp2
    refine ⟨Below.refl _ _, ?_⟩
    rintro W₂ hg ⟨A2, c2, k1, ht, k0, hbw, kq, hz⟩
    obtain ⟨r0, r1, r2, r3, r4, _, _, _, _, _⟩ := k1.facts5
    have HK := Lib.hid (And.intro k1 (And.intro ht (And.intro k0 (And.intro hbw (And.intro kq hz)))))
    have HG := Lib.hid hg
    have HKB := Lib.hid fun (W3 : World) (h : Below W₂.heap.size W₂ W3) => (k1.below h k1.lt).facts5
    clear k1 ht k0 hbw kq hg hpre hxm
    gi_wp2
    gi_region_with (first
      | (refine ⟨trivial, ?_⟩; gi_at_call 75; refine (CallsIn.inRound _ (callsIn_wide.2 (numberV_any n _ hn))).mono ?_; rintro e W3 ⟨v3, rfl, ht3, hb3⟩; obtain ⟨B3, d3, A3, c3, rfl, _⟩ := ht3.form; have hb3' : Below W₂.heap.size W₂ W3 := ((Below.refl _ W₂).drew).trans hb3; obtain ⟨s0, s1, s2, s3, s4, _⟩ := HKB.out W3 hb3'; clear hb3)
      | (refine ⟨trivial, ?_⟩; gi_at_call 77; refine (CallsIn.inRound _ (callsIn_wide.2 (node_any 8 _ 2 2 _))).mono ?_; rintro e W4 ⟨rfl, hb4⟩; have HK4 := Lib.hid ((((HK.out.1).below hb3' HK.out.1.lt).alloc _).below hb4 (by have := (HK.out.1.below hb3' HK.out.1.lt).lt; simp; omega)); obtain ⟨_, _, _, _, _, f0, f1, f2, f3, f4⟩ := HK4.out.facts5))
    all_goals
      obtain ⟨k1, ht, k0, hbw, kq, _⟩ := HK.out
      have hz2 := HG.out.size
      have AFTER := Lib.hid (listI_step (by omega) (by omega) (by omega) (by omega) (by omega) k1 ht k0 hbw kq ht3 hb3' hb4)
      clear k1 ht k0 hbw kq ht3 hb4
      gi_wp2
      exact ⟨AFTER.out.1, AFTER.out.2⟩
  case done =>
    rintro W ⟨A1, c1, k1, ht, k0, hbw, kq, hz⟩ hzW hD
    rw [List.reverse_reverse] at k1 ht
    obtain ⟨r0, r1, r2, r3, r4, _⟩ := k1.facts5
    obtain ⟨_, _, _, _, _, f0, f1, f2, f3, f4⟩ := k0.facts5
    have HK := Lib.hid (And.intro k0 (And.intro ht (And.intro hbw hD)))
    clear k1 ht kq hbw k0
    gi_wp2
    have hg := only_set5 W w.heap.size (.int .i64 (listTm m).kind) (.int .i64 0) (.int .i64 0) (.slice none 0 0) (.slice A1 (listTm m).args.length c1)
    obtain ⟨k0, ht, hbw, _⟩ := HK.out
    obtain ⟨z0', z1', z2', z3', z4', _⟩ := ((k0.set5 (.int .i64 (listTm m).kind) (.int .i64 0) (.int .i64 0) (.slice none 0 0) (.slice A1 (listTm m).args.length c1)).putObj (D := W0.heap.size) (.deferred none) (by omega)).facts5
    refine marks_end (v := .agg #[.int .i64 (listTm m).kind, .int .i64 0, .int .i64 0, .slice none 0 0, .slice A1 (listTm m).args.length c1]) ?_ (by simp [results, Tryd.results76, go_sem, z0', z1', z2', z3', z4']) ⟨_, rfl, ?_, below_put (hbw.grown hg hbw.size (fun k e => by cases e; omega)) _ (Nat.le_refl _) (by omega)⟩
    · rw [hg.block _ hzW (by simp; omega)]
      exact hD
    · have hg2 := grownBy_putObj' (((((W.setCell ⟨w.heap.size, 0, none⟩ (.int .i64 (listTm m).kind)).setCell ⟨w.heap.size, 1, none⟩ (.int .i64 0)).setCell ⟨w.heap.size, 2, none⟩ (.int .i64 0)).setCell ⟨w.heap.size, 3, none⟩ (.slice none 0 0)).setCell ⟨w.heap.size, 4, none⟩ (.slice A1 (listTm m).args.length c1)) W0.heap.size (.deferred none)
      have s1 := hg.size
      have s2 := hg2.size
      exact IsTm.keep (fun b h => ⟨by omega, by omega⟩) (fun p hp => (World.cell?_of_block (hg2.block p.block (by omega) (by simp; exact fun e => hp.1.2.2 (.inl e)))).trans (World.cell?_of_block (hg.block p.block hp.2 (by simp; omega)))) _ ht
end Go.Proofs.YtifijgihcincfaaDoor
namespace Go.Proofs.YtifijgihcincfaaDoor
open Go.RowKit

theorem box_vt (w : World) (x0 x1 x2 x3 y0 y1 y2 y3 y4 : Value) : ∃ W, W = (w.alloc (Obj.cells #[x0, x1, x2, x3] 45)).alloc (Obj.cells #[y0, y1, y2, y3, y4] 34) ∧
    Below w.heap.size w W ∧ W.heap.size = w.heap.size + 2 ∧ Blk W w.heap.size 45 #[x0, x1, x2, x3] ∧ Blk W (w.heap.size + 1) 34 #[y0, y1, y2, y3, y4] := by
  have b1 := (Below.refl w.heap.size w).alloc (Nat.le_refl _) (Obj.cells #[x0, x1, x2, x3] 45)
  have k1 := Blk.new w 45 #[x0, x1, x2, x3]
  have z1 := World.size_alloc w (Obj.cells #[x0, x1, x2, x3] 45)
  generalize w.alloc (Obj.cells #[x0, x1, x2, x3] 45) = W1 at b1 z1 k1 ⊢
  have k2 := Blk.new W1 34 #[y0, y1, y2, y3, y4]
  rw [z1] at k2
  exact ⟨_, rfl, b1.alloc b1.size _, by simp [z1], k1.alloc _, k2⟩

/-- The result is stored. -/
theorem term_endV {w w2 : World} {T : Tm} {x0 x1 x2 x3 x4 : Value} (hb : Below w.heap.size w w2) (_hz : w.heap.size + 2 ≤ w2.heap.size) (ht : IsTm (fun b => w.heap.size + 2 ≤ b ∧ b < w2.heap.size) w2 T (.agg #[x0, x1, x2, x3, x4])) :
    FreshT w T (.returned (.agg #[x0, x1, x2, x3, x4])) (((((w2.setCell ⟨w.heap.size + 1, 0, none⟩ x0).setCell ⟨w.heap.size + 1, 1, none⟩ x1).setCell ⟨w.heap.size + 1, 2, none⟩ x2).setCell ⟨w.heap.size + 1, 3, none⟩ x3).setCell ⟨w.heap.size + 1, 4, none⟩ x4) := by
  have hg := only_set5 w2 (w.heap.size + 1) x0 x1 x2 x3 x4
  exact ⟨_, rfl, IsTm.keep (fun b h => ⟨by omega, Nat.lt_of_lt_of_le h.2 hg.size⟩) (fun p hp => World.cell?_of_block (hg.block p.block hp.2 (by simp; omega))) _ ht, hb.grown hg hb.size (fun k e => by cases e; omega)⟩

set_option maxHeartbeats 1000000 in
theorem termV_num (n : Nat) (hn : n ≤ 4096) (B A : Option Addr) (d c : Nat) (w : World) :
    Calls Tryd.prog 50 #[.agg #[.int .i64 1, .int .i64 n, .slice B 0 d, .slice A 0 c]] w (FreshT w (numTm n)) := by
  obtain ⟨W, hW, hbW, hz, k0, k1⟩ := box_vt w (.int .i64 1) (.int .i64 n) (.slice B 0 d) (.slice A 0 c) (.int .i64 0) (.int .i64 0) (.int .i64 0) (.slice none 0 0) (.slice none 0 0)
  obtain ⟨q0, q1, _⟩ := k0.facts4
  have HB := Lib.hid (And.intro hbW (And.intro hz k1))
  clear k0 k1 hz
  go_enter Tryd.func50, Tryd.ntmps50
  go_wp2_with fail
  rw [← hW]
  clear hW
  refine (numberV_any n W hn).mono ?_
  rintro e w2 ⟨v, rfl, ht, hb2⟩
  obtain ⟨B2, d2, A2, c2, rfl, _⟩ := ht.form
  have k2 := HB.out.2.2.below hb2 HB.out.2.2.lt
  obtain ⟨_, _, _, _, _, f0, f1, f2, f3, f4⟩ := k2.facts5
  have HT := Lib.hid ht
  clear ht
  go_wp2_with fail
  obtain ⟨z0, z1, z2, z3, z4⟩ := (k2.set5 (.int .i64 (numTm n).kind) (.int .i64 (numTm n).index) (.int .i64 (numTm n).type.kind) (.slice B2 (numTm n).type.args.length d2) (.slice A2 (numTm n).args.length c2)).cells5
  refine bodyPost_ret (v := .agg #[.int .i64 (numTm n).kind, .int .i64 (numTm n).index, .int .i64 (numTm n).type.kind, .slice B2 (numTm n).type.args.length d2, .slice A2 (numTm n).args.length c2]) (by simp [results, Tryd.results50, go_sem, z0, z1, z2, z3, z4]) rfl ?_
  have hz := HB.out.2.1
  exact term_endV (HB.out.1.trans (hb2.mono HB.out.1.size)) (by have := hb2.size; omega) (IsTm.keep (fun b h => ⟨by omega, h.2⟩) (fun _ _ => rfl) _ HT.out)

set_option maxHeartbeats 1000000 in
theorem termV_list (m : List Int) (hm : ∀ x ∈ m, 0 ≤ x ∧ x ≤ 4096) (hl : m.length ≤ 400000) (B A : Option Addr) (d c : Nat) (w : World) (hs : ZR.Sl (· < w.heap.size) w m (.slice B m.length d)) :
    Calls Tryd.prog 50 #[.agg #[.int .i64 2, .int .i64 0, .slice B m.length d, .slice A 0 c]] w (FreshT w (listTm m)) := by
  obtain ⟨W, hW, hbW, hz, k0, k1⟩ := box_vt w (.int .i64 2) (.int .i64 0) (.slice B m.length d) (.slice A 0 c) (.int .i64 0) (.int .i64 0) (.int .i64 0) (.slice none 0 0) (.slice none 0 0)
  obtain ⟨q0, _, q2, _⟩ := k0.facts4
  have HB := Lib.hid (And.intro hbW (And.intro hz k1))
  have HS := Lib.hid (And.intro hs hm)
  clear k0 k1 hz hs hm
  go_enter Tryd.func50, Tryd.ntmps50
  go_wp2_with fail
  rw [← hW]
  clear hW
  refine (listV_any m B d W HS.out.2 hl (HS.out.1.keep (fun b h => by have := HB.out.1.size; have h : b < w.heap.size := h; show b < W.heap.size; omega) (fun p hp => HB.out.1.cell hp))).mono ?_
  rintro e w2 ⟨v, rfl, ht, hb2⟩
  obtain ⟨B2, d2, A2, c2, rfl, _⟩ := ht.form
  have k2 := HB.out.2.2.below hb2 HB.out.2.2.lt
  obtain ⟨_, _, _, _, _, f0, f1, f2, f3, f4⟩ := k2.facts5
  have HT := Lib.hid ht
  clear ht
  go_wp2_with fail
  obtain ⟨z0, z1, z2, z3, z4⟩ := (k2.set5 (.int .i64 (listTm m).kind) (.int .i64 (listTm m).index) (.int .i64 (listTm m).type.kind) (.slice B2 (listTm m).type.args.length d2) (.slice A2 (listTm m).args.length c2)).cells5
  refine bodyPost_ret (v := .agg #[.int .i64 (listTm m).kind, .int .i64 (listTm m).index, .int .i64 (listTm m).type.kind, .slice B2 (listTm m).type.args.length d2, .slice A2 (listTm m).args.length c2]) (by simp [results, Tryd.results50, go_sem, z0, z1, z2, z3, z4]) rfl ?_
  have hz := HB.out.2.1
  exact term_endV (HB.out.1.trans (hb2.mono HB.out.1.size)) (by have := hb2.size; omega) (IsTm.keep (fun b h => ⟨by omega, h.2⟩) (fun _ _ => rfl) _ HT.out)

set_option maxHeartbeats 1000000 in
theorem termV_unit (B A : Option Addr) (d c : Nat) (w : World) :
    Calls Tryd.prog 50 #[.agg #[.int .i64 4, .int .i64 0, .slice B 0 d, .slice A 0 c]] w (FreshT w (.mk 13 0 .zero [])) := by
  obtain ⟨W, hW, hbW, hz, k0, k1⟩ := box_vt w (.int .i64 4) (.int .i64 0) (.slice B 0 d) (.slice A 0 c) (.int .i64 0) (.int .i64 0) (.int .i64 0) (.slice none 0 0) (.slice none 0 0)
  obtain ⟨q0, _⟩ := k0.facts4
  have HB := Lib.hid (And.intro hbW (And.intro hz k1))
  clear k0 k1 hz
  go_enter Tryd.func50, Tryd.ntmps50
  go_wp2_with fail
  rw [← hW]
  clear hW
  refine (node_any 13 none 0 0 W).mono ?_
  rintro e w2 ⟨rfl, hb2⟩
  have k2 := HB.out.2.2.below hb2 HB.out.2.2.lt
  obtain ⟨_, _, _, _, _, f0, f1, f2, f3, f4⟩ := k2.facts5
  go_wp2_with fail
  obtain ⟨z0, z1, z2, z3, z4⟩ := (k2.set5 (.int .i64 13) (.int .i64 0) (.int .i64 0) (.slice none 0 0) (.slice none 0 0)).cells5
  refine bodyPost_ret (v := .agg #[.int .i64 13, .int .i64 0, .int .i64 0, .slice none 0 0, .slice none 0 0]) (by simp [results, Tryd.results50, go_sem, z0, z1, z2, z3, z4]) rfl ?_
  have hz := HB.out.2.1
  exact term_endV (HB.out.1.trans (hb2.mono HB.out.1.size)) (by have := hb2.size; omega) (isTm_iff.2 ⟨rfl, rfl, IsTy.leaf _ _ _, Rep.Sl.nil _ _⟩)

/-- The term of a made value that is no pair. -/
theorem termV_leaf {T : Ty} {V : Va} (h : leafV T V) (v : Value) (w : World) (hv : IsVa (· < w.heap.size) w V v) :
    Calls Tryd.prog 50 #[v] w (FreshT w V.term) := by
  obtain ⟨B, d, A, c, rfl, hm, _⟩ := hv.parts
  rcases h with ⟨_, n, hn, rfl⟩ | ⟨_, m, hl, hb, rfl⟩ | ⟨_, rfl⟩
  · rw [show (Va.mk 1 n [] []).term = numTm n from by simp [Va.term]]
    exact termV_num n (by omega) B A d c w
  · rw [show (Va.mk 2 0 m []).term = listTm m from by simp [Va.term]]
    exact termV_list m (fun x hx => by have := hb x hx; omega) (by omega) B A d c w hm
  · rw [show (Va.mk 4 0 [] []).term = .mk 13 0 .zero [] from by simp [Va.term]]
    exact termV_unit B A d c w
end Go.Proofs.YtifijgihcincfaaDoor
namespace Go.Proofs.YtifijgihcincfaaDoor
open Go.RowKit

/-- The two parts of a pair, as the walk asks for them. -/
theorem IsVa.two {S : Nat → Prop} {w : World} {k i : Int} {m : List Int} {x y : Va} {A B : Option Addr} {c d n : Nat} (h : IsVa S w (.mk k i m [x, y]) (.agg #[.int .i64 k, .int .i64 i, .slice B n d, .slice A 2 c])) :
    ∃ (a : Addr) (B1 : Option Addr) (d1 : Nat) (A1 : Option Addr) (c1 : Nat) (B2 : Option Addr) (d2 : Nat) (A2 : Option Addr) (c2 : Nat), A = some a ∧ S a.block ∧
      (w.cell? a = some (.int .i64 x.kind) ∧ w.cell? ⟨a.block, a.off + 1, none⟩ = some (.int .i64 x.num) ∧ w.cell? ⟨a.block, a.off + 2, none⟩ = some (.slice B1 x.list.length d1) ∧ w.cell? ⟨a.block, a.off + 3, none⟩ = some (.slice A1 x.args.length c1)) ∧
      (w.cell? ⟨a.block, a.off + 4, none⟩ = some (.int .i64 y.kind) ∧ w.cell? ⟨a.block, a.off + 4 + 1, none⟩ = some (.int .i64 y.num) ∧ w.cell? ⟨a.block, a.off + 4 + 2, none⟩ = some (.slice B2 y.list.length d2) ∧ w.cell? ⟨a.block, a.off + 4 + 3, none⟩ = some (.slice A2 y.args.length c2)) ∧
      IsVa S w x (.agg #[.int .i64 x.kind, .int .i64 x.num, .slice B1 x.list.length d1, .slice A1 x.args.length c1]) ∧ IsVa S w y (.agg #[.int .i64 y.kind, .int .i64 y.num, .slice B2 y.list.length d2, .slice A2 y.args.length c2]) := by
  have hl := (isVa_iff.1 h).2.2.2
  obtain ⟨a, rfl, ha, h0⟩ := hl.get 0 (by simp)
  obtain ⟨a', e, _, h1⟩ := hl.get 1 (by simp)
  cases e
  obtain ⟨B1, d1, A1, c1, q0, q1, q2, q3, hx⟩ := at_va h0
  obtain ⟨B2, d2, A2, c2, r0, r1, r2, r3, hy⟩ := at_va h1
  rw [show (0 : Nat) * VaR.n = 0 from rfl, add_zero'] at q0 q1 q2 q3
  rw [show (1 : Nat) * VaR.n = 4 from rfl, show a.add 4 = ⟨a.block, a.off + 4, none⟩ from by simp [Addr.add]] at r0 r1 r2 r3
  exact ⟨a, B1, d1, A1, c1, B2, d2, A2, c2, rfl, ha, ⟨q0, q1, q2, q3⟩, ⟨r0, r1, r2, r3⟩, hx, hy⟩

theorem below_set5' {B g : Nat} {w w' : World} (h : Below B w w') (hg : B ≤ g) (a b c d e : Value) :
    Below B w (((((w'.setCell ⟨g, 0, none⟩ a).setCell ⟨g, 1, none⟩ b).setCell ⟨g, 2, none⟩ c).setCell ⟨g, 3, none⟩ d).setCell ⟨g, 4, none⟩ e) :=
  ((((h.setCell (p := ⟨g, 0, none⟩) hg a).setCell (p := ⟨g, 1, none⟩) hg b).setCell (p := ⟨g, 2, none⟩) hg c).setCell (p := ⟨g, 3, none⟩) hg d).setCell (p := ⟨g, 4, none⟩) hg e
/-- Two terms in one slice that was just built, below a node. -/
theorem pair_tm {lo : Nat} {w1 w2 w3 : World} {a b : Tm} {x0 x1 x2 x3 x4 y0 y1 y2 y3 y4 : Value} (hb2 : Below w1.heap.size w1 w2) (hlo : lo ≤ w1.heap.size)
    (ha : IsTm (fun q => lo ≤ q ∧ q < w1.heap.size) w1 a (.agg #[x0, x1, x2, x3, x4])) (hb : IsTm (fun q => lo ≤ q ∧ q < w2.heap.size) w2 b (.agg #[y0, y1, y2, y3, y4]))
    (hb3 : Below (w2.alloc (.cells #[x0, x1, x2, x3, x4, y0, y1, y2, y3, y4] 34)).heap.size (w2.alloc (.cells #[x0, x1, x2, x3, x4, y0, y1, y2, y3, y4] 34)) w3) :
    IsTm (fun q => lo ≤ q ∧ q < w3.heap.size) w3 (.mk 10 0 .zero [a, b]) (.agg #[.int .i64 10, .int .i64 0, .int .i64 0, .slice none 0 0, .slice (some ⟨w2.heap.size, 0, none⟩) 2 2]) := by
  have hz := hb2.size
  have ha2 : IsTm (fun q => lo ≤ q ∧ q < w2.heap.size) w2 a (.agg #[x0, x1, x2, x3, x4]) := IsTm.keep (fun q h => ⟨h.1, by omega⟩) (fun p hp => hb2.cell hp.2) _ ha
  have hc := (Rep.Ch.one (R := TmR) (vs := [x0, x1, x2, x3, x4]) ha2).append (Rep.Ch.one (R := TmR) (vs := [y0, y1, y2, y3, y4]) hb)
  have hs := Rep.Sl.built (R := TmR) hc (fun b h => h.2) (fun q => lo ≤ q ∧ q < w2.heap.size + 1) (fun b h => ⟨h.1, by omega⟩) ⟨by omega, by omega⟩
  have s3 := hb3.size
  rw [World.size_alloc] at s3
  have hs' : TmR.Sl (fun q => lo ≤ q ∧ q < w2.heap.size + 1) (w2.alloc (.cells #[x0, x1, x2, x3, x4, y0, y1, y2, y3, y4] 34)) [a, b] (.slice (some ⟨w2.heap.size, 0, none⟩) 2 2) := hs
  exact isTm_iff.2 ⟨rfl, rfl, IsTy.leaf _ _ _, hs'.keep (fun q h => ⟨h.1, by omega⟩) (fun p hp => hb3.cell (by have := hp.2; simp; omega))⟩

set_option maxHeartbeats 8000000 in
theorem termV_pair {TA TB : Ty} {a b : Va} (h1 : leafV TA a) (h2 : leafV TB b) (v : Value) (w : World) (hv : IsVa (· < w.heap.size) w (.mk 3 0 [] [a, b]) v) :
    Calls Tryd.prog 50 #[v] w (FreshT w (.mk 10 0 .zero [a.term, b.term])) := by
  obtain ⟨B, d, A, c, rfl⟩ := hv.form
  simp only [Va.kind, Va.num, Va.list, Va.args, List.length_cons, List.length_nil, Nat.reduceAdd] at hv ⊢
  obtain ⟨W, hW, hbW, hz, b0, b1⟩ := box_vt w (.int .i64 3) (.int .i64 0) (.slice B 0 d) (.slice A 2 c) (.int .i64 0) (.int .i64 0) (.int .i64 0) (.slice none 0 0) (.slice none 0 0)
  have hvW := IsVa.keep (S' := (· < w.heap.size)) (fun _ h => h) (fun p hp => hbW.cell hp) _ hv
  obtain ⟨q, B1, d1, A1, c1, B2, d2, A2, c2, rfl, hq, ⟨r0, r1, r2, r3⟩, ⟨s0, s1, s2, s3⟩, hx, hy⟩ := hvW.two
  have hq' : q.block < w.heap.size := hq
  have HB := Lib.hid (And.intro hbW (And.intro hz b1))
  have HSK := Lib.hid fun (w1 : World) (h : Below (w.heap.size + 1) W w1) => And.intro ((b0.below h (Nat.lt_succ_self _)).facts4.2.2.2.1)
    (And.intro ((h.cell (p := q) (by omega)).trans r0) (And.intro ((h.cell (p := ⟨q.block, q.off + 1, none⟩) (by show q.block < _; omega)).trans r1) (And.intro ((h.cell (p := ⟨q.block, q.off + 2, none⟩) (by show q.block < _; omega)).trans r2)
      (And.intro ((h.cell (p := ⟨q.block, q.off + 3, none⟩) (by show q.block < _; omega)).trans r3) (And.intro ((h.cell (p := ⟨q.block, q.off + 4, none⟩) (by show q.block < _; omega)).trans s0)
        (And.intro ((h.cell (p := ⟨q.block, q.off + 4 + 1, none⟩) (by show q.block < _; omega)).trans s1) (And.intro ((h.cell (p := ⟨q.block, q.off + 4 + 2, none⟩) (by show q.block < _; omega)).trans s2) ((h.cell (p := ⟨q.block, q.off + 4 + 3, none⟩) (by show q.block < _; omega)).trans s3))))))))
  have H1 := Lib.hid (And.intro h1 hx)
  have H2 := Lib.hid (And.intro h2 hy)
  have qk := b0.facts4.1
  obtain ⟨p0, p1, p2, p3, p4, p5, p6, p7, p8⟩ := HSK.out W (Below.refl _ _)
  have HW := Lib.hid (show W.heap.size ≤ W.heap.size from Nat.le_refl _)
  clear b0 b1 hz hvW hv hx hy h1 h2 r0 r1 r2 r3 s0 s1 s2 s3 hq
  go_enter Tryd.func50, Tryd.ntmps50
  go_wp2_with fail
  rw [← hW]
  clear hW qk
  go_region_held3 (fun w' => w'.cell? ⟨w.heap.size, 3, none⟩ = some (.slice (some q) 2 c) ∧ w'.cell? q = some (.int .i64 a.kind) ∧ w'.cell? ⟨q.block, q.off + 1, none⟩ = some (.int .i64 a.num) ∧ w'.cell? ⟨q.block, q.off + 2, none⟩ = some (.slice B1 a.list.length d1) ∧ w'.cell? ⟨q.block, q.off + 3, none⟩ = some (.slice A1 a.args.length c1) ∧
      w'.cell? ⟨q.block, q.off + 4, none⟩ = some (.int .i64 b.kind) ∧ w'.cell? ⟨q.block, q.off + 4 + 1, none⟩ = some (.int .i64 b.num) ∧ w'.cell? ⟨q.block, q.off + 4 + 2, none⟩ = some (.slice B2 b.list.length d2) ∧ w'.cell? ⟨q.block, q.off + 4 + 3, none⟩ = some (.slice A2 b.args.length c2))
    (first | with_reducible exact HSK.out _ (Below.refl _ _).drew | with_reducible exact HSK.out _ L1.out | with_reducible exact HSK.out _ L2.out | with_reducible exact HSK.out _ L3.out | with_reducible exact HSK.out _ L4.out | with_reducible exact HSK.out _ L5.out | go_keep)
    (first
      | (go_at_call 77
         (with_reducible refine (node_any 10 _ 2 2 _).mono ?_)
         rintro e w3 ⟨rfl, hb3⟩
         have L4 := Lib.hid (L3.out.trans (hb3.mono (by have := HZ2.out; simp; omega)))
         have L5 := Lib.hid (below_set5' L4.out (Nat.le_refl (w.heap.size + 1)) (.int .i64 10) (.int .i64 0) (.int .i64 0) (.slice none 0 0) (.slice (some ⟨w2.heap.size, 0, none⟩) 2 2))
         have K3 := Lib.hid ((K2.out.alloc _).below hb3 (by have := K2.out.lt; simp; omega))
         obtain ⟨_, _, _, _, _, f0, f1, f2, f3, f4⟩ := K3.out.facts5
         have HB3 := Lib.hid hb3
         clear hb3)
      | (go_at_call 50
         (with_reducible refine (termV_leaf H2.out.1 _ w1 (H2.out.2.keep (fun b h => by have := G1.out.size; have h' : b < w.heap.size := h; have := HB.out.1.size; omega) (fun p hp => G1.out.cell (by have hp' : p.block < w.heap.size := hp; have := HB.out.1.size; omega)))).mono ?_)
         rintro e2 w2 ⟨v2, rfl, t2, hb2⟩
         obtain ⟨D2, e2', E2, f2', rfl, _⟩ := t2.form
         have G2 := Lib.hid (G1.out.trans (hb2.mono G1.out.size))
         have HZ2 := Lib.hid (show w.heap.size + 2 ≤ w2.heap.size by have := G2.out.size; have := HB.out.2.1; omega)
         have L2 := Lib.hid (show Below (w.heap.size + 1) W w2 from G2.out.mono (by have := HB.out.2.1; omega))
         have L3 := Lib.hid (L2.out.alloc (by have := HZ2.out; omega) (Obj.cells #[.int .i64 a.term.kind, .int .i64 a.term.index, .int .i64 a.term.type.kind, .slice D1 a.term.type.args.length e1', .slice E1 a.term.args.length f1', .int .i64 b.term.kind, .int .i64 b.term.index, .int .i64 b.term.type.kind, .slice D2 b.term.type.args.length e2', .slice E2 b.term.args.length f2'] 34))
         have K2 := Lib.hid (HB.out.2.2.below G2.out HB.out.2.2.lt)
         have HT2 := Lib.hid (And.intro t2 hb2)
         clear t2 hb2)
      | (go_at_call 50
         (with_reducible refine (termV_leaf H1.out.1 _ W.drew (H1.out.2.keep (fun b h => by have h' : b < w.heap.size := h; have := HB.out.1.size; have e : W.drew.heap.size = W.heap.size := rfl; show b < W.drew.heap.size; omega) (fun p hp => World.cell?_drew W p))).mono ?_)
         rintro e1 w1 ⟨v1, rfl, t1, hb1⟩
         obtain ⟨D1, e1', E1, f1', rfl, _⟩ := t1.form
         have G1 := Lib.hid (show Below W.heap.size W w1 from ((Below.refl _ W).drew).trans hb1)
         have L1 := Lib.hid (show Below (w.heap.size + 1) W w1 from G1.out.mono (by have := HB.out.2.1; omega))
         have HT1 := Lib.hid t1
         clear t1 hb1))
  go_wp2_with fail
  obtain ⟨z0, z1, z2, z3, z4⟩ := (K3.out.set5 (.int .i64 10) (.int .i64 0) (.int .i64 0) (.slice none 0 0) (.slice (some ⟨w2.heap.size, 0, none⟩) 2 2)).cells5
  refine bodyPost_ret (v := .agg #[.int .i64 10, .int .i64 0, .int .i64 0, .slice none 0 0, .slice (some ⟨w2.heap.size, 0, none⟩) 2 2]) (by simp [results, Tryd.results50, go_sem, z0, z1, z2, z3, z4]) rfl ?_
  have hz := HB.out.2.1
  have hs1 := G1.out.size
  have ew : W.drew.heap.size = W.heap.size := rfl
  have hz2 := HZ2.out
  refine term_endV ((HB.out.1.trans (G2.out.mono HB.out.1.size)).trans (((Below.refl w2.heap.size w2).alloc (Nat.le_refl _) _).trans (HB3.out.mono (by simp)) |>.mono (by omega))) (by have := HB3.out.size; simp at this; omega) ?_
  exact pair_tm HT2.out.2 (by omega) (HT1.out.keep (fun b h => ⟨by have := h.1; omega, h.2⟩) (fun _ _ => rfl)) (HT2.out.1.keep (fun b h => ⟨by omega, h.2⟩) (fun _ _ => rfl)) HB3.out

/-- The term of a made value. -/
theorem termV_made {T : Ty} {V : Va} (h : MadeV T V) (v : Value) (w : World) (hv : IsVa (· < w.heap.size) w V v) :
    Calls Tryd.prog 50 #[v] w (FreshT w V.term) := by
  rcases h with h | ⟨A, B, a, b, _, ha, hb, rfl⟩
  · exact termV_leaf h v w hv
  · rw [show (Va.mk 3 0 [] [a, b]).term = .mk 10 0 .zero [a.term, b.term] from by simp [Va.term, termsV]]
    exact termV_pair ha hb v w hv
end Go.Proofs.YtifijgihcincfaaDoor
namespace Go.Proofs.YtifijgihcincfaaDoor
open Go.RowKit

/-- The term, and no error. -/
def TermR0 (w : World) (t : Tm) (e : Ending) (w' : World) : Prop :=
  ∃ v, e = .returned (.tuple #[v, .int .i64 0]) ∧ IsTm (fun b => w.heap.size ≤ b ∧ b < w'.heap.size) w' t v ∧ Below w.heap.size w w'
theorem small_err {V : Va} {k : Nat} (h : SmallV V k) (hk : k ≤ 64) : V.err = 0 := by
  have := h.nodes
  unfold Va.err
  rw [if_pos h.ok, if_pos (by omega)]

set_option maxRecDepth 100000 in
set_option maxHeartbeats 1000000 in
theorem valueTerm_made {T : Ty} {V : Va} (h : MadeV T V) (v : Value) (w : World) (hv : IsVa (· < w.heap.size) w V v) :
    Calls Tryd.prog 19 #[v] w (TermR0 w V.term) := by
  have hs := madeV_small h
  have he := small_err hs (by decide)
  obtain ⟨B, d, A, c, rfl⟩ := hv.form
  obtain ⟨W, hW, hbW, hz, k0, k1⟩ := box_vt w (.int .i64 V.kind) (.int .i64 V.num) (.slice B V.list.length d) (.slice A V.args.length c) (.int .i64 0) (.int .i64 0) (.int .i64 0) (.slice none 0 0) (.slice none 0 0)
  have hv0 : IsVa (· < w.heap.size) W V (.agg #[.int .i64 V.kind, .int .i64 V.num, .slice B V.list.length d, .slice A V.args.length c]) := IsVa.keep (fun _ h => h) (fun p hp => hbW.cell hp) _ hv
  have hw0 := hs.pos
  have hw1 := hs.weight
  obtain ⟨r0, r1, r2, r3, _⟩ := k0.facts4
  have HV := Lib.hid fun (w1 : World) (h : Below W.heap.size W w1) => And.intro (show IsVa (· < w1.heap.size) w1 V _ from IsVa.keep (fun b hb => by have h1 := h.size; have h2 := hbW.size; have h3 : b < w.heap.size := hb; omega) (fun p hp => h.cell (by have h2 := hbW.size; have h3 : p.block < w.heap.size := hp; omega)) _ hv0) (k0.below h k0.lt).facts4
  have HB := Lib.hid (And.intro hbW (And.intro hz k1))
  have HS := Lib.hid (And.intro h (And.intro hs he))
  clear hv hv0 k0 k1 hz h hs he
  go_enter Tryd.func19, Tryd.ntmps19
  go_wp2_with fail
  rw [← hW]
  clear hW
  refine (checkV_any V _ W (by have := HS.out.2.1.bulk; omega) HS.out.2.1.ok (HV.out W (Below.refl _ _)).1).mono ?_
  rintro e w1 ⟨rfl, hb1⟩
  rw [HS.out.2.2]
  obtain ⟨_, s0, s1, s2, s3, _⟩ := HV.out w1 hb1
  go_wp2_with fail
  refine (sizeV_any 400000 V _ w1 (by have := HS.out.2.1.bulk; omega) (Nat.le_refl _) HS.out.2.1.ok (HV.out w1 hb1).1).mono ?_
  rintro e w2 ⟨rfl, hb2⟩
  have hb12 := hb1.trans (hb2.mono hb1.size)
  obtain ⟨_, t0, t1, t2, t3, _⟩ := HV.out w2 hb12
  have hgt : decide (4096 < V.weight) = false := by simp; omega
  have HB12 := Lib.hid hb12
  clear hb1 hb2 hb12 s0 s1 s2 s3
  go_wp2_with fail
  refine (termV_made HS.out.1 _ w2 (HV.out w2 HB12.out).1).mono ?_
  rintro e w3 ⟨v3, rfl, ht3, hb3⟩
  obtain ⟨D3, e3, E3, f3', rfl, _⟩ := ht3.form
  have hz2 := HB12.out.size
  have hz0 := HB.out.2.1
  have k3 := (HB.out.2.2.below HB12.out HB.out.2.2.lt).below hb3 (by omega)
  obtain ⟨_, _, _, _, _, f0, f1, f2, f3, f4⟩ := k3.facts5
  have HT3 := Lib.hid (And.intro ht3 hb3)
  clear ht3 hb3
  go_wp2_with fail
  obtain ⟨z0, z1, z2, z3, z4⟩ := (k3.set5 (.int .i64 V.term.kind) (.int .i64 V.term.index) (.int .i64 V.term.type.kind) (.slice D3 V.term.type.args.length e3) (.slice E3 V.term.args.length f3')).cells5
  refine bodyPost_ret (v := .tuple #[.agg #[.int .i64 V.term.kind, .int .i64 V.term.index, .int .i64 V.term.type.kind, .slice D3 V.term.type.args.length e3, .slice E3 V.term.args.length f3'], .int .i64 0]) (by simp [results, Tryd.results19, go_sem, z0, z1, z2, z3, z4]) rfl ?_
  have hs3 := HT3.out.2.size
  obtain ⟨v4, e4, ht4, hb4⟩ := term_endV (w := w) (w2 := w3) (HB.out.1.trans ((HB12.out.trans (HT3.out.2.mono hz2)).mono HB.out.1.size)) (by omega) (HT3.out.1.keep (fun b h => ⟨by omega, h.2⟩) (fun _ _ => rfl))
  cases e4
  exact ⟨_, rfl, ht4, hb4⟩
end Go.Proofs.YtifijgihcincfaaDoor
namespace Go.Proofs.YtifijgihcincfaaDoor
open Go.RowKit

def PlainT (T : Ty) : Prop := T = .mk 1 [] ∨ T = .mk 2 [] ∨ T = .mk 5 [] ∨ T = .mk 3 [.mk 1 [], .mk 2 []] ∨ T = .mk 3 [.mk 1 [], .mk 1 []]
/-- What Plain makes. -/
def PlainR (g : Nat) (w : World) (e : Ending) (w' : World) : Prop :=
  ∃ T v, e = .returned v ∧ PlainT T ∧ IsTy (fun b => w.heap.size ≤ b ∧ b < w'.heap.size) w' T v ∧ Deck w' g ∧ w.grownBy w' (some g)

set_option maxRecDepth 100000 in
set_option maxHeartbeats 4000000 in
theorem plain_any (g : Nat) (w : World) (hd : Deck w g) :
    Calls Tryd.prog 17 #[.pointer (some ⟨g, 0, none⟩)] w (PlainR g w) := by
  have hgw := hd.lt
  go_enter Tryd.func17, Tryd.ntmps17
  go_wp2_with fail
  refine (next_any g 6 _ (by omega) (by omega) (hd.grown (World.grownBy_alloc w _ none) (by simp))).mono ?_
  rintro e w1 ⟨r, rfl, hr0, hr7, hd1, hg1⟩
  have hb1 : Blk w1 w.heap.size 30 #[.int .i64 0, .slice none 0 0] := (Blk.new w _ _).grown hg1 (by simp; omega)
  have hgw1 : w.grownBy w1 (some g) := only_trans (World.grownBy_alloc w _ (some g)) hg1
  have hs1 := hgw1.size
  have hr : r = 0 ∨ r = 1 ∨ r = 2 ∨ r = 3 ∨ r = 4 ∨ r = 5 := by omega
  rcases hr with rfl | rfl | rfl | rfl | rfl | rfl
  · go_wp2_with (go_at_call 32; refine (nat_any _).mono ?_; rintro e w2 ⟨rfl, hb2⟩; obtain ⟨k0, k1, f0, f1⟩ := (hb1.below hb2 hb1.lt).facts2)
    obtain ⟨q0, q1, _, _⟩ := ((hb1.below hb2 hb1.lt).set2 (.int .i64 1) (.slice none 0 0)).facts2
    exact bodyPost_ret (v := .agg #[.int .i64 1, .slice none 0 0]) (by simp [results, Tryd.results17, go_sem, q0, q1]) rfl
      ⟨.mk 1 [], _, rfl, .inl rfl, type_end hgw (hd1.grown (only_of_below hb2 none) (by simp)) (only_trans hgw1 (only_of_below hb2 _)) (Nat.le_refl _) (IsTy.leaf _ _ _)⟩
  · go_wp2_with (go_at_call 32; refine (nat_any _).mono ?_; rintro e w2 ⟨rfl, hb2⟩; obtain ⟨k0, k1, f0, f1⟩ := (hb1.below hb2 hb1.lt).facts2)
    obtain ⟨q0, q1, _, _⟩ := ((hb1.below hb2 hb1.lt).set2 (.int .i64 1) (.slice none 0 0)).facts2
    exact bodyPost_ret (v := .agg #[.int .i64 1, .slice none 0 0]) (by simp [results, Tryd.results17, go_sem, q0, q1]) rfl
      ⟨.mk 1 [], _, rfl, .inl rfl, type_end hgw (hd1.grown (only_of_below hb2 none) (by simp)) (only_trans hgw1 (only_of_below hb2 _)) (Nat.le_refl _) (IsTy.leaf _ _ _)⟩
  · go_wp2_with (go_at_call 35; refine (list_any _).mono ?_; rintro e w2 ⟨rfl, hb2⟩; obtain ⟨k0, k1, f0, f1⟩ := (hb1.below hb2 hb1.lt).facts2)
    obtain ⟨q0, q1, _, _⟩ := ((hb1.below hb2 hb1.lt).set2 (.int .i64 2) (.slice none 0 0)).facts2
    exact bodyPost_ret (v := .agg #[.int .i64 2, .slice none 0 0]) (by simp [results, Tryd.results17, go_sem, q0, q1]) rfl
      ⟨.mk 2 [], _, rfl, .inr (.inl rfl), type_end hgw (hd1.grown (only_of_below hb2 none) (by simp)) (only_trans hgw1 (only_of_below hb2 _)) (Nat.le_refl _) (IsTy.leaf _ _ _)⟩
  · go_wp2_with (go_at_call 36; refine (unit_any _).mono ?_; rintro e w2 ⟨rfl, hb2⟩; obtain ⟨k0, k1, f0, f1⟩ := (hb1.below hb2 hb1.lt).facts2)
    obtain ⟨q0, q1, _, _⟩ := ((hb1.below hb2 hb1.lt).set2 (.int .i64 5) (.slice none 0 0)).facts2
    exact bodyPost_ret (v := .agg #[.int .i64 5, .slice none 0 0]) (by simp [results, Tryd.results17, go_sem, q0, q1]) rfl
      ⟨.mk 5 [], _, rfl, .inr (.inr (.inl rfl)), type_end hgw (hd1.grown (only_of_below hb2 none) (by simp)) (only_trans hgw1 (only_of_below hb2 _)) (Nat.le_refl _) (IsTy.leaf _ _ _)⟩
  · go_wp2_with fail
    refine (nat_any _).mono ?_
    rintro e w2 ⟨rfl, hb2⟩
    go_wp2_with fail
    refine (list_any _).mono ?_
    rintro e w3 ⟨rfl, hb3⟩
    have hb13 := hb2.trans (hb3.mono hb2.size)
    have hs3 := hb13.size
    go_wp2_with fail
    refine (two_any (.mk 1 []) (.mk 2 []) _ _ w3 (by simp [Ty.nodes, nodesAll]) (by simp [Ty.nodes, nodesAll]) (IsTy.leaf _ _ _) (IsTy.leaf _ _ _)).mono ?_
    rintro e w4 ⟨v, rfl, tyv, hb4⟩
    obtain ⟨A, c, rfl⟩ := tyv.form
    have hk3 : Blk w3 w.heap.size 30 #[.int .i64 0, .slice none 0 0] := hb1.below hb13 hb1.lt
    obtain ⟨k0, k1, f0, f1⟩ := (hk3.below hb4 hk3.lt).facts2
    go_wp2_with fail
    obtain ⟨q0, q1, _, _⟩ := ((hk3.below hb4 hk3.lt).set2 (.int .i64 (Ty.mk 3 [.mk 1 [], .mk 2 []]).kind) (.slice A (Ty.mk 3 [.mk 1 [], .mk 2 []]).args.length c)).facts2
    exact bodyPost_ret (v := .agg #[.int .i64 (Ty.mk 3 [.mk 1 [], .mk 2 []]).kind, .slice A (Ty.mk 3 [.mk 1 [], .mk 2 []]).args.length c]) (by simp [results, Tryd.results17, go_sem, q0, q1]) rfl
      ⟨.mk 3 [.mk 1 [], .mk 2 []], _, rfl, .inr (.inr (.inr (.inl rfl))), type_end hgw ((hd1.grown (only_of_below hb13 none) (by simp)).grown (only_of_below hb4 none) (by simp)) (only_trans (only_trans hgw1 (only_of_below hb13 _)) (only_of_below hb4 _)) (by have := hb1.lt; omega) tyv⟩
  · go_wp2_with fail
    refine (nat_any _).mono ?_
    rintro e w2 ⟨rfl, hb2⟩
    go_wp2_with fail
    refine (nat_any _).mono ?_
    rintro e w3 ⟨rfl, hb3⟩
    have hb13 := hb2.trans (hb3.mono hb2.size)
    have hs3 := hb13.size
    go_wp2_with fail
    refine (two_any (.mk 1 []) (.mk 1 []) _ _ w3 (by simp [Ty.nodes, nodesAll]) (by simp [Ty.nodes, nodesAll]) (IsTy.leaf _ _ _) (IsTy.leaf _ _ _)).mono ?_
    rintro e w4 ⟨v, rfl, tyv, hb4⟩
    obtain ⟨A, c, rfl⟩ := tyv.form
    have hk3 : Blk w3 w.heap.size 30 #[.int .i64 0, .slice none 0 0] := hb1.below hb13 hb1.lt
    obtain ⟨k0, k1, f0, f1⟩ := (hk3.below hb4 hk3.lt).facts2
    go_wp2_with fail
    obtain ⟨q0, q1, _, _⟩ := ((hk3.below hb4 hk3.lt).set2 (.int .i64 (Ty.mk 3 [.mk 1 [], .mk 1 []]).kind) (.slice A (Ty.mk 3 [.mk 1 [], .mk 1 []]).args.length c)).facts2
    exact bodyPost_ret (v := .agg #[.int .i64 (Ty.mk 3 [.mk 1 [], .mk 1 []]).kind, .slice A (Ty.mk 3 [.mk 1 [], .mk 1 []]).args.length c]) (by simp [results, Tryd.results17, go_sem, q0, q1]) rfl
      ⟨.mk 3 [.mk 1 [], .mk 1 []], _, rfl, .inr (.inr (.inr (.inr rfl))), type_end hgw ((hd1.grown (only_of_below hb13 none) (by simp)).grown (only_of_below hb4 none) (by simp)) (only_trans (only_trans hgw1 (only_of_below hb13 _)) (only_of_below hb4 _)) (by have := hb1.lt; omega) tyv⟩

/-- What Value makes. -/
def ValR (g : Nat) (P : Va → Prop) (w : World) (e : Ending) (w' : World) : Prop :=
  ∃ V v, e = .returned v ∧ P V ∧ IsVa (fun b => w.heap.size ≤ b ∧ b < w'.heap.size) w' V v ∧ Deck w' g ∧ w.grownBy w' (some g)

/-- The result is stored. -/
theorem val_end {g : Nat} {w w2 : World} {V : Va} {x0 x1 x2 x3 : Value} {P : Va → Prop} (hgw : g < w.heap.size) (hd : Deck w2 g) (hg : w.grownBy w2 (some g)) (_hz : w.heap.size + 2 ≤ w2.heap.size) (hP : P V)
    (hV : IsVa (fun b => w.heap.size + 2 ≤ b ∧ b < w2.heap.size) w2 V (.agg #[x0, x1, x2, x3])) :
    ValR g P w (.returned (.agg #[x0, x1, x2, x3])) ((((w2.setCell ⟨w.heap.size + 1, 0, none⟩ x0).setCell ⟨w.heap.size + 1, 1, none⟩ x1).setCell ⟨w.heap.size + 1, 2, none⟩ x2).setCell ⟨w.heap.size + 1, 3, none⟩ x3) := by
  have h2 := only_set4 w2 (w.heap.size + 1) x0 x1 x2 x3
  refine ⟨V, _, rfl, hP, IsVa.keep (fun b hb => ⟨by omega, Nat.lt_of_lt_of_le hb.2 h2.size⟩) (fun p hp => World.cell?_of_block (h2.block p.block hp.2 (by simp; omega))) _ hV,
    hd.grown h2 (fun k e => by cases e; omega), ?_⟩
  exact only_setCell (only_setCell (only_setCell (only_setCell hg (p := ⟨w.heap.size + 1, 0, none⟩) (.inr (by simp)) x0) (p := ⟨w.heap.size + 1, 1, none⟩) (.inr (by simp)) x1) (p := ⟨w.heap.size + 1, 2, none⟩) (.inr (by simp)) x2) (p := ⟨w.heap.size + 1, 3, none⟩) (.inr (by simp)) x3

set_option maxRecDepth 100000 in
set_option maxHeartbeats 1000000 in
theorem value_nat (g : Nat) (A : Option Addr) (c : Nat) (w : World) (hd : Deck w g) :
    Calls Tryd.prog 18 #[.pointer (some ⟨g, 0, none⟩), .agg #[.int .i64 1, .slice A 0 c]] w (ValR g num5 w) := by
  have hgw := hd.lt
  obtain ⟨W, hW, hbW, hz, k0, k1⟩ := box_tv w (.int .i64 1) (.slice A 0 c) (.int .i64 0) (.int .i64 0) (.slice none 0 0) (.slice none 0 0)
  have hdW := hd.grown (only_of_below hbW none) (by simp)
  have HK1 := Lib.hid k1
  have HB := Lib.hid (And.intro hbW hz)
  obtain ⟨q0, _, _, _⟩ := k0.facts2
  clear k1 k0 hz
  go_enter Tryd.func18, Tryd.ntmps18
  go_wp2_with fail
  rw [← hW]
  clear hW
  refine (next_any g 5 W (by omega) (by omega) hdW).mono ?_
  rintro e w1 ⟨r, rfl, hr0, hr5, hd1, hg1⟩
  have k1 := HK1.out.grown hg1 (by have := HB.out.2; simp; omega)
  obtain ⟨_, _, _, _, f0, f1, f2, f3⟩ := k1.facts4
  go_wp2_with fail
  obtain ⟨z0, z1, z2, z3, _⟩ := (k1.set4 (.int .i64 1) (.int .i64 r) (.slice none 0 0) (.slice none 0 0)).facts4
  refine bodyPost_ret (v := .agg #[.int .i64 1, .int .i64 r, .slice none 0 0, .slice none 0 0]) (by simp [results, Tryd.results18, go_sem, z0, z1, z2, z3]) rfl ?_
  refine val_end (V := .mk 1 r [] []) hgw hd1 (only_trans (only_of_below HB.out.1 _) hg1) (by have := hg1.size; have := HB.out.2; omega) ⟨r.toNat, by omega, by rw [Int.toNat_of_nonneg hr0]⟩ (isVa_iff.2 ⟨rfl, rfl, Rep.Sl.nil _ _, Rep.Sl.nil _ _⟩)

set_option maxRecDepth 100000 in
set_option maxHeartbeats 1000000 in
theorem value_unit (g : Nat) (A : Option Addr) (c : Nat) (w : World) (hd : Deck w g) :
    Calls Tryd.prog 18 #[.pointer (some ⟨g, 0, none⟩), .agg #[.int .i64 5, .slice A 0 c]] w (ValR g (· = .mk 4 0 [] []) w) := by
  have hgw := hd.lt
  obtain ⟨W, hW, hbW, hz, k0, k1⟩ := box_tv w (.int .i64 5) (.slice A 0 c) (.int .i64 4) (.int .i64 0) (.slice none 0 0) (.slice none 0 0)
  have hdW := hd.grown (only_of_below hbW none) (by simp)
  have HB := Lib.hid (And.intro hbW hz)
  have HK1 := Lib.hid k1
  clear k1 k0 hz
  go_enter Tryd.func18, Tryd.ntmps18
  go_wp2_with fail
  rw [← hW]
  clear hW
  obtain ⟨z0, z1, z2, z3, _⟩ := HK1.out.facts4
  refine bodyPost_ret (v := .agg #[.int .i64 4, .int .i64 0, .slice none 0 0, .slice none 0 0]) (by simp [results, Tryd.results18, go_sem, z0, z1, z2, z3]) rfl ?_
  exact ⟨.mk 4 0 [] [], _, rfl, rfl, isVa_iff.2 ⟨rfl, rfl, Rep.Sl.nil _ _, Rep.Sl.nil _ _⟩, hdW, only_of_below HB.out.1 _⟩

theorem info_z : (Tryd.prog.info? 3).map (fun i => (i.zero, i.size, i.bytes)) = some (some (.int .i64 0), 1, 8) := by kernel_rfl

/-- Numbers that were appended to a list of the call's own. -/
def ListRel (w : World) (g : Nat) (k : Nat) (wr : World) : Prop := ∃ (m : List Int) (s : Value), m.length + k ≤ 3 ∧ (∀ x ∈ m, 0 ≤ x ∧ x ≤ 3) ∧ ZR.Own (fun _ => False) (w.heap.size + 3) s m wr ∧
  Blk wr (w.heap.size + 1 + 1) 45 #[.int .i64 2, .int .i64 0, s, .slice none 0 0] ∧ Blk wr (w.heap.size + 1) 45 #[.int .i64 0, .int .i64 0, .slice none 0 0, .slice none 0 0] ∧
  Deck wr g ∧ w.grownBy wr (some g) ∧ w.heap.size + 3 ≤ wr.heap.size

/-- One more number behind the list. -/
theorem list_step {w wr w2 w5 : World} {g n : Nat} {m : List Int} {A3 : Option Addr} {d3 g5 cap5 : Nat} {xs : List Value} {r : Int} (hm : (∀ x ∈ m, 0 ≤ x ∧ x ≤ 3) ∧ m.length + n ≤ 3 ∧ w.grownBy wr (some g))
    (hxo : w2.ownsRow (w.heap.size + 3) 3 1 (.slice A3 m.length d3) m.length xs) (hxc : ZR.Ch (fun b => False ∧ b < w2.heap.size ∧ (Value.slice A3 m.length d3).ownBlock ≠ some b) w2 m xs) (hr : 0 ≤ r ∧ r < 4)
    (hg : wr.grownBy w2 (some g)) (hd : Deck w2 g) (kV : Blk w2 (w.heap.size + 1 + 1) 45 #[.int .i64 2, .int .i64 0, .slice A3 m.length d3, .slice none 0 0])
    (kR : Blk w2 (w.heap.size + 1) 45 #[.int .i64 0, .int .i64 0, .slice none 0 0, .slice none 0 0]) (hgw : g < w.heap.size) (hsz : w.heap.size + 3 ≤ w2.heap.size)
    (hown5 : w5.ownsRow (w.heap.size + 3) 3 1 (.slice (some ⟨g5, 0, none⟩) (m.length + 1) cap5) (m.length + 1) (xs ++ [.int .i64 r]))
    (hgr5 : (w2.alloc (.cells #[.int .i64 r] 3)).grownBy w5 (Value.slice A3 m.length d3).ownBlock)
    (hat5 : (Value.slice A3 m.length d3).ownBlock = some g5 ∨ g5 = (w2.alloc (.cells #[.int .i64 r] 3)).heap.size) :
    w5.frozen? ⟨w.heap.size + 1 + 1, 2, none⟩ = false ∧ w5.cell? ⟨w.heap.size + 1 + 1, 2, none⟩ = some (.slice A3 m.length d3) ∧ (0 < n → ListRel w g (n - 1) (w5.setCell ⟨w.heap.size + 1 + 1, 2, none⟩ (.slice (some ⟨g5, 0, none⟩) (m.length + 1) cap5))) := by
  have hlt := hxo.lt
  have hne : ∀ q, q < w.heap.size + 3 → (Value.slice A3 m.length d3).ownBlock ≠ some q := fun q hq e => by have := (hlt q e).1; omega
  have g25 : w2.grownBy w5 (Value.slice A3 m.length d3).ownBlock := only_trans (World.grownBy_alloc w2 _ _) hgr5
  have kV5 := kV.grown g25 (fun e => hne _ (by omega) e.symm)
  have kR5 := kR.grown g25 (fun e => hne _ (by omega) e.symm)
  have s5 := g25.size
  have hv : w5.grownBy (w5.setCell ⟨w.heap.size + 1 + 1, 2, none⟩ (.slice (some ⟨g5, 0, none⟩) (m.length + 1) cap5)) (some (w.heap.size + 1 + 1)) := only_setCell (only_refl _ _) (.inl rfl) _
  refine ⟨kV5.facts4.2.2.2.2.2.2.1, kV5.facts4.2.2.1, fun hn => ⟨m ++ [r], _, by simp; omega, ?_, ?_, by simpa using kV5.set_ 2 _, kR5.grown hv (by simp), ?_, ?_, ?_⟩⟩
  · intro x hx
    rcases List.mem_append.1 hx with h | h
    · exact hm.1 x h
    · rw [List.mem_singleton.1 h]; omega
  · have h1 := Rep.Own.more (R := ZR) (S := fun _ => False) (base := w.heap.size + 3) (m := [r]) (hxo.alloc _) (hxc.keep (fun b hb => hb.1.elim) (fun p hp => hp.1.elim)) (Rep.Ch.one (R := ZR) (vs := [.int .i64 r]) rfl) hown5 hgr5 (by
      rcases hat5 with h | h
      · left; rw [h]; rfl
      · right; rw [h]; rfl)
    have h2 : ZR.Own (fun _ => False) (w.heap.size + 3) (.slice (some ⟨g5, 0, none⟩) (m.length + 1) cap5) (m ++ [r]) w5 := h1
    exact h2.far hv (by omega) (fun h => h)
  · refine (hd.grown g25 (fun k e => by have := (hlt k e).1; omega)).grown hv (fun k e => by cases e; omega)
  · have : w.grownBy w2 (some g) := only_trans hm.2.2 hg
    refine ⟨g25.os.trans this.os, g25.tape.trans this.tape, g25.output.trans this.output, by simp; omega, fun k hk hx => ?_⟩
    rw [hv.block k (by omega) (by simp; omega), g25.block k (by have := this.size; omega) (fun e => hne k (by omega) e.symm), this.block k hk hx]
  · simp; omega

set_option maxRecDepth 100000 in
set_option maxHeartbeats 4000000 in
theorem value_list (g : Nat) (A : Option Addr) (c : Nat) (w : World) (hd : Deck w g) :
    Calls Tryd.prog 18 #[.pointer (some ⟨g, 0, none⟩), .agg #[.int .i64 2, .slice A 0 c]] w (ValR g list4 w) := by
  have hgw := hd.lt
  obtain ⟨W, hW, hbW, hz, k0, k1⟩ := box_tv w (.int .i64 2) (.slice A 0 c) (.int .i64 0) (.int .i64 0) (.slice none 0 0) (.slice none 0 0)
  have hdW := hd.grown (only_of_below hbW none) (by simp)
  have HB := Lib.hid (And.intro hbW hz)
  have HK1 := Lib.hid k1
  obtain ⟨q0, _, _, _⟩ := k0.facts2
  clear k1 k0 hz
  go_enter Tryd.func18, Tryd.ntmps18
  go_wp2_with fail
  rw [← hW]
  clear hW
  have kV := Blk.new W 45 #[.int .i64 2, .int .i64 0, .slice none 0 0, .slice none 0 0]
  have dV := hdW.grown (World.grownBy_alloc W (Obj.cells #[.int .i64 2, .int .i64 0, .slice none 0 0, .slice none 0 0] 45) none) (by simp)
  rw [show W.heap.size = w.heap.size + 1 + 1 from HB.out.2] at kV
  refine (next_any g 4 _ (by omega) (by omega) dV).mono ?_
  rintro e w1 ⟨r, rfl, hr0, hr4, hd1, hg1⟩
  have hgV : w.grownBy w1 (some g) := only_trans (only_alloc (only_of_below HB.out.1 _) _) hg1
  have kV1 := kV.grown hg1 (by simp; omega)
  have kR1 := (HK1.out.alloc (Obj.cells #[.int .i64 2, .int .i64 0, .slice none 0 0, .slice none 0 0] 45)).grown hg1 (by simp; omega)
  have hz1 : w.heap.size + 3 ≤ w1.heap.size := kV1.lt
  have H0 := Lib.hid (show ListRel w g r.toNat w1 from ⟨[], .slice none 0 0, by simp; omega, by simp, Rep.Own.nil _ _ _, kV1, kR1, hd1, hgV, hz1⟩)
  obtain ⟨n0, rfl⟩ : ∃ n0 : Nat, r = (n0 : Int) := ⟨r.toNat, (Int.toNat_of_nonneg hr0).symm⟩
  clear hd1 hg1 hgV kV1 kR1 kV dV hdW q0 hd
  go_wp2_with fail
  go_loopw [6] (fun k wr => ∃ n : Nat, k = .int .i64 n ∧ ListRel w g n wr) (fun k _ => (intOf k).toNat)
  case atStart => exact ⟨n0, rfl, by simpa using H0.out⟩
  case round =>
    obtain ⟨n, rfl, m, s, hmn, hm, hown, kV, kR, hdk, hgw2, hsz⟩ := hrel
    by_cases hn : 0 < n
    · obtain ⟨c0, c1, c2, c3, _, _, f2, _⟩ := kV.facts4
      obtain ⟨A3, d3, rfl⟩ := hown.form
      obtain ⟨i0, hi, hz0, hz1, hz2⟩ := info_parts info_z
      have HO := Lib.hid hown
      have HKV := Lib.hid kV
      have HKR := Lib.hid kR
      have HD := Lib.hid hdk
      have HM := Lib.hid (And.intro hm (And.intro hmn hgw2))
      have hn3 : n ≤ 3 := by omega
      clear hown kV kR hdk hm hmn hgw2 c0 c1 c3
      go_wp2_with fail
      go_region_law (first
        | (refine step_next (by rfl) (.tmp 25) 4 _ g (by rfl) (by rfl) (by omega) (by omega) (HD.out.grown (w' := wr.drew) (row := none) ⟨rfl, rfl, rfl, Nat.le_refl _, fun _ _ _ => rfl⟩ (by simp)) ?_
           intro r w2 hr0 hr4 hd2 hg2
           have hg3 : wr.grownBy w2 (some g) := ⟨hg2.os, hg2.tape, hg2.output, hg2.size, hg2.block⟩
           have KV2 := Lib.hid (HKV.out.grown hg3 (by simp; omega))
           have KR2 := Lib.hid (HKR.out.grown hg3 (by simp; omega))
           have c2' := KV2.out.facts4.2.2.1
           have c2'' := (KV2.out.alloc (Obj.cells #[.int .i64 r] 3)).facts4.2.2.1
           have HG3 := Lib.hid hg3
           have HD2 := Lib.hid hd2
           obtain ⟨xs, hxo, hxc⟩ := HO.out.far hg3 (by omega) (fun h => h)
           have HXO := Lib.hid hxo
           have HXC := Lib.hid hxc
           have HR := Lib.hid (And.intro hr0 hr4)
           have hsz2 : w.heap.size + 3 ≤ w2.heap.size := Nat.le_trans hsz hg3.size
           clear hg2 hd2 hg3 hxo hxc hr0 hr4)
        | (refine step_append_lies _ (by rfl) (.tmp 24) (.tmp 27) 22 (by rfl) (w.heap.size + 3) 3 i0 _ 1 8 Tryd.underlying22 hi hz0 hz1 hz2 rfl (by decide) (.slice A3 m.length d3) m.length xs (by rfl) (HXO.out.alloc _) _ 1 1 [.int .i64 r] (by rfl) rfl (World.news_of_block (Blk.new w2 3 #[.int .i64 r])) (by simp [Value.oneCell']) (by decide) (by simp only [maxLen]; have := HM.out.2.1; omega) (by have := HM.out.2.1; omega) (by simp; omega) _ rfl ?_
           intro g5 cap5 w5 hown5 hgr5 hat5 hlt5
           have HST := Lib.hid (list_step HM.out HXO.out HXC.out HR.out HG3.out HD2.out KV2.out KR2.out hgw hsz2 hown5 hgr5 hat5)
           have f2' := HST.out.1
           have c5' := HST.out.2.1
           clear hown5 hgr5 hat5))
      all_goals go_wp2_with fail
      all_goals exact ⟨⟨n - 1, by congr 1; omega, HST.out.2.2 hn⟩, by simp [intOf]; omega⟩
    · have hn0 : n = 0 := by omega
      subst hn0
      obtain ⟨c0, c1, c2, c3, _⟩ := kV.facts4
      obtain ⟨_, _, _, _, f0, f1, f2, f3⟩ := kR.facts4
      obtain ⟨A3, d3, rfl⟩ := hown.form
      have HO := Lib.hid hown
      have HM := Lib.hid (And.intro hm hmn)
      clear hown hm hmn
      go_wp2_with fail
      obtain ⟨z0, z1, z2, z3, _⟩ := (kR.set4 (.int .i64 2) (.int .i64 0) (.slice A3 m.length d3) (.slice none 0 0)).facts4
      refine bodyPost_ret (v := .agg #[.int .i64 2, .int .i64 0, .slice A3 m.length d3, .slice none 0 0]) (by simp [results, Tryd.results18, go_sem, z0, z1, z2, z3]) rfl ?_
      refine val_end (V := .mk 2 0 m []) hgw hdk hgw2 (by omega) ⟨m, by have := HM.out.2; omega, HM.out.1, rfl⟩ (isVa_iff.2 ⟨rfl, rfl, ?_, Rep.Sl.nil _ _⟩)
      exact HO.out.sl.keep (fun b hb => by rcases hb with ⟨h | h, h2⟩; exact h.elim; omega) (fun _ _ => rfl)
end Go.Proofs.YtifijgihcincfaaDoor
namespace Go.Proofs.YtifijgihcincfaaDoor
open Go.RowKit

theorem value_leaf (k : Int) (hk : k = 1 ∨ k = 2 ∨ k = 5) (g : Nat) (A : Option Addr) (c : Nat) (w : World) (hd : Deck w g) :
    Calls Tryd.prog 18 #[.pointer (some ⟨g, 0, none⟩), .agg #[.int .i64 k, .slice A 0 c]] w (ValR g (leafV (.mk k [])) w) := by
  rcases hk with rfl | rfl | rfl
  · exact (value_nat g A c w hd).mono fun e w' ⟨V, v, h1, h2, h3⟩ => ⟨V, v, h1, .inl ⟨rfl, h2⟩, h3⟩
  · exact (value_list g A c w hd).mono fun e w' ⟨V, v, h1, h2, h3⟩ => ⟨V, v, h1, .inr (.inl ⟨rfl, h2⟩), h3⟩
  · exact (value_unit g A c w hd).mono fun e w' ⟨V, v, h1, h2, h3⟩ => ⟨V, v, h1, .inr (.inr ⟨rfl, h2⟩), h3⟩

/-- Two values in one slice that was just built. -/
theorem pair_sl {lo : Nat} {w1 w2 : World} {a b : Va} {x0 x1 x2 x3 y0 y1 y2 y3 : Value} (hg : ∀ p : Addr, lo ≤ p.block → p.block < w1.heap.size → w2.cell? p = w1.cell? p) (hz : w1.heap.size ≤ w2.heap.size) (hlo : lo ≤ w2.heap.size)
    (ha : IsVa (fun q => lo ≤ q ∧ q < w1.heap.size) w1 a (.agg #[x0, x1, x2, x3])) (hb : IsVa (fun q => lo ≤ q ∧ q < w2.heap.size) w2 b (.agg #[y0, y1, y2, y3])) :
    IsVa (fun q => lo ≤ q ∧ q < (w2.alloc (.cells #[x0, x1, x2, x3, y0, y1, y2, y3] 45)).heap.size) (w2.alloc (.cells #[x0, x1, x2, x3, y0, y1, y2, y3] 45)) (.mk 3 0 [] [a, b])
      (.agg #[.int .i64 3, .int .i64 0, .slice none 0 0, .slice (some ⟨w2.heap.size, 0, none⟩) 2 2]) := by
  have ha2 : IsVa (fun q => lo ≤ q ∧ q < w2.heap.size) w2 a (.agg #[x0, x1, x2, x3]) := IsVa.keep (fun q h => ⟨h.1, by omega⟩) (fun p hp => hg p hp.1 hp.2) _ ha
  have hc := (Rep.Ch.one (R := VaR) (vs := [x0, x1, x2, x3]) ha2).append (Rep.Ch.one (R := VaR) (vs := [y0, y1, y2, y3]) hb)
  exact isVa_iff.2 ⟨rfl, rfl, Rep.Sl.nil _ _, Rep.Sl.built (R := VaR) hc (fun b h => h.2) _ (fun b h => ⟨h.1, by simp; omega⟩) ⟨hlo, by simp⟩⟩

set_option maxHeartbeats 4000000 in
theorem value_pair (k1 k2 : Int) (h1 : k1 = 1 ∨ k1 = 2 ∨ k1 = 5) (h2 : k2 = 1 ∨ k2 = 2 ∨ k2 = 5) (g : Nat) (v : Value) (w : World) (hd : Deck w g) (hT : IsTy (fun b => b ≠ g ∧ b < w.heap.size) w (.mk 3 [.mk k1 [], .mk k2 []]) v) :
    Calls Tryd.prog 18 #[.pointer (some ⟨g, 0, none⟩), v] w (ValR g (MadeV (.mk 3 [.mk k1 [], .mk k2 []])) w) := by
  have hgw := hd.lt
  obtain ⟨A, c, rfl⟩ := hT.form
  simp only [Ty.kind, Ty.args, List.length_cons, List.length_nil, Nat.reduceAdd] at hT ⊢
  obtain ⟨W, hW, hbW, hz, b0, b1⟩ := box_tv w (.int .i64 3) (.slice A 2 c) (.int .i64 0) (.int .i64 0) (.slice none 0 0) (.slice none 0 0)
  have hdW := hd.grown (only_of_below hbW none) (by simp)
  have hTW := IsTy.keep (S' := fun b => b ≠ g ∧ b < w.heap.size) (fun _ h => h) (fun p hp => hbW.cell hp.2) _ hT
  obtain ⟨a, D, d, E, e, rfl, ha, r0, r1, s0, s1, _, _⟩ := hTW.two
  simp only [Ty.kind, Ty.args, List.length_nil] at r0 r1 s0 s1
  have HD := Lib.hid (hdW.grown (w' := W.drew) (row := none) ⟨rfl, rfl, rfl, Nat.le_refl _, fun _ _ _ => rfl⟩ (by simp))
  have HB := Lib.hid (And.intro hbW hz)
  have HK1 := Lib.hid b1
  have HSK := Lib.hid fun (w1 : World) (h : Turn (fun k => k = g ∨ k = w.heap.size + 1) W w1) => And.intro (h.blk b0 (by omega)).facts2.2.1
    (And.intro ((World.cell?_of_block (a := a) (h.block a.block (by omega) (by omega))).trans r0) (And.intro ((World.cell?_of_block (a := ⟨a.block, a.off + 1, none⟩) (h.block a.block (by omega) (by omega))).trans r1)
      (And.intro ((World.cell?_of_block (a := ⟨a.block, a.off + 2, none⟩) (h.block a.block (by omega) (by omega))).trans s0) ((World.cell?_of_block (a := ⟨a.block, a.off + 2 + 1, none⟩) (h.block a.block (by omega) (by omega))).trans s1))))
  have H1 := Lib.hid h1
  have H2 := Lib.hid h2
  have qk := b0.facts2.1
  obtain ⟨q1, q2, q3, q4, q5⟩ := HSK.out W (Turn.refl _ _)
  clear b0 b1 hz hdW hT hTW hd r0 r1 s0 s1 h1 h2
  go_enter Tryd.func18, Tryd.ntmps18
  go_wp2_with fail
  rw [← hW]
  clear hW qk
  go_region_held3 (fun w' => w'.cell? ⟨w.heap.size, 1, none⟩ = some (.slice (some a) 2 c) ∧ w'.cell? a = some (.int .i64 k1) ∧ w'.cell? ⟨a.block, a.off + 1, none⟩ = some (.slice D 0 d) ∧
      w'.cell? ⟨a.block, a.off + 2, none⟩ = some (.int .i64 k2) ∧ w'.cell? ⟨a.block, a.off + 2 + 1, none⟩ = some (.slice E 0 e))
    (first | with_reducible exact HSK.out _ (Turn.drew _) | with_reducible exact HSK.out _ T1.out | with_reducible exact HSK.out _ T2.out | with_reducible exact HSK.out _ T3.out | with_reducible exact HSK.out _ T4.out | go_keep)
    (first
      | (go_at_call 18
         (with_reducible refine (value_leaf k2 H2.out g E e w1 DK1.out).mono ?_)
         rintro e2 w2 ⟨V2, v2, rfl, hV2, tV2, hd2, hg2⟩
         obtain ⟨B2, d2, A2, c2, rfl⟩ := tV2.form
         have T2 := Lib.hid (T1.out.trans (Turn.grown hg2 (fun k e => by cases e; exact .inl rfl)))
         have T3 := Lib.hid (T2.out.trans (Turn.alloc w2 (Obj.cells #[.int .i64 V1.kind, .int .i64 V1.num, .slice B1 V1.list.length d1, .slice A1 V1.args.length c1, .int .i64 V2.kind, .int .i64 V2.num, .slice B2 V2.list.length d2, .slice A2 V2.args.length c2] 45)))
         have T4 := Lib.hid (T3.out.trans (Turn.grown (only_set4 (w2.alloc (Obj.cells #[.int .i64 V1.kind, .int .i64 V1.num, .slice B1 V1.list.length d1, .slice A1 V1.args.length c1, .int .i64 V2.kind, .int .i64 V2.num, .slice B2 V2.list.length d2, .slice A2 V2.args.length c2] 45)) (w.heap.size + 1) (.int .i64 3) (.int .i64 0) (.slice none 0 0) (.slice (some ⟨w2.heap.size, 0, none⟩) 2 2)) (fun k e => by cases e; exact .inr rfl)))
         have K2 := Lib.hid ((K1.out.grown hg2 (by simp; omega)).alloc (Obj.cells #[.int .i64 V1.kind, .int .i64 V1.num, .slice B1 V1.list.length d1, .slice A1 V1.args.length c1, .int .i64 V2.kind, .int .i64 V2.num, .slice B2 V2.list.length d2, .slice A2 V2.args.length c2] 45))
         obtain ⟨_, _, _, _, f0, f1, f2, f3⟩ := K2.out.facts4
         have HV2 := Lib.hid (And.intro hV2 tV2)
         have DK2 := Lib.hid hd2
         have G2 := Lib.hid hg2
         clear hV2 tV2 hd2 hg2)
      | (go_at_call 18
         (with_reducible refine (value_leaf k1 H1.out g D d W.drew HD.out).mono ?_)
         rintro e1 w1 ⟨V1, v1, rfl, hV1, tV1, hd1, hg1⟩
         obtain ⟨B1, d1, A1, c1, rfl⟩ := tV1.form
         have hg1' : W.grownBy w1 (some g) := ⟨hg1.os, hg1.tape, hg1.output, hg1.size, hg1.block⟩
         have T1 := Lib.hid (Turn.grown (X := fun k => k = g ∨ k = w.heap.size + 1) hg1' (fun k e => by cases e; exact .inl rfl))
         have K1 := Lib.hid (HK1.out.grown hg1' (by simp; omega))
         have HV1 := Lib.hid (And.intro hV1 tV1)
         have DK1 := Lib.hid hd1
         have G1 := Lib.hid hg1'
         clear hV1 tV1 hd1 hg1 hg1'))
  go_wp2_with fail
  obtain ⟨z0, z1, z2, z3, _⟩ := (K2.out.set4 (.int .i64 3) (.int .i64 0) (.slice none 0 0) (.slice (some ⟨w2.heap.size, 0, none⟩) 2 2)).facts4
  refine bodyPost_ret (v := .agg #[.int .i64 3, .int .i64 0, .slice none 0 0, .slice (some ⟨w2.heap.size, 0, none⟩) 2 2]) (by simp [results, Tryd.results18, go_sem, z0, z1, z2, z3]) rfl ?_
  have hz := HB.out.2
  have hs1 := G1.out.size
  have hs2 := G2.out.size
  have ew : W.drew.heap.size = W.heap.size := rfl
  refine val_end (V := .mk 3 0 [] [V1, V2]) hgw (DK2.out.grown (World.grownBy_alloc _ _ none) (by simp)) (only_alloc (only_trans (only_trans (only_of_below HB.out.1 _) G1.out) G2.out) _) (by simp; omega) (.inr ⟨_, _, V1, V2, rfl, HV1.out.1, HV2.out.1, rfl⟩) ?_
  exact pair_sl (fun p h1 h2 => World.cell?_of_block (G2.out.block p.block h2 (by simp; omega))) hs2 (by omega) (HV1.out.2.keep (fun b h => ⟨by have := h.1; omega, h.2⟩) (fun _ _ => rfl)) (HV2.out.2.keep (fun b h => ⟨by omega, h.2⟩) (fun _ _ => rfl))

/-- mk.Value of a plain type. -/
theorem mkValue_any (T : Ty) (hp : PlainT T) (g : Nat) (v : Value) (w : World) (hd : Deck w g) (hT : IsTy (fun b => b ≠ g ∧ b < w.heap.size) w T v) :
    Calls Tryd.prog 18 #[.pointer (some ⟨g, 0, none⟩), v] w (ValR g (MadeV T) w) := by
  have leaf : ∀ k : Int, (k = 1 ∨ k = 2 ∨ k = 5) → IsTy (fun b => b ≠ g ∧ b < w.heap.size) w (.mk k []) v → Calls Tryd.prog 18 #[.pointer (some ⟨g, 0, none⟩), v] w (ValR g (MadeV (.mk k [])) w) := by
    intro k hk hT
    obtain ⟨A, c, rfl⟩ := hT.form
    exact (value_leaf k hk g A c w hd).mono fun e w' ⟨V, v, h1, h2, h3⟩ => ⟨V, v, h1, .inl h2, h3⟩
  rcases hp with rfl | rfl | rfl | rfl | rfl
  · exact leaf 1 (by simp) hT
  · exact leaf 2 (by simp) hT
  · exact leaf 5 (by simp) hT
  · exact value_pair 1 2 (by simp) (by simp) g v w hd hT
  · exact value_pair 1 1 (by simp) (by simp) g v w hd hT
end Go.Proofs.YtifijgihcincfaaDoor
namespace Go.Proofs.YtifijgihcincfaaDoor
open Go.RowKit

set_option maxRecDepth 100000 in
set_option maxHeartbeats 4000000 in
theorem sameT_refl (n : Nat) : ∀ (t : Tm) (u v : Value) (w : World), t.bulk ≤ n → n ≤ 400000 → IsTm (· < w.heap.size) w t u → IsTm (· < w.heap.size) w t v →
    Calls Tryd.prog 15 #[u, v] w fun e w' => e = .returned (.bool true) ∧ Below w.heap.size w w' := by
  induction n with
  | zero => intro t; have := bulk_pos t; omega
  | succ n ih =>
    rintro ⟨k, i, T, l⟩ u v w hn hb hu hv
    obtain ⟨B, d, A, c, rfl, hT, hl⟩ := hu.mk_parts
    obtain ⟨B', d', A', c', rfl, hT', hl'⟩ := hv.mk_parts
    have hll := bulkAll_len l
    simp only [Tm.bulk] at hn
    have IH := Lib.hid ih
    have HL := Lib.hid (And.intro hl hl')
    obtain ⟨b1, z1, k1⟩ := new_blk (Below.refl w.heap.size w) (Nat.le_refl _) #[.int .i64 k, .int .i64 i, .int .i64 T.kind, .slice B T.args.length d, .slice A l.length c] 34
    obtain ⟨b2, z2, k2⟩ := new_blk b1 b1.size #[.int .i64 k, .int .i64 i, .int .i64 T.kind, .slice B' T.args.length d', .slice A' l.length c'] 34
    have k1 := k1.alloc (Obj.cells #[.int .i64 k, .int .i64 i, .int .i64 T.kind, .slice B' T.args.length d', .slice A' l.length c'] 34)
    rw [z1] at k2 z2
    obtain ⟨W, hW⟩ : ∃ W, W = (w.alloc (Obj.cells #[.int .i64 k, .int .i64 i, .int .i64 T.kind, .slice B T.args.length d, .slice A l.length c] 34)).alloc (Obj.cells #[.int .i64 k, .int .i64 i, .int .i64 T.kind, .slice B' T.args.length d', .slice A' l.length c'] 34) := ⟨_, rfl⟩
    rw [← hW] at b2 z2 k1 k2
    have HTY := Lib.hid (And.intro (hT.boxed' b2) (hT'.boxed' b2))
    have hTn : T.nodes ≤ 400000 := by omega
    have HKK := Lib.hid (And.intro k1 (And.intro k2 b2))
    obtain ⟨p0, p1, p2, p3, p4, _⟩ := k1.facts5
    obtain ⟨s0, s1, s2, s3, s4, _⟩ := k2.facts5
    clear hu hv hT hT' hl hl' ih b1 z1 k1 k2
    go_enter Tryd.func15, Tryd.ntmps15
    go_wp2_with fail
    rw [← hW]
    clear hW
    refine (refSame_any 400000 T T _ _ W hTn (Nat.le_refl _) HTY.out.1 HTY.out.2 hTn).mono ?_
    rintro e W1 ⟨rfl, hbW⟩
    rw [eqb_self]
    have HBW := Lib.hid hbW
    have HK2 := Lib.hid (And.intro (HKK.out.1.below hbW HKK.out.1.lt) (And.intro (HKK.out.2.1.below hbW HKK.out.2.1.lt) (HKK.out.2.2.trans (hbW.mono HKK.out.2.2.size))))
    obtain ⟨_, _, _, _, q4, _⟩ := HK2.out.1.facts5
    obtain ⟨_, _, _, _, r4, _⟩ := HK2.out.2.1.facts5
    clear hbW p0 p1 p2 p3 p4 s0 s1 s2 s3 s4
    go_wp2_with fail
    go_loopw [38] (fun ix wr => ∃ j : Nat, j ≤ l.length ∧ ix = .int .i64 j ∧ Below W1.heap.size W1 wr) (fun ix _ => l.length - (intOf ix).toNat)
    case atStart => exact ⟨0, by omega, rfl, Below.refl _ _⟩
    case round =>
      obtain ⟨j, hj, rfl, hbel⟩ := hrel
      have hws := hbel.size
      have hB2 : Below w.heap.size w wr := HK2.out.2.2.trans (hbel.mono HK2.out.2.2.size)
      by_cases hlt : j < l.length
      · have hl1 : TmR.Sl (· < w.heap.size) wr l (.slice A l.length c) := HL.out.1.keep (fun _ h => h) (fun p hp => hB2.cell hp)
        have hm1 : TmR.Sl (· < w.heap.size) wr l (.slice A' l.length c') := HL.out.2.keep (fun _ h => h) (fun p hp => hB2.cell hp)
        obtain ⟨a, rfl, ha, hat⟩ := hl1.get j hlt
        obtain ⟨a', rfl, ha', hat'⟩ := hm1.get j hlt
        obtain ⟨B1, d1, A1, c1, q0, q1, q2, q3, q4', hx⟩ := at_tm hat
        obtain ⟨B2, d2, A2, c2, r0, r1, r2, r3, r4', hy⟩ := at_tm hat'
        simp only [show TmR.n = 5 from rfl] at q0 q1 q2 q3 q4' r0 r1 r2 r3 r4'
        have hnj := bulkAll_get l j hlt
        have hab : (a.add (j * 5)).block < w.heap.size := by rw [add_block]; exact ha
        have hab' : (a'.add (j * 5)).block < w.heap.size := by rw [add_block]; exact ha'
        have hwz := hB2.size
        have k1 := HK2.out.1.below hbel HK2.out.1.lt
        have k2 := HK2.out.2.1.below hbel HK2.out.2.1.lt
        have HSK := Lib.hid fun (w1 : World) (h : Below wr.heap.size wr w1) => And.intro (k1.below h k1.lt).facts5.2.2.2.2.1 (And.intro (k2.below h k2.lt).facts5.2.2.2.2.1
          (And.intro ((h.cell (p := a.add (j * 5)) (by omega)).trans q0) (And.intro ((h.cell (p := ⟨(a.add (j * 5)).block, (a.add (j * 5)).off + 1, none⟩) (by show (a.add (j * 5)).block < _; omega)).trans q1)
            (And.intro ((h.cell (p := ⟨(a.add (j * 5)).block, (a.add (j * 5)).off + 2, none⟩) (by show (a.add (j * 5)).block < _; omega)).trans q2) (And.intro ((h.cell (p := ⟨(a.add (j * 5)).block, (a.add (j * 5)).off + 3, none⟩) (by show (a.add (j * 5)).block < _; omega)).trans q3)
              (And.intro ((h.cell (p := ⟨(a.add (j * 5)).block, (a.add (j * 5)).off + 4, none⟩) (by show (a.add (j * 5)).block < _; omega)).trans q4')
          (And.intro ((h.cell (p := a'.add (j * 5)) (by omega)).trans r0) (And.intro ((h.cell (p := ⟨(a'.add (j * 5)).block, (a'.add (j * 5)).off + 1, none⟩) (by show (a'.add (j * 5)).block < _; omega)).trans r1)
            (And.intro ((h.cell (p := ⟨(a'.add (j * 5)).block, (a'.add (j * 5)).off + 2, none⟩) (by show (a'.add (j * 5)).block < _; omega)).trans r2) (And.intro ((h.cell (p := ⟨(a'.add (j * 5)).block, (a'.add (j * 5)).off + 3, none⟩) (by show (a'.add (j * 5)).block < _; omega)).trans r3)
              ((h.cell (p := ⟨(a'.add (j * 5)).block, (a'.add (j * 5)).off + 4, none⟩) (by show (a'.add (j * 5)).block < _; omega)).trans r4')))))))))))
        have ARM := Lib.hid (show Calls Tryd.prog 15 #[.agg #[.int .i64 l[j].kind, .int .i64 l[j].index, .int .i64 l[j].type.kind, .slice B1 l[j].type.args.length d1, .slice A1 l[j].args.length c1],
            .agg #[.int .i64 l[j].kind, .int .i64 l[j].index, .int .i64 l[j].type.kind, .slice B2 l[j].type.args.length d2, .slice A2 l[j].args.length c2]] wr.drew fun e w' => e = .returned (.bool true) ∧ Below wr.heap.size wr w' by
          refine (IH.out l[j] _ _ wr.drew (by omega) (by omega) (hx.keep (fun b h => Nat.lt_of_lt_of_le h hwz) (fun p _ => World.cell?_drew _ p)) (hy.keep (fun b h => Nat.lt_of_lt_of_le h hwz) (fun p _ => World.cell?_drew _ p))).mono ?_
          rintro e w1 ⟨h1, h2⟩
          exact ⟨h1, ((Below.refl _ wr).drew).trans h2⟩)
        obtain ⟨m0, m1, _⟩ := HSK.out wr (Below.refl _ _)
        have HBL := Lib.hid hbel
        clear hl1 hm1 hat hat' hx hy k1 k2 q0 q1 q2 q3 q4' r0 r1 r2 r3 r4' hbel hB2
        go_wp2_with fail
        go_region_held3 (fun w' => w'.cell? ⟨w.heap.size, 4, none⟩ = some (.slice (some a) l.length c) ∧ w'.cell? ⟨w.heap.size + 1, 4, none⟩ = some (.slice (some a') l.length c') ∧
            w'.cell? (a.add (j * 5)) = some (.int .i64 l[j].kind) ∧ w'.cell? ⟨(a.add (j * 5)).block, (a.add (j * 5)).off + 1, none⟩ = some (.int .i64 l[j].index) ∧ w'.cell? ⟨(a.add (j * 5)).block, (a.add (j * 5)).off + 2, none⟩ = some (.int .i64 l[j].type.kind) ∧
            w'.cell? ⟨(a.add (j * 5)).block, (a.add (j * 5)).off + 3, none⟩ = some (.slice B1 l[j].type.args.length d1) ∧ w'.cell? ⟨(a.add (j * 5)).block, (a.add (j * 5)).off + 4, none⟩ = some (.slice A1 l[j].args.length c1) ∧
            w'.cell? (a'.add (j * 5)) = some (.int .i64 l[j].kind) ∧ w'.cell? ⟨(a'.add (j * 5)).block, (a'.add (j * 5)).off + 1, none⟩ = some (.int .i64 l[j].index) ∧ w'.cell? ⟨(a'.add (j * 5)).block, (a'.add (j * 5)).off + 2, none⟩ = some (.int .i64 l[j].type.kind) ∧
            w'.cell? ⟨(a'.add (j * 5)).block, (a'.add (j * 5)).off + 3, none⟩ = some (.slice B2 l[j].type.args.length d2) ∧ w'.cell? ⟨(a'.add (j * 5)).block, (a'.add (j * 5)).off + 4, none⟩ = some (.slice A2 l[j].args.length c2))
          (first | with_reducible exact HSK.out _ (Below.refl _ _).drew | with_reducible exact HSK.out _ HB1.out | go_keep)
          (first
            | (go_at_call 15
               (with_reducible refine ARM.out.mono ?_)
               rintro e w1 ⟨rfl, hb1⟩
               have HB1 := Lib.hid hb1
               clear hb1))
        go_wp2_with fail
        exact ⟨⟨j + 1, by omega, by go_num, HBL.out.trans (HB1.out.mono hws)⟩, by simp [intOf]; omega⟩
      · have hjl : j = l.length := by omega
        subst hjl
        clear hbel
        go_wp2_with fail
        go_ret
        exact ⟨rfl, hB2⟩
end Go.Proofs.YtifijgihcincfaaDoor
namespace Go.Proofs.YtifijgihcincfaaDoor
open Go.RowKit

theorem tm_sl_one {w : World} {x : Tm} {a0 a1 a2 a3 a4 : Value} (h : IsTm (· < w.heap.size) w x (.agg #[a0, a1, a2, a3, a4])) :
    TmR.Sl (· < (w.alloc (.cells #[a0, a1, a2, a3, a4] 34)).heap.size) (w.alloc (.cells #[a0, a1, a2, a3, a4] 34)) [x] (.slice (some ⟨w.heap.size, 0, none⟩) 1 1) :=
  Rep.Sl.built (R := TmR) (Rep.Ch.one (R := TmR) (vs := [a0, a1, a2, a3, a4]) h) (fun _ h => h) _ (fun b hb => by have hb : b < w.heap.size := hb; simp; omega) (by simp)
theorem freshN {w w' : World} {T : Tm} {v : Value} (h : IsTm (fun b => w.heap.size ≤ b ∧ b < w'.heap.size) w' T v) : IsTm (· < w'.heap.size) w' T v := IsTm.keep (fun _ h => h.2) (fun _ _ => rfl) _ h
theorem num_two : numTm 2 = .mk 5 0 .zero [.mk 5 0 .zero [.mk 4 0 .zero []]] := rfl
theorem two_made : MadeV (.mk 1 []) (.mk 1 2 [] []) := .inl (.inl ⟨rfl, 2, by decide, rfl⟩)

set_option maxRecDepth 100000 in
set_option maxHeartbeats 4000000 in
theorem saneV_any (w : World) : Calls Tryd.prog 16 #[] w fun e w' => e = .returned (.bool true) ∧ Below w.heap.size w w' := by
  go_enter Tryd.func16, Tryd.ntmps16
  go_wp2_with fail
  refine (valueTerm_made two_made (.agg #[.int .i64 1, .int .i64 2, .slice none 0 0, .slice none 0 0]) w (isVa_iff.2 ⟨rfl, rfl, Rep.Sl.nil _ _, Rep.Sl.nil _ _⟩)).mono ?_
  rintro e w1 ⟨v, rfl, ht, hb1⟩
  rw [show (Va.mk 1 2 [] []).term = numTm 2 from rfl, num_two] at ht
  obtain ⟨B, d, A, c, rfl, _⟩ := ht.zero_parts
  obtain ⟨W, hW⟩ : ∃ W, W = w1.alloc (Obj.cells #[.int .i64 5, .int .i64 0, .int .i64 0, .slice B 0 d, .slice A 1 c] 34) := ⟨_, rfl⟩
  have k := Blk.new w1 34 #[.int .i64 5, .int .i64 0, .int .i64 0, .slice B 0 d, .slice A 1 c]
  have bW := (Below.refl w1.heap.size w1).alloc (Nat.le_refl _) (Obj.cells #[.int .i64 5, .int .i64 0, .int .i64 0, .slice B 0 d, .slice A 1 c] 34)
  rw [← hW] at k bW
  have htW := (freshN ht).boxed bW
  have HT := Lib.hid (show IsTm (· < W.heap.size) W (.mk 5 0 .zero [.mk 5 0 .zero [.mk 4 0 .zero []]]) (.agg #[.int .i64 5, .int .i64 0, .int .i64 0, .slice B 0 d, .slice A 1 c]) from htW)
  have HB := Lib.hid (hb1.trans (bW.mono hb1.size))
  have HSK := Lib.hid fun (w' : World) (h : Below W.heap.size W w') => (k.below h k.lt).cells5
  obtain ⟨p0, p1, p2, p3, p4⟩ := k.cells5
  clear ht hb1 bW k htW
  go_wp2_with fail
  rw [← hW]
  clear hW
  go_region_held3 (fun w' => w'.cell? ⟨w1.heap.size, 0, none⟩ = some (.int .i64 5) ∧ w'.cell? ⟨w1.heap.size, 1, none⟩ = some (.int .i64 0) ∧ w'.cell? ⟨w1.heap.size, 2, none⟩ = some (.int .i64 0) ∧ w'.cell? ⟨w1.heap.size, 3, none⟩ = some (.slice B 0 d) ∧ w'.cell? ⟨w1.heap.size, 4, none⟩ = some (.slice A 1 c))
    (first | with_reducible exact HSK.out _ (Below.refl _ _).drew | with_reducible exact HSK.out _ G2.out | with_reducible exact HSK.out _ G2A.out | with_reducible exact HSK.out _ G3.out | with_reducible exact HSK.out _ G3A.out | with_reducible exact HSK.out _ G4.out | with_reducible exact HSK.out _ G5.out | go_keep)
    (first
      | (go_at_call 15
         (with_reducible refine (sameT_refl 400000 _ _ _ w4 (by simp [Tm.bulk, bulkAll, Ty.zero, Ty.nodes, nodesAll]) (Nat.le_refl _) (HT.out.boxed G4.out) HT4.out).mono ?_)
         rintro e w5 ⟨rfl, hb5⟩
         have G5 := Lib.hid (G4.out.trans (hb5.mono G4.out.size))
         clear hb5)
      | (go_at_call 13
         (with_reducible refine (n_any 5 [.mk 5 0 .zero [.mk 4 0 .zero []]] _ _ (by simp [Tm.bulk, bulkAll, Ty.zero, Ty.nodes, nodesAll]) (tm_sl_one HT3.out)).mono ?_)
         rintro e w4 ⟨v4, rfl, t4, hb4⟩
         obtain ⟨B4, d4, A4, c4, rfl, _⟩ := t4.zero_parts
         have HT4 := Lib.hid (show IsTm (· < w4.heap.size) w4 (.mk 5 0 .zero [.mk 5 0 .zero [.mk 4 0 .zero []]]) (.agg #[.int .i64 5, .int .i64 0, .int .i64 0, .slice B4 0 d4, .slice A4 1 c4]) from freshN t4)
         have G4 := Lib.hid (G3A.out.trans (hb4.mono G3A.out.size))
         clear t4 hb4)
      | (go_at_call 13
         (with_reducible refine (n_any 5 [.mk 4 0 .zero []] _ _ (by simp [Tm.bulk, bulkAll, Ty.zero, Ty.nodes, nodesAll]) (tm_sl_one HT2.out)).mono ?_)
         rintro e w3 ⟨v3, rfl, t3, hb3⟩
         obtain ⟨B3, d3, A3, c3, rfl, _⟩ := t3.zero_parts
         have HT3 := Lib.hid (show IsTm (· < w3.heap.size) w3 (.mk 5 0 .zero [.mk 4 0 .zero []]) (.agg #[.int .i64 5, .int .i64 0, .int .i64 0, .slice B3 0 d3, .slice A3 1 c3]) from freshN t3)
         have G3 := Lib.hid (G2A.out.trans (hb3.mono G2A.out.size))
         have G3A := Lib.hid (G3.out.alloc G3.out.size (Obj.cells #[.int .i64 5, .int .i64 0, .int .i64 0, .slice B3 0 d3, .slice A3 1 c3] 34))
         clear t3 hb3)
      | (go_at_call 13
         (with_reducible refine (n_any 4 [] (.slice none 0 0) W.drew (by simp [bulkAll]) (Rep.Sl.nil _ _)).mono ?_)
         rintro e w2 ⟨v2, rfl, t2, hb2⟩
         obtain ⟨B2, d2, A2, c2, rfl, _⟩ := t2.zero_parts
         have HT2 := Lib.hid (show IsTm (· < w2.heap.size) w2 (.mk 4 0 .zero []) (.agg #[.int .i64 4, .int .i64 0, .int .i64 0, .slice B2 0 d2, .slice A2 0 c2]) from freshN t2)
         have G2 := Lib.hid (show Below W.heap.size W w2 from ((Below.refl _ W).drew).trans hb2)
         have G2A := Lib.hid (G2.out.alloc G2.out.size (Obj.cells #[.int .i64 4, .int .i64 0, .int .i64 0, .slice B2 0 d2, .slice A2 0 c2] 34))
         clear t2 hb2))
  go_wp2_with fail
  go_ret
  exact ⟨rfl, HB.out.trans (G5.out.mono HB.out.size)⟩
end Go.Proofs.YtifijgihcincfaaDoor
