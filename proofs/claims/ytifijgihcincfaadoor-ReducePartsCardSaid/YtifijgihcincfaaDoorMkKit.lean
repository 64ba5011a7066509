/- What the walk of mk.Term needs: bounds, contexts, slices that were built. -/
import Derived.Test.YtifijgihcincfaaDoorMkVars
import Derived.Test.YtifijgihcincfaaDoorPackMk
import Derived.Test.YtifijgihcincfaaDoorMkNums
import Derived.Test.YtifijgihcincfaaDoorMade
namespace Go.Proofs.YtifijgihcincfaaDoor
open Go.RowKit

/-! How many nodes, and how many places of one variable: types of one node (A, P), larger ones (B, Q). -/
def bdA : Nat → Nat | 0 => 3 | d + 1 => 3 * bdA d + 15
def bdB : Nat → Nat | 0 => 7 | d + 1 => 2 * bdB d + bdA d + 4
def bdP : Nat → Nat | 0 => 1 | d + 1 => 3 * bdP d
def bdQ : Nat → Nat | 0 => 2 | d + 1 => 2 * bdQ d + bdP d
def bdN (d : Nat) (t : Ty) : Nat := if t.nodes ≤ 1 then bdA d else bdB d
def bdO (d : Nat) (t : Ty) : Nat := if t.nodes ≤ 1 then bdP d else bdQ d
theorem bd_facts : ∀ d, 3 ≤ bdA d ∧ 7 ≤ bdB d ∧ 1 ≤ bdP d ∧ 2 ≤ bdQ d ∧ bdA d ≤ 2 * bdB d + 3 ∧ bdP d ≤ 2 * bdQ d
  | 0 => by decide
  | d + 1 => by have := bd_facts d; simp only [bdA, bdB, bdP, bdQ]; omega
theorem bd_one {d : Nat} {t : Ty} (h : t.nodes ≤ 1) : bdN d t = bdA d ∧ bdO d t = bdP d := by simp [bdN, bdO, h]
theorem bd_more {d : Nat} {t : Ty} (h : ¬ t.nodes ≤ 1) : bdN d t = bdB d ∧ bdO d t = bdQ d := by simp [bdN, bdO, h]
theorem bd_le {d : Nat} (h : d ≤ 5) : bdA d ≤ 3000 ∧ bdB d ≤ 3000 := by
  have : d = 0 ∨ d = 1 ∨ d = 2 ∨ d = 3 ∨ d = 4 ∨ d = 5 := by omega
  rcases this with rfl | rfl | rfl | rfl | rfl | rfl <;> decide
theorem bdN_le {d : Nat} (t : Ty) (h : d ≤ 5) : bdN d t ≤ 3000 := by
  have := bd_le h
  unfold bdN; split <;> omega
theorem Made.bulk_le {G : List Ty} {t : Ty} {a p : Nat} {T : Tm} (h : Made G t a p T) (ha : a ≤ 3000) : T.bulk ≤ 12000 := by have := h.size; have := h.thin; omega

/-- What mk.Term answers. -/
def TermR (g : Nat) (G : List Ty) (t : Ty) (a p : Nat) (w : World) (e : Ending) (w' : World) : Prop :=
  ∃ T v, e = .returned v ∧ Made G t a p T ∧ IsTm (fun b => w.heap.size ≤ b ∧ b < w'.heap.size) w' T v ∧ Deck w' g ∧ Turn (· = g) w w'

theorem Deck.call {g : Nat} {w w' : World} (h : Deck w g) (hb : Below w.heap.size w w') : Deck w' g := h.grown (only_of_below hb none) (by simp)
theorem Deck.box {g : Nat} {w : World} (h : Deck w g) (o : Obj) : Deck (w.alloc o) g := h.grown (World.grownBy_alloc w o none) (by simp)
theorem turn_of {g : Nat} {w w' : World} (h : w.grownBy w' (some g)) : Turn (· = g) w w' := Turn.grown h fun _ e => by cases e; rfl

/-- What is said of mk.Term for smaller calls. -/
def IHT (g M : Nat) : Prop := ∀ (G : List Ty) (t : Ty) (d : Int) (s v : Value) (w : World), 4 * d.toNat + t.nodes < M → d ≤ 5 → (t.nodes : Int) - 20 ≤ d → G.length + 4 * d.toNat + t.nodes ≤ 60 → t.ok = true → t.nodes ≤ 3 →
  Ctx g w G s → Typ g w t v → Deck w g → Calls Tryd.prog 11 #[.pointer (some ⟨g, 0, none⟩), s, v, .int .i64 d] w (TermR g G t (bdN d.toNat t) (bdO d.toNat t) w)

/-- The two blocks of a call of mk.Term: the type, and the result. -/
structure Boxes (g : Nat) (w W : World) (t : Ty) (B : Option Addr) (e : Nat) : Prop where
  size : W.heap.size = w.heap.size + 2
  below : Below w.heap.size w W
  k0 : Blk W w.heap.size 30 #[.int .i64 t.kind, .slice B t.args.length e]
  k1 : Blk W (w.heap.size + 1) 34 #[.int .i64 0, .int .i64 0, .int .i64 0, .slice none 0 0, .slice none 0 0]
  lt : g < w.heap.size
theorem boxes_made {g : Nat} {w : World} (hg : g < w.heap.size) (t : Ty) (B : Option Addr) (e : Nat) : Boxes g w ((w.alloc (Obj.cells #[.int .i64 t.kind, .slice B t.args.length e] 30)).alloc (Obj.cells #[.int .i64 0, .int .i64 0, .int .i64 0, .slice none 0 0, .slice none 0 0] 34)) t B e := by
  obtain ⟨b1, z1, k0⟩ := new_blk (Below.refl w.heap.size w) (Nat.le_refl _) #[.int .i64 t.kind, .slice B t.args.length e] 30
  generalize w.alloc (Obj.cells #[.int .i64 t.kind, .slice B t.args.length e] 30) = W1 at b1 z1 k0 ⊢
  obtain ⟨b2, z2, k1⟩ := new_blk b1 b1.size #[.int .i64 0, .int .i64 0, .int .i64 0, .slice none 0 0, .slice none 0 0] 34
  have k0 := k0.alloc (Obj.cells #[.int .i64 0, .int .i64 0, .int .i64 0, .slice none 0 0, .slice none 0 0] 34)
  rw [z1] at k1
  exact ⟨by omega, b2, k0, k1, hg⟩
namespace Boxes
variable {g : Nat} {w W w' : World} {t : Ty} {B : Option Addr} {e : Nat}
theorem turn (h : Boxes g w W t B e) : Turn (· = g) w W := Turn.call h.below
/-- The type's cells stand while the deck and the result turn. -/
theorem held (h : Boxes g w W t B e) (ht : Turn (Pair2 g (w.heap.size + 1)) W w') : w'.cell? ⟨w.heap.size, 0, none⟩ = some (.int .i64 t.kind) ∧ w'.cell? ⟨w.heap.size, 1, none⟩ = some (.slice B t.args.length e) := by
  have hz := h.size
  have hg := h.lt
  have k := ht.blk h.k0 (by unfold Pair2; omega)
  exact ⟨k.facts2.1, k.facts2.2.1⟩
/-- The result's cells can be written. -/
theorem result (h : Boxes g w W t B e) (ht : Turn (· = g) W w') : Blk w' (w.heap.size + 1) 34 #[.int .i64 0, .int .i64 0, .int .i64 0, .slice none 0 0, .slice none 0 0] :=
  ht.blk h.k1 (by have := h.lt; omega)
end Boxes

/-- The end of a way: the term is in the result's block. -/
theorem term_end {g : Nat} {w W w2 : World} {t : Ty} {B : Option Addr} {e : Nat} {G : List Ty} {a p lo : Nat} {T : Tm} {x0 x1 x2 x3 x4 : Value} (hB : Boxes g w W t B e) (ht : Turn (· = g) W w2) (hd : Deck w2 g) (hm : Made G t a p T) (hT : Trm lo w2 T (.agg #[x0, x1, x2, x3, x4])) (hlo : W.heap.size ≤ lo) :
    TermR g G t a p w (.returned (.agg #[x0, x1, x2, x3, x4])) (((((w2.setCell ⟨w.heap.size + 1, 0, none⟩ x0).setCell ⟨w.heap.size + 1, 1, none⟩ x1).setCell ⟨w.heap.size + 1, 2, none⟩ x2).setCell ⟨w.heap.size + 1, 3, none⟩ x3).setCell ⟨w.heap.size + 1, 4, none⟩ x4) := by
  have hz := hB.size
  have hg := only_set5 w2 (w.heap.size + 1) x0 x1 x2 x3 x4
  have hw2 := ht.size
  have hlt := hB.lt
  refine ⟨T, _, rfl, hm, IsTm.keep (fun b h => ⟨by omega, Nat.lt_of_lt_of_le h.2 hg.size⟩) (fun p hp => World.cell?_of_block (hg.block p.block hp.2 (by simp; omega))) _ hT, hd.grown hg (fun k e => by cases e; omega), ?_⟩
  have h1 := hB.turn.trans ht
  exact ⟨hg.os.trans h1.os, hg.tape.trans h1.tape, hg.output.trans h1.output, Nat.le_trans h1.size hg.size, fun k hk hx => (hg.block k (Nat.lt_of_lt_of_le hk h1.size) (by simp; omega)).trans (h1.block k hk hx)⟩
end Go.Proofs.YtifijgihcincfaaDoor
