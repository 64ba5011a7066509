/- typeOf. -/
import Derived.Test.YtieafbmabnohhaaDoorTypeSpec
import Derived.Deep.DeepAppendRoom
import Derived.ArgAppend
import Derived.Sort.LoopGhostIn
namespace Go.Proofs.YtieafbmabnohhaaDoor
open Go.RowKit

/-- The context's own cells stand. -/
def Still (base : Nat) (c : Value) (n : Nat) (w w' : World) : Prop := ∀ xs, w.ownsRow base 30 2 c n xs → w'.ownsRow base 30 2 c n xs

def TypeOfR (S : Nat → Prop) (base : Nat) (c : Value) (g : List Ty) (t : Tm) (w : World) (e : Ending) (w' : World) : Prop :=
  w.grownBy w' c.ownBlock ∧ Still base c g.length w w' ∧ match t.typ g with
    | .ok U => ∃ v, e = .returned (.tuple #[v, .int .i64 0]) ∧ IsTy (fun b => (S b ∨ w.heap.size ≤ b) ∧ b < w'.heap.size) w' U v
    | .error k => e = .returned (.tuple #[.agg #[.int .i64 0, .slice none 0 0], .int .i64 k])

theorem own_still {S : Nat → Prop} {base : Nat} {c : Value} {g : List Ty} {w w' : World} (h : TyR.Own S base c g w) (hs : Still base c g.length w w') (hg : w.grownBy w' c.ownBlock) : TyR.Own S base c g w' := by
  obtain ⟨xs, hown, hc⟩ := h
  exact ⟨xs, hs xs hown, hc.keep (fun b hb => ⟨hb.1, Nat.lt_of_lt_of_le hb.2.1 hg.size, hb.2.2⟩) (fun p hp => World.cell?_of_block (hg.block p.block hp.2.1 (fun e => hp.2.2 e.symm)))⟩

theorem ownsRow_drop {w : World} {base : Nat} {t : TypeId} {g cap n : Nat} {xs ys : List Value} (hx : xs.length = n * 2) (h : w.ownsRow base t 2 (.slice (some ⟨g, 0, none⟩) (n + 1) cap) (n + 1) (xs ++ ys)) :
    w.ownsRow base t 2 (.slice (some ⟨g, 0, none⟩) n cap) n xs := by
  rcases h.2 with ⟨h0, _⟩ | ⟨g', cap', cur, hv, hb, hg, hnc, hcm, hcs, htake⟩
  · cases h0
  · cases hv
    refine ⟨hx, .inr ⟨_, _, cur, rfl, hb, hg, by omega, hcm, hcs, ?_⟩⟩
    have := congrArg (List.take (n * 2)) htake
    rw [List.take_take, Nat.min_eq_left (by omega)] at this
    rw [this, ← hx, List.take_left]

/-- What holds when the parts of a node are gone through: the context is c', its types g'. -/
structure Rest (w W1 : World) (S : Nat → Prop) (base : Nat) (c : Value) (g : List Ty) (t : Tm) (base' : Nat) (c' : Value) (g' : List Ty) : Prop where
  own : TyR.Own (fun b => (S b ∨ w.heap.size + 2 ≤ b) ∧ c'.ownBlock ≠ some b) base' c' g' W1
  back : ∀ W2, W1.grownBy W2 c'.ownBlock → Still base' c' g'.length W1 W2 → w.grownBy W2 c.ownBlock ∧ Still base c g.length w W2
  lies : ∀ b, c'.ownBlock = some b → (b < w.heap.size ∨ w.heap.size + 2 ≤ b) ∧ ¬ S b
  g' : g' = if t.kind = 2 then g ++ [t.type] else g
  base' : base' ≤ W1.heap.size
  size : w.heap.size + 2 ≤ W1.heap.size
  keeps : ∀ p : Addr, S p.block → W1.cell? p = w.cell? p

theorem madeCells_at (z : Array Value) (n k : Nat) (h : k < n) : (madeCells z n).toList[k]? = some z[k % z.size]! := by
  have h1 : (Array.range n)[k]? = some k := by simp [h]
  simp [madeCells, h]
theorem zero_cells (S : Nat → Prop) (w : World) (n : Nat) : TyR.Ch S w (List.replicate n .zero) (madeCells #[.int .i64 0, .slice none 0 0] (n * 2)).toList := by
  refine ⟨by simp [madeCells]; rfl, fun i hi => ⟨[.int .i64 0, .slice none 0 0], fun j u hu => ?_, by rw [List.getElem_replicate]; exact IsTy.leaf S w 0⟩⟩
  have hi' : i < n := by simpa using hi
  show (madeCells #[.int .i64 0, .slice none 0 0] (n * 2)).toList[i * 2 + j]? = some u
  match j, hu with
  | 0, hu =>
    simp at hu
    rw [madeCells_at _ _ _ (by omega), show (i * 2 + 0) % (#[Value.int IntKind.i64 0, Value.slice none 0 0] : Array Value).size = 0 from by simp, ← hu]
    rfl
  | 1, hu =>
    simp at hu
    rw [madeCells_at _ _ _ (by omega), show (i * 2 + 1) % (#[Value.int IntKind.i64 0, Value.slice none 0 0] : Array Value).size = 1 from by show (i * 2 + 1) % 2 = 1; omega, ← hu]
    rfl

theorem Rest.next {w W1 W2 : World} {S : Nat → Prop} {base base' : Nat} {c c' : Value} {g g' : List Ty} {t : Tm} (h : Rest w W1 S base c g t base' c' g') (hS : ∀ b, S b → b < w.heap.size) (hg : W1.grownBy W2 c'.ownBlock) (hs : Still base' c' g'.length W1 W2) : Rest w W2 S base c g t base' c' g' where
  own := own_still h.own hs hg
  back W3 h1 h2 := h.back W3 (only_trans hg h1) (fun xs hx => h2 xs (hs xs hx))
  lies := h.lies
  g' := h.g'
  base' := Nat.le_trans h.base' hg.size
  size := Nat.le_trans h.size hg.size
  keeps p hp := (World.cell?_of_block (hg.block p.block (by have := hS _ hp; have := h.size; omega) (fun e => (h.lies _ e.symm).2 hp))).trans (h.keeps p hp)

theorem still_none {base : Nat} {c : Value} {n : Nat} {w w' : World} (h : w.grownBy w' none) : Still base c n w w' := fun xs hx => hx.kept h (by cases c.ownBlock <;> simp)
theorem grown_none {w w' : World} (h : w.grownBy w' none) (row : Option Nat) : w.grownBy w' row := ⟨h.os, h.tape, h.output, h.size, fun i hi _ => h.block i hi (by simp)⟩

/-- The list of the types of the parts, just made. -/
theorem parts_made {w W1 wm : World} {S : Nat → Prop} {base base' : Nat} {c c' : Value} {g g' : List Ty} {t : Tm} {x5 x2 : Array Value} {n m : Nat} (hS : ∀ b, S b → b < w.heap.size) (k0 : Blk W1 w.heap.size 34 x5) (k1 : Blk W1 (w.heap.size + 1) 30 x2)
    (h : Rest w W1 S base c g t base' c' g') (hmk : wm.ownsRow (w.heap.size + 2) 30 2 (.slice (some ⟨m, 0, none⟩) n n) n (madeCells #[.int .i64 0, .slice none 0 0] (n * 2)).toList) (hm : m = W1.heap.size) (hgm : W1.grownBy wm none) :
    TyR.Own (fun b => (S b ∨ w.heap.size + 2 ≤ b) ∧ c'.ownBlock ≠ some b) (w.heap.size + 2) (.slice (some ⟨m, 0, none⟩) n n) (List.replicate n .zero) wm ∧ Rest w wm S base c g t base' c' g' ∧ Blk wm w.heap.size 34 x5 ∧
      Blk wm (w.heap.size + 1) 30 x2 ∧ c'.ownBlock ≠ some m := by
  refine ⟨⟨_, by rw [List.length_replicate]; exact hmk, zero_cells _ _ n⟩, h.next hS (grown_none hgm _) (still_none hgm), k0.grown hgm (by simp), k1.grown hgm (by simp), fun e => ?_⟩
  have := h.own.lt m e
  omega

theorem grown_off {a b c : World} {row : Option Nat} {k : Nat} (h : a.grownBy b row) (h2 : b.grownBy c (some k)) (hk : a.heap.size ≤ k) : a.grownBy c row :=
  ⟨h2.os.trans h.os, h2.tape.trans h.tape, h2.output.trans h.output, Nat.le_trans h.size h2.size, fun i hi hne => (h2.block i (Nat.lt_of_lt_of_le hi h.size) (by simp; omega)).trans (h.block i hi hne)⟩
theorem typeOf_close {w w2 W : World} {S : Nat → Prop} {base : Nat} {c : Value} {g : List Ty} (_hS : ∀ b, S b → b < w.heap.size) (hown : TyR.Own S base c g w) (hb : w.grownBy w2 c.ownBlock ∧ Still base c g.length w w2) (_hz : w.heap.size + 2 ≤ w2.heap.size)
    (hg : w2.grownBy W (some (w.heap.size + 1))) : w.grownBy W c.ownBlock ∧ Still base c g.length w W := by
  refine ⟨grown_off hb.1 hg (by omega), fun xs hx => (hb.2 xs hx).kept hg ?_⟩
  right
  intro e
  have := hown.lt _ e
  omega
theorem ownsRow_det {w : World} {base : Nat} {t : TypeId} {n : Nat} {v : Value} {xs ys : List Value} (h : w.ownsRow base t 2 v n xs) (k : w.ownsRow base t 2 v n ys) : xs = ys := by
  rcases h.2 with ⟨rfl, hn⟩ | ⟨g, cap, cur, rfl, _, hg, _, _, _, ht⟩
  · subst hn
    have h1 : xs = [] := List.eq_nil_of_length_eq_zero (by simpa using h.1)
    have h2 : ys = [] := List.eq_nil_of_length_eq_zero (by simpa using k.1)
    rw [h1, h2]
  · rcases k.2 with ⟨hv, _⟩ | ⟨g', cap', cur', hv, _, hg', _, _, _, ht'⟩
    · cases hv
    · cases hv
      rw [hg] at hg'
      cases hg'
      rw [← ht, ← ht']

/-- A function's body: the context grows in place. -/
theorem rest_room {w W W1 : World} {S : Nat → Prop} {base gb cap : Nat} {g : List Ty} {i : Int} {T : Ty} {l : List Tm} {xs : List Value} {x y : Value} {k : Int} (hk : k = 2) (hbase : base ≤ w.heap.size) (hS : ∀ b, S b → b < w.heap.size ∧ (Value.slice (some ⟨gb, 0, none⟩) g.length cap).ownBlock ≠ some b)
    (hb : Below w.heap.size w W) (hz : W.heap.size = w.heap.size + 2) (hown : TyR.Own S base (.slice (some ⟨gb, 0, none⟩) g.length cap) g w) (hxo : W.ownsRow base 30 2 (.slice (some ⟨gb, 0, none⟩) g.length cap) g.length xs)
    (hxc : TyR.Ch (fun b => S b ∧ b < W.heap.size ∧ (Value.slice (some ⟨gb, 0, none⟩) g.length cap).ownBlock ≠ some b) W g xs) (hT : IsTy S W T (.agg #[x, y]))
    (hown1 : W1.ownsRow base 30 2 (.slice (some ⟨gb, 0, none⟩) (g.length + 1) cap) (g.length + 1) (xs ++ [x, y])) (hgr : (W.alloc (.cells #[x, y] 30)).grownBy W1 (some gb)) :
    Rest w W1 S base (.slice (some ⟨gb, 0, none⟩) g.length cap) g (.mk k i T l) base (.slice (some ⟨gb, 0, none⟩) (g.length + 1) cap) (g ++ [T]) := by
  have hgb := hown.lt gb rfl
  have hgW : W.grownBy W1 (some gb) := only_trans (World.grownBy_alloc W _ _) hgr
  have hs1 := hgW.size
  have hSg : ¬ S gb := fun h => (hS _ h).2 rfl
  refine { own := ?_, back := ?_, lies := ?_, g' := by show g ++ [T] = if k = 2 then _ else _; rw [if_pos hk]; rfl, base' := by omega, size := by omega, keeps := fun p hp => ?_ }
  · refine ⟨xs ++ [x, y], by rw [List.length_append]; exact hown1, ((hxc.keep (S' := fun b => ((S b ∨ w.heap.size + 2 ≤ b) ∧ (Value.slice (some ⟨gb, 0, none⟩) (g.length + 1) cap).ownBlock ≠ some b) ∧ b < W1.heap.size ∧ (Value.slice (some ⟨gb, 0, none⟩) (g.length + 1) cap).ownBlock ≠ some b) (w' := W1)
      (fun b h => ⟨⟨.inl h.1, h.2.2⟩, by omega, h.2.2⟩) (fun p hp => World.cell?_of_block (hgW.block p.block hp.2.1 (fun e => hp.2.2 (by simpa [Value.ownBlock] using e.symm))))).append
      (ty_one (IsTy.keep (fun b h => ⟨⟨.inl h, (hS b h).2⟩, by have := (hS b h).1; omega, (hS b h).2⟩) (fun p hp => World.cell?_of_block (hgW.block p.block (by have := (hS _ hp).1; omega) (fun e => (hS _ hp).2 (by simpa [Value.ownBlock] using e.symm)))) _ hT)))⟩
  · intro W2 h1 h2
    refine ⟨only_trans (only_trans (below_only hb (Nat.le_refl _) _) hgW) h1, fun xs' hx' => ?_⟩
    have e : xs' = xs := ownsRow_det (hx'.kept (below_only hb (Nat.le_refl _) none) (.inr (by simp [Value.ownBlock]))) hxo
    subst e
    have h3 := h2 (xs' ++ [x, y]) (by simpa using hown1)
    exact ownsRow_drop hx'.1 (by simpa using h3)
  · intro b e
    have : b = gb := by simpa [Value.ownBlock] using e.symm
    subst this
    exact ⟨.inl (by omega), hSg⟩
  · have := (hS _ hp).1
    exact (World.cell?_of_block (hgW.block p.block (by omega) (fun e => (hS _ hp).2 (by simpa [Value.ownBlock] using e.symm)))).trans (hb.cell this)

theorem grow_form {W : World} {base : Nat} {t : TypeId} {n : Nat} {c : Value} {xs : List Value} (h : W.ownsRow base t 2 c n xs) (hn : ¬ ∃ gb cap, c = .slice (some ⟨gb, 0, none⟩) n cap ∧ n + 1 ≤ cap) :
    ∃ ao cap, c = .slice ao n cap ∧ (ao = none → n = 0 ∧ cap = 0) ∧ cap < n + 1 ∧ (∀ b, ao = some b → ∀ j u, xs[j]? = some u → W.cell? (b.add j) = some u) := by
  have hc := fun g (hg : c.ownBlock = some g) => h.cells hg
  rcases h.2 with ⟨rfl, rfl⟩ | ⟨g, cap, cur, rfl, _, hg, _⟩
  · exact ⟨none, 0, rfl, fun _ => ⟨rfl, rfl⟩, by omega, fun b e => by cases e⟩
  · refine ⟨_, cap, rfl, (fun e => by cases e), Nat.lt_of_not_le (fun e => hn ⟨g, cap, rfl, e⟩), fun b e j u hu => ?_⟩
    cases e
    exact hc g rfl j u hu

/-- A function's body: the context moves. -/
theorem rest_grow {w W W1 : World} {S : Nat → Prop} {base : Nat} {g : List Ty} {i : Int} {T : Ty} {l : List Tm} {xs : List Value} {x y c v1 : Value} {k : Int} (hk : k = 2) (hS : ∀ b, S b → b < w.heap.size ∧ c.ownBlock ≠ some b)
    (hb : Below w.heap.size w W) (hz : W.heap.size = w.heap.size + 2) (hown : TyR.Own S base c g w)
    (hxc : TyR.Ch (fun b => S b ∧ b < W.heap.size ∧ c.ownBlock ≠ some b) W g xs) (hT : IsTy S W T (.agg #[x, y]))
    (hown1 : W1.ownsRow (W.alloc (.cells #[x, y] 30)).heap.size 30 2 v1 (g.length + 1) (xs ++ [x, y])) (hgr : (W.alloc (.cells #[x, y] 30)).grownBy W1 none) :
    Rest w W1 S base c g (.mk k i T l) (w.heap.size + 3) v1 (g ++ [T]) := by
  have hgW : W.grownBy W1 none := only_trans (World.grownBy_alloc W _ _) hgr
  have hs1 := hgW.size
  rw [World.size_alloc, hz] at hown1
  have hlt := hown1.lt
  have hs2 := hgr.size
  rw [World.size_alloc] at hs2
  have hne : ∀ b, S b → v1.ownBlock ≠ some b := fun b h e => by have h1 := (hlt b e).1; have h2 := (hS b h).1; omega
  refine { own := ?_, back := ?_, lies := ?_, g' := by show g ++ [T] = if k = 2 then _ else _; rw [if_pos hk]; rfl, base' := by omega, size := by omega, keeps := fun p hp => ?_ }
  · refine ⟨xs ++ [x, y], by rw [List.length_append]; exact hown1, ((hxc.keep (S' := fun b => ((S b ∨ w.heap.size + 2 ≤ b) ∧ v1.ownBlock ≠ some b) ∧ b < W1.heap.size ∧ v1.ownBlock ≠ some b) (w' := W1)
      (fun b h => ⟨⟨.inl h.1, hne b h.1⟩, by omega, hne b h.1⟩) (fun p hp => World.cell?_of_block (hgW.block p.block hp.2.1 (by simp)))).append
      (ty_one (IsTy.keep (fun b h => ⟨⟨.inl h, hne b h⟩, by have := (hS b h).1; omega, hne b h⟩) (fun p hp => World.cell?_of_block (hgW.block p.block (by have := (hS _ hp).1; omega) (by simp))) _ hT)))⟩
  · intro W2 h1 h2
    have hg01 : w.grownBy W1 c.ownBlock := only_trans (below_only hb (Nat.le_refl _) _) (grown_none hgW _)
    obtain ⟨vb, hvb⟩ : ∃ vb, v1.ownBlock = some vb := by
      rcases hown1.2 with ⟨_, h0⟩ | ⟨gg, cap, cur, rfl, _⟩
      · omega
      · exact ⟨gg, rfl⟩
    rw [hvb] at h1
    have hvl := (hlt vb hvb).1
    refine ⟨grown_off hg01 h1 (by omega), fun xs' hx' => ?_⟩
    have h3 := (hx'.kept (below_only hb (Nat.le_refl _) none) (by cases c.ownBlock <;> simp)).kept hgW (by cases c.ownBlock <;> simp)
    exact h3.kept h1 (.inr fun e => by have := (hown.lt vb e).2; omega)
  · intro b e
    exact ⟨.inr (by have := (hlt b e).1; omega), fun h => hne b h e⟩
  · have := (hS _ hp).1
    exact (World.cell?_of_block (hgW.block p.block (by omega) (by simp))).trans (hb.cell this)

/-- A part's type is stored. -/
theorem parts_store {S : Nat → Prop} {base pm L j : Nat} {w3 : World} {ps : List Ty} {U : Ty} {xs : List Value} {x y : Value} {own : Option Nat} (hj : ps.length = j) (hlt : j < L) (_hne : some pm ≠ own)
    (hxo : w3.ownsRow base 30 2 (.slice (some ⟨pm, 0, none⟩) L L) L xs) (hxc : TyR.Ch (fun b => S b ∧ b < w3.heap.size ∧ (Value.slice (some ⟨pm, 0, none⟩) L L).ownBlock ≠ some b) w3 (ps ++ List.replicate (L - j) .zero) xs) (_hnl : (ps ++ List.replicate (L - j) Ty.zero).length = L)
    (hU : IsTy (fun b => S b ∧ b < w3.heap.size ∧ pm ≠ b) w3 U (.agg #[x, y])) :
    TyR.Own S base (.slice (some ⟨pm, 0, none⟩) L L) ((ps ++ [U]) ++ List.replicate (L - (j + 1)) .zero) ((w3.setCell ⟨pm, j * 2, none⟩ x).setCell ⟨pm, j * 2 + 1, none⟩ y) ∧
      w3.grownBy ((w3.setCell ⟨pm, j * 2, none⟩ x).setCell ⟨pm, j * 2 + 1, none⟩ y) (some pm) := by
  obtain ⟨o1, g1⟩ := hxo.stored (j * 2) x
  obtain ⟨o2, g2⟩ := o1.stored (j * 2 + 1) y
  have hg := only_trans g1 g2
  refine ⟨?_, hg⟩
  have hxl : xs.length = L * 2 := hxo.1
  have hc := Rep.Ch.set_ (R := TyR) (vs := [x, y]) (ys := (xs.set (j * 2) x).set (j * 2 + 1) y) hxc j (by rw [_hnl]; exact hlt) (show TyR.is _ w3 U [x, y] from IsTy.keep (fun b h => ⟨h.1, h.2.1, fun e => h.2.2 (by simpa [Value.ownBlock] using e)⟩) (fun _ _ => rfl) _ hU) (by simp)
    (fun k u hu => by
      show ((xs.set (j * 2) x).set (j * 2 + 1) y)[j * 2 + k]? = some u
      match k, hu with
      | 0, hu =>
        simp at hu
        subst hu
        show ((xs.set (j * 2) x).set (j * 2 + 1) y)[j * 2]? = some x
        rw [List.getElem?_set_ne (by omega), List.getElem?_set_self (by omega)]
      | 1, hu =>
        simp at hu
        subst hu
        rw [List.getElem?_set_self (by rw [List.length_set]; omega)])
    (fun k hk => by
      have hk' : k < j * 2 ∨ j * 2 + 2 ≤ k := hk
      rw [List.getElem?_set_ne (by omega), List.getElem?_set_ne (by omega)])
  have e : (ps ++ List.replicate (L - j) Ty.zero).set j U = (ps ++ [U]) ++ List.replicate (L - (j + 1)) .zero := by
    subst hj
    obtain ⟨m, hm⟩ : ∃ m, L - ps.length = m + 1 := ⟨L - ps.length - 1, by omega⟩
    rw [hm, show L - (ps.length + 1) = m from by omega, List.replicate_succ]
    simp
  rw [e] at hc
  refine ⟨_, by rw [show ((ps ++ [U]) ++ List.replicate (L - (j + 1)) Ty.zero).length = L from by simp; omega]; exact o2, hc.keep (fun b h => ⟨h.1, Nat.lt_of_lt_of_le h.2.1 hg.size, h.2.2⟩) (fun p hp => World.cell?_of_block (hg.block p.block hp.2.1 (fun e => hp.2.2 (by simpa [Value.ownBlock] using e.symm))))⟩

set_option maxRecDepth 100000 in
set_option maxHeartbeats 8000000 in
theorem typeOf_any (n : Nat) : ∀ (t : Tm) (g : List Ty) (c v : Value) (base : Nat) (S : Nat → Prop) (w : World), t.bulk ≤ n → t.ok = true → (∀ T ∈ g, T.err = 0) → g.length + n ≤ 400000 → base ≤ w.heap.size →
    (∀ b, S b → b < w.heap.size ∧ c.ownBlock ≠ some b) → TyR.Own S base c g w → IsTm S w t v →
    Calls Tryd.prog 64 #[c, v] w (TypeOfR S base c g t w) := by
  induction n with
  | zero => intro t; have := bulk_pos t; omega
  | succ n ih =>
    rintro ⟨k, i, T, l⟩ g c v base S w hn hok hg hgn hbase hS hown hT
    have IH := Lib.hid ih
    clear ih
    obtain ⟨B, d, A, a0, rfl, hty, hl⟩ := hT.mk_parts
    rw [Tm.ok, Bool.and_eq_true] at hok
    obtain ⟨hf, hokl⟩ := hok
    obtain ⟨f1, f2, f3, f4, f5, f6, f7⟩ := formed_kind hf
    simp only [Tm.kind, Tm.index, Tm.type, Tm.args] at f1 f2 f3 f4 f5 f6 f7
    have HF := Lib.hid (And.intro f1 (And.intro f2 (And.intro f3 (And.intro f4 (And.intro f5 (And.intro f6 f7))))))
    clear f1 f2 f3 f5 f6 f7
    simp only [Tm.bulk] at hn
    obtain ⟨W, hW, hb, hz, k0, k1⟩ := box52_facts w (.int .i64 k) (.int .i64 i) (.int .i64 T.kind) (.slice B T.args.length d) (.slice A l.length a0)
    have hTW : IsTm S W (.mk k i T l) (.agg #[.int .i64 k, .int .i64 i, .int .i64 T.kind, .slice B T.args.length d, .slice A l.length a0]) := IsTm.keep (fun _ h => h) (fun p hp => hb.cell (hS _ hp).1) _ hT
    have hownW : TyR.Own S base c g W := hown.below hb
    have HS := Lib.hid hS
    by_cases h1 : k = 1
    · subst h1
      have hats := hownW.ats
      have hSW : ∀ b, S b → b < W.heap.size := fun b h => Nat.lt_of_lt_of_le (hS b h).1 hb.size
      obtain ⟨q0, q1, _, _, _⟩ := k0.cells5
      have HA := Lib.hid (And.intro hats (And.intro hSW (And.intro hb hz)))
      clear hats hSW hb hz hTW hownW hown hT hty hl
      go_enter Tryd.func64, Tryd.ntmps64
      go_wp2_with fail
      rw [← hW]
      clear hW
      obtain ⟨hats, hSW, hb, hz⟩ := HA.out
      refine (variable_in S g i _ W hSW f4 (by omega) hats).mono ?_
      rintro e w1 ⟨hb1, h1⟩
      have k1 := k1.below hb1 k1.lt
      obtain ⟨r0, r1, g0, g1⟩ := k1.facts2
      have hs1 := hb1.size
      have hb01 : Below w.heap.size w w1 := hb.trans (hb1.mono hb.size)
      have HB := Lib.hid (And.intro hb01 (And.intro hb1 (And.intro hSW hz)))
      have htyp : (Tm.mk 1 i T l).typ g = if h : i.toNat < g.length then .ok (g[g.length - 1 - i.toNat]'(by omega)) else .error 6 := by unfold Tm.typ; rw [if_pos rfl]
      have HY := Lib.hid htyp
      clear hats hb hSW hb1 hb01 q0 q1 htyp hz
      by_cases hi : i.toNat < g.length
      · rw [dif_pos hi] at h1
        obtain ⟨v1, rfl, hv1⟩ := h1
        obtain ⟨A1, c1, rfl⟩ := hv1.form
        have HV := Lib.hid hv1
        clear hv1
        go_wp2_with fail
        obtain ⟨z0, z1, _, _⟩ := (k1.set2 (.int .i64 (g[g.length - 1 - i.toNat]'(by omega)).kind) (.slice A1 (g[g.length - 1 - i.toNat]'(by omega)).args.length c1)).facts2
        refine bodyPost_ret (v := .tuple #[.agg #[.int .i64 (g[g.length - 1 - i.toNat]'(by omega)).kind, .slice A1 (g[g.length - 1 - i.toNat]'(by omega)).args.length c1], .int .i64 0]) (by simp [results, Tryd.results64, go_sem, z0, z1]) rfl ?_
        obtain ⟨hb01, hb1, hSW, hz⟩ := HB.out
        have hg2 := only_set2 w1 (w.heap.size + 1) (.int .i64 (g[g.length - 1 - i.toNat]'(by omega)).kind) (.slice A1 (g[g.length - 1 - i.toNat]'(by omega)).args.length c1)
        have hbF := hb01.grown hg2 hb01.size (fun k e => by cases e; omega)
        refine ⟨below_only hbF (Nat.le_refl _) _, fun xs h => h.kept (below_only hbF (Nat.le_refl _) none) (by cases c.ownBlock <;> simp), ?_⟩
        rw [HY.out, dif_pos hi]
        refine ⟨_, rfl, IsTy.keep (fun b h => ⟨.inl h, Nat.lt_of_lt_of_le (HS.out b h).1 hbF.size⟩) (fun p hp => ?_) _ HV.out⟩
        exact World.cell?_of_block (hg2.block p.block (by have := (HS.out _ hp).1; have := hb01.size; omega) (fun e => by have := (HS.out _ hp).1; simp at e; omega))
      · rw [dif_neg hi] at h1
        subst h1
        go_wp2_with fail
        obtain ⟨z0, z1, _, _⟩ := (k1.set2 (.int .i64 0) (.slice none 0 0)).facts2
        refine bodyPost_ret (v := .tuple #[.agg #[.int .i64 0, .slice none 0 0], .int .i64 6]) (by simp [results, Tryd.results64, go_sem, z0, z1]) rfl ?_
        obtain ⟨hb01, hb1, hSW, hz⟩ := HB.out
        have hg2 := only_set2 w1 (w.heap.size + 1) (.int .i64 0) (.slice none 0 0)
        have hbF := hb01.grown hg2 hb01.size (fun k e => by cases e; omega)
        refine ⟨below_only hbF (Nat.le_refl _) _, fun xs h => h.kept (below_only hbF (Nat.le_refl _) none) (by cases c.ownBlock <;> simp), ?_⟩
        rw [HY.out, dif_neg hi]
    · have e1 : (k == 1) = false := by rw [beq_eq_false_iff_ne]; exact h1
      have HTW := Lib.hid hTW
      have HBZ := Lib.hid (And.intro hb hz)
      have HOW := Lib.hid (And.intro hown hownW)
      have HG := Lib.hid hg
      have HK := Lib.hid (And.intro k0 k1)
      have HN := Lib.hid (And.intro hn hgn)
      obtain ⟨q0, q1, q2, q3, q4⟩ := k0.cells5
      clear hTW hb hz hown hownW hty hl hg k0 k1 hn hgn f4
      obtain ⟨i0, hi, hz0, hz1, hz2⟩ := info_parts info_type
      have hll : l.length ≤ 400000 := by have := bulkAll_len l; have := HN.out; omega
      have HT0 := Lib.hid hT
      clear hT
      by_cases h2 : k = 2
      · have e2 : (k == 2) = true := by simp [h2]
        have HK2 := Lib.hid h2
        clear h2
        obtain ⟨xs, hxo, hxc⟩ := HOW.out.2
        have hTt := (isTm_iff.1 HTW.out).2.2.1
        have hxoA := hxo.alloc (Obj.cells #[.int .i64 T.kind, .slice B T.args.length d] 30)
        have HXC := Lib.hid (And.intro hxo (And.intro hxc hTt))
        have hxl : xs.length = g.length * 2 := hxo.1
        have hWs : W.heap.size = w.heap.size + 2 := HBZ.out.2
        have k0A := HK.out.1.alloc (Obj.cells #[.int .i64 T.kind, .slice B T.args.length d] 30)
        have k1A := HK.out.2.alloc (Obj.cells #[.int .i64 T.kind, .slice B T.args.length d] 30)
        have HKA := Lib.hid (And.intro k0A k1A)
        have hgn : g.length ≤ 400000 := by have := HN.out; omega
        have hnews : ∀ j u, [Value.int .i64 T.kind, .slice B T.args.length d][j]? = some u → (W.alloc (Obj.cells #[.int .i64 T.kind, .slice B T.args.length d] 30)).cell? ((⟨w.heap.size + 1 + 1, 0, none⟩ : Addr).add j) = some u := by
          have h := cells_new W #[.int .i64 T.kind, .slice B T.args.length d] 30
          rw [hWs] at h
          exact h
        have HNW := Lib.hid (And.intro hnews hWs)
        clear hxo hxc hTt k0A k1A hnews hWs
        by_cases hroom : ∃ gb cap, c = .slice (some ⟨gb, 0, none⟩) g.length cap ∧ g.length + 1 ≤ cap
        · obtain ⟨gb, cap, rfl, hcap⟩ := hroom
          have hgb := HOW.out.1.lt gb rfl
          have after : ∀ W1 : World, W1.ownsRow base 30 2 (.slice (some ⟨gb, 0, none⟩) (g.length + 1) cap) (g.length + 1) (xs ++ [.int .i64 T.kind, .slice B T.args.length d]) → (W.alloc (.cells #[.int .i64 T.kind, .slice B T.args.length d] 30)).grownBy W1 (some gb) →
              Hid (Rest w W1 S base (.slice (some ⟨gb, 0, none⟩) g.length cap) g (.mk k i T l) base (.slice (some ⟨gb, 0, none⟩) (g.length + 1) cap) (g ++ [T])) ∧ Hid (Blk W1 w.heap.size 34 #[.int .i64 k, .int .i64 i, .int .i64 T.kind, .slice B T.args.length d, .slice A l.length a0] ∧ Blk W1 (w.heap.size + 1) 30 #[.int .i64 0, .slice none 0 0]) ∧
                w.heap.size + 2 ≤ W1.heap.size ∧ W1.cell? ⟨w.heap.size, 0, none⟩ = some (.int .i64 k) ∧ W1.cell? ⟨w.heap.size, 1, none⟩ = some (.int .i64 i) ∧ W1.cell? ⟨w.heap.size, 2, none⟩ = some (.int .i64 T.kind) ∧ W1.cell? ⟨w.heap.size, 3, none⟩ = some (.slice B T.args.length d) ∧ W1.cell? ⟨w.heap.size, 4, none⟩ = some (.slice A l.length a0) := by
            intro W1 h1 h2
            obtain ⟨k0, k1⟩ := HKA.out
            have k0 := k0.grown h2 (by simp; omega)
            have k1 := k1.grown h2 (by simp; omega)
            have hrest := rest_room (i := i) (l := l) HK2.out hbase HS.out HBZ.out.1 HNW.out.2 HOW.out.1 HXC.out.1 HXC.out.2.1 HXC.out.2.2 h1 h2
            exact ⟨Lib.hid hrest, Lib.hid ⟨k0, k1⟩, hrest.size, k0.cells5⟩
          have AFTER := Lib.hid after
          clear after HK
          subst hW
          go_enter Tryd.func64, Tryd.ntmps64
          go_wp2_with (first | (at_builtin; go_loud (refine wpList_append_own_spare _ rfl _ _ 27 rfl base 30 i0 2 Tryd.underlying27 hi hz1 gb g.length cap xs rfl hxoA _ 1 1 [_, _] rfl rfl HNW.out.1 (by simp [Value.oneCell']) hcap ?_); intro W1 hown1 hgr1; obtain ⟨HRE, HK, hrs0, q0, q1, q2, q3, q4⟩ := AFTER.out W1 hown1 hgr1) | (at_make; go_loud (refine wpList_make_full _ rfl _ _ 27 rfl (w.heap.size + 2) 30 i0 _ 2 Tryd.underlying27 hi hz0 hz1 .i64 .i64 _ _ l.length rfl rfl rfl rfl (by rw [hz2]; omega) (by simp only [maxLen]; omega) (by omega) ?_); intro wm hmk hgm; obtain ⟨hpo, hre, k0, k1, hpm⟩ := parts_made (fun b h => (HS.out b h).1) HK.out.1 HK.out.2 HRE.out hmk rfl hgm; obtain ⟨q0, q1, q2, q3, q4⟩ := k0.cells5))
          have hgr := And.intro (grown_none hgm (Value.slice (some ⟨gb, 0, none⟩) (g.length + 1) cap).ownBlock) (still_none (base := base) (c := (Value.slice (some ⟨gb, 0, none⟩) (g.length + 1) cap)) (n := (g ++ [T]).length) hgm)
          have hwp : True := trivial
          clear hmk hgm hre
          have hpm := And.intro hpm (Nat.le_refl W1.heap.size)
          have hgk : (g ++ [T]) = if k = 2 then g ++ [T] else g := HRE.out.g'
          have hge : ∀ T' ∈ (g ++ [T]), T'.err = 0 := by
            intro T' hT'
            rw [hgk] at hT'
            by_cases hk2 : k = 2
            · rw [if_pos hk2] at hT'
              rcases List.mem_append.1 hT' with h3 | h3
              · exact HG.out _ h3
              · simp at h3; subst h3; exact HF.out.2.2.2.2.2.1 (.inl hk2)
            · rw [if_neg hk2] at hT'; exact HG.out _ hT'
          have hgl : (g ++ [T]).length + n ≤ 400000 := by
            have := HN.out
            rw [hgk]
            split
            · simp; omega
            · omega
          have HGE := Lib.hid (And.intro hgk (And.intro hge hgl))
          have HPM := Lib.hid hpm
          have hws := HRE.out.size
          have HGR := Lib.hid hgr
          have HWP := Lib.hid hwp
          clear hgk hge hgl hpm hgr hwp
          go_loopw [35] (fun ix wr => ∃ (j : Nat) (ps : List Ty), j ≤ l.length ∧ ix = .int .i64 j ∧ typAll (l.take j) (g ++ [T]) = .ok ps ∧ ps.length = j ∧
              TyR.Own (fun b => (S b ∨ w.heap.size + 2 ≤ b) ∧ (Value.slice (some ⟨gb, 0, none⟩) (g.length + 1) cap).ownBlock ≠ some b) (w.heap.size + 2) (.slice (some ⟨W1.heap.size, 0, none⟩) l.length l.length) (ps ++ List.replicate (l.length - j) .zero) wr ∧ W1.grownBy wr (Value.slice (some ⟨gb, 0, none⟩) (g.length + 1) cap).ownBlock ∧ Still base (Value.slice (some ⟨gb, 0, none⟩) (g.length + 1) cap) (g ++ [T]).length W1 wr ∧
              Blk wr w.heap.size 34 #[.int .i64 k, .int .i64 i, .int .i64 T.kind, .slice B T.args.length d, .slice A l.length a0] ∧ Blk wr (w.heap.size + 1) 30 #[.int .i64 0, .slice none 0 0])
            (fun ix _ => l.length - (intOf ix).toNat)
          case atStart => exact ⟨0, [], by omega, rfl, rfl, rfl, by simpa using hpo, HGR.out.1, HGR.out.2, k0, k1⟩
          case round =>
            obtain ⟨j, ps, hj, rfl, hty, hpl, hpo, hgr, hst, k0, k1⟩ := hrel
            have hre := HRE.out.next (fun b h => (HS.out b h).1) hgr hst
            have hrs := hre.size
            have hTr : IsTm S wr (.mk k i T l) (.agg #[.int .i64 k, .int .i64 i, .int .i64 T.kind, .slice B T.args.length d, .slice A l.length a0]) := IsTm.keep (fun _ h => h) (fun p hp => hre.keeps p hp) _ HT0.out
            by_cases hlt : j < l.length
            · have hl := (isTm_iff.1 hTr).2.2.2
              obtain ⟨a, rfl, ha, hat⟩ := hl.get j hlt
              obtain ⟨B1, d1, A1, c1', q0, q1, q2, q3, q4, hx⟩ := at_tm hat
              change wr.cell? (a.add (j * 5)) = _ at q0
              simp only [show TmR.n = 5 from rfl] at q1 q2 q3 q4
              have hbj := bulkAll_get l j hlt
              have hbn : l[j].bulk ≤ n := by have := HN.out; omega
              have hjok := okAllT_get hokl j hlt
              have HX := Lib.hid hx
              have HRN := Lib.hid hre
              have HPO := Lib.hid hpo
              have HTY := Lib.hid (And.intro hty (And.intro hpl hst))
              clear hTr hl hat hx hre hpo hty hpl hst hbj
              go_wp2_with fail
              have hbx := below_box wr (Obj.cells #[.int .i64 l[j].kind, .int .i64 l[j].index, .int .i64 l[j].type.kind, .slice B1 l[j].type.args.length d1, .slice A1 l[j].args.length c1'] 34)
              have hzx := World.size_alloc wr (Obj.cells #[.int .i64 l[j].kind, .int .i64 l[j].index, .int .i64 l[j].type.kind, .slice B1 l[j].type.args.length d1, .slice A1 l[j].args.length c1'] 34)
              clear q0 q1 q2 q3 q4
              generalize wr.alloc (Obj.cells #[.int .i64 l[j].kind, .int .i64 l[j].index, .int .i64 l[j].type.kind, .slice B1 l[j].type.args.length d1, .slice A1 l[j].args.length c1'] 34) = wa at hbx hzx ⊢
              refine (IH.out l[j] (g ++ [T]) (Value.slice (some ⟨gb, 0, none⟩) (g.length + 1) cap) _ base (fun b => ((S b ∨ w.heap.size + 2 ≤ b) ∧ (Value.slice (some ⟨gb, 0, none⟩) (g.length + 1) cap).ownBlock ≠ some b) ∧ b < wa.heap.size ∧ b ≠ W1.heap.size) wa hbn hjok HGE.out.2.1 HGE.out.2.2 (by have := HRN.out.base'; omega) (fun b h => ⟨h.2.1, h.1.2⟩)
                (((own_still (HRE.out.own.mono (fun b h h' => And.intro h h') (Nat.le_refl _)) HTY.out.2.2 hgr).below hbx).mono (fun b h h' => ⟨h.1, h', by have h1 := h.2; have h2 := HPM.out.2; omega⟩) (Nat.le_refl _)) (IsTm.keep (S := S) (fun b h => ⟨⟨.inl h, fun e => (HRN.out.lies b e).2 h⟩, by have := (HS.out b h).1; omega, by have h1 := (HS.out b h).1; have h2 := HPM.out.2; omega⟩) (fun p hp => hbx.cell (by have := (HS.out _ hp).1; omega)) _ HX.out)).mono ?_
              rintro e w2 ⟨hg2, hs2, h2⟩
              have hgr2 : wr.grownBy w2 (Value.slice (some ⟨gb, 0, none⟩) (g.length + 1) cap).ownBlock := only_trans (below_only hbx (Nat.le_refl _) _) hg2
              have hst2 : Still base (Value.slice (some ⟨gb, 0, none⟩) (g.length + 1) cap) (g ++ [T]).length wr w2 := fun xs h => hs2 xs (h.kept (below_only hbx (Nat.le_refl _) none) (by cases (Value.slice (some ⟨gb, 0, none⟩) (g.length + 1) cap).ownBlock <;> simp))
              have hz2 := hgr2.size
              have hlies := HRN.out.lies
              have ne0 : some w.heap.size ≠ (Value.slice (some ⟨gb, 0, none⟩) (g.length + 1) cap).ownBlock := fun e => by have := (hlies _ e.symm).1; omega
              have ne1 : some (w.heap.size + 1) ≠ (Value.slice (some ⟨gb, 0, none⟩) (g.length + 1) cap).ownBlock := fun e => by have := (hlies _ e.symm).1; omega
              have k0 := k0.grown hgr2 ne0
              have k1 := k1.grown hgr2 ne1
              have hpo2 := HPO.out.kept hgr2 (.inr (fun e => HPM.out.1 e.symm)) (fun kk e h => h.2 e)
              have HP2 := Lib.hid hpo2
              have HG2 := Lib.hid (And.intro hgr2 hst2)
              have HLI := Lib.hid (And.intro hlies (And.intro ne0 ne1))
              clear hg2 hs2 hpo2 hst2 hlies ne0 ne1 hgr2
              cases htj : l[j].typ (g ++ [T]) with
              | error er =>
                rw [htj] at h2
                simp only at h2
                subst h2
                have hee : (er != 0) = true := by rcases typ_code _ _ htj with h | h | h <;> subst h <;> rfl
                have HSTOP : Hid ((Tm.mk k i T l).typ g = .error er) := Lib.hid (typ_stop h1 HGE.out.1 (by
                  have := typAll_stop (m := l.drop (j + 1)) HTY.out.1 htj
                  rwa [← List.drop_eq_getElem_cons hlt, List.take_append_drop] at this))
                have r0 := fun o => (k1.alloc o).facts2.1
                have r1 := fun o => (k1.alloc o).facts2.2.1
                have g0 := fun o => (k1.alloc o).facts2.2.2.1
                have g1 := fun o => (k1.alloc o).facts2.2.2.2
                clear htj
                go_wp2_with fail
                obtain ⟨z0, z1, _, _⟩ := ((k1.alloc (Obj.cells #[.int .i64 0, .slice none 0 0] 30)).set2 (.int .i64 0) (.slice none 0 0)).facts2
                refine bodyPost_ret (v := .tuple #[.agg #[.int .i64 0, .slice none 0 0], .int .i64 er]) (by simp [results, Tryd.results64, go_sem, z0, z1]) rfl ?_
                have hgF : w2.grownBy (((w2.alloc (Obj.cells #[.int .i64 0, .slice none 0 0] 30)).setCell ⟨w.heap.size + 1, 0, none⟩ (.int .i64 0)).setCell ⟨w.heap.size + 1, 1, none⟩ (.slice none 0 0)) (some (w.heap.size + 1)) := only_trans (World.grownBy_alloc w2 _ _) (only_set2 _ (w.heap.size + 1) _ _)
                obtain ⟨t1, t2⟩ := typeOf_close (fun b h => (HS.out b h).1) HOW.out.1 ((HRN.out.next (fun b h => (HS.out b h).1) HG2.out.1 HG2.out.2).back _ (only_refl _ _) (fun _ h => h)) (HRN.out.next (fun b h => (HS.out b h).1) HG2.out.1 HG2.out.2).size hgF
                refine ⟨t1, t2, ?_⟩
                rw [HSTOP.out]
              | ok U =>
                rw [htj] at h2
                obtain ⟨vU, rfl, hU⟩ := h2
                obtain ⟨AU, cU, rfl⟩ := hU.form
                have HU := Lib.hid hU
                have HTJ := Lib.hid htj
                obtain ⟨xs, hxo, hxc⟩ := HP2.out.below (below_box w2 (Obj.cells #[.int .i64 U.kind, .slice AU U.args.length cU] 30))
                have hpl := HTY.out.2.1
                have hnl : (ps ++ List.replicate (l.length - j) Ty.zero).length = l.length := by simp; omega
                rw [hnl] at hxo
                have hc0 := hxo.cellAt (j * 2) (by show j * 2 < l.length * 2; omega)
                have hc1 := hxo.cellAt (j * 2 + 1) (by show j * 2 + 1 < l.length * 2; omega)
                have hf0 := hxo.frozenAt (j * 2)
                have hf1 := hxo.frozenAt (j * 2 + 1)
                have hx0 : ∃ x, xs[j * 2]? = some x := ⟨_, List.getElem?_eq_getElem (by have := hxo.1; have h2 : TyR.n = 2 := rfl; rw [h2] at this; omega)⟩
                have hx1 : ∃ x, xs[j * 2 + 1]? = some x := ⟨_, List.getElem?_eq_getElem (by have := hxo.1; have h2 : TyR.n = 2 := rfl; rw [h2] at this; omega)⟩
                obtain ⟨x0, hx0⟩ := hx0
                obtain ⟨x1, hx1⟩ := hx1
                rw [hx0] at hc0
                rw [hx1] at hc1
                have HXO := Lib.hid (And.intro hxo (And.intro hxc (And.intro hpl (And.intro hx0 (And.intro hx1 hnl)))))
                clear hU htj hxo hxc hx0 hx1 hpl hnl
                go_wp2_with fail
                have hUK : IsTy (fun b => (fun b => (S b ∨ w.heap.size + 2 ≤ b) ∧ (Value.slice (some ⟨gb, 0, none⟩) (g.length + 1) cap).ownBlock ≠ some b) b ∧ b < (w2.alloc (Obj.cells #[.int .i64 U.kind, .slice AU U.args.length cU] 30)).heap.size ∧ W1.heap.size ≠ b) (w2.alloc (Obj.cells #[.int .i64 U.kind, .slice AU U.args.length cU] 30)) U (.agg #[.int .i64 U.kind, .slice AU U.args.length cU]) := by
                  refine IsTy.keep (fun b h => ?_) (fun p hp => World.cell?_alloc_lt _ _ _ hp.2) _ HU.out
                  have hlt2 := h.2
                  have hpw := (HPO.out.lt _ rfl).2
                  have h2 := HPM.out.2
                  refine ⟨?_, by simp; omega, ?_⟩
                  · rcases h.1 with h3 | h3
                    · exact h3.1
                    · exact ⟨.inr (by omega), fun e => by have := (HRN.out.own.lt _ e).2; omega⟩
                  · rcases h.1 with h3 | h3
                    · exact fun e => h3.2.2 e.symm
                    · have h4 : W1.heap.size < wr.heap.size := hpw
                      omega
                obtain ⟨ho3, hg3⟩ := parts_store (S := (fun b => (S b ∨ w.heap.size + 2 ≤ b) ∧ (Value.slice (some ⟨gb, 0, none⟩) (g.length + 1) cap).ownBlock ≠ some b)) (j := j) HXO.out.2.2.1 (by omega) (fun e => HPM.out.1 e.symm) HXO.out.1 HXO.out.2.1 HXO.out.2.2.2.2.2 hUK
                refine ⟨⟨j + 1, ps ++ [U], by omega, by go_num, ?_, by simp [HXO.out.2.2.1], ho3, ?_, ?_, ?_, ?_⟩, by simp [intOf]; omega⟩
                · rw [List.take_succ_eq_append_getElem hlt]
                  exact typAll_snoc HTY.out.1 HTJ.out
                · exact grown_off (only_trans (only_trans hgr HG2.out.1) (World.grownBy_alloc _ _ _)) hg3 HPM.out.2
                · intro ys hys
                  exact ((HG2.out.2 ys (HTY.out.2.2 ys hys)).alloc _).kept hg3 (.inr HPM.out.1)
                · exact (k0.alloc _).grown hg3 (by intro e; simp at e <;> omega)
                · exact (k1.alloc _).grown hg3 (by intro e; simp at e <;> omega)
            · have hjl : j = l.length := by omega
              subst hjl
              have hty' : typAll l (g ++ [T]) = .ok ps := by rwa [List.take_length] at hty
              have hpo' : TyR.Own (fun b => (S b ∨ w.heap.size + 2 ≤ b) ∧ (Value.slice (some ⟨gb, 0, none⟩) (g.length + 1) cap).ownBlock ≠ some b) (w.heap.size + 2) (.slice (some ⟨W1.heap.size, 0, none⟩) l.length l.length) ps wr := by
                simpa using hpo
              obtain ⟨q0, q1, q2, q3, q4⟩ := k0.cells5
              have hsl := hpo'.sl.keep (S' := fun b => (S b ∨ w.heap.size + 2 ≤ b) ∧ b < wr.heap.size) (fun b h => ⟨h.1.elim (fun h => h.1) .inr, h.2⟩) (fun _ _ => rfl)
              have hTr2 : IsTm (fun b => (S b ∨ w.heap.size + 2 ≤ b) ∧ b < wr.heap.size) wr (.mk k i T l) (.agg #[.int .i64 k, .int .i64 i, .int .i64 T.kind, .slice B T.args.length d, .slice A l.length a0]) := IsTm.keep (fun b h => ⟨.inl h, by have := (HS.out b h).1; omega⟩) (fun _ _ => rfl) _ hTr
              have HNT := Lib.hid (And.intro hsl (And.intro hTr2 (And.intro (typAll_err l (g ++ [T]) hokl HGE.out.2.1 hty') (And.intro (typ_node (i := i) h1 HGE.out.1 hty') (And.intro hre hpl)))))
              clear hsl hTr2 hTr hpo hpo' hty hty' hre hst hpl
              go_wp2_with fail
              refine (nodeType_in (fun b => (S b ∨ w.heap.size + 2 ≤ b) ∧ b < wr.heap.size) k i T l ps _ _ wr (fun b h => h.2) HNT.out.2.1 HNT.out.1 hf h1 HNT.out.2.2.2.2.2 HNT.out.2.2.1).mono ?_
              rintro e w3 ⟨hb3, h3⟩
              have k1 := k1.below hb3 k1.lt
              obtain ⟨r0, r1, g0, g1⟩ := k1.facts2
              have hs3 := hb3.size
              cases hnt : nodeTy k T ps with
              | error er =>
                rw [hnt] at h3
                simp only at h3
                subst h3
                have HNE := Lib.hid hnt
                clear hnt
                go_wp2_with fail
                obtain ⟨z0, z1, _, _⟩ := (k1.set2 (.int .i64 0) (.slice none 0 0)).facts2
                refine bodyPost_ret (v := .tuple #[.agg #[.int .i64 0, .slice none 0 0], .int .i64 er]) (by simp [results, Tryd.results64, go_sem, z0, z1]) rfl ?_
                obtain ⟨t1, t2⟩ := typeOf_close (fun b h => (HS.out b h).1) HOW.out.1 (HNT.out.2.2.2.2.1.back _ (only_refl _ _) (fun _ h => h)) HNT.out.2.2.2.2.1.size (only_trans (below_only hb3 (Nat.le_refl _) _) (only_set2 w3 (w.heap.size + 1) (.int .i64 0) (.slice none 0 0)))
                refine ⟨t1, t2, ?_⟩
                rw [HNT.out.2.2.2.1, HNE.out]
              | ok U =>
                rw [hnt] at h3
                obtain ⟨vU, rfl, hU⟩ := h3
                obtain ⟨AU, cU, rfl⟩ := hU.form
                have HNE := Lib.hid hnt
                have HU := Lib.hid hU
                clear hnt hU
                go_wp2_with fail
                obtain ⟨z0, z1, _, _⟩ := (k1.set2 (.int .i64 U.kind) (.slice AU U.args.length cU)).facts2
                refine bodyPost_ret (v := .tuple #[.agg #[.int .i64 U.kind, .slice AU U.args.length cU], .int .i64 0]) (by simp [results, Tryd.results64, go_sem, z0, z1]) rfl ?_
                have hg4 := only_set2 w3 (w.heap.size + 1) (.int .i64 U.kind) (.slice AU U.args.length cU)
                obtain ⟨t1, t2⟩ := typeOf_close (fun b h => (HS.out b h).1) HOW.out.1 (HNT.out.2.2.2.2.1.back _ (only_refl _ _) (fun _ h => h)) HNT.out.2.2.2.2.1.size (only_trans (below_only hb3 (Nat.le_refl _) _) hg4)
                refine ⟨t1, t2, ?_⟩
                rw [HNT.out.2.2.2.1, HNE.out]
                have hrs := HNT.out.2.2.2.2.1.size
                have hset : ∀ b, (((S b ∨ w.heap.size + 2 ≤ b) ∧ b < wr.heap.size) ∨ wr.heap.size ≤ b) → (S b ∨ w.heap.size ≤ b) ∧ b ≠ w.heap.size + 1 := by
                  intro b h
                  rcases h with ⟨h | h, _⟩ | h
                  · exact ⟨.inl h, by have := (HS.out _ h).1; omega⟩
                  · exact ⟨.inr (by omega), by omega⟩
                  · exact ⟨.inr (by omega), by omega⟩
                exact ⟨_, rfl, IsTy.keep (fun b h => ⟨(hset b h.1).1, Nat.lt_of_lt_of_le h.2 hg4.size⟩) (fun p hp => World.cell?_of_block (hg4.block p.block hp.2 (fun e => (hset _ hp.1).2 (by simpa using e)))) _ HU.out⟩
        · have hform := grow_form HXC.out.1 hroom
          obtain ⟨ao, cap, rfl, hnone, hfull, hholds⟩ := hform
          have after : ∀ (v1 : Value) (W1 : World), W1.ownsRow (W.alloc (.cells #[.int .i64 T.kind, .slice B T.args.length d] 30)).heap.size 30 2 v1 (g.length + 1) (xs ++ [.int .i64 T.kind, .slice B T.args.length d]) →
              (W.alloc (.cells #[.int .i64 T.kind, .slice B T.args.length d] 30)).grownBy W1 none →
              Hid (Rest w W1 S base (.slice ao g.length cap) g (.mk k i T l) (w.heap.size + 3) v1 (g ++ [T])) ∧ Hid (Blk W1 w.heap.size 34 #[.int .i64 k, .int .i64 i, .int .i64 T.kind, .slice B T.args.length d, .slice A l.length a0] ∧ Blk W1 (w.heap.size + 1) 30 #[.int .i64 0, .slice none 0 0]) ∧
                w.heap.size + 2 ≤ W1.heap.size ∧ W1.cell? ⟨w.heap.size, 0, none⟩ = some (.int .i64 k) ∧ W1.cell? ⟨w.heap.size, 1, none⟩ = some (.int .i64 i) ∧ W1.cell? ⟨w.heap.size, 2, none⟩ = some (.int .i64 T.kind) ∧ W1.cell? ⟨w.heap.size, 3, none⟩ = some (.slice B T.args.length d) ∧ W1.cell? ⟨w.heap.size, 4, none⟩ = some (.slice A l.length a0) := by
            intro v1 W1 h1 h2
            obtain ⟨k0, k1⟩ := HKA.out
            have k0 := k0.grown h2 (by simp)
            have k1 := k1.grown h2 (by simp)
            have hrest := rest_grow (i := i) (l := l) HK2.out HS.out HBZ.out.1 HNW.out.2 HOW.out.1 HXC.out.2.1 HXC.out.2.2 h1 h2
            exact ⟨Lib.hid hrest, Lib.hid ⟨k0, k1⟩, hrest.size, k0.cells5⟩
          have hholds' : ∀ b, ao = some b → ∀ j u, xs[j]? = some u → (W.alloc (.cells #[.int .i64 T.kind, .slice B T.args.length d] 30)).cell? (b.add j) = some u := fun b hb j u hu =>
            (World.cell?_alloc_lt _ _ _ (World.block_lt_of_cell? _ _ (hholds b hb j u hu))).trans (hholds b hb j u hu)
          have AFTER := Lib.hid after
          have HHO := Lib.hid (And.intro hnone (And.intro hfull (And.intro hxl hholds')))
          clear after HK hholds hholds' hnone hfull
          subst hW
          go_enter Tryd.func64, Tryd.ntmps64
          go_wp2_with (first | (at_builtin; go_loud (refine wpList_append_grows _ rfl _ _ 27 rfl 30 i0 _ 2 32 Tryd.underlying27 hi hz0 hz1 hz2 rfl (by decide) ao g.length cap xs rfl HHO.out.1 HHO.out.2.2.1 HHO.out.2.2.2 _ 1 1 [_, _] rfl rfl HNW.out.1 (by simp [Value.oneCell']) HHO.out.2.1 (by simp only [maxLen]; omega) (by omega) ?_); intro v1 W1 hown1 hgr1; obtain ⟨HRE, HK, hrs0, q0, q1, q2, q3, q4⟩ := AFTER.out v1 W1 hown1 hgr1) | (at_make; go_loud (refine wpList_make_full _ rfl _ _ 27 rfl (w.heap.size + 2) 30 i0 _ 2 Tryd.underlying27 hi hz0 hz1 .i64 .i64 _ _ l.length rfl rfl rfl rfl (by rw [hz2]; omega) (by simp only [maxLen]; omega) (by omega) ?_); intro wm hmk hgm; obtain ⟨hpo, hre, k0, k1, hpm⟩ := parts_made (fun b h => (HS.out b h).1) HK.out.1 HK.out.2 HRE.out hmk rfl hgm; obtain ⟨q0, q1, q2, q3, q4⟩ := k0.cells5))
          have hgr := And.intro (grown_none hgm v1.ownBlock) (still_none (base := (w.heap.size + 3)) (c := v1) (n := (g ++ [T]).length) hgm)
          have hwp : True := trivial
          clear hmk hgm hre
          have hpm := And.intro hpm (Nat.le_refl W1.heap.size)
          have hgk : (g ++ [T]) = if k = 2 then g ++ [T] else g := HRE.out.g'
          have hge : ∀ T' ∈ (g ++ [T]), T'.err = 0 := by
            intro T' hT'
            rw [hgk] at hT'
            by_cases hk2 : k = 2
            · rw [if_pos hk2] at hT'
              rcases List.mem_append.1 hT' with h3 | h3
              · exact HG.out _ h3
              · simp at h3; subst h3; exact HF.out.2.2.2.2.2.1 (.inl hk2)
            · rw [if_neg hk2] at hT'; exact HG.out _ hT'
          have hgl : (g ++ [T]).length + n ≤ 400000 := by
            have := HN.out
            rw [hgk]
            split
            · simp; omega
            · omega
          have HGE := Lib.hid (And.intro hgk (And.intro hge hgl))
          have HPM := Lib.hid hpm
          have hws := HRE.out.size
          have HGR := Lib.hid hgr
          have HWP := Lib.hid hwp
          clear hgk hge hgl hpm hgr hwp
          go_loopw [35] (fun ix wr => ∃ (j : Nat) (ps : List Ty), j ≤ l.length ∧ ix = .int .i64 j ∧ typAll (l.take j) (g ++ [T]) = .ok ps ∧ ps.length = j ∧
              TyR.Own (fun b => (S b ∨ w.heap.size + 2 ≤ b) ∧ v1.ownBlock ≠ some b) (w.heap.size + 2) (.slice (some ⟨W1.heap.size, 0, none⟩) l.length l.length) (ps ++ List.replicate (l.length - j) .zero) wr ∧ W1.grownBy wr v1.ownBlock ∧ Still (w.heap.size + 3) v1 (g ++ [T]).length W1 wr ∧
              Blk wr w.heap.size 34 #[.int .i64 k, .int .i64 i, .int .i64 T.kind, .slice B T.args.length d, .slice A l.length a0] ∧ Blk wr (w.heap.size + 1) 30 #[.int .i64 0, .slice none 0 0])
            (fun ix _ => l.length - (intOf ix).toNat)
          case atStart => exact ⟨0, [], by omega, rfl, rfl, rfl, by simpa using hpo, HGR.out.1, HGR.out.2, k0, k1⟩
          case round =>
            obtain ⟨j, ps, hj, rfl, hty, hpl, hpo, hgr, hst, k0, k1⟩ := hrel
            have hre := HRE.out.next (fun b h => (HS.out b h).1) hgr hst
            have hrs := hre.size
            have hTr : IsTm S wr (.mk k i T l) (.agg #[.int .i64 k, .int .i64 i, .int .i64 T.kind, .slice B T.args.length d, .slice A l.length a0]) := IsTm.keep (fun _ h => h) (fun p hp => hre.keeps p hp) _ HT0.out
            by_cases hlt : j < l.length
            · have hl := (isTm_iff.1 hTr).2.2.2
              obtain ⟨a, rfl, ha, hat⟩ := hl.get j hlt
              obtain ⟨B1, d1, A1, c1', q0, q1, q2, q3, q4, hx⟩ := at_tm hat
              change wr.cell? (a.add (j * 5)) = _ at q0
              simp only [show TmR.n = 5 from rfl] at q1 q2 q3 q4
              have hbj := bulkAll_get l j hlt
              have hbn : l[j].bulk ≤ n := by have := HN.out; omega
              have hjok := okAllT_get hokl j hlt
              have HX := Lib.hid hx
              have HRN := Lib.hid hre
              have HPO := Lib.hid hpo
              have HTY := Lib.hid (And.intro hty (And.intro hpl hst))
              clear hTr hl hat hx hre hpo hty hpl hst hbj
              go_wp2_with fail
              have hbx := below_box wr (Obj.cells #[.int .i64 l[j].kind, .int .i64 l[j].index, .int .i64 l[j].type.kind, .slice B1 l[j].type.args.length d1, .slice A1 l[j].args.length c1'] 34)
              have hzx := World.size_alloc wr (Obj.cells #[.int .i64 l[j].kind, .int .i64 l[j].index, .int .i64 l[j].type.kind, .slice B1 l[j].type.args.length d1, .slice A1 l[j].args.length c1'] 34)
              clear q0 q1 q2 q3 q4
              generalize wr.alloc (Obj.cells #[.int .i64 l[j].kind, .int .i64 l[j].index, .int .i64 l[j].type.kind, .slice B1 l[j].type.args.length d1, .slice A1 l[j].args.length c1'] 34) = wa at hbx hzx ⊢
              refine (IH.out l[j] (g ++ [T]) v1 _ (w.heap.size + 3) (fun b => ((S b ∨ w.heap.size + 2 ≤ b) ∧ v1.ownBlock ≠ some b) ∧ b < wa.heap.size ∧ b ≠ W1.heap.size) wa hbn hjok HGE.out.2.1 HGE.out.2.2 (by have := HRN.out.base'; omega) (fun b h => ⟨h.2.1, h.1.2⟩)
                (((own_still (HRE.out.own.mono (fun b h h' => And.intro h h') (Nat.le_refl _)) HTY.out.2.2 hgr).below hbx).mono (fun b h h' => ⟨h.1, h', by have h1 := h.2; have h2 := HPM.out.2; omega⟩) (Nat.le_refl _)) (IsTm.keep (S := S) (fun b h => ⟨⟨.inl h, fun e => (HRN.out.lies b e).2 h⟩, by have := (HS.out b h).1; omega, by have h1 := (HS.out b h).1; have h2 := HPM.out.2; omega⟩) (fun p hp => hbx.cell (by have := (HS.out _ hp).1; omega)) _ HX.out)).mono ?_
              rintro e w2 ⟨hg2, hs2, h2⟩
              have hgr2 : wr.grownBy w2 v1.ownBlock := only_trans (below_only hbx (Nat.le_refl _) _) hg2
              have hst2 : Still (w.heap.size + 3) v1 (g ++ [T]).length wr w2 := fun xs h => hs2 xs (h.kept (below_only hbx (Nat.le_refl _) none) (by cases v1.ownBlock <;> simp))
              have hz2 := hgr2.size
              have hlies := HRN.out.lies
              have ne0 : some w.heap.size ≠ v1.ownBlock := fun e => by have := (hlies _ e.symm).1; omega
              have ne1 : some (w.heap.size + 1) ≠ v1.ownBlock := fun e => by have := (hlies _ e.symm).1; omega
              have k0 := k0.grown hgr2 ne0
              have k1 := k1.grown hgr2 ne1
              have hpo2 := HPO.out.kept hgr2 (.inr (fun e => HPM.out.1 e.symm)) (fun kk e h => h.2 e)
              have HP2 := Lib.hid hpo2
              have HG2 := Lib.hid (And.intro hgr2 hst2)
              have HLI := Lib.hid (And.intro hlies (And.intro ne0 ne1))
              clear hg2 hs2 hpo2 hst2 hlies ne0 ne1 hgr2
              cases htj : l[j].typ (g ++ [T]) with
              | error er =>
                rw [htj] at h2
                simp only at h2
                subst h2
                have hee : (er != 0) = true := by rcases typ_code _ _ htj with h | h | h <;> subst h <;> rfl
                have HSTOP : Hid ((Tm.mk k i T l).typ g = .error er) := Lib.hid (typ_stop h1 HGE.out.1 (by
                  have := typAll_stop (m := l.drop (j + 1)) HTY.out.1 htj
                  rwa [← List.drop_eq_getElem_cons hlt, List.take_append_drop] at this))
                have r0 := fun o => (k1.alloc o).facts2.1
                have r1 := fun o => (k1.alloc o).facts2.2.1
                have g0 := fun o => (k1.alloc o).facts2.2.2.1
                have g1 := fun o => (k1.alloc o).facts2.2.2.2
                clear htj
                go_wp2_with fail
                obtain ⟨z0, z1, _, _⟩ := ((k1.alloc (Obj.cells #[.int .i64 0, .slice none 0 0] 30)).set2 (.int .i64 0) (.slice none 0 0)).facts2
                refine bodyPost_ret (v := .tuple #[.agg #[.int .i64 0, .slice none 0 0], .int .i64 er]) (by simp [results, Tryd.results64, go_sem, z0, z1]) rfl ?_
                have hgF : w2.grownBy (((w2.alloc (Obj.cells #[.int .i64 0, .slice none 0 0] 30)).setCell ⟨w.heap.size + 1, 0, none⟩ (.int .i64 0)).setCell ⟨w.heap.size + 1, 1, none⟩ (.slice none 0 0)) (some (w.heap.size + 1)) := only_trans (World.grownBy_alloc w2 _ _) (only_set2 _ (w.heap.size + 1) _ _)
                obtain ⟨t1, t2⟩ := typeOf_close (fun b h => (HS.out b h).1) HOW.out.1 ((HRN.out.next (fun b h => (HS.out b h).1) HG2.out.1 HG2.out.2).back _ (only_refl _ _) (fun _ h => h)) (HRN.out.next (fun b h => (HS.out b h).1) HG2.out.1 HG2.out.2).size hgF
                refine ⟨t1, t2, ?_⟩
                rw [HSTOP.out]
              | ok U =>
                rw [htj] at h2
                obtain ⟨vU, rfl, hU⟩ := h2
                obtain ⟨AU, cU, rfl⟩ := hU.form
                have HU := Lib.hid hU
                have HTJ := Lib.hid htj
                obtain ⟨xs, hxo, hxc⟩ := HP2.out.below (below_box w2 (Obj.cells #[.int .i64 U.kind, .slice AU U.args.length cU] 30))
                have hpl := HTY.out.2.1
                have hnl : (ps ++ List.replicate (l.length - j) Ty.zero).length = l.length := by simp; omega
                rw [hnl] at hxo
                have hc0 := hxo.cellAt (j * 2) (by show j * 2 < l.length * 2; omega)
                have hc1 := hxo.cellAt (j * 2 + 1) (by show j * 2 + 1 < l.length * 2; omega)
                have hf0 := hxo.frozenAt (j * 2)
                have hf1 := hxo.frozenAt (j * 2 + 1)
                have hx0 : ∃ x, xs[j * 2]? = some x := ⟨_, List.getElem?_eq_getElem (by have := hxo.1; have h2 : TyR.n = 2 := rfl; rw [h2] at this; omega)⟩
                have hx1 : ∃ x, xs[j * 2 + 1]? = some x := ⟨_, List.getElem?_eq_getElem (by have := hxo.1; have h2 : TyR.n = 2 := rfl; rw [h2] at this; omega)⟩
                obtain ⟨x0, hx0⟩ := hx0
                obtain ⟨x1, hx1⟩ := hx1
                rw [hx0] at hc0
                rw [hx1] at hc1
                have HXO := Lib.hid (And.intro hxo (And.intro hxc (And.intro hpl (And.intro hx0 (And.intro hx1 hnl)))))
                clear hU htj hxo hxc hx0 hx1 hpl hnl
                go_wp2_with fail
                have hUK : IsTy (fun b => (fun b => (S b ∨ w.heap.size + 2 ≤ b) ∧ v1.ownBlock ≠ some b) b ∧ b < (w2.alloc (Obj.cells #[.int .i64 U.kind, .slice AU U.args.length cU] 30)).heap.size ∧ W1.heap.size ≠ b) (w2.alloc (Obj.cells #[.int .i64 U.kind, .slice AU U.args.length cU] 30)) U (.agg #[.int .i64 U.kind, .slice AU U.args.length cU]) := by
                  refine IsTy.keep (fun b h => ?_) (fun p hp => World.cell?_alloc_lt _ _ _ hp.2) _ HU.out
                  have hlt2 := h.2
                  have hpw := (HPO.out.lt _ rfl).2
                  have h2 := HPM.out.2
                  refine ⟨?_, by simp; omega, ?_⟩
                  · rcases h.1 with h3 | h3
                    · exact h3.1
                    · exact ⟨.inr (by omega), fun e => by have := (HRN.out.own.lt _ e).2; omega⟩
                  · rcases h.1 with h3 | h3
                    · exact fun e => h3.2.2 e.symm
                    · have h4 : W1.heap.size < wr.heap.size := hpw
                      omega
                obtain ⟨ho3, hg3⟩ := parts_store (S := (fun b => (S b ∨ w.heap.size + 2 ≤ b) ∧ v1.ownBlock ≠ some b)) (j := j) HXO.out.2.2.1 (by omega) (fun e => HPM.out.1 e.symm) HXO.out.1 HXO.out.2.1 HXO.out.2.2.2.2.2 hUK
                refine ⟨⟨j + 1, ps ++ [U], by omega, by go_num, ?_, by simp [HXO.out.2.2.1], ho3, ?_, ?_, ?_, ?_⟩, by simp [intOf]; omega⟩
                · rw [List.take_succ_eq_append_getElem hlt]
                  exact typAll_snoc HTY.out.1 HTJ.out
                · exact grown_off (only_trans (only_trans hgr HG2.out.1) (World.grownBy_alloc _ _ _)) hg3 HPM.out.2
                · intro ys hys
                  exact ((HG2.out.2 ys (HTY.out.2.2 ys hys)).alloc _).kept hg3 (.inr HPM.out.1)
                · exact (k0.alloc _).grown hg3 (by intro e; simp at e <;> omega)
                · exact (k1.alloc _).grown hg3 (by intro e; simp at e <;> omega)
            · have hjl : j = l.length := by omega
              subst hjl
              have hty' : typAll l (g ++ [T]) = .ok ps := by rwa [List.take_length] at hty
              have hpo' : TyR.Own (fun b => (S b ∨ w.heap.size + 2 ≤ b) ∧ v1.ownBlock ≠ some b) (w.heap.size + 2) (.slice (some ⟨W1.heap.size, 0, none⟩) l.length l.length) ps wr := by
                simpa using hpo
              obtain ⟨q0, q1, q2, q3, q4⟩ := k0.cells5
              have hsl := hpo'.sl.keep (S' := fun b => (S b ∨ w.heap.size + 2 ≤ b) ∧ b < wr.heap.size) (fun b h => ⟨h.1.elim (fun h => h.1) .inr, h.2⟩) (fun _ _ => rfl)
              have hTr2 : IsTm (fun b => (S b ∨ w.heap.size + 2 ≤ b) ∧ b < wr.heap.size) wr (.mk k i T l) (.agg #[.int .i64 k, .int .i64 i, .int .i64 T.kind, .slice B T.args.length d, .slice A l.length a0]) := IsTm.keep (fun b h => ⟨.inl h, by have := (HS.out b h).1; omega⟩) (fun _ _ => rfl) _ hTr
              have HNT := Lib.hid (And.intro hsl (And.intro hTr2 (And.intro (typAll_err l (g ++ [T]) hokl HGE.out.2.1 hty') (And.intro (typ_node (i := i) h1 HGE.out.1 hty') (And.intro hre hpl)))))
              clear hsl hTr2 hTr hpo hpo' hty hty' hre hst hpl
              go_wp2_with fail
              refine (nodeType_in (fun b => (S b ∨ w.heap.size + 2 ≤ b) ∧ b < wr.heap.size) k i T l ps _ _ wr (fun b h => h.2) HNT.out.2.1 HNT.out.1 hf h1 HNT.out.2.2.2.2.2 HNT.out.2.2.1).mono ?_
              rintro e w3 ⟨hb3, h3⟩
              have k1 := k1.below hb3 k1.lt
              obtain ⟨r0, r1, g0, g1⟩ := k1.facts2
              have hs3 := hb3.size
              cases hnt : nodeTy k T ps with
              | error er =>
                rw [hnt] at h3
                simp only at h3
                subst h3
                have HNE := Lib.hid hnt
                clear hnt
                go_wp2_with fail
                obtain ⟨z0, z1, _, _⟩ := (k1.set2 (.int .i64 0) (.slice none 0 0)).facts2
                refine bodyPost_ret (v := .tuple #[.agg #[.int .i64 0, .slice none 0 0], .int .i64 er]) (by simp [results, Tryd.results64, go_sem, z0, z1]) rfl ?_
                obtain ⟨t1, t2⟩ := typeOf_close (fun b h => (HS.out b h).1) HOW.out.1 (HNT.out.2.2.2.2.1.back _ (only_refl _ _) (fun _ h => h)) HNT.out.2.2.2.2.1.size (only_trans (below_only hb3 (Nat.le_refl _) _) (only_set2 w3 (w.heap.size + 1) (.int .i64 0) (.slice none 0 0)))
                refine ⟨t1, t2, ?_⟩
                rw [HNT.out.2.2.2.1, HNE.out]
              | ok U =>
                rw [hnt] at h3
                obtain ⟨vU, rfl, hU⟩ := h3
                obtain ⟨AU, cU, rfl⟩ := hU.form
                have HNE := Lib.hid hnt
                have HU := Lib.hid hU
                clear hnt hU
                go_wp2_with fail
                obtain ⟨z0, z1, _, _⟩ := (k1.set2 (.int .i64 U.kind) (.slice AU U.args.length cU)).facts2
                refine bodyPost_ret (v := .tuple #[.agg #[.int .i64 U.kind, .slice AU U.args.length cU], .int .i64 0]) (by simp [results, Tryd.results64, go_sem, z0, z1]) rfl ?_
                have hg4 := only_set2 w3 (w.heap.size + 1) (.int .i64 U.kind) (.slice AU U.args.length cU)
                obtain ⟨t1, t2⟩ := typeOf_close (fun b h => (HS.out b h).1) HOW.out.1 (HNT.out.2.2.2.2.1.back _ (only_refl _ _) (fun _ h => h)) HNT.out.2.2.2.2.1.size (only_trans (below_only hb3 (Nat.le_refl _) _) hg4)
                refine ⟨t1, t2, ?_⟩
                rw [HNT.out.2.2.2.1, HNE.out]
                have hrs := HNT.out.2.2.2.2.1.size
                have hset : ∀ b, (((S b ∨ w.heap.size + 2 ≤ b) ∧ b < wr.heap.size) ∨ wr.heap.size ≤ b) → (S b ∨ w.heap.size ≤ b) ∧ b ≠ w.heap.size + 1 := by
                  intro b h
                  rcases h with ⟨h | h, _⟩ | h
                  · exact ⟨.inl h, by have := (HS.out _ h).1; omega⟩
                  · exact ⟨.inr (by omega), by omega⟩
                  · exact ⟨.inr (by omega), by omega⟩
                exact ⟨_, rfl, IsTy.keep (fun b h => ⟨(hset b h.1).1, Nat.lt_of_lt_of_le h.2 hg4.size⟩) (fun p hp => World.cell?_of_block (hg4.block p.block hp.2 (fun e => (hset _ hp.1).2 (by simpa using e)))) _ HU.out⟩
      · have e2 : (k == 2) = false := by rw [beq_eq_false_iff_ne]; exact h2
        have hrest : Rest w W S base c g (.mk k i T l) base c g :=
          { own := HOW.out.2.mono (fun b h _ => ⟨.inl h, (HS.out b h).2⟩) (Nat.le_refl _)
            back := fun W2 h1 h3 => ⟨only_trans (below_only HBZ.out.1 (Nat.le_refl _) _) h1, fun xs hx => h3 xs (hx.kept (below_only HBZ.out.1 (Nat.le_refl _) none) (by cases c.ownBlock <;> simp))⟩
            lies := fun b e => ⟨.inl (HOW.out.1.lt b e).2, fun h => (HS.out b h).2 e⟩
            g' := by show g = if k = 2 then _ else _; rw [if_neg h2]
            base' := Nat.le_trans hbase HBZ.out.1.size
            size := by have := HBZ.out.2; omega
            keeps := fun p hp => HBZ.out.1.cell (HS.out _ hp).1 }
        have HRE := Lib.hid hrest
        clear hrest
        obtain ⟨W1, hW1⟩ : ∃ W1, W1 = W := ⟨_, rfl⟩
        subst hW
        go_enter Tryd.func64, Tryd.ntmps64
        go_wp2_with (at_make; go_loud (refine wpList_make_full _ rfl _ _ 27 rfl (w.heap.size + 2) 30 i0 _ 2 Tryd.underlying27 hi hz0 hz1 .i64 .i64 _ _ l.length rfl rfl rfl rfl (by rw [hz2]; omega) (by simp only [maxLen]; omega) (by simp) ?_); intro wm hmk hgm
                     obtain ⟨hpo, hre, k0, k1, hpm⟩ := parts_made (fun b h => (HS.out b h).1) HK.out.1 HK.out.2 HRE.out hmk rfl hgm
                     obtain ⟨q0, q1, q2, q3, q4⟩ := k0.cells5)
        have hwp : W1.heap.size = w.heap.size + 1 + 1 := by rw [hW1]; simp
        rw [← hW1] at hpo hpm hgm HRE HBZ
        rw [hwp] at hpo hpm
        have hgr := And.intro (grown_none hgm c.ownBlock) (still_none (base := base) (c := c) (n := g.length) hgm)
        clear hmk hW1 hgm hre
        have hpm := And.intro hpm (Nat.le_of_eq hwp)
        have hgk : g = if k = 2 then g ++ [T] else g := HRE.out.g'
        have hge : ∀ T' ∈ g, T'.err = 0 := by
          intro T' hT'
          rw [hgk] at hT'
          by_cases hk2 : k = 2
          · rw [if_pos hk2] at hT'
            rcases List.mem_append.1 hT' with h3 | h3
            · exact HG.out _ h3
            · simp at h3; subst h3; exact HF.out.2.2.2.2.2.1 (.inl hk2)
          · rw [if_neg hk2] at hT'; exact HG.out _ hT'
        have hgl : g.length + n ≤ 400000 := by
          have := HN.out
          rw [hgk]
          split
          · simp; omega
          · omega
        have HGE := Lib.hid (And.intro hgk (And.intro hge hgl))
        have HPM := Lib.hid hpm
        have hws := HRE.out.size
        have HGR := Lib.hid hgr
        have HWP := Lib.hid hwp
        clear hgk hge hgl hpm hgr hwp
        go_loopw [35] (fun ix wr => ∃ (j : Nat) (ps : List Ty), j ≤ l.length ∧ ix = .int .i64 j ∧ typAll (l.take j) g = .ok ps ∧ ps.length = j ∧
            TyR.Own (fun b => (S b ∨ w.heap.size + 2 ≤ b) ∧ c.ownBlock ≠ some b) (w.heap.size + 2) (.slice (some ⟨w.heap.size + 1 + 1, 0, none⟩) l.length l.length) (ps ++ List.replicate (l.length - j) .zero) wr ∧ W1.grownBy wr c.ownBlock ∧ Still base c g.length W1 wr ∧
            Blk wr w.heap.size 34 #[.int .i64 k, .int .i64 i, .int .i64 T.kind, .slice B T.args.length d, .slice A l.length a0] ∧ Blk wr (w.heap.size + 1) 30 #[.int .i64 0, .slice none 0 0])
          (fun ix _ => l.length - (intOf ix).toNat)
        case atStart => exact ⟨0, [], by omega, rfl, rfl, rfl, by simpa using hpo, HGR.out.1, HGR.out.2, k0, k1⟩
        case round =>
          obtain ⟨j, ps, hj, rfl, hty, hpl, hpo, hgr, hst, k0, k1⟩ := hrel
          have hre := HRE.out.next (fun b h => (HS.out b h).1) hgr hst
          have hrs := hre.size
          have hTr : IsTm S wr (.mk k i T l) (.agg #[.int .i64 k, .int .i64 i, .int .i64 T.kind, .slice B T.args.length d, .slice A l.length a0]) := IsTm.keep (fun _ h => h) (fun p hp => hre.keeps p hp) _ HT0.out
          by_cases hlt : j < l.length
          · have hl := (isTm_iff.1 hTr).2.2.2
            obtain ⟨a, rfl, ha, hat⟩ := hl.get j hlt
            obtain ⟨B1, d1, A1, c1', q0, q1, q2, q3, q4, hx⟩ := at_tm hat
            change wr.cell? (a.add (j * 5)) = _ at q0
            simp only [show TmR.n = 5 from rfl] at q1 q2 q3 q4
            have hbj := bulkAll_get l j hlt
            have hbn : l[j].bulk ≤ n := by have := HN.out; omega
            have hjok := okAllT_get hokl j hlt
            have HX := Lib.hid hx
            have HRN := Lib.hid hre
            have HPO := Lib.hid hpo
            have HTY := Lib.hid (And.intro hty (And.intro hpl hst))
            clear hTr hl hat hx hre hpo hty hpl hst hbj
            go_wp2_with fail
            have hbx := below_box wr (Obj.cells #[.int .i64 l[j].kind, .int .i64 l[j].index, .int .i64 l[j].type.kind, .slice B1 l[j].type.args.length d1, .slice A1 l[j].args.length c1'] 34)
            have hzx := World.size_alloc wr (Obj.cells #[.int .i64 l[j].kind, .int .i64 l[j].index, .int .i64 l[j].type.kind, .slice B1 l[j].type.args.length d1, .slice A1 l[j].args.length c1'] 34)
            clear q0 q1 q2 q3 q4
            generalize wr.alloc (Obj.cells #[.int .i64 l[j].kind, .int .i64 l[j].index, .int .i64 l[j].type.kind, .slice B1 l[j].type.args.length d1, .slice A1 l[j].args.length c1'] 34) = wa at hbx hzx ⊢
            refine (IH.out l[j] g c _ base (fun b => ((S b ∨ w.heap.size + 2 ≤ b) ∧ c.ownBlock ≠ some b) ∧ b < wa.heap.size ∧ b ≠ w.heap.size + 1 + 1) wa hbn hjok HGE.out.2.1 HGE.out.2.2 (by have := HRN.out.base'; omega) (fun b h => ⟨h.2.1, h.1.2⟩)
              (((own_still (HRE.out.own.mono (fun b h h' => And.intro h h') (Nat.le_refl _)) HTY.out.2.2 hgr).below hbx).mono (fun b h h' => ⟨h.1, h', by have h1 := h.2; have h2 := HPM.out.2; omega⟩) (Nat.le_refl _)) (IsTm.keep (S := S) (fun b h => ⟨⟨.inl h, fun e => (HRN.out.lies b e).2 h⟩, by have := (HS.out b h).1; omega, by have h1 := (HS.out b h).1; have h2 := HPM.out.2; omega⟩) (fun p hp => hbx.cell (by have := (HS.out _ hp).1; omega)) _ HX.out)).mono ?_
            rintro e w2 ⟨hg2, hs2, h2⟩
            have hgr2 : wr.grownBy w2 c.ownBlock := only_trans (below_only hbx (Nat.le_refl _) _) hg2
            have hst2 : Still base c g.length wr w2 := fun xs h => hs2 xs (h.kept (below_only hbx (Nat.le_refl _) none) (by cases c.ownBlock <;> simp))
            have hz2 := hgr2.size
            have hlies := HRN.out.lies
            have ne0 : some w.heap.size ≠ c.ownBlock := fun e => by have := (hlies _ e.symm).1; omega
            have ne1 : some (w.heap.size + 1) ≠ c.ownBlock := fun e => by have := (hlies _ e.symm).1; omega
            have k0 := k0.grown hgr2 ne0
            have k1 := k1.grown hgr2 ne1
            have hpo2 := HPO.out.kept hgr2 (.inr (fun e => HPM.out.1 e.symm)) (fun kk e h => h.2 e)
            have HP2 := Lib.hid hpo2
            have HG2 := Lib.hid (And.intro hgr2 hst2)
            have HLI := Lib.hid (And.intro hlies (And.intro ne0 ne1))
            clear hg2 hs2 hpo2 hst2 hlies ne0 ne1 hgr2
            cases htj : l[j].typ g with
            | error er =>
              rw [htj] at h2
              simp only at h2
              subst h2
              have hee : (er != 0) = true := by rcases typ_code _ _ htj with h | h | h <;> subst h <;> rfl
              have HSTOP : Hid ((Tm.mk k i T l).typ g = .error er) := Lib.hid (typ_stop h1 HGE.out.1 (by
                have := typAll_stop (m := l.drop (j + 1)) HTY.out.1 htj
                rwa [← List.drop_eq_getElem_cons hlt, List.take_append_drop] at this))
              have r0 := fun o => (k1.alloc o).facts2.1
              have r1 := fun o => (k1.alloc o).facts2.2.1
              have g0 := fun o => (k1.alloc o).facts2.2.2.1
              have g1 := fun o => (k1.alloc o).facts2.2.2.2
              clear htj
              go_wp2_with fail
              obtain ⟨z0, z1, _, _⟩ := ((k1.alloc (Obj.cells #[.int .i64 0, .slice none 0 0] 30)).set2 (.int .i64 0) (.slice none 0 0)).facts2
              refine bodyPost_ret (v := .tuple #[.agg #[.int .i64 0, .slice none 0 0], .int .i64 er]) (by simp [results, Tryd.results64, go_sem, z0, z1]) rfl ?_
              have hgF : w2.grownBy (((w2.alloc (Obj.cells #[.int .i64 0, .slice none 0 0] 30)).setCell ⟨w.heap.size + 1, 0, none⟩ (.int .i64 0)).setCell ⟨w.heap.size + 1, 1, none⟩ (.slice none 0 0)) (some (w.heap.size + 1)) := only_trans (World.grownBy_alloc w2 _ _) (only_set2 _ (w.heap.size + 1) _ _)
              obtain ⟨t1, t2⟩ := typeOf_close (fun b h => (HS.out b h).1) HOW.out.1 ((HRN.out.next (fun b h => (HS.out b h).1) HG2.out.1 HG2.out.2).back _ (only_refl _ _) (fun _ h => h)) (HRN.out.next (fun b h => (HS.out b h).1) HG2.out.1 HG2.out.2).size hgF
              refine ⟨t1, t2, ?_⟩
              rw [HSTOP.out]
            | ok U =>
              rw [htj] at h2
              obtain ⟨vU, rfl, hU⟩ := h2
              obtain ⟨AU, cU, rfl⟩ := hU.form
              have HU := Lib.hid hU
              have HTJ := Lib.hid htj
              obtain ⟨xs, hxo, hxc⟩ := HP2.out.below (below_box w2 (Obj.cells #[.int .i64 U.kind, .slice AU U.args.length cU] 30))
              have hpl := HTY.out.2.1
              have hnl : (ps ++ List.replicate (l.length - j) Ty.zero).length = l.length := by simp; omega
              rw [hnl] at hxo
              have hc0 := hxo.cellAt (j * 2) (by show j * 2 < l.length * 2; omega)
              have hc1 := hxo.cellAt (j * 2 + 1) (by show j * 2 + 1 < l.length * 2; omega)
              have hf0 := hxo.frozenAt (j * 2)
              have hf1 := hxo.frozenAt (j * 2 + 1)
              have hx0 : ∃ x, xs[j * 2]? = some x := ⟨_, List.getElem?_eq_getElem (by have := hxo.1; have h2 : TyR.n = 2 := rfl; rw [h2] at this; omega)⟩
              have hx1 : ∃ x, xs[j * 2 + 1]? = some x := ⟨_, List.getElem?_eq_getElem (by have := hxo.1; have h2 : TyR.n = 2 := rfl; rw [h2] at this; omega)⟩
              obtain ⟨x0, hx0⟩ := hx0
              obtain ⟨x1, hx1⟩ := hx1
              rw [hx0] at hc0
              rw [hx1] at hc1
              have HXO := Lib.hid (And.intro hxo (And.intro hxc (And.intro hpl (And.intro hx0 (And.intro hx1 hnl)))))
              clear hU htj hxo hxc hx0 hx1 hpl hnl
              go_wp2_with fail
              have hUK : IsTy (fun b => (fun b => (S b ∨ w.heap.size + 2 ≤ b) ∧ c.ownBlock ≠ some b) b ∧ b < (w2.alloc (Obj.cells #[.int .i64 U.kind, .slice AU U.args.length cU] 30)).heap.size ∧ w.heap.size + 1 + 1 ≠ b) (w2.alloc (Obj.cells #[.int .i64 U.kind, .slice AU U.args.length cU] 30)) U (.agg #[.int .i64 U.kind, .slice AU U.args.length cU]) := by
                refine IsTy.keep (fun b h => ?_) (fun p hp => World.cell?_alloc_lt _ _ _ hp.2) _ HU.out
                have hlt2 := h.2
                have hpw := (HPO.out.lt _ rfl).2
                have h2 := HPM.out.2
                refine ⟨?_, by simp; omega, ?_⟩
                · rcases h.1 with h3 | h3
                  · exact h3.1
                  · exact ⟨.inr (by omega), fun e => by have := (HRN.out.own.lt _ e).2; omega⟩
                · rcases h.1 with h3 | h3
                  · exact fun e => h3.2.2 e.symm
                  · have h4 : w.heap.size + 1 + 1 < wr.heap.size := hpw
                    omega
              obtain ⟨ho3, hg3⟩ := parts_store (S := (fun b => (S b ∨ w.heap.size + 2 ≤ b) ∧ c.ownBlock ≠ some b)) (j := j) HXO.out.2.2.1 (by omega) (fun e => HPM.out.1 e.symm) HXO.out.1 HXO.out.2.1 HXO.out.2.2.2.2.2 hUK
              refine ⟨⟨j + 1, ps ++ [U], by omega, by go_num, ?_, by simp [HXO.out.2.2.1], ho3, ?_, ?_, ?_, ?_⟩, by simp [intOf]; omega⟩
              · rw [List.take_succ_eq_append_getElem hlt]
                exact typAll_snoc HTY.out.1 HTJ.out
              · exact grown_off (only_trans (only_trans hgr HG2.out.1) (World.grownBy_alloc _ _ _)) hg3 HPM.out.2
              · intro ys hys
                exact ((HG2.out.2 ys (HTY.out.2.2 ys hys)).alloc _).kept hg3 (.inr HPM.out.1)
              · exact (k0.alloc _).grown hg3 (by intro e; simp at e <;> omega)
              · exact (k1.alloc _).grown hg3 (by intro e; simp at e <;> omega)
          · have hjl : j = l.length := by omega
            subst hjl
            have hty' : typAll l g = .ok ps := by rwa [List.take_length] at hty
            have hpo' : TyR.Own (fun b => (S b ∨ w.heap.size + 2 ≤ b) ∧ c.ownBlock ≠ some b) (w.heap.size + 2) (.slice (some ⟨w.heap.size + 1 + 1, 0, none⟩) l.length l.length) ps wr := by
              simpa using hpo
            obtain ⟨q0, q1, q2, q3, q4⟩ := k0.cells5
            have hsl := hpo'.sl.keep (S' := fun b => (S b ∨ w.heap.size + 2 ≤ b) ∧ b < wr.heap.size) (fun b h => ⟨h.1.elim (fun h => h.1) .inr, h.2⟩) (fun _ _ => rfl)
            have hTr2 : IsTm (fun b => (S b ∨ w.heap.size + 2 ≤ b) ∧ b < wr.heap.size) wr (.mk k i T l) (.agg #[.int .i64 k, .int .i64 i, .int .i64 T.kind, .slice B T.args.length d, .slice A l.length a0]) := IsTm.keep (fun b h => ⟨.inl h, by have := (HS.out b h).1; omega⟩) (fun _ _ => rfl) _ hTr
            have HNT := Lib.hid (And.intro hsl (And.intro hTr2 (And.intro (typAll_err l g hokl HGE.out.2.1 hty') (And.intro (typ_node (i := i) h1 HGE.out.1 hty') (And.intro hre hpl)))))
            clear hsl hTr2 hTr hpo hpo' hty hty' hre hst hpl
            go_wp2_with fail
            refine (nodeType_in (fun b => (S b ∨ w.heap.size + 2 ≤ b) ∧ b < wr.heap.size) k i T l ps _ _ wr (fun b h => h.2) HNT.out.2.1 HNT.out.1 hf h1 HNT.out.2.2.2.2.2 HNT.out.2.2.1).mono ?_
            rintro e w3 ⟨hb3, h3⟩
            have k1 := k1.below hb3 k1.lt
            obtain ⟨r0, r1, g0, g1⟩ := k1.facts2
            have hs3 := hb3.size
            cases hnt : nodeTy k T ps with
            | error er =>
              rw [hnt] at h3
              simp only at h3
              subst h3
              have HNE := Lib.hid hnt
              clear hnt
              go_wp2_with fail
              obtain ⟨z0, z1, _, _⟩ := (k1.set2 (.int .i64 0) (.slice none 0 0)).facts2
              refine bodyPost_ret (v := .tuple #[.agg #[.int .i64 0, .slice none 0 0], .int .i64 er]) (by simp [results, Tryd.results64, go_sem, z0, z1]) rfl ?_
              obtain ⟨t1, t2⟩ := typeOf_close (fun b h => (HS.out b h).1) HOW.out.1 (HNT.out.2.2.2.2.1.back _ (only_refl _ _) (fun _ h => h)) HNT.out.2.2.2.2.1.size (only_trans (below_only hb3 (Nat.le_refl _) _) (only_set2 w3 (w.heap.size + 1) (.int .i64 0) (.slice none 0 0)))
              refine ⟨t1, t2, ?_⟩
              rw [HNT.out.2.2.2.1, HNE.out]
            | ok U =>
              rw [hnt] at h3
              obtain ⟨vU, rfl, hU⟩ := h3
              obtain ⟨AU, cU, rfl⟩ := hU.form
              have HNE := Lib.hid hnt
              have HU := Lib.hid hU
              clear hnt hU
              go_wp2_with fail
              obtain ⟨z0, z1, _, _⟩ := (k1.set2 (.int .i64 U.kind) (.slice AU U.args.length cU)).facts2
              refine bodyPost_ret (v := .tuple #[.agg #[.int .i64 U.kind, .slice AU U.args.length cU], .int .i64 0]) (by simp [results, Tryd.results64, go_sem, z0, z1]) rfl ?_
              have hg4 := only_set2 w3 (w.heap.size + 1) (.int .i64 U.kind) (.slice AU U.args.length cU)
              obtain ⟨t1, t2⟩ := typeOf_close (fun b h => (HS.out b h).1) HOW.out.1 (HNT.out.2.2.2.2.1.back _ (only_refl _ _) (fun _ h => h)) HNT.out.2.2.2.2.1.size (only_trans (below_only hb3 (Nat.le_refl _) _) hg4)
              refine ⟨t1, t2, ?_⟩
              rw [HNT.out.2.2.2.1, HNE.out]
              have hrs := HNT.out.2.2.2.2.1.size
              have hset : ∀ b, (((S b ∨ w.heap.size + 2 ≤ b) ∧ b < wr.heap.size) ∨ wr.heap.size ≤ b) → (S b ∨ w.heap.size ≤ b) ∧ b ≠ w.heap.size + 1 := by
                intro b h
                rcases h with ⟨h | h, _⟩ | h
                · exact ⟨.inl h, by have := (HS.out _ h).1; omega⟩
                · exact ⟨.inr (by omega), by omega⟩
                · exact ⟨.inr (by omega), by omega⟩
              exact ⟨_, rfl, IsTy.keep (fun b h => ⟨(hset b h.1).1, Nat.lt_of_lt_of_le h.2 hg4.size⟩) (fun p hp => World.cell?_of_block (hg4.block p.block hp.2 (fun e => (hset _ hp.1).2 (by simpa using e)))) _ HU.out⟩
end Go.Proofs.YtieafbmabnohhaaDoor
