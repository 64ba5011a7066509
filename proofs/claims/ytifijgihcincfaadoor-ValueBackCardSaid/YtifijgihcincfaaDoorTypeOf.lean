/- typeOf. -/
import Derived.Test.YtifijgihcincfaaDoorTypeSpec
import Derived.Deep.DeepAppendRoom
import Derived.ArgAppend
import Derived.Sort.LoopGhostIn
namespace Go.Proofs.YtifijgihcincfaaDoor
open Go.RowKit

/-- The context's own cells stand. -/
def Still (base : Nat) (c : Value) (n : Nat) (w w' : World) : Prop := ∀ xs, w.ownsRow base 30 2 c n xs → w'.ownsRow base 30 2 c n xs

def TypeOfR (S : Nat → Prop) (base : Nat) (c : Value) (g : List Ty) (t : Tm) (w : World) (e : Ending) (w' : World) : Prop :=
  w.grownBy w' c.ownBlock ∧ Still base c g.length w w' ∧ match t.typ g with
    | .ok U => ∃ v, e = .returned (.tuple #[v, .int .i64 0]) ∧ IsTy (fun b => (S b ∨ w.heap.size ≤ b) ∧ b < w'.heap.size) w' U v
    | .error k => e = .returned (.tuple #[.agg #[.int .i64 0, .slice none 0 0], .int .i64 k])

theorem own_still {S : Nat → Prop} {base : Nat} {c : Value} {g : List Ty} {w w' : World} (h : TyR.Own S base c g w) (hs : Still base c g.length w w') (hg : w.grownBy w' c.ownBlock) : TyR.Own S base c g w' := by
  obtain ⟨xs, hown, hc⟩ := h
  exact ⟨xs, hs xs hown, hc.keep (fun b hb => ⟨hb.1, Nat.lt_of_lt_of_le hb.2.1 hg.size, hb.2.2⟩) (fun p hp => World.cell?_of_block (hg.block p.block hp.2.1 (fun e => hp.2.2 e.symm)))⟩

theorem ownsRow_drop {w : World} {base : Nat} {t : TypeId} {g cap n : Nat} {xs ys : List Value} (hx : xs.length = n * 2) (h : w.ownsRow base t 2 (.slice (some ⟨g, 0, none⟩) (n + 1) cap) (n + 1) (xs ++ ys)) :
    w.ownsRow base t 2 (.slice (some ⟨g, 0, none⟩) n cap) n xs := by
  rcases h.2 with ⟨h0, _⟩ | ⟨g', cap', cur, hv, hb, hg, hnc, hcm, hcs, htake⟩
  · cases h0
  · cases hv
    refine ⟨hx, .inr ⟨_, _, cur, rfl, hb, hg, by omega, hcm, hcs, ?_⟩⟩
    have := congrArg (List.take (n * 2)) htake
    rw [List.take_take, Nat.min_eq_left (by omega)] at this
    rw [this, ← hx, List.take_left]

/-- What holds when the parts of a node are gone through: the context is c', its types g'. -/
structure Rest (w W1 : World) (S : Nat → Prop) (base : Nat) (c : Value) (g : List Ty) (t : Tm) (base' : Nat) (c' : Value) (g' : List Ty) : Prop where
  own : TyR.Own (fun b => (S b ∨ w.heap.size + 2 ≤ b) ∧ c'.ownBlock ≠ some b) base' c' g' W1
  back : ∀ W2, W1.grownBy W2 c'.ownBlock → Still base' c' g'.length W1 W2 → w.grownBy W2 c.ownBlock ∧ Still base c g.length w W2
  lies : ∀ b, c'.ownBlock = some b → (b < w.heap.size ∨ w.heap.size + 2 ≤ b) ∧ ¬ S b
  g' : g' = if t.kind = 2 then g ++ [t.type] else g
  base' : base' ≤ W1.heap.size
  size : w.heap.size + 2 ≤ W1.heap.size
  keeps : ∀ p : Addr, S p.block → W1.cell? p = w.cell? p

theorem madeCells_at (z : Array Value) (n k : Nat) (h : k < n) : (madeCells z n).toList[k]? = some z[k % z.size]! := by
  have h1 : (Array.range n)[k]? = some k := by simp [h]
  simp [madeCells, h]
theorem zero_cells (S : Nat → Prop) (w : World) (n : Nat) : TyR.Ch S w (List.replicate n .zero) (madeCells #[.int .i64 0, .slice none 0 0] (n * 2)).toList := by
  refine ⟨by simp [madeCells]; rfl, fun i hi => ⟨[.int .i64 0, .slice none 0 0], fun j u hu => ?_, by rw [List.getElem_replicate]; exact IsTy.leaf S w 0⟩⟩
  have hi' : i < n := by simpa using hi
  show (madeCells #[.int .i64 0, .slice none 0 0] (n * 2)).toList[i * 2 + j]? = some u
  match j, hu with
  | 0, hu =>
    simp at hu
    rw [madeCells_at _ _ _ (by omega), show (i * 2 + 0) % (#[Value.int IntKind.i64 0, Value.slice none 0 0] : Array Value).size = 0 from by simp, ← hu]
    rfl
  | 1, hu =>
    simp at hu
    rw [madeCells_at _ _ _ (by omega), show (i * 2 + 1) % (#[Value.int IntKind.i64 0, Value.slice none 0 0] : Array Value).size = 1 from by show (i * 2 + 1) % 2 = 1; omega, ← hu]
    rfl

theorem Rest.next {w W1 W2 : World} {S : Nat → Prop} {base base' : Nat} {c c' : Value} {g g' : List Ty} {t : Tm} (h : Rest w W1 S base c g t base' c' g') (hS : ∀ b, S b → b < w.heap.size) (hg : W1.grownBy W2 c'.ownBlock) (hs : Still base' c' g'.length W1 W2) : Rest w W2 S base c g t base' c' g' where
  own := own_still h.own hs hg
  back W3 h1 h2 := h.back W3 (only_trans hg h1) (fun xs hx => h2 xs (hs xs hx))
  lies := h.lies
  g' := h.g'
  base' := Nat.le_trans h.base' hg.size
  size := Nat.le_trans h.size hg.size
  keeps p hp := (World.cell?_of_block (hg.block p.block (by have := hS _ hp; have := h.size; omega) (fun e => (h.lies _ e.symm).2 hp))).trans (h.keeps p hp)

theorem still_none {base : Nat} {c : Value} {n : Nat} {w w' : World} (h : w.grownBy w' none) : Still base c n w w' := fun xs hx => hx.kept h (by cases c.ownBlock <;> simp)
theorem grown_none {w w' : World} (h : w.grownBy w' none) (row : Option Nat) : w.grownBy w' row := ⟨h.os, h.tape, h.output, h.size, fun i hi _ => h.block i hi (by simp)⟩

/-- The list of the types of the parts, just made. -/
theorem parts_made {w W1 wm : World} {S : Nat → Prop} {base base' : Nat} {c c' : Value} {g g' : List Ty} {t : Tm} {x5 x2 : Array Value} {n m : Nat} (hS : ∀ b, S b → b < w.heap.size) (k0 : Blk W1 w.heap.size 34 x5) (k1 : Blk W1 (w.heap.size + 1) 30 x2)
    (h : Rest w W1 S base c g t base' c' g') (hmk : wm.ownsRow (w.heap.size + 2) 30 2 (.slice (some ⟨m, 0, none⟩) n n) n (madeCells #[.int .i64 0, .slice none 0 0] (n * 2)).toList) (hm : m = W1.heap.size) (hgm : W1.grownBy wm none) :
    TyR.Own (fun b => (S b ∨ w.heap.size + 2 ≤ b) ∧ c'.ownBlock ≠ some b) (w.heap.size + 2) (.slice (some ⟨m, 0, none⟩) n n) (List.replicate n .zero) wm ∧ Rest w wm S base c g t base' c' g' ∧ Blk wm w.heap.size 34 x5 ∧
      Blk wm (w.heap.size + 1) 30 x2 ∧ c'.ownBlock ≠ some m := by
  refine ⟨⟨_, by rw [List.length_replicate]; exact hmk, zero_cells _ _ n⟩, h.next hS (grown_none hgm _) (still_none hgm), k0.grown hgm (by simp), k1.grown hgm (by simp), fun e => ?_⟩
  have := h.own.lt m e
  omega

theorem grown_off {a b c : World} {row : Option Nat} {k : Nat} (h : a.grownBy b row) (h2 : b.grownBy c (some k)) (hk : a.heap.size ≤ k) : a.grownBy c row :=
  ⟨h2.os.trans h.os, h2.tape.trans h.tape, h2.output.trans h.output, Nat.le_trans h.size h2.size, fun i hi hne => (h2.block i (Nat.lt_of_lt_of_le hi h.size) (by simp; omega)).trans (h.block i hi hne)⟩
theorem typeOf_close {w w2 W : World} {S : Nat → Prop} {base : Nat} {c : Value} {g : List Ty} (_hS : ∀ b, S b → b < w.heap.size) (hown : TyR.Own S base c g w) (hb : w.grownBy w2 c.ownBlock ∧ Still base c g.length w w2) (_hz : w.heap.size + 2 ≤ w2.heap.size)
    (hg : w2.grownBy W (some (w.heap.size + 1))) : w.grownBy W c.ownBlock ∧ Still base c g.length w W := by
  refine ⟨grown_off hb.1 hg (by omega), fun xs hx => (hb.2 xs hx).kept hg ?_⟩
  right
  intro e
  have := hown.lt _ e
  omega
theorem ownsRow_det {w : World} {base : Nat} {t : TypeId} {n : Nat} {v : Value} {xs ys : List Value} (h : w.ownsRow base t 2 v n xs) (k : w.ownsRow base t 2 v n ys) : xs = ys := by
  rcases h.2 with ⟨rfl, hn⟩ | ⟨g, cap, cur, rfl, _, hg, _, _, _, ht⟩
  · subst hn
    have h1 : xs = [] := List.eq_nil_of_length_eq_zero (by simpa using h.1)
    have h2 : ys = [] := List.eq_nil_of_length_eq_zero (by simpa using k.1)
    rw [h1, h2]
  · rcases k.2 with ⟨hv, _⟩ | ⟨g', cap', cur', hv, _, hg', _, _, _, ht'⟩
    · cases hv
    · cases hv
      rw [hg] at hg'
      cases hg'
      rw [← ht, ← ht']

/-- A function's body: the context grows in place. -/
theorem rest_room {w W W1 : World} {S : Nat → Prop} {base gb cap : Nat} {g : List Ty} {i : Int} {T : Ty} {l : List Tm} {xs : List Value} {x y : Value} {k : Int} (hk : k = 2) (hbase : base ≤ w.heap.size) (hS : ∀ b, S b → b < w.heap.size ∧ (Value.slice (some ⟨gb, 0, none⟩) g.length cap).ownBlock ≠ some b)
    (hb : Below w.heap.size w W) (hz : W.heap.size = w.heap.size + 2) (hown : TyR.Own S base (.slice (some ⟨gb, 0, none⟩) g.length cap) g w) (hxo : W.ownsRow base 30 2 (.slice (some ⟨gb, 0, none⟩) g.length cap) g.length xs)
    (hxc : TyR.Ch (fun b => S b ∧ b < W.heap.size ∧ (Value.slice (some ⟨gb, 0, none⟩) g.length cap).ownBlock ≠ some b) W g xs) (hT : IsTy S W T (.agg #[x, y]))
    (hown1 : W1.ownsRow base 30 2 (.slice (some ⟨gb, 0, none⟩) (g.length + 1) cap) (g.length + 1) (xs ++ [x, y])) (hgr : (W.alloc (.cells #[x, y] 30)).grownBy W1 (some gb)) :
    Rest w W1 S base (.slice (some ⟨gb, 0, none⟩) g.length cap) g (.mk k i T l) base (.slice (some ⟨gb, 0, none⟩) (g.length + 1) cap) (g ++ [T]) := by
  have hgb := hown.lt gb rfl
  have hgW : W.grownBy W1 (some gb) := only_trans (World.grownBy_alloc W _ _) hgr
  have hs1 := hgW.size
  have hSg : ¬ S gb := fun h => (hS _ h).2 rfl
  refine { own := ?_, back := ?_, lies := ?_, g' := by show g ++ [T] = if k = 2 then _ else _; rw [if_pos hk]; rfl, base' := by omega, size := by omega, keeps := fun p hp => ?_ }
  · refine ⟨xs ++ [x, y], by rw [List.length_append]; exact hown1, ((hxc.keep (S' := fun b => ((S b ∨ w.heap.size + 2 ≤ b) ∧ (Value.slice (some ⟨gb, 0, none⟩) (g.length + 1) cap).ownBlock ≠ some b) ∧ b < W1.heap.size ∧ (Value.slice (some ⟨gb, 0, none⟩) (g.length + 1) cap).ownBlock ≠ some b) (w' := W1)
      (fun b h => ⟨⟨.inl h.1, h.2.2⟩, by omega, h.2.2⟩) (fun p hp => World.cell?_of_block (hgW.block p.block hp.2.1 (fun e => hp.2.2 (by simpa [Value.ownBlock] using e.symm))))).append
      (ty_one (IsTy.keep (fun b h => ⟨⟨.inl h, (hS b h).2⟩, by have := (hS b h).1; omega, (hS b h).2⟩) (fun p hp => World.cell?_of_block (hgW.block p.block (by have := (hS _ hp).1; omega) (fun e => (hS _ hp).2 (by simpa [Value.ownBlock] using e.symm)))) _ hT)))⟩
  · intro W2 h1 h2
    refine ⟨only_trans (only_trans (below_only hb (Nat.le_refl _) _) hgW) h1, fun xs' hx' => ?_⟩
    have e : xs' = xs := ownsRow_det (hx'.kept (below_only hb (Nat.le_refl _) none) (.inr (by simp [Value.ownBlock]))) hxo
    subst e
    have h3 := h2 (xs' ++ [x, y]) (by simpa using hown1)
    exact ownsRow_drop hx'.1 (by simpa using h3)
  · intro b e
    have : b = gb := by simpa [Value.ownBlock] using e.symm
    subst this
    exact ⟨.inl (by omega), hSg⟩
  · have := (hS _ hp).1
    exact (World.cell?_of_block (hgW.block p.block (by omega) (fun e => (hS _ hp).2 (by simpa [Value.ownBlock] using e.symm)))).trans (hb.cell this)

theorem grow_form {W : World} {base : Nat} {t : TypeId} {n : Nat} {c : Value} {xs : List Value} (h : W.ownsRow base t 2 c n xs) (hn : ¬ ∃ gb cap, c = .slice (some ⟨gb, 0, none⟩) n cap ∧ n + 1 ≤ cap) :
    ∃ ao cap, c = .slice ao n cap ∧ (ao = none → n = 0 ∧ cap = 0) ∧ cap < n + 1 ∧ (∀ b, ao = some b → ∀ j u, xs[j]? = some u → W.cell? (b.add j) = some u) := by
  have hc := fun g (hg : c.ownBlock = some g) => h.cells hg
  rcases h.2 with ⟨rfl, rfl⟩ | ⟨g, cap, cur, rfl, _, hg, _⟩
  · exact ⟨none, 0, rfl, fun _ => ⟨rfl, rfl⟩, by omega, fun b e => by cases e⟩
  · refine ⟨_, cap, rfl, (fun e => by cases e), Nat.lt_of_not_le (fun e => hn ⟨g, cap, rfl, e⟩), fun b e j u hu => ?_⟩
    cases e
    exact hc g rfl j u hu

/-- A function's body: the context moves. -/
theorem rest_grow {w W W1 : World} {S : Nat → Prop} {base : Nat} {g : List Ty} {i : Int} {T : Ty} {l : List Tm} {xs : List Value} {x y c v1 : Value} {k : Int} (hk : k = 2) (hS : ∀ b, S b → b < w.heap.size ∧ c.ownBlock ≠ some b)
    (hb : Below w.heap.size w W) (hz : W.heap.size = w.heap.size + 2) (hown : TyR.Own S base c g w)
    (hxc : TyR.Ch (fun b => S b ∧ b < W.heap.size ∧ c.ownBlock ≠ some b) W g xs) (hT : IsTy S W T (.agg #[x, y]))
    (hown1 : W1.ownsRow (W.alloc (.cells #[x, y] 30)).heap.size 30 2 v1 (g.length + 1) (xs ++ [x, y])) (hgr : (W.alloc (.cells #[x, y] 30)).grownBy W1 none) :
    Rest w W1 S base c g (.mk k i T l) (w.heap.size + 3) v1 (g ++ [T]) := by
  have hgW : W.grownBy W1 none := only_trans (World.grownBy_alloc W _ _) hgr
  have hs1 := hgW.size
  rw [World.size_alloc, hz] at hown1
  have hlt := hown1.lt
  have hs2 := hgr.size
  rw [World.size_alloc] at hs2
  have hne : ∀ b, S b → v1.ownBlock ≠ some b := fun b h e => by have h1 := (hlt b e).1; have h2 := (hS b h).1; omega
  refine { own := ?_, back := ?_, lies := ?_, g' := by show g ++ [T] = if k = 2 then _ else _; rw [if_pos hk]; rfl, base' := by omega, size := by omega, keeps := fun p hp => ?_ }
  · refine ⟨xs ++ [x, y], by rw [List.length_append]; exact hown1, ((hxc.keep (S' := fun b => ((S b ∨ w.heap.size + 2 ≤ b) ∧ v1.ownBlock ≠ some b) ∧ b < W1.heap.size ∧ v1.ownBlock ≠ some b) (w' := W1)
      (fun b h => ⟨⟨.inl h.1, hne b h.1⟩, by omega, hne b h.1⟩) (fun p hp => World.cell?_of_block (hgW.block p.block hp.2.1 (by simp)))).append
      (ty_one (IsTy.keep (fun b h => ⟨⟨.inl h, hne b h⟩, by have := (hS b h).1; omega, hne b h⟩) (fun p hp => World.cell?_of_block (hgW.block p.block (by have := (hS _ hp).1; omega) (by simp))) _ hT)))⟩
  · intro W2 h1 h2
    have hg01 : w.grownBy W1 c.ownBlock := only_trans (below_only hb (Nat.le_refl _) _) (grown_none hgW _)
    obtain ⟨vb, hvb⟩ : ∃ vb, v1.ownBlock = some vb := by
      rcases hown1.2 with ⟨_, h0⟩ | ⟨gg, cap, cur, rfl, _⟩
      · omega
      · exact ⟨gg, rfl⟩
    rw [hvb] at h1
    have hvl := (hlt vb hvb).1
    refine ⟨grown_off hg01 h1 (by omega), fun xs' hx' => ?_⟩
    have h3 := (hx'.kept (below_only hb (Nat.le_refl _) none) (by cases c.ownBlock <;> simp)).kept hgW (by cases c.ownBlock <;> simp)
    exact h3.kept h1 (.inr fun e => by have := (hown.lt vb e).2; omega)
  · intro b e
    exact ⟨.inr (by have := (hlt b e).1; omega), fun h => hne b h e⟩
  · have := (hS _ hp).1
    exact (World.cell?_of_block (hgW.block p.block (by omega) (by simp))).trans (hb.cell this)

/-- A part's type is stored. -/
theorem parts_store {S : Nat → Prop} {base pm L j : Nat} {w3 : World} {ps : List Ty} {U : Ty} {xs : List Value} {x y : Value} {own : Option Nat} (hj : ps.length = j) (hlt : j < L) (_hne : some pm ≠ own)
    (hxo : w3.ownsRow base 30 2 (.slice (some ⟨pm, 0, none⟩) L L) L xs) (hxc : TyR.Ch (fun b => S b ∧ b < w3.heap.size ∧ (Value.slice (some ⟨pm, 0, none⟩) L L).ownBlock ≠ some b) w3 (ps ++ List.replicate (L - j) .zero) xs) (_hnl : (ps ++ List.replicate (L - j) Ty.zero).length = L)
    (hU : IsTy (fun b => S b ∧ b < w3.heap.size ∧ pm ≠ b) w3 U (.agg #[x, y])) :
    TyR.Own S base (.slice (some ⟨pm, 0, none⟩) L L) ((ps ++ [U]) ++ List.replicate (L - (j + 1)) .zero) ((w3.setCell ⟨pm, j * 2, none⟩ x).setCell ⟨pm, j * 2 + 1, none⟩ y) ∧
      w3.grownBy ((w3.setCell ⟨pm, j * 2, none⟩ x).setCell ⟨pm, j * 2 + 1, none⟩ y) (some pm) := by
  obtain ⟨o1, g1⟩ := hxo.stored (j * 2) x
  obtain ⟨o2, g2⟩ := o1.stored (j * 2 + 1) y
  have hg := only_trans g1 g2
  refine ⟨?_, hg⟩
  have hxl : xs.length = L * 2 := hxo.1
  have hc := Rep.Ch.set_ (R := TyR) (vs := [x, y]) (ys := (xs.set (j * 2) x).set (j * 2 + 1) y) hxc j (by rw [_hnl]; exact hlt) (show TyR.is _ w3 U [x, y] from IsTy.keep (fun b h => ⟨h.1, h.2.1, fun e => h.2.2 (by simpa [Value.ownBlock] using e)⟩) (fun _ _ => rfl) _ hU) (by simp)
    (fun k u hu => by
      show ((xs.set (j * 2) x).set (j * 2 + 1) y)[j * 2 + k]? = some u
      match k, hu with
      | 0, hu =>
        simp at hu
        subst hu
        show ((xs.set (j * 2) x).set (j * 2 + 1) y)[j * 2]? = some x
        rw [List.getElem?_set_ne (by omega), List.getElem?_set_self (by omega)]
      | 1, hu =>
        simp at hu
        subst hu
        rw [List.getElem?_set_self (by rw [List.length_set]; omega)])
    (fun k hk => by
      have hk' : k < j * 2 ∨ j * 2 + 2 ≤ k := hk
      rw [List.getElem?_set_ne (by omega), List.getElem?_set_ne (by omega)])
  have e : (ps ++ List.replicate (L - j) Ty.zero).set j U = (ps ++ [U]) ++ List.replicate (L - (j + 1)) .zero := by
    subst hj
    obtain ⟨m, hm⟩ : ∃ m, L - ps.length = m + 1 := ⟨L - ps.length - 1, by omega⟩
    rw [hm, show L - (ps.length + 1) = m from by omega, List.replicate_succ]
    simp
  rw [e] at hc
  refine ⟨_, by rw [show ((ps ++ [U]) ++ List.replicate (L - (j + 1)) Ty.zero).length = L from by simp; omega]; exact o2, hc.keep (fun b h => ⟨h.1, Nat.lt_of_lt_of_le h.2.1 hg.size, h.2.2⟩) (fun p hp => World.cell?_of_block (hg.block p.block hp.2.1 (fun e => hp.2.2 (by simpa [Value.ownBlock] using e.symm))))⟩

end Go.Proofs.YtifijgihcincfaaDoor
