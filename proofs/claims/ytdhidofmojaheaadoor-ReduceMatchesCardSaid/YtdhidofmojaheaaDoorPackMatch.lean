/- terms.alike. -/
import Derived.Test.YtdhidofmojaheaaDoorPackWalk
import Derived.Test.YtdhidofmojaheaaDoorMade
import Derived.Test.YtdhidofmojaheaaDoorSameEq
import Derived.Sort.LoopGhostIn
import Derived.RegionTactic
import Derived.Laws.OwnMore
import Derived.Deep.AppendLies
import Derived.Deep.RegionLaw
namespace Go.Proofs.YtdhidofmojaheaaDoor
open Go.RowKit

/-- Two nodes are alike. -/
def alikeTm (x y : Tm) : Bool := x.kind == y.kind && x.index == y.index && decide (x.args.length = y.args.length) && x.type.same y.type

theorem alike_args {x y : Tm} (h : alikeTm x y = true) : x = .mk y.kind y.index y.type x.args ∧ x.args.length = y.args.length := by
  simp only [alikeTm, Bool.and_eq_true, beq_iff_eq, decide_eq_true_eq] at h
  obtain ⟨⟨⟨h1, h2⟩, h3⟩, h4⟩ := h
  obtain ⟨k, i, T, l⟩ := x
  obtain ⟨k', i', T', l'⟩ := y
  simp only [Tm.kind, Tm.index, Tm.type, Tm.args] at h1 h2 h3 h4 ⊢
  subst h1 h2
  rw [same_eq h4]
  exact ⟨rfl, h3⟩
theorem alike_self (x : Tm) : alikeTm x x = true := by simp [alikeTm, same_rfl]

set_option maxRecDepth 100000 in
set_option maxHeartbeats 4000000 in
theorem alikeT_any (x y : Tm) (u v : Value) (w : World) (hsz : x.type.nodes ≤ 400000) (hX : IsTm (· < w.heap.size) w x u) (hY : IsTm (· < w.heap.size) w y v) :
    Calls Tryd.prog 91 #[u, v] w fun e w' => e = .returned (.bool (alikeTm x y)) ∧ Below w.heap.size w w' := by
  obtain ⟨B1, d1, A1, c1, rfl, ty1, _⟩ := hX.parts
  obtain ⟨B2, d2, A2, c2, rfl, ty2, _⟩ := hY.parts
  have HT := Lib.hid (And.intro ty1 ty2)
  clear hX hY ty1 ty2
  go_enter Tryd.func91, Tryd.ntmps91
  go_upto_region 1 with fail
  obtain ⟨W, hW, b2, z2, k0, k1⟩ := alloc2_facts w #[.int .i64 x.kind, .int .i64 x.index, .int .i64 x.type.kind, .slice B1 x.type.args.length d1, .slice A1 x.args.length c1] #[.int .i64 y.kind, .int .i64 y.index, .int .i64 y.type.kind, .slice B2 y.type.args.length d2, .slice A2 y.args.length c2] 34 34
  rw [← hW]
  obtain ⟨r0, r1, r2, r3, r4, _, _, _, _, _⟩ := k0.facts5
  obtain ⟨s0, s1, s2, s3, s4, _, _, _, _, _⟩ := k1.facts5
  have HB := Lib.hid b2
  clear hW b2 k0 k1
  by_cases h1 : x.kind = y.kind
  · have e1 : (x.kind == y.kind) = true := by simpa using h1
    clear h1
    by_cases h2 : x.index = y.index
    · have e2 : (x.index == y.index) = true := by simpa using h2
      clear h2
      by_cases h3 : x.args.length = y.args.length
      · have e3 : ((x.args.length : Int) == (y.args.length : Int)) = true := by simp; omega
        have h3' := Lib.hid h3
        clear h3
        go_wp2_with fail
        refine (same_any x.type y.type _ _ W hsz (HT.out.1.keep (fun b h => Nat.lt_of_lt_of_le h HB.out.size) (fun p h => HB.out.cell h)) (HT.out.2.keep (fun b h => Nat.lt_of_lt_of_le h HB.out.size) (fun p h => HB.out.cell h))).mono ?_
        rintro e w1 ⟨rfl, hb1⟩
        go_wp2_with fail
        go_ret
        exact ⟨ret_boolD (by simp [alikeTm, e1, e2, h3'.out]), HB.out.trans (hb1.mono HB.out.size)⟩
      · have e3 : ((x.args.length : Int) == (y.args.length : Int)) = false := by simp; omega
        have h3' := Lib.hid h3
        clear h3
        go_wp2_with fail
        go_ret
        exact ⟨ret_boolD (by simp [alikeTm, h3'.out]), HB.out⟩
    · have e2 : (x.index == y.index) = false := by simpa using h2
      clear h2
      go_wp2_with fail
      go_ret
      exact ⟨ret_boolD (by simp [alikeTm, e2]), HB.out⟩
  · have e1 : (x.kind == y.kind) = false := by simpa using h1
    clear h1
    go_wp2_with fail
    go_ret
    exact ⟨ret_boolD (by simp [alikeTm, e1]), HB.out⟩
end Go.Proofs.YtdhidofmojaheaaDoor
namespace Go.Proofs.YtdhidofmojaheaaDoor
open Go.RowKit

/-- Pairs of terms. -/
def TmsR : Rep (Tm × Tm) where
  n := 10
  t := 121
  is S w p vs := ∃ xs ys, vs = xs ++ ys ∧ TmR.is S w p.1 xs ∧ TmR.is S w p.2 ys
  pos := by decide
  len h := by
    obtain ⟨xs, ys, rfl, h1, h2⟩ := h
    have e1 : xs.length = 5 := TmR.len h1
    have e2 : ys.length = 5 := TmR.len h2
    simp [e1, e2]
  one h := by
    obtain ⟨xs, ys, rfl, h1, h2⟩ := h
    intro u hu
    rcases List.mem_append.1 hu with h | h
    · exact TmR.one h1 u h
    · exact TmR.one h2 u h
  keep hS hc h := by
    obtain ⟨xs, ys, rfl, h1, h2⟩ := h
    exact ⟨xs, ys, rfl, TmR.keep hS hc h1, TmR.keep hS hc h2⟩
theorem info_pair : (Tryd.prog.info? 121).map (fun i => (i.zero, i.size, i.bytes)) = some (some (.agg #[.int .i64 0, .int .i64 0, .int .i64 0, .slice none 0 0, .slice none 0 0, .int .i64 0, .int .i64 0, .int .i64 0, .slice none 0 0, .slice none 0 0]), 10, 144) := by kernel_rfl

def pairsSize : List (Tm × Tm) → Nat
  | [] => 0
  | p :: r => p.1.size + pairsSize r
def pairsBulk : List (Tm × Tm) → Nat
  | [] => 0
  | p :: r => p.1.bulk + pairsBulk r
theorem pairsSize_append : ∀ l m : List (Tm × Tm), pairsSize (l ++ m) = pairsSize l + pairsSize m
  | [], m => by simp [pairsSize]
  | p :: l, m => by simp only [List.cons_append, pairsSize, pairsSize_append l m]; omega
theorem pairsBulk_append : ∀ l m : List (Tm × Tm), pairsBulk (l ++ m) = pairsBulk l + pairsBulk m
  | [], m => by simp [pairsBulk]
  | p :: l, m => by simp only [List.cons_append, pairsBulk, pairsBulk_append l m]; omega
theorem pairsBulk_len : ∀ l : List (Tm × Tm), l.length ≤ pairsBulk l
  | [] => by simp [pairsBulk]
  | p :: l => by have := bulk_pos p.1; have := pairsBulk_len l; simp only [List.length_cons, pairsBulk]; omega
theorem pairs_zip : ∀ (l m : List Tm), l.length = m.length → pairsSize (l.zip m) = sizeAllT l ∧ pairsBulk (l.zip m) = bulkAll l ∧ ((∀ p ∈ l.zip m, p.1 = p.2) ↔ l = m)
  | [], [], _ => by simp [pairsSize, pairsBulk, sizeAllT, bulkAll]
  | [], b :: m, h => by simp at h
  | a :: l, [], h => by simp at h
  | a :: l, b :: m, h => by
    obtain ⟨h1, h2, h3⟩ := pairs_zip l m (by simpa using h)
    refine ⟨by simp only [List.zip_cons_cons, pairsSize, sizeAllT, h1], by simp only [List.zip_cons_cons, pairsBulk, bulkAll, h2], ?_⟩
    simp only [List.zip_cons_cons, List.mem_cons, forall_eq_or_imp, List.cons.injEq, h3]

def SameRel (w : World) (a b : Tm) (k : Nat) (s : Value) (wr : World) : Prop :=
  ∃ st : List (Tm × Tm), TmsR.Own (· < w.heap.size) (w.heap.size + 2) s st wr ∧ ((∀ p ∈ st, p.1 = p.2) ↔ a = b) ∧ pairsSize st = k ∧ pairsBulk st ≤ 400000 ∧ Below w.heap.size w wr ∧ w.heap.size + 2 ≤ wr.heap.size

/-- The last pair of a slice of the call's own. -/
theorem own_last_tms {S : Nat → Prop} {base : Nat} {v : Value} {ts : List (Tm × Tm)} {x y : Tm} {w : World} (h : TmsR.Own S base v (ts ++ [(x, y)]) w) : ∃ (g cap : Nat) (B B' : Option Addr) (d d' : Nat) (A A' : Option Addr) (c c' : Nat),
    v = .slice (some ⟨g, 0, none⟩) (ts.length + 1) cap ∧ base ≤ g ∧ g < w.heap.size ∧ ts.length + 1 ≤ cap ∧
    (∀ j u, [Value.int .i64 x.kind, .int .i64 x.index, .int .i64 x.type.kind, .slice B x.type.args.length d, .slice A x.args.length c, .int .i64 y.kind, .int .i64 y.index, .int .i64 y.type.kind, .slice B' y.type.args.length d', .slice A' y.args.length c'][j]? = some u → w.cell? ⟨g, ts.length * 10 + j, none⟩ = some u) ∧
    IsTm (fun b => S b ∧ b < w.heap.size) w x (.agg #[.int .i64 x.kind, .int .i64 x.index, .int .i64 x.type.kind, .slice B x.type.args.length d, .slice A x.args.length c]) ∧
    IsTm (fun b => S b ∧ b < w.heap.size) w y (.agg #[.int .i64 y.kind, .int .i64 y.index, .int .i64 y.type.kind, .slice B' y.type.args.length d', .slice A' y.args.length c']) ∧
    TmsR.Own S base (.slice (some ⟨g, 0, none⟩) ts.length cap) ts w := by
  obtain ⟨g, cap, vs, rfl, hg0, hg1, hcap, hcell, ⟨xs, ys, rfl, hx, hy⟩, ho⟩ := h.last
  have hx' : IsTm (fun b => S b ∧ b < w.heap.size ∧ g ≠ b) w x (.agg xs.toArray) := hx
  have hy' : IsTm (fun b => S b ∧ b < w.heap.size ∧ g ≠ b) w y (.agg ys.toArray) := hy
  obtain ⟨B, d, A, c, e, _⟩ := hx'.form
  obtain ⟨B', d', A', c', e', _⟩ := hy'.form
  simp only [Value.agg.injEq] at e e'
  have e1 := congrArg Array.toList e
  have e2 := congrArg Array.toList e'
  simp only at e1 e2
  subst e1 e2
  exact ⟨g, cap, B, B', d, d', A, A', c, c', rfl, hg0, hg1, hcap, fun j u hj => hcell j u hj, IsTm.keep (fun b hb => ⟨hb.1, hb.2.1⟩) (fun _ _ => rfl) _ hx', IsTm.keep (fun b hb => ⟨hb.1, hb.2.1⟩) (fun _ _ => rfl) _ hy', ho⟩

theorem two_newT (w : World) (cs ds : Array Value) : Blk ((w.alloc (.cells cs 34)).alloc (.cells ds 34)).drew w.heap.size 34 cs ∧ Blk ((w.alloc (.cells cs 34)).alloc (.cells ds 34)).drew (w.heap.size + 1) 34 ds ∧
    w.heap.size ≤ w.heap.size ∧ w.heap.size ≤ w.heap.size + 1 ∧ Below w.heap.size w ((w.alloc (.cells cs 34)).alloc (.cells ds 34)).drew := by
  have h := Blk.new (w.alloc (.cells cs 34)) 34 ds
  rw [World.size_alloc] at h
  exact ⟨((Blk.new w 34 cs).alloc _).drew, h.drew, Nat.le_refl _, by omega, (((Below.refl _ _).alloc (Nat.le_refl _) _).alloc (by simp) _).drew⟩
theorem two_newT' (w : World) (cs ds : Array Value) : Blk ((w.alloc (.cells ds 34)).alloc (.cells cs 34)).drew (w.heap.size + 1) 34 cs ∧ Blk ((w.alloc (.cells ds 34)).alloc (.cells cs 34)).drew w.heap.size 34 ds ∧
    w.heap.size ≤ w.heap.size + 1 ∧ w.heap.size ≤ w.heap.size ∧ Below w.heap.size w ((w.alloc (.cells ds 34)).alloc (.cells cs 34)).drew := by
  obtain ⟨h1, h2, h3, h4, h5⟩ := two_newT w ds cs
  exact ⟨h2, h1, h4, h3, h5⟩
/-- One pair more. -/
theorem tms_more {S : Nat → Prop} {base g2 cap2 : Nat} {s : Value} {l : List (Tm × Tm)} {x y : Tm} {wx W1 w2 : World} {xs vx vy : List Value} (hown : W1.ownsRow base 121 10 s l.length xs)
    (hc : TmsR.Ch (fun b => S b ∧ b < wx.heap.size ∧ s.ownBlock ≠ some b) wx l xs) (hW : Below wx.heap.size wx W1) (hx : TmR.is S wx x vx) (hy : TmR.is S wx y vy) (hS : ∀ b, S b → b < wx.heap.size ∧ s.ownBlock ≠ some b)
    (hown2 : w2.ownsRow base 121 10 (.slice (some ⟨g2, 0, none⟩) (l.length + 1) cap2) (l.length + 1) (xs ++ (vx ++ vy))) (hg : W1.grownBy w2 s.ownBlock) (hat : s.ownBlock = some g2 ∨ g2 = W1.heap.size) :
    TmsR.Own S base (.slice (some ⟨g2, 0, none⟩) (l.length + 1) cap2) (l ++ [(x, y)]) w2 :=
  Rep.Own.more (R := TmsR) (l := l) (m := [(x, y)]) (w := W1) hown (hc.keep (fun b h => ⟨h.1, Nat.lt_of_lt_of_le h.2.1 hW.size, h.2.2⟩) (fun p h => hW.cell h.2.1))
    (Rep.Ch.one (R := TmsR) ⟨vx, vy, rfl, TmR.keep (fun b h => ⟨h, Nat.lt_of_lt_of_le (hS b h).1 hW.size, (hS b h).2⟩) (fun p h => hW.cell (hS _ h).1) hx, TmR.keep (fun b h => ⟨h, Nat.lt_of_lt_of_le (hS b h).1 hW.size, (hS b h).2⟩) (fun p h => hW.cell (hS _ h).1) hy⟩)
    hown2 hg (hat.imp (fun e => e.symm) (fun e => by rw [e]; rfl))

/-- Between two rounds of the inner loop. -/
def InnerT (w : World) (ts : List (Tm × Tm)) (x y : Tm) (b7 b8 : Nat) (B3 A3 B4 A4 : Option Addr) (d3 c3 d4 c4 j : Nat) (s : Value) (wx : World) : Prop :=
  TmsR.Own (· < w.heap.size) (w.heap.size + 2) s (ts ++ (x.args.zip y.args).take j) wx ∧
    Blk wx b7 34 #[.int .i64 x.kind, .int .i64 x.index, .int .i64 x.type.kind, .slice B3 x.type.args.length d3, .slice A3 x.args.length c3] ∧
    Blk wx b8 34 #[.int .i64 y.kind, .int .i64 y.index, .int .i64 y.type.kind, .slice B4 y.type.args.length d4, .slice A4 y.args.length c4] ∧
    s.ownBlock ≠ some b7 ∧ s.ownBlock ≠ some b8 ∧ Below w.heap.size w wx ∧ w.heap.size + 2 ≤ wx.heap.size ∧ TmR.Sl (· < w.heap.size) wx x.args (.slice A3 x.args.length c3) ∧ TmR.Sl (· < w.heap.size) wx y.args (.slice A4 y.args.length c4)

theorem innerT_step {w wr w2 : World} {ts : List (Tm × Tm)} {x y : Tm} {b7 b8 g2 cap2 j d3 c3 d4 c4 : Nat} {B3 A3 B4 A4 : Option Addr} {s : Value} {xs vx vy : List Value} (h1 : j < x.args.length) (h2 : j < y.args.length)
    (hown : wr.ownsRow (w.heap.size + 2) 121 10 s (ts ++ (x.args.zip y.args).take j).length xs) (hxc : TmsR.Ch (fun b => b < w.heap.size ∧ b < wr.heap.size ∧ s.ownBlock ≠ some b) wr (ts ++ (x.args.zip y.args).take j) xs)
    (k7 : Blk wr b7 34 #[.int .i64 x.kind, .int .i64 x.index, .int .i64 x.type.kind, .slice B3 x.type.args.length d3, .slice A3 x.args.length c3])
    (k8 : Blk wr b8 34 #[.int .i64 y.kind, .int .i64 y.index, .int .i64 y.type.kind, .slice B4 y.type.args.length d4, .slice A4 y.args.length c4]) (n7 : s.ownBlock ≠ some b7) (n8 : s.ownBlock ≠ some b8) (hbl : Below w.heap.size w wr) (hz : w.heap.size + 2 ≤ wr.heap.size)
    (hla : TmR.Sl (· < w.heap.size) wr x.args (.slice A3 x.args.length c3)) (hlb : TmR.Sl (· < w.heap.size) wr y.args (.slice A4 y.args.length c4)) (hxj : TmR.is (· < w.heap.size) wr x.args[j] vx) (hyj : TmR.is (· < w.heap.size) wr y.args[j] vy)
    (hown2 : w2.ownsRow (w.heap.size + 2) 121 10 (.slice (some ⟨g2, 0, none⟩) ((ts ++ (x.args.zip y.args).take j).length + 1) cap2) ((ts ++ (x.args.zip y.args).take j).length + 1) (xs ++ (vx ++ vy)))
    (hg : (wr.alloc (.cells (vx ++ vy).toArray 121)).drew.grownBy w2 s.ownBlock) (hat : s.ownBlock = some g2 ∨ g2 = (wr.alloc (.cells (vx ++ vy).toArray 121)).drew.heap.size) :
    InnerT w ts x y b7 b8 B3 A3 B4 A4 d3 c3 d4 c4 (j + 1) (.slice (some ⟨g2, 0, none⟩) ((ts ++ (x.args.zip y.args).take j).length + 1) cap2) w2 := by
  have hlow := hown.lt
  have hW : Below wr.heap.size wr (wr.alloc (.cells (vx ++ vy).toArray 121)).drew := ((Below.refl _ _).alloc (Nat.le_refl _) _).drew
  have hownW := (hown.alloc (.cells (vx ++ vy).toArray 121)).drew
  generalize (wr.alloc (.cells (vx ++ vy).toArray 121)).drew = W1 at hW hownW hg hat
  have hs1 := hW.size
  have hs2 := hg.size
  have l7 := k7.lt
  have l8 := k8.lt
  have hzip : j < (x.args.zip y.args).length := by simp; omega
  have hfar : ∀ p : Addr, p.block < w.heap.size → w2.cell? p = wr.cell? p := fun p hp =>
    (World.cell?_of_block (hg.block p.block (by omega) (fun e => by have := (hlow _ e.symm).1; omega))).trans (hW.cell (by omega))
  refine ⟨?_, (k7.below hW l7).grown hg n7.symm, (k8.below hW l8).grown hg n8.symm, ?_, ?_, ?_, by omega, hla.keep (fun _ h => h) hfar, hlb.keep (fun _ h => h) hfar⟩
  · rw [List.take_succ_eq_append_getElem hzip, ← List.append_assoc, show (x.args.zip y.args)[j] = (x.args[j], y.args[j]) from by simp]
    exact tms_more hownW hxc hW hxj hyj (fun b hb => ⟨by omega, fun e => by have := (hlow _ e).1; omega⟩) hown2 hg hat
  · intro e
    simp only [Value.ownBlock, Option.some.injEq] at e
    rcases hat with h | h
    · exact n7 (by rw [h, e])
    · omega
  · intro e
    simp only [Value.ownBlock, Option.some.injEq] at e
    rcases hat with h | h
    · exact n8 (by rw [h, e])
    · omega
  · exact (hbl.trans (hW.mono (by omega))).grown hg (by omega) (fun k e => by have := (hlow k e).1; omega)

open Classical in
/-- Whether two terms are the same. -/
noncomputable def Tm.same (a b : Tm) : Bool := decide (a = b)
theorem same_iff {a b : Tm} : a.same b = true ↔ a = b := by unfold Tm.same; simp
theorem same_not {a b : Tm} (h : a ≠ b) : a.same b = false := by unfold Tm.same; simpa using h

set_option maxRecDepth 100000 in
set_option maxHeartbeats 4000000 in
theorem sameTm_any (a b : Tm) (u v : Value) (w : World) (hsz : a.bulk ≤ 400000) (hA : IsTm (· < w.heap.size) w a u) (hB : IsTm (· < w.heap.size) w b v) :
    Calls Tryd.prog 55 #[u, v] w fun e w' => e = .returned (.bool (a.same b)) ∧ Below w.heap.size w w' := by
  obtain ⟨B1, d1, A1, c1, rfl, _, _⟩ := hA.parts
  obtain ⟨B2, d2, A2, c2, rfl, _, _⟩ := hB.parts
  have HT := Lib.hid (And.intro hA hB)
  clear hA hB
  go_enter Tryd.func55, Tryd.ntmps55
  go_wp2_with fail
  go_loopg [5] a.size (fun k s wr => SameRel w a b k s wr)
  case atStart =>
    have b0 := below_box w (Obj.cells #[.int .i64 a.kind, .int .i64 a.index, .int .i64 a.type.kind, .slice B1 a.type.args.length d1, .slice A1 a.args.length c1] 34)
    obtain ⟨b2, z2, _⟩ := new_blk b0 b0.size #[.int .i64 b.kind, .int .i64 b.index, .int .i64 b.type.kind, .slice B2 b.type.args.length d2, .slice A2 b.args.length c2] 34
    have z2' : (((w.alloc (Obj.cells #[.int .i64 a.kind, .int .i64 a.index, .int .i64 a.type.kind, .slice B1 a.type.args.length d1, .slice A1 a.args.length c1] 34)).alloc (Obj.cells #[.int .i64 b.kind, .int .i64 b.index, .int .i64 b.type.kind, .slice B2 b.type.args.length d2, .slice A2 b.args.length c2] 34))).heap.size = w.heap.size + 2 := by simp
    refine ⟨[(a, b)], ?_, by simp, by simp [pairsSize], by simpa [pairsBulk] using hsz, b2.alloc b2.size _, by simp⟩
    have h0 : TmsR.is (· < w.heap.size) _ (a, b) ([.int .i64 a.kind, .int .i64 a.index, .int .i64 a.type.kind, .slice B1 a.type.args.length d1, .slice A1 a.args.length c1] ++ [.int .i64 b.kind, .int .i64 b.index, .int .i64 b.type.kind, .slice B2 b.type.args.length d2, .slice A2 b.args.length c2]) := ⟨_, _, rfl, TmR.keep (fun b h => h) (fun p hp => b2.cell hp) HT.out.1, TmR.keep (fun b h => h) (fun p hp => b2.cell hp) HT.out.2⟩
    have h1 := Rep.Own.built (R := TmsR) (base := w.heap.size + 2) (Rep.Ch.one (R := TmsR) h0) (fun b hb => by have : b < w.heap.size := hb; omega) (by omega) (by simp [maxLen]) (by simp)
    rw [z2'] at h1
    exact h1
  case round =>
    obtain ⟨st, hown, heq, hk, hbk, hbel, hz⟩ := hrel
    rcases List.eq_nil_or_concat st with rfl | ⟨ts, ⟨x, y⟩, rfl⟩
    · obtain ⟨A3, c3, rfl⟩ := hown.form
      have hab : a = b := heq.1 (by simp)
      go_wp2_with fail
      go_ret
      exact ⟨ret_boolD (same_iff.2 hab).symm, hbel⟩
    · simp only [List.concat_eq_append] at hown heq hk hbk
      obtain ⟨g, cap, B3, B4, d3, d4, A3, A4, c3, c4, rfl, hg0, hg1, hcap, hcell, hx, hy, hown2⟩ := own_last_tms hown
      have q0 : wr.cell? ⟨g, ts.length * 10, none⟩ = some (.int .i64 x.kind) := hcell 0 _ rfl
      have q1 : wr.cell? ⟨g, ts.length * 10 + 1, none⟩ = some (.int .i64 x.index) := hcell 1 _ rfl
      have q2 : wr.cell? ⟨g, ts.length * 10 + 2, none⟩ = some (.int .i64 x.type.kind) := hcell 2 _ rfl
      have q3 : wr.cell? ⟨g, ts.length * 10 + 3, none⟩ = some (.slice B3 x.type.args.length d3) := hcell 3 _ rfl
      have q4 : wr.cell? ⟨g, ts.length * 10 + 4, none⟩ = some (.slice A3 x.args.length c3) := hcell 4 _ rfl
      have q5 : wr.cell? ⟨g, ts.length * 10 + 5, none⟩ = some (.int .i64 y.kind) := hcell 5 _ rfl
      have q6 : wr.cell? ⟨g, ts.length * 10 + 5 + 1, none⟩ = some (.int .i64 y.index) := hcell 6 _ rfl
      have q7 : wr.cell? ⟨g, ts.length * 10 + 5 + 2, none⟩ = some (.int .i64 y.type.kind) := hcell 7 _ rfl
      have q8 : wr.cell? ⟨g, ts.length * 10 + 5 + 3, none⟩ = some (.slice B4 y.type.args.length d4) := hcell 8 _ rfl
      have q9 : wr.cell? ⟨g, ts.length * 10 + 5 + 4, none⟩ = some (.slice A4 y.args.length c4) := hcell 9 _ rfl
      have hxb : pairsBulk ts + x.bulk ≤ 400000 := by rw [pairsBulk_append] at hbk; simpa [pairsBulk] using hbk
      have hll := pairsBulk_len ts
      have hxp := bulk_pos x
      have HX := Lib.hid (And.intro hx hy)
      have HO := Lib.hid hown2
      have HF := Lib.hid (And.intro heq (And.intro hk hbk))
      clear hx hy hown2 heq hk hbk hown hcell
      have hxa := bulkAll_len x.args
      have hxe := bulk_eq x
      have hxal : x.args.length ≤ 400000 := by omega
      have hxtn : x.type.nodes ≤ 400000 := by omega
      have hlen : ts.length + 1 ≤ 400000 := by omega
      go_upto_region 4 with fail
      go_cut [7, 8] from 20 to 29 (fun s7 s8 wx => ∃ b7 b8 : Nat, s7 = .pointer (some ⟨b7, 0, none⟩) ∧ s8 = .pointer (some ⟨b8, 0, none⟩) ∧ Blk wx b7 34 #[.int .i64 x.kind, .int .i64 x.index, .int .i64 x.type.kind, .slice B3 x.type.args.length d3, .slice A3 x.args.length c3] ∧
        Blk wx b8 34 #[.int .i64 y.kind, .int .i64 y.index, .int .i64 y.type.kind, .slice B4 y.type.args.length d4, .slice A4 y.args.length c4] ∧ wr.heap.size ≤ b7 ∧ wr.heap.size ≤ b8 ∧ Below wr.heap.size wr wx)
      case first =>
        go_region
        all_goals (go_wp2_with fail; go_meet)
        all_goals first
          | exact ⟨wr.heap.size, wr.heap.size + 1, rfl, rfl, two_newT wr _ _⟩
          | exact ⟨wr.heap.size + 1, wr.heap.size, rfl, rfl, two_newT' wr _ _⟩
      case rest =>
        obtain ⟨b7, b8, rfl, rfl, hx7, hx8, h7, h8, hbc⟩ := hcut
        have hbw := hbc.size
        have HXC := Lib.hid (show IsTm (· < w.heap.size) wc x _ from IsTm.keep (fun b hb => hb.1) (fun p hp => hbc.cell hp.2) _ HX.out.1)
        have HYC := Lib.hid (show IsTm (· < w.heap.size) wc y _ from IsTm.keep (fun b hb => hb.1) (fun p hp => hbc.cell hp.2) _ HX.out.2)
        have HOC := Lib.hid (HO.out.below hbc)
        have HBC := Lib.hid (show Below w.heap.size w wc from hbel.trans (hbc.mono (by omega)))
        have HK := Lib.hid (And.intro hx7 hx8)
        obtain ⟨x0, x1, x2, x3, x4, _, _, _, _, _⟩ := hx7.facts5
        obtain ⟨y0, y1, y2, y3, y4, _, _, _, _, _⟩ := hx8.facts5
        clear hx7 hx8 HX HO q0 q1 q2 q3 q4 q5 q6 q7 q8 q9 hbc hbel
        go_wp2_with fail
        refine (alikeT_any x y _ _ wc hxtn (HXC.out.keep (fun b h => by have h' : b < w.heap.size := h; show b < wc.heap.size; omega) (fun _ _ => rfl)) (HYC.out.keep (fun b h => by have h' : b < w.heap.size := h; show b < wc.heap.size; omega) (fun _ _ => rfl))).mono ?_
        rintro e w5 ⟨rfl, hb5⟩
        have B5 := Lib.hid (HBC.out.trans (hb5.mono (by omega)))
        have C5 := Lib.hid hb5
        have hz5 := hb5.size
        clear hb5 x0 x1 x2 x3 x4 y0 y1 y2 y3 y4
        cases hal : alikeTm x y with
        | false =>
          have hne : a ≠ b := fun e => by
            have := HF.out.1.2 e (x, y) (by simp)
            have hxy : x = y := this
            rw [hxy, alike_self] at hal
            cases hal
          clear hal
          go_wp2_with fail
          go_ret
          exact ⟨ret_boolD (same_not hne).symm, B5.out⟩
        | true =>
          obtain ⟨hxy, hlen2⟩ := alike_args hal
          have HXY := Lib.hid (And.intro hal hxy)
          have hla : TmR.Sl (· < w.heap.size) w5 x.args (.slice A3 x.args.length c3) := by
            have h := IsTm.keep (S' := (· < w.heap.size)) (w' := w5) (fun _ h => h) (fun p hp => C5.out.cell (by have h' : p.block < w.heap.size := hp; omega)) _ HXC.out
            cases x; exact (isTm_iff.1 h).2.2.2
          have hlb : TmR.Sl (· < w.heap.size) w5 y.args (.slice A4 y.args.length c4) := by
            have h := IsTm.keep (S' := (· < w.heap.size)) (w' := w5) (fun _ h => h) (fun p hp => C5.out.cell (by have h' : p.block < w.heap.size := hp; omega)) _ HYC.out
            cases y; exact (isTm_iff.1 h).2.2.2
          have H0 := Lib.hid (show InnerT w ts x y b7 b8 B3 A3 B4 A4 d3 c3 d4 c4 0 (.slice (some ⟨g, 0, none⟩) ts.length cap) w5 from
            ⟨by simpa using HOC.out.below C5.out, HK.out.1.below C5.out HK.out.1.lt, HK.out.2.below C5.out HK.out.2.lt, by simp [Value.ownBlock]; omega, by simp [Value.ownBlock]; omega, B5.out, by omega, hla, hlb⟩)
          obtain ⟨_, _, _, _, x4, _, _, _, _, _⟩ := (HK.out.1.below C5.out HK.out.1.lt).facts5
          have HL2 := Lib.hid hlen2
          clear hal hxy hla hlb hlen2
          go_wp2_with fail
          go_loopw [5, 40] (fun s i wx => ∃ j : Nat, j ≤ x.args.length ∧ i = .int .i64 j ∧ InnerT w ts x y b7 b8 B3 A3 B4 A4 d3 c3 d4 c4 j s wx)
            (fun _ i _ => x.args.length - (intOf i).toNat)
          case atStart => exact ⟨0, by omega, rfl, H0.out⟩
          case round =>
            obtain ⟨j, hj, rfl, hP⟩ := hrel
            by_cases hlt : j < x.args.length
            · have hjy' : j < y.args.length := by have := HL2.out; omega
              have hjy : (j : Int) < (y.args.length : Int) := by omega
              have hjx : (j : Int) < (x.args.length : Int) := by omega
              have hpl : (ts ++ (x.args.zip y.args).take j).length ≤ 900000 := by simp only [List.length_append, List.length_take, List.length_zip]; omega
              obtain ⟨hown, k7, k8, n7, n8, hbl, hz2, hla, hlb⟩ := hP
              obtain ⟨ax, B5', e5, A5, f5, rfl, hax, q0, q1, q2, q3, q4, hxj⟩ := sl_child hla j hlt
              obtain ⟨ay, B6, e6, A6, f6, rfl, hay, s0, s1, s2, s3, s4, hyj⟩ := sl_child hlb j hjy'
              obtain ⟨_, _, _, _, x4, _⟩ := k7.facts5
              obtain ⟨_, _, _, _, y4, _⟩ := k8.facts5
              obtain ⟨xs, hown, hxc⟩ := hown
              have hown : wr.ownsRow (w.heap.size + 2) 121 10 u5 (ts ++ (x.args.zip y.args).take j).length xs := hown
              obtain ⟨i0, hi, hz0, hz1, hz2'⟩ := info_parts info_pair
              have HIN := Lib.hid (And.intro hxc (And.intro k7 (And.intro k8 (And.intro n7 (And.intro n8 (And.intro hbl (And.intro hz2 (And.intro hla (And.intro hlb (And.intro hxj hyj))))))))))
              clear hxc k7 k8 n7 n8 hbl hla hlb hxj hyj
              go_upto_region 11 with fail
              go_region_law (refine step_append_lies _ rfl (.tmp 43) (.tmp 55) 122 rfl (w.heap.size + 2) 121 i0 _ 10 144 Tryd.underlying122 hi hz0 hz1 hz2' rfl (by decide) u5 (ts ++ (x.args.zip y.args).take j).length xs rfl (hown.alloc _).drew ⟨wr.heap.size, 0, none⟩ 1 1 [.int .i64 x.args[j].kind, .int .i64 x.args[j].index, .int .i64 x.args[j].type.kind, .slice B5' x.args[j].type.args.length e5, .slice A5 x.args[j].args.length f5, .int .i64 y.args[j].kind, .int .i64 y.args[j].index, .int .i64 y.args[j].type.kind, .slice B6 y.args[j].type.args.length e6, .slice A6 y.args[j].args.length f6] rfl rfl (cells_new _ _ _) (by simp [Value.oneCell']) (by decide) (by simp only [maxLen]; omega) (by omega) (by simp; omega) _ rfl ?_; intro g2 cap2 w2 hown2 hg2 hat2 hlt3)
              all_goals (go_wp2_with fail)
              all_goals
                obtain ⟨hxc, k7, k8, n7, n8, hbl, hz2, hla, hlb, hxj, hyj⟩ := HIN.out
                have hst := innerT_step (vx := [.int .i64 x.args[j].kind, .int .i64 x.args[j].index, .int .i64 x.args[j].type.kind, .slice B5' x.args[j].type.args.length e5, .slice A5 x.args[j].args.length f5]) (vy := [.int .i64 y.args[j].kind, .int .i64 y.args[j].index, .int .i64 y.args[j].type.kind, .slice B6 y.args[j].type.args.length e6, .slice A6 y.args[j].args.length f6]) hlt hjy' hown hxc k7 k8 n7 n8 hbl hz2 hla hlb hxj hyj hown2 hg2 hat2
                exact ⟨⟨j + 1, by omega, by go_num, by simpa using hst⟩, by simp [intOf]; omega⟩
            · have hjl : (x.args.zip y.args).length ≤ j := by simp; have := HL2.out; omega
              obtain ⟨hown, _, _, _, _, hbl, hz2, _, _⟩ := hP
              rw [List.take_of_length_le hjl] at hown
              have HBL := Lib.hid (And.intro hown hbl)
              clear hown hbl hjl
              go_wp2_with fail
              go_roundg (pairsSize (ts ++ x.args.zip y.args))
              case rel =>
                obtain ⟨z1, z2, z3⟩ := pairs_zip x.args y.args HL2.out
                obtain ⟨f1, f2, f3⟩ := HF.out
                refine ⟨_, HBL.out.1, ?_, rfl, ?_, HBL.out.2, hz2⟩
                · rw [← f1]
                  constructor
                  · intro h p hp
                    rcases List.mem_append.1 hp with hp | hp
                    · exact h p (List.mem_append_left _ hp)
                    · simp only [List.mem_singleton] at hp
                      subst hp
                      have hl := z3.1 (fun q hq => h q (List.mem_append_right _ hq))
                      show x = y
                      rw [HXY.out.2, hl]
                      cases y; rfl
                  · intro h p hp
                    have hxy : x = y := h (x, y) (by simp)
                    rcases List.mem_append.1 hp with hp | hp
                    · exact h p (List.mem_append_left _ hp)
                    · exact z3.2 (by rw [hxy]) p hp
                · rw [pairsBulk_append] at f3 ⊢
                  simp only [pairsBulk] at f3
                  have := bulk_eq x
                  omega
              case measure =>
                obtain ⟨z1, _, _⟩ := pairs_zip x.args y.args HL2.out
                obtain ⟨f1, f2, f3⟩ := HF.out
                rw [pairsSize_append] at f2 ⊢
                simp only [pairsSize] at f2
                have := sizeT_eq x
                omega
end Go.Proofs.YtdhidofmojaheaaDoor
namespace Go.Proofs.YtdhidofmojaheaaDoor
open Go.RowKit

/-- A normal form within the limits. -/
def NF (lim : Nat) (t u : Tm) : Prop := ∃ m, Ends 0 (fun _ => false) lim m t u 0
/-- A limit is met first. -/
def Bad (lim : Nat) (t : Tm) (er : Int) : Prop := ∃ u m, (er = 4 ∨ er = 5) ∧ Ends 0 (fun _ => false) lim m t u er
/-- What Match comes to. -/
def MatchOut (lim : Nat) (a b : Tm) (er : Int) : Prop :=
  (a = b ∧ er = 0) ∨ (a ≠ b ∧ (Bad lim a er ∨ ∃ x, NF lim a x ∧ (Bad lim b er ∨ ∃ y, NF lim b y ∧ ((x = y ∧ er = 0) ∨ (x ≠ y ∧ er = 11)))))

theorem nf_done {B lim n : Nat} {t u : Tm} (h : Ends B (fun _ => false) lim n t u 0) : u.next = none := by
  rcases h.2.2 with ⟨_, h | h⟩ | ⟨_, h | h⟩
  · exact h
  · cases h
  · exact absurd h.1 (by decide)
  · exact absurd h.1 (by decide)
theorem NF.not_bad {lim : Nat} {t u : Tm} {er : Int} (h : NF lim t u) : ¬ Bad lim t er := by
  rintro ⟨v, m, he, hb⟩
  obtain ⟨n, hn⟩ := h
  rcases hb.unique hn.1 (nf_done hn) with ⟨h, _⟩ | ⟨_, _, h⟩
  · rcases he with e | e <;> rw [e] at h <;> exact absurd h (by decide)
  · have := hn.2.1; omega
theorem iter_end {t a c : Tm} {n m : Nat} (ha : t.iter n = some a) (hc : t.iter m = some c) (h1 : a.next = none) (h2 : c.next = none) : a = c := by
  have key : ∀ {n m : Nat} {a c : Tm}, n ≤ m → t.iter n = some a → t.iter m = some c → a.next = none → a = c := fun {n m a c} hle ha hc h1 => by
    obtain ⟨k, rfl⟩ := Nat.exists_eq_add_of_le hle
    rw [iter_add, ha, Option.bind_some] at hc
    cases k with
    | zero => rw [Tm.iter] at hc; exact Option.some.inj hc
    | succ k => rw [Tm.iter, h1] at hc; cases hc
  rcases Nat.le_total n m with h | h
  · exact key h ha hc h1
  · exact (key h hc ha h2).symm
theorem NF.same {lim : Nat} {t u v : Tm} (h : NF lim t u) (k : NF lim t v) : u = v := by
  obtain ⟨n, hn⟩ := h
  obtain ⟨m, hm⟩ := k
  exact iter_end hn.1.iter hm.1.iter (nf_done hn) (nf_done hm)
/-- Matching goes both ways. -/
theorem MatchOut.symm {lim : Nat} {a b : Tm} {e e' : Int} (h : MatchOut lim a b e) (k : MatchOut lim b a e') (h0 : e = 0) : e' = 0 := by
  subst h0
  have notBad : ∀ {t : Tm}, ¬ Bad lim t 0 := fun {t} ⟨_, _, h, _⟩ => by rcases h with h | h <;> exact absurd h (by decide)
  rcases h with ⟨rfl, _⟩ | ⟨hne, h⟩
  · rcases k with ⟨_, h⟩ | ⟨h, _⟩
    · exact h
    · exact (h rfl).elim
  · rcases h with h | ⟨x, hx, h | ⟨y, hy, ⟨rfl, _⟩ | ⟨_, h⟩⟩⟩
    · exact (notBad h).elim
    · exact (notBad h).elim
    · rcases k with ⟨_, h⟩ | ⟨_, h | ⟨y', hy', h | ⟨x', hx', ⟨_, h⟩ | ⟨h, _⟩⟩⟩⟩
      · exact h
      · exact (hy.not_bad h).elim
      · exact (hx.not_bad h).elim
      · exact h
      · exact (h ((hy'.same hy).trans (hx'.same hx).symm)).elim
    · exact absurd h (by decide)
theorem MatchOut.refl {lim : Nat} {a : Tm} {e : Int} (h : MatchOut lim a a e) : e = 0 := by
  rcases h with ⟨_, h⟩ | ⟨h, _⟩
  · exact h
  · exact (h rfl).elim
/-- A term matches what it becomes, but for a limit. -/
theorem MatchOut.steps {lim k : Nat} {a b : Tm} {e : Int} (h : MatchOut lim a b e) (hb : a.iter k = some b) : e = 0 ∨ e = 5 ∨ e = 4 := by
  rcases h with ⟨_, h⟩ | ⟨_, h | ⟨x, ⟨n, hx⟩, h | ⟨y, ⟨m, hy⟩, ⟨_, h⟩ | ⟨h, _⟩⟩⟩⟩
  · exact .inl h
  · obtain ⟨_, _, h, _⟩ := h; rcases h with h | h; exact .inr (.inr h); exact .inr (.inl h)
  · obtain ⟨_, _, h, _⟩ := h; rcases h with h | h; exact .inr (.inr h); exact .inr (.inl h)
  · exact .inl h
  · exfalso
    refine h (iter_end hx.1.iter (m := k + m) ?_ (nf_done hx) (nf_done hy))
    rw [iter_add, hb, Option.bind_some]
    exact hy.1.iter

set_option maxRecDepth 100000 in
set_option maxHeartbeats 4000000 in
theorem match_any (a b : Tm) (u v : Value) (lim : Nat) (w : World) (ha : a.err = 0) (hb : b.err = 0) (hal : a.low 1000000 = true) (hbl : b.low 1000000 = true) (hab : a.bulk ≤ 390000) (hbb : b.bulk ≤ 390000) (hlim : lim ≤ 1000) (htab : Tab w) (hA : IsTm (· < w.heap.size) w a u) (hB : IsTm (· < w.heap.size) w b v) :
    Calls Tryd.prog 17 #[u, v, .int .i64 lim] w fun e w' => ∃ er, e = .returned (.int .i64 er) ∧ MatchOut lim a b er ∧ Below w.heap.size w w' := by
  obtain ⟨B1, d1, A1, c1, rfl, _⟩ := IsTm.form hA
  obtain ⟨B2, d2, A2, c2, rfl, _⟩ := IsTm.form hB
  have HE := Lib.hid (And.intro ha hb)
  have HA := Lib.hid fun (W : World) (h : Below w.heap.size w W) => IsTm.keep (S' := (· < W.heap.size)) (w' := W) (fun b hb => Nat.lt_of_lt_of_le hb h.size) (fun p hp => h.cell hp) _ hA
  have HB := Lib.hid fun (W : World) (h : Below w.heap.size w W) => IsTm.keep (S' := (· < W.heap.size)) (w' := W) (fun b hb => Nat.lt_of_lt_of_le hb h.size) (fun p hp => h.cell hp) _ hB
  have HNA := Lib.hid fun (W : World) (h : Below w.heap.size w W) => normal_any a _ (· < W.heap.size) lim W hab ha hal hlim (htab.after h) (fun _ h => h) (HA.out W h)
  have HNB := Lib.hid fun (W : World) (h : Below w.heap.size w W) => normal_any b _ (· < W.heap.size) lim W hbb hb hbl hlim (htab.after h) (fun _ h => h) (HB.out W h)
  have HTab := Lib.hid htab
  clear ha hb hal hbl htab hA hB
  go_enter Tryd.func17, Tryd.ntmps17
  go_upto_region 1 with fail
  obtain ⟨W, hW, b2, z2, k0, k1⟩ := alloc2_facts w #[.int .i64 a.kind, .int .i64 a.index, .int .i64 a.type.kind, .slice B1 a.type.args.length d1, .slice A1 a.args.length c1] #[.int .i64 b.kind, .int .i64 b.index, .int .i64 b.type.kind, .slice B2 b.type.args.length d2, .slice A2 b.args.length c2] 34 34
  rw [← hW]
  have hzW := b2.size
  have BW := Lib.hid b2
  have HC := Lib.hid fun (w' : World) (h : Below W.heap.size W w') => And.intro (k0.below h k0.lt).facts5 (k1.below h k1.lt).facts5
  obtain ⟨⟨r0, r1, r2, r3, r4, _⟩, _⟩ := HC.out W (Below.refl _ _)
  clear hW b2 k0 k1
  go_wp2_with fail
  refine (checkT_ok (t := a) HE.out.1 (by omega) (HTab.out.after BW.out) (HA.out W BW.out)).mono ?_
  rintro e w1 ⟨rfl, h1⟩
  have C1 := Lib.hid h1
  have B1' := Lib.hid (BW.out.trans (h1.mono hzW))
  obtain ⟨⟨s0, s1, s2, s3, s4, _⟩, ⟨r0', r1', r2', r3', r4', _⟩⟩ := HC.out w1 h1
  clear h1 r0 r1 r2 r3 r4
  go_wp2_with fail
  refine (checkT_ok (t := b) HE.out.2 (by omega) (HTab.out.after B1'.out) (HB.out w1 B1'.out)).mono ?_
  rintro e w2 ⟨rfl, h2⟩
  have C2 := Lib.hid (C1.out.trans (h2.mono C1.out.size))
  have B2' := Lib.hid (BW.out.trans (C2.out.mono hzW))
  clear h2 s0 s1 s2 s3 s4 r0' r1' r2' r3' r4'
  obtain ⟨⟨r0, r1, r2, r3, r4, _⟩, ⟨s0, s1, s2, s3, s4, _⟩⟩ := HC.out w2 C2.out
  go_wp2_with fail
  refine (sameTm_any a b _ _ w2 (by omega) (HA.out w2 B2'.out) (HB.out w2 B2'.out)).mono ?_
  rintro e w3 ⟨rfl, h3⟩
  have C3 := Lib.hid (C2.out.trans (h3.mono C2.out.size))
  have B3' := Lib.hid (BW.out.trans (C3.out.mono hzW))
  clear h3 r0 r1 r2 r3 r4 s0 s1 s2 s3 s4
  cases hs : a.same b with
  | true =>
    have hab' := same_iff.1 hs
    have HAB := Lib.hid hab'
    clear hab' hs
    go_wp2_with fail
    go_ret
    exact ⟨0, rfl, .inl ⟨HAB.out, rfl⟩, B3'.out⟩
  | false =>
    have hne : a ≠ b := fun e => by rw [same_iff.2 e] at hs; cases hs
    have HNE := Lib.hid hne
    clear hne hs
    obtain ⟨⟨r0, r1, r2, r3, r4, _⟩, _⟩ := HC.out w3 C3.out
    go_wp2_with fail
    refine (HNA.out w3 B3'.out).mono ?_
    rintro e w4 ⟨h4, h4'⟩
    have C4 := Lib.hid (C3.out.trans (h4.mono C3.out.size))
    have B4' := Lib.hid (BW.out.trans (C4.out.mono hzW))
    clear h4 r0 r1 r2 r3 r4
    rcases h4' with ⟨x, m, vx, rfl, tx, hE⟩ | ⟨x, m, er, her, rfl, hE⟩
    · obtain ⟨Bx, dx, Ax, cx, rfl, _⟩ := IsTm.form tx
      have hxok := hE.1.ok (errT_zero.1 HE.out.1).1
      have hxs := hE.1.size (by have := (errT_zero.1 HE.out.1).2; omega)
      have hxb := ok_bulk hxok
      have HX := Lib.hid (And.intro (show NF lim a x from ⟨m, hE⟩) tx)
      clear tx hE hxok
      go_upto_region 12 with fail
      obtain ⟨b5, z5, k5⟩ := new_blk C4.out C4.out.size #[.int .i64 x.kind, .int .i64 x.index, .int .i64 x.type.kind, .slice Bx x.type.args.length dx, .slice Ax x.args.length cx] 34
      have b45 := below_box w4 (Obj.cells #[.int .i64 x.kind, .int .i64 x.index, .int .i64 x.type.kind, .slice Bx x.type.args.length dx, .slice Ax x.args.length cx] 34)
      generalize w4.alloc (Obj.cells #[.int .i64 x.kind, .int .i64 x.index, .int .i64 x.type.kind, .slice Bx x.type.args.length dx, .slice Ax x.args.length cx] 34) = W5 at b5 z5 k5 b45 ⊢
      have C5 := Lib.hid b5
      have B5' := Lib.hid (BW.out.trans (b5.mono hzW))
      have K5 := Lib.hid (And.intro k5 b45)
      obtain ⟨_, ⟨s0, s1, s2, s3, s4, _⟩⟩ := HC.out W5 b5
      clear b5 k5 b45
      go_wp2_with fail
      refine (HNB.out W5 B5'.out).mono ?_
      rintro e w6 ⟨h6, h6'⟩
      have C6 := Lib.hid (C5.out.trans (h6.mono C5.out.size))
      have D6 := Lib.hid h6
      have hz6 := h6.size
      have B6' := Lib.hid (BW.out.trans (C6.out.mono hzW))
      clear h6 s0 s1 s2 s3 s4
      rcases h6' with ⟨y, m', vy, rfl, ty, hE'⟩ | ⟨y, m', er, her, rfl, hE'⟩
      · obtain ⟨By, dy, Ay, cy, rfl, _⟩ := IsTm.form ty
        have HY := Lib.hid (And.intro (show NF lim b y from ⟨m', hE'⟩) ty)
        clear ty hE'
        go_upto_region 15 with fail
        obtain ⟨b7, z7, k7⟩ := new_blk C6.out C6.out.size #[.int .i64 y.kind, .int .i64 y.index, .int .i64 y.type.kind, .slice By y.type.args.length dy, .slice Ay y.args.length cy] 34
        have b67 := below_box w6 (Obj.cells #[.int .i64 y.kind, .int .i64 y.index, .int .i64 y.type.kind, .slice By y.type.args.length dy, .slice Ay y.args.length cy] 34)
        generalize w6.alloc (Obj.cells #[.int .i64 y.kind, .int .i64 y.index, .int .i64 y.type.kind, .slice By y.type.args.length dy, .slice Ay y.args.length cy] 34) = W7 at b7 z7 k7 b67 ⊢
        have B7' := Lib.hid (BW.out.trans (b7.mono hzW))
        have D7 := Lib.hid b67
        obtain ⟨s0, s1, s2, s3, s4, _⟩ := k7.facts5
        obtain ⟨r0, r1, r2, r3, r4, _⟩ := (K5.out.1.below (D6.out.trans (b67.mono hz6)) K5.out.1.lt).facts5
        clear b7 k7 b67
        go_wp2_with fail
        refine (sameTm_any x y _ _ W7 (by omega) (IsTm.keep (fun b h => by have h' := h.2; show b < W7.heap.size; have := K5.out.2.size; omega) (fun p h => ((D7.out.cell (by have h' := h.2; have := K5.out.2.size; omega)).trans (D6.out.cell (by have h' := h.2; have := K5.out.2.size; omega))).trans (K5.out.2.cell h.2)) _ HX.out.2) (IsTm.keep (fun b h => by have h' := h.2; show b < W7.heap.size; omega) (fun p h => D7.out.cell h.2) _ HY.out.2)).mono ?_
        rintro e w8 ⟨rfl, h8⟩
        have B8' := Lib.hid (B7'.out.trans (h8.mono B7'.out.size))
        clear h8 r0 r1 r2 r3 r4 s0 s1 s2 s3 s4
        cases hs : x.same y with
        | true =>
          have HXY := Lib.hid (same_iff.1 hs)
          clear hs
          go_wp2_with fail
          go_ret
          exact ⟨0, rfl, .inr ⟨HNE.out, .inr ⟨x, HX.out.1, .inr ⟨y, HY.out.1, .inl ⟨HXY.out, rfl⟩⟩⟩⟩, B8'.out⟩
        | false =>
          have HXY := Lib.hid (show x ≠ y from fun e => by rw [same_iff.2 e] at hs; cases hs)
          clear hs
          go_wp2_with fail
          go_ret
          exact ⟨11, rfl, .inr ⟨HNE.out, .inr ⟨x, HX.out.1, .inr ⟨y, HY.out.1, .inr ⟨HXY.out, rfl⟩⟩⟩⟩, B8'.out⟩
      · have HBAD := Lib.hid (show Bad lim b er from ⟨y, m', her, hE'⟩)
        clear hE'
        rcases her with rfl | rfl
        all_goals
          go_wp2_with fail
          go_ret
          exact ⟨_, rfl, .inr ⟨HNE.out, .inr ⟨x, HX.out.1, .inl HBAD.out⟩⟩, B6'.out.alloc B6'.out.size _⟩
    · have HBAD := Lib.hid (show Bad lim a er from ⟨x, m, her, hE⟩)
      clear hE
      rcases her with rfl | rfl
      all_goals
        go_wp2_with fail
        go_ret
        exact ⟨_, rfl, .inr ⟨HNE.out, .inl HBAD.out⟩, B4'.out.alloc B4'.out.size _⟩
end Go.Proofs.YtdhidofmojaheaaDoor
