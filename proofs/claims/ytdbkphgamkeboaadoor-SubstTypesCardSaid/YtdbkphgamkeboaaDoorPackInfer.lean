/- ref02.infer where a term has a type: what it returns, and what its walks share. -/
import Derived.Test.YtdbkphgamkeboaaDoorTypeTop
import Derived.Test.YtdbkphgamkeboaaDoorRefSame
import Derived.Test.YtdbkphgamkeboaaDoorSameEq
import Derived.Test.YtdbkphgamkeboaaDoorSaneU
import Derived.Test.YtdbkphgamkeboaaDoorRefCheck
import Derived.Deep.RegionHeld3
import Derived.Deep.AppendLies
namespace Go.Proofs.YtdbkphgamkeboaaDoor
open Go.RowKit

/-- A slice with room for what it has. -/
def Roomy (v : Value) : Prop := v = .slice none 0 0 ∨ ∃ (a : Addr) (n c : Nat), v = .slice (some a) n c ∧ n ≤ c
/-- The type U in new memory, and no error. -/
def InferR (U : Ty) (w : World) (e : Ending) (w' : World) : Prop := GivesTy (fun _ => False) (.ok U) w e w'
def InferIH (n : Nat) : Prop := ∀ (t : Tm) (G : List Ty) (s v : Value) (U : Ty) (w : World), t.bulk ≤ n → t.ok = true → (∀ T ∈ G, T.err = 0) → G.length + n ≤ 400000 → t.typ G = .ok U → TyR.Sl (· < w.heap.size) w G s → Roomy s → IsTm (· < w.heap.size) w t v →
  Calls Tryd.prog 107 #[s, v] w (InferR U w)

theorem typ_parts {k i : Int} {T : Ty} {l : List Tm} {G : List Ty} {U : Ty} (h1 : k ≠ 1) (h2 : k ≠ 2) (h : (Tm.mk k i T l).typ G = .ok U) : ∃ ps, typAll l G = .ok ps ∧ nodeTy k T ps = .ok U := by
  unfold Tm.typ at h
  rw [if_neg h1, if_neg h2] at h
  cases hp : typAll l G with
  | error e => rw [hp] at h; cases h
  | ok ps => rw [hp] at h; exact ⟨ps, rfl, h⟩
theorem typAll_get : ∀ {l : List Tm} {G ps : List Ty}, typAll l G = .ok ps → ∀ j (hj : j < l.length) (hp : j < ps.length), (l[j]).typ G = .ok ps[j]
  | [], _, _, _, j, hj, _ => by simp at hj
  | x :: r, G, ps, h, j, hj, hp => by
    simp only [typAll] at h
    cases hx : x.typ G with
    | error e => rw [hx] at h; cases h
    | ok y =>
      rw [hx] at h
      simp only at h
      cases hr : typAll r G with
      | error e => rw [hr] at h; cases h
      | ok us =>
        rw [hr] at h
        simp only [Except.ok.injEq] at h
        subst h
        cases j with
        | zero => exact hx
        | succ j => exact typAll_get hr j (by simpa using hj) (by simpa using hp)
theorem infer_end {w w3 : World} {U : Ty} {x y : Value} (hb : Below w.heap.size w w3) (hz : w.heap.size + 2 ≤ w3.heap.size) (hU : IsTy (fun b => w.heap.size + 2 ≤ b ∧ b < w3.heap.size) w3 U (.agg #[x, y])) :
    InferR U w (.returned (.tuple #[.agg #[x, y], .int .i64 0])) ((w3.setCell ⟨w.heap.size + 1, 0, none⟩ x).setCell ⟨w.heap.size + 1, 1, none⟩ y) :=
  gives_ok rfl (fun _ h => h.elim) hb hz (hU.keep (fun _ h => ⟨.inr h.1, h.2⟩) (fun _ _ => rfl))

theorem fun_nodes {T : Ty} (h : T.nodes ≤ 64) : T.nodes ≤ 64 ∧ tyNat.nodes = 1 ∧ tyList.nodes = 1 ∧ (tyFun T T).nodes ≤ 129 ∧ (tyFun tyNat (tyFun T T)).nodes ≤ 131 ∧ (tyFun tyList (tyFun T T)).nodes ≤ 131 ∧ (tyFun tyNat (tyFun tyList (tyFun T T))).nodes ≤ 133 := by
  refine ⟨h, rfl, rfl, ?_, ?_, ?_, ?_⟩ <;> (simp [tyFun, tyNat, tyList, Ty.nodes, nodesAll]; omega)

/-- What stands between two rounds. -/
def InferI (k i : Int) (T : Ty) (l : List Tm) (B A : Option Addr) (d c : Nat) (w : World) (ls : Value) (qs : List Ty) (wr : World) : Prop :=
  TyR.Own (w.heap.size + 2 ≤ ·) (w.heap.size + 2) ls qs wr ∧ Below w.heap.size w wr ∧ Blk wr w.heap.size 34 #[.int .i64 k, .int .i64 i, .int .i64 T.kind, .slice B T.args.length d, .slice A l.length c] ∧ Blk wr (w.heap.size + 1) 30 #[.int .i64 0, .slice none 0 0]

/-- One more type behind the list. -/
theorem infer_step {k i : Int} {T : Ty} {l : List Tm} {B A : Option Addr} {d c : Nat} {w wr w1 w2 : World} {u3 v2 y0 y1 : Value} {qs : List Ty} {U : Ty} {xs : List Value} {o : Obj}
    (hbel : Below w.heap.size w wr) (hb0 : Blk wr w.heap.size 34 #[.int .i64 k, .int .i64 i, .int .i64 T.kind, .slice B T.args.length d, .slice A l.length c]) (hb1 : Blk wr (w.heap.size + 1) 30 #[.int .i64 0, .slice none 0 0])
    (hbw : Below wr.heap.size wr w1) (hown1 : ((w1.alloc o).alloc (.cells #[y0, y1] 30)).ownsRow (w.heap.size + 2) 30 2 u3 qs.length xs)
    (hxs : TyR.Ch (fun b => w.heap.size + 2 ≤ b ∧ b < wr.heap.size ∧ u3.ownBlock ≠ some b) wr qs xs) (hrow : ∀ g, u3.ownBlock = some g → w.heap.size + 2 ≤ g ∧ g < wr.heap.size)
    (ht : IsTy (fun b => wr.heap.size ≤ b ∧ b < w1.heap.size) w1 U (.agg #[y0, y1]))
    (hown2 : w2.ownsRow (w.heap.size + 2) 30 2 v2 (qs.length + 1) (xs ++ [y0, y1])) (hg2 : ((w1.alloc o).alloc (.cells #[y0, y1] 30)).grownBy w2 u3.ownBlock)
    (hat2 : v2.ownBlock = u3.ownBlock ∨ v2.ownBlock = some ((w1.alloc o).alloc (.cells #[y0, y1] 30)).heap.size) : InferI k i T l B A d c w v2 (qs ++ [U]) w2 := by
  have z0 := hb1.lt
  have z1 := hbw.size
  have z2 := hbel.size
  have g1 : wr.grownBy ((w1.alloc o).alloc (.cells #[y0, y1] 30)) none := only_alloc (only_alloc (only_of_below hbw none) _) _
  have hc : ∀ p : Addr, p.block < w1.heap.size → ((w1.alloc o).alloc (.cells #[y0, y1] 30)).cell? p = w1.cell? p := fun p hp => (World.cell?_alloc_lt _ _ _ (by simp; omega)).trans (World.cell?_alloc_lt _ _ _ hp)
  have sz : ((w1.alloc o).alloc (.cells #[y0, y1] 30)).heap.size = w1.heap.size + 2 := by simp
  have hn : ∀ q, q < w.heap.size + 2 → u3.ownBlock ≠ some q := fun q hq e => by have := (hrow q e).1; omega
  refine ⟨?_, ?_, (hb0.grown g1 (by simp)).grown hg2 (fun e => hn _ (by omega) e.symm), (hb1.grown g1 (by simp)).grown hg2 (fun e => hn _ (by omega) e.symm)⟩
  · refine Rep.Own.more (R := TyR) (m := [U]) hown1 (hxs.keep (fun b h => ⟨h.1, by omega, h.2.2⟩) (fun p hp => (hc p (by omega)).trans (hbw.cell hp.2.1))) (Rep.Ch.one (R := TyR) (vs := [y0, y1]) ?_) hown2 hg2 hat2
    exact IsTy.keep (fun b h => ⟨by omega, by omega, fun e => by have := (hrow b e).2; omega⟩) (fun p hp => hc p hp.2) _ ht
  · exact (hbel.grown g1 z2 (by simp)).grown hg2 (by omega) (fun g e => by have := (hrow g e).1; omega)

theorem sl_one {S : Nat → Prop} {w : World} {p : Ty} {v : Value} (h : TyR.Sl S w [p] v) : ∃ (a : Addr) (A0 : Option Addr) (c0 c : Nat), v = .slice (some a) 1 c ∧ S a.block ∧ w.cell? a = some (.int .i64 p.kind) ∧ w.cell? ⟨a.block, a.off + 1, none⟩ = some (.slice A0 p.args.length c0) ∧
    IsTy S w p (.agg #[.int .i64 p.kind, .slice A0 p.args.length c0]) := by
  obtain ⟨A, c, rfl⟩ := h.form
  obtain ⟨a, rfl, ha, hat⟩ := h.get 0 (by simp)
  obtain ⟨A0, c0, q0, q1, hx⟩ := at_ty hat
  rw [Nat.zero_mul, add_zero'] at q0 q1
  exact ⟨a, A0, c0, c, rfl, ha, q0, q1, hx⟩
theorem sl_two {S : Nat → Prop} {w : World} {p q : Ty} {v : Value} (h : TyR.Sl S w [p, q] v) : ∃ (a : Addr) (A0 A1 : Option Addr) (c0 c1 c : Nat), v = .slice (some a) 2 c ∧ S a.block ∧ w.cell? a = some (.int .i64 p.kind) ∧ w.cell? ⟨a.block, a.off + 1, none⟩ = some (.slice A0 p.args.length c0) ∧
    w.cell? ⟨a.block, a.off + 2, none⟩ = some (.int .i64 q.kind) ∧ w.cell? ⟨a.block, a.off + 2 + 1, none⟩ = some (.slice A1 q.args.length c1) ∧
    IsTy S w p (.agg #[.int .i64 p.kind, .slice A0 p.args.length c0]) ∧ IsTy S w q (.agg #[.int .i64 q.kind, .slice A1 q.args.length c1]) := by
  obtain ⟨A, c, rfl⟩ := h.form
  obtain ⟨a, rfl, ha, hat⟩ := h.get 0 (by simp)
  obtain ⟨a', e, _, hat'⟩ := h.get 1 (by simp)
  cases e
  obtain ⟨A0, c0, q0, q1, hx⟩ := at_ty hat
  obtain ⟨A1, c1, r0, r1, hy⟩ := at_ty hat'
  rw [Nat.zero_mul, add_zero'] at q0 q1
  rw [show 1 * TyR.n = 2 from rfl, show a.add 2 = ⟨a.block, a.off + 2, none⟩ from by simp [Addr.add]] at r0 r1
  exact ⟨a, A0, A1, c0, c1, c, rfl, ha, q0, q1, r0, r1, hx, hy⟩
theorem sl_three {S : Nat → Prop} {w : World} {p q r : Ty} {v : Value} (h : TyR.Sl S w [p, q, r] v) : ∃ (a : Addr) (A0 A1 A2 : Option Addr) (c0 c1 c2 c : Nat), v = .slice (some a) 3 c ∧ S a.block ∧ w.cell? a = some (.int .i64 p.kind) ∧ w.cell? ⟨a.block, a.off + 1, none⟩ = some (.slice A0 p.args.length c0) ∧
    w.cell? ⟨a.block, a.off + 2, none⟩ = some (.int .i64 q.kind) ∧ w.cell? ⟨a.block, a.off + 2 + 1, none⟩ = some (.slice A1 q.args.length c1) ∧
    w.cell? ⟨a.block, a.off + 4, none⟩ = some (.int .i64 r.kind) ∧ w.cell? ⟨a.block, a.off + 4 + 1, none⟩ = some (.slice A2 r.args.length c2) ∧
    IsTy S w p (.agg #[.int .i64 p.kind, .slice A0 p.args.length c0]) ∧ IsTy S w q (.agg #[.int .i64 q.kind, .slice A1 q.args.length c1]) ∧ IsTy S w r (.agg #[.int .i64 r.kind, .slice A2 r.args.length c2]) := by
  obtain ⟨A, c, rfl⟩ := h.form
  obtain ⟨a, rfl, ha, hat⟩ := h.get 0 (by simp)
  obtain ⟨a', e, _, hat'⟩ := h.get 1 (by simp)
  cases e
  obtain ⟨a', e, _, hat2⟩ := h.get 2 (by simp)
  cases e
  obtain ⟨A0, c0, q0, q1, hx⟩ := at_ty hat
  obtain ⟨A1, c1, r0, r1, hy⟩ := at_ty hat'
  obtain ⟨A2, c2, s0, s1, hz⟩ := at_ty hat2
  rw [Nat.zero_mul, add_zero'] at q0 q1
  rw [show 1 * TyR.n = 2 from rfl, show a.add 2 = ⟨a.block, a.off + 2, none⟩ from by simp [Addr.add]] at r0 r1
  rw [show 2 * TyR.n = 4 from rfl, show a.add 4 = ⟨a.block, a.off + 4, none⟩ from by simp [Addr.add]] at s0 s1
  exact ⟨a, A0, A1, A2, c0, c1, c2, c, rfl, ha, q0, q1, r0, r1, s0, s1, hx, hy, hz⟩

/-- Behind the loop: the boxes of both types. -/
theorem infer_mid {k i : Int} {T : Ty} {l : List Tm} {B A : Option Addr} {d c : Nat} {w wr w2 w3 : World} {ls : Value} {ps : List Ty} (h : InferI k i T l B A d c w ls ps wr) (hb2 : Below wr.heap.size wr w2) (hb3 : Below w2.heap.size w2 w3) :
    ∃ X, X = (w3.alloc (Obj.cells #[.int .i64 1, .slice none 0 0] 30)).alloc (Obj.cells #[.int .i64 2, .slice none 0 0] 30) ∧ InferI k i T l B A d c w ls ps X ∧ Blk X w3.heap.size 30 #[.int .i64 1, .slice none 0 0] ∧ Blk X (w3.heap.size + 1) 30 #[.int .i64 2, .slice none 0 0] ∧
      w.heap.size + 2 ≤ w3.heap.size ∧ X.heap.size = w3.heap.size + 2 := by
  obtain ⟨h1, h2, h3, h4⟩ := h
  have z0 := h4.lt
  have hb : Below wr.heap.size wr w3 := hb2.trans (hb3.mono hb2.size)
  have z3 := hb.size
  have hbX : Below wr.heap.size wr ((w3.alloc (Obj.cells #[.int .i64 1, .slice none 0 0] 30)).alloc (Obj.cells #[.int .i64 2, .slice none 0 0] 30)) := (hb.alloc z3 _).alloc (by simp; omega) _
  have kB := Blk.new (w3.alloc (Obj.cells #[.int .i64 1, .slice none 0 0] 30)) 30 #[.int .i64 2, .slice none 0 0]
  rw [World.size_alloc] at kB
  exact ⟨_, rfl, ⟨h1.below hbX, h2.trans (hbX.mono h2.size), h3.below hbX h3.lt, h4.below hbX h4.lt⟩, (Blk.new w3 30 _).alloc _, kB, by omega, by simp⟩
end Go.Proofs.YtdbkphgamkeboaaDoor
namespace Go.Proofs.YtdbkphgamkeboaaDoor
open Go.RowKit

set_option maxRecDepth 100000 in
set_option maxHeartbeats 4000000 in
theorem infer_4 (n : Nat) (hih : InferIH n) (i : Int) (T : Ty) (l : List Tm) (G : List Ty) (s v : Value) (U : Ty) (w : World) (hn : (Tm.mk 4 i T l).bulk ≤ n + 1) (hok : (Tm.mk 4 i T l).ok = true) (hG : ∀ T ∈ G, T.err = 0) (hGn : G.length + n + 1 ≤ 400000)
    (htyp : (Tm.mk 4 i T l).typ G = .ok U) (hs : TyR.Sl (· < w.heap.size) w G s) (hfs : Roomy s) (hT : IsTm (· < w.heap.size) w (.mk 4 i T l) v) : Calls Tryd.prog 107 #[s, v] w (InferR U w) := by
  obtain ⟨ps, hps, hnode⟩ := typ_parts (by decide) (by decide) htyp
  obtain ⟨B, d, A, c, rfl, hTT, hl⟩ := hT.mk_parts
  obtain ⟨As, cs, rfl⟩ := hs.form
  have hplen := typAll_len hps
  have hll := bulkAll_len l
  rw [okT_eq, Bool.and_eq_true] at hok
  have hfk := formed_kind hok.1
  simp only [Tm.kind, Tm.index, Tm.type, Tm.args] at hfk hok
  simp only [Tm.bulk] at hn
  have hpe := typAll_err l G hok.2 hG hps
  obtain ⟨W, hW, hbW, hz, k0, k1⟩ := box52_facts w (.int .i64 4) (.int .i64 i) (.int .i64 T.kind) (.slice B T.args.length d) (.slice A l.length c)
  have hTW : IsTy (· < w.heap.size) W T (.agg #[.int .i64 T.kind, .slice B T.args.length d]) := IsTy.keep (fun _ h => h) (fun p hp => hbW.cell hp) _ hTT
  obtain ⟨p0, p1, p2, p3, p4, _⟩ := k0.facts5
  have HI0 := Lib.hid (show InferI 4 i T l B A d c w (.slice none 0 0) [] W from ⟨Rep.Own.nil _ _ _, hbW, k0, k1⟩)
  have HIH := Lib.hid hih
  have HG := Lib.hid hG
  have HFS := Lib.hid hfs
  have HS := Lib.hid hs
  have HL := Lib.hid hl
  have HP := Lib.hid (And.intro hps (And.intro hnode (And.intro hpe hplen)))
  have HF := Lib.hid (And.intro hok hfk)
  have HT := Lib.hid hTT
  have HN := Lib.hid (show bulkAll l ≤ n by omega)
  clear hfs hih hG hs hl hps hnode hpe hplen hok hfk hT htyp k0 k1 hbW hTT hTW
  go_enter Tryd.func107, Tryd.ntmps107
  go_wp2_with fail
  rw [← hW]
  clear hW hz
  go_loopw [8, 69] (fun ls ix wr => ∃ j : Nat, j ≤ l.length ∧ ix = .int .i64 j ∧ InferI 4 i T l B A d c w ls (ps.take j) wr) (fun _ ix _ => l.length - (intOf ix).toNat)
  case atStart => exact ⟨0, Nat.zero_le _, rfl, HI0.out⟩
  case round =>
    obtain ⟨j, hj, rfl, hown, hbel, hb0, hb1⟩ := hrel
    clear p0 p1 p2 p3 p4
    by_cases hlt : j < l.length
    · have hlr : TmR.Sl (· < w.heap.size) wr l (.slice A l.length c) := HL.out.keep (fun _ h => h) (fun p hp => hbel.cell hp)
      obtain ⟨a, rfl, ha, hat⟩ := hlr.get j hlt
      obtain ⟨B1, d1, A1, c1, q0, q1, q2, q3, q4, hx⟩ := at_tm hat
      simp only [show TmR.n = 5 from rfl] at q0 q1 q2 q3 q4
      have hjp : j < ps.length := by have := HP.out.2.2.2; omega
      have hxt := typAll_get HP.out.1 j hlt hjp
      have hnj : l[j].bulk ≤ n := by have := bulkAll_get l j hlt; have := HN.out; omega
      have hxo := okAllT_get HF.out.1.2 j hlt
      have hlen : (ps.take j).length = j := by simp; omega
      have hwz := hbel.size
      have hGs : TyR.Sl (· < w.heap.size) wr G (.slice As G.length cs) := HS.out.keep (fun _ h => h) (fun p hp => hbel.cell hp)
      obtain ⟨i0, hi, hz0, hz1, hz2⟩ := info_parts info_type
      obtain ⟨xs, hox, hxs⟩ := hown
      have HX := Lib.hid (And.intro hx (And.intro hxt (And.intro hnj (And.intro hxo hGs))))
      have HLE := Lib.hid hlen
      have HO := Lib.hid (And.intro hox (And.intro hxs (And.intro hbel (And.intro hb0 hb1))))
      clear hlr hat hx hxt hnj hxo hGs hlen hox hxs hbel hb0 hb1
      go_wp2_with fail
      have bo := (Below.refl wr.heap.size wr).alloc (Nat.le_refl _) (Obj.cells #[.int .i64 l[j].kind, .int .i64 l[j].index, .int .i64 l[j].type.kind, .slice B1 l[j].type.args.length d1, .slice A1 l[j].args.length c1] 34)
      refine (HIH.out l[j] G (.slice As G.length cs) _ ps[j] _ HX.out.2.2.1 HX.out.2.2.2.1 HG.out (by omega) HX.out.2.1 (HX.out.2.2.2.2.keep (fun b h => by have h' : b < w.heap.size := h; simp; omega) (fun p hp => World.cell?_alloc_lt _ _ _ (by have h' : p.block < w.heap.size := hp; omega))) HFS.out
        (HX.out.1.keep (fun b h => by have h' : b < w.heap.size := h; simp; omega) (fun p hp => World.cell?_alloc_lt _ _ _ (by have h' : p.block < w.heap.size := hp; omega)))).mono ?_
      rintro e w1 ⟨hb2, v1, rfl, ht1⟩
      obtain ⟨A2, c2, rfl⟩ := ht1.form
      have hbw : Below wr.heap.size wr w1 := bo.trans (hb2.mono (by simp))
      have ht1' : IsTy (fun b => wr.heap.size ≤ b ∧ b < w1.heap.size) w1 ps[j] (.agg #[.int .i64 ps[j].kind, .slice A2 ps[j].args.length c2]) := IsTy.keep (fun b h => ⟨by have := h.1; simp at this; omega, h.2⟩) (fun _ _ => rfl) _ ht1
      have HT1 := Lib.hid ht1'
      have hg2w := only_of_below hbw none
      have hown1 := ((HO.out.1.kept hg2w (by cases u8.ownBlock <;> simp)).alloc (Obj.cells #[.int .i64 ps[j].kind, .slice A2 ps[j].args.length c2] 30)).alloc (Obj.cells #[.int .i64 ps[j].kind, .slice A2 ps[j].args.length c2] 30)
      have kY : Blk ((w1.alloc (Obj.cells #[.int .i64 ps[j].kind, .slice A2 ps[j].args.length c2] 30)).alloc (Obj.cells #[.int .i64 ps[j].kind, .slice A2 ps[j].args.length c2] 30)) (w1.heap.size + 1) 30 #[.int .i64 ps[j].kind, .slice A2 ps[j].args.length c2] := by
        have := Blk.new (w1.alloc (Obj.cells #[.int .i64 ps[j].kind, .slice A2 ps[j].args.length c2] 30)) 30 #[.int .i64 ps[j].kind, .slice A2 ps[j].args.length c2]
        rwa [World.size_alloc] at this
      have HKY := Lib.hid kY
      have HBW := Lib.hid hbw
      clear kY hb2 ht1 ht1' bo hg2w hbw
      go_wp2_with (at_builtin; go_loud (refine wpList_append_own_at _ rfl _ _ 27 rfl (w.heap.size + 2) 30 i0 _ 2 32 Tryd.underlying27 hi hz0 hz1 hz2 rfl (by decide) u8 (ps.take j).length xs rfl hown1 ⟨w1.heap.size + 1, 0, none⟩ 1 1 [_, _] rfl rfl (World.news_of_block HKY.out) (by simp [Value.oneCell']) (by have := HLE.out; simp only [maxLen]; omega) (by have := HLE.out; omega) (by have := HO.out.2.2.2.2.lt; have := HBW.out.size; simp; omega) ?_); intro v2 w2 hown2 hg2 hnil2 hat2)
      have HST := Lib.hid (infer_step HO.out.2.2.1 HO.out.2.2.2.1 HO.out.2.2.2.2 HBW.out hown1 (HO.out.2.1) HO.out.1.lt HT1.out hown2 hg2 hat2)
      exact ⟨⟨j + 1, by omega, by go_num, by rw [List.take_succ_eq_append_getElem hjp]; exact HST.out⟩, by simp [intOf]; omega⟩
    · have hjl : j = l.length := by omega
      have hI : InferI 4 i T l B A d c w u8 ps wr := by
        rw [List.take_of_length_le (by have := HP.out.2.2.2; omega)] at hown
        exact ⟨hown, hbel, hb0, hb1⟩
      obtain ⟨A3, c3, e3⟩ := hI.1.form
      subst e3
      have HI := Lib.hid hI
      subst hjl
      clear hown hbel hb0 hb1 hI
      go_wp2_with fail
      refine (nat_any _).mono ?_
      rintro e w2 ⟨rfl, hb2⟩
      go_wp2_with fail
      refine (list_any _).mono ?_
      rintro e w3 ⟨rfl, hb3⟩
      obtain ⟨X, hX, hIX, kn, kl, hz3, hzX⟩ := infer_mid HI.out hb2 hb3
      clear hb2 hb3
      go_upto_region 20 with fail
      rw [← hX]
      clear hX
      have HIX := Lib.hid hIX
      have hU : U = .mk 1 [] := by
        have hl0 : l = [] := List.eq_nil_of_length_eq_zero (by have := HF.out.2.2.2.1; simpa [arities] using this)
        have hp0 : ps = [] := List.eq_nil_of_length_eq_zero (by rw [HP.out.2.2.2, hl0]; rfl)
        have := HP.out.2.1
        rw [hp0] at this
        simpa [nodeTy, argTys, ownTy, sameAll, tyNat, tyList, tyUnit] using this.symm
      have HU := Lib.hid hU
      clear hU
      obtain ⟨_, _, hb0, hb1⟩ := hIX
      obtain ⟨m0, m1, m2, m3, m4, _⟩ := hb0.facts5
      obtain ⟨_, _, f0, f1⟩ := hb1.facts2
      obtain ⟨nt0, nt1, _, _⟩ := kn.facts2
      obtain ⟨lt0, lt1, _, _⟩ := kl.facts2
      have HK1 := Lib.hid hb1
      have HKN := Lib.hid (And.intro kn kl)
      clear hb0 hb1 kn kl
      go_wp2_with fail
      obtain ⟨z0, z1, _, _⟩ := (HK1.out.set2 (.int .i64 1) (.slice none 0 0)).facts2
      refine bodyPost_ret (v := .tuple #[.agg #[.int .i64 1, .slice none 0 0], .int .i64 0]) (by simp [results, Tryd.results107, go_sem, z0, z1]) rfl ?_
      rw [HU.out]
      exact infer_end HIX.out.2.1 (by omega) (IsTy.leaf _ _ _)

set_option maxRecDepth 100000 in
set_option maxHeartbeats 4000000 in
theorem infer_7 (n : Nat) (hih : InferIH n) (i : Int) (T : Ty) (l : List Tm) (G : List Ty) (s v : Value) (U : Ty) (w : World) (hn : (Tm.mk 7 i T l).bulk ≤ n + 1) (hok : (Tm.mk 7 i T l).ok = true) (hG : ∀ T ∈ G, T.err = 0) (hGn : G.length + n + 1 ≤ 400000)
    (htyp : (Tm.mk 7 i T l).typ G = .ok U) (hs : TyR.Sl (· < w.heap.size) w G s) (hfs : Roomy s) (hT : IsTm (· < w.heap.size) w (.mk 7 i T l) v) : Calls Tryd.prog 107 #[s, v] w (InferR U w) := by
  obtain ⟨ps, hps, hnode⟩ := typ_parts (by decide) (by decide) htyp
  obtain ⟨B, d, A, c, rfl, hTT, hl⟩ := hT.mk_parts
  obtain ⟨As, cs, rfl⟩ := hs.form
  have hplen := typAll_len hps
  have hll := bulkAll_len l
  rw [okT_eq, Bool.and_eq_true] at hok
  have hfk := formed_kind hok.1
  simp only [Tm.kind, Tm.index, Tm.type, Tm.args] at hfk hok
  simp only [Tm.bulk] at hn
  have hpe := typAll_err l G hok.2 hG hps
  obtain ⟨W, hW, hbW, hz, k0, k1⟩ := box52_facts w (.int .i64 7) (.int .i64 i) (.int .i64 T.kind) (.slice B T.args.length d) (.slice A l.length c)
  have hTW : IsTy (· < w.heap.size) W T (.agg #[.int .i64 T.kind, .slice B T.args.length d]) := IsTy.keep (fun _ h => h) (fun p hp => hbW.cell hp) _ hTT
  obtain ⟨p0, p1, p2, p3, p4, _⟩ := k0.facts5
  have HI0 := Lib.hid (show InferI 7 i T l B A d c w (.slice none 0 0) [] W from ⟨Rep.Own.nil _ _ _, hbW, k0, k1⟩)
  have HIH := Lib.hid hih
  have HG := Lib.hid hG
  have HFS := Lib.hid hfs
  have HS := Lib.hid hs
  have HL := Lib.hid hl
  have HP := Lib.hid (And.intro hps (And.intro hnode (And.intro hpe hplen)))
  have HF := Lib.hid (And.intro hok hfk)
  have HT := Lib.hid hTT
  have HN := Lib.hid (show bulkAll l ≤ n by omega)
  clear hfs hih hG hs hl hps hnode hpe hplen hok hfk hT htyp k0 k1 hbW hTT hTW
  go_enter Tryd.func107, Tryd.ntmps107
  go_wp2_with fail
  rw [← hW]
  clear hW hz
  go_loopw [8, 69] (fun ls ix wr => ∃ j : Nat, j ≤ l.length ∧ ix = .int .i64 j ∧ InferI 7 i T l B A d c w ls (ps.take j) wr) (fun _ ix _ => l.length - (intOf ix).toNat)
  case atStart => exact ⟨0, Nat.zero_le _, rfl, HI0.out⟩
  case round =>
    obtain ⟨j, hj, rfl, hown, hbel, hb0, hb1⟩ := hrel
    clear p0 p1 p2 p3 p4
    by_cases hlt : j < l.length
    · have hlr : TmR.Sl (· < w.heap.size) wr l (.slice A l.length c) := HL.out.keep (fun _ h => h) (fun p hp => hbel.cell hp)
      obtain ⟨a, rfl, ha, hat⟩ := hlr.get j hlt
      obtain ⟨B1, d1, A1, c1, q0, q1, q2, q3, q4, hx⟩ := at_tm hat
      simp only [show TmR.n = 5 from rfl] at q0 q1 q2 q3 q4
      have hjp : j < ps.length := by have := HP.out.2.2.2; omega
      have hxt := typAll_get HP.out.1 j hlt hjp
      have hnj : l[j].bulk ≤ n := by have := bulkAll_get l j hlt; have := HN.out; omega
      have hxo := okAllT_get HF.out.1.2 j hlt
      have hlen : (ps.take j).length = j := by simp; omega
      have hwz := hbel.size
      have hGs : TyR.Sl (· < w.heap.size) wr G (.slice As G.length cs) := HS.out.keep (fun _ h => h) (fun p hp => hbel.cell hp)
      obtain ⟨i0, hi, hz0, hz1, hz2⟩ := info_parts info_type
      obtain ⟨xs, hox, hxs⟩ := hown
      have HX := Lib.hid (And.intro hx (And.intro hxt (And.intro hnj (And.intro hxo hGs))))
      have HLE := Lib.hid hlen
      have HO := Lib.hid (And.intro hox (And.intro hxs (And.intro hbel (And.intro hb0 hb1))))
      clear hlr hat hx hxt hnj hxo hGs hlen hox hxs hbel hb0 hb1
      go_wp2_with fail
      have bo := (Below.refl wr.heap.size wr).alloc (Nat.le_refl _) (Obj.cells #[.int .i64 l[j].kind, .int .i64 l[j].index, .int .i64 l[j].type.kind, .slice B1 l[j].type.args.length d1, .slice A1 l[j].args.length c1] 34)
      refine (HIH.out l[j] G (.slice As G.length cs) _ ps[j] _ HX.out.2.2.1 HX.out.2.2.2.1 HG.out (by omega) HX.out.2.1 (HX.out.2.2.2.2.keep (fun b h => by have h' : b < w.heap.size := h; simp; omega) (fun p hp => World.cell?_alloc_lt _ _ _ (by have h' : p.block < w.heap.size := hp; omega))) HFS.out
        (HX.out.1.keep (fun b h => by have h' : b < w.heap.size := h; simp; omega) (fun p hp => World.cell?_alloc_lt _ _ _ (by have h' : p.block < w.heap.size := hp; omega)))).mono ?_
      rintro e w1 ⟨hb2, v1, rfl, ht1⟩
      obtain ⟨A2, c2, rfl⟩ := ht1.form
      have hbw : Below wr.heap.size wr w1 := bo.trans (hb2.mono (by simp))
      have ht1' : IsTy (fun b => wr.heap.size ≤ b ∧ b < w1.heap.size) w1 ps[j] (.agg #[.int .i64 ps[j].kind, .slice A2 ps[j].args.length c2]) := IsTy.keep (fun b h => ⟨by have := h.1; simp at this; omega, h.2⟩) (fun _ _ => rfl) _ ht1
      have HT1 := Lib.hid ht1'
      have hg2w := only_of_below hbw none
      have hown1 := ((HO.out.1.kept hg2w (by cases u8.ownBlock <;> simp)).alloc (Obj.cells #[.int .i64 ps[j].kind, .slice A2 ps[j].args.length c2] 30)).alloc (Obj.cells #[.int .i64 ps[j].kind, .slice A2 ps[j].args.length c2] 30)
      have kY : Blk ((w1.alloc (Obj.cells #[.int .i64 ps[j].kind, .slice A2 ps[j].args.length c2] 30)).alloc (Obj.cells #[.int .i64 ps[j].kind, .slice A2 ps[j].args.length c2] 30)) (w1.heap.size + 1) 30 #[.int .i64 ps[j].kind, .slice A2 ps[j].args.length c2] := by
        have := Blk.new (w1.alloc (Obj.cells #[.int .i64 ps[j].kind, .slice A2 ps[j].args.length c2] 30)) 30 #[.int .i64 ps[j].kind, .slice A2 ps[j].args.length c2]
        rwa [World.size_alloc] at this
      have HKY := Lib.hid kY
      have HBW := Lib.hid hbw
      clear kY hb2 ht1 ht1' bo hg2w hbw
      go_wp2_with (at_builtin; go_loud (refine wpList_append_own_at _ rfl _ _ 27 rfl (w.heap.size + 2) 30 i0 _ 2 32 Tryd.underlying27 hi hz0 hz1 hz2 rfl (by decide) u8 (ps.take j).length xs rfl hown1 ⟨w1.heap.size + 1, 0, none⟩ 1 1 [_, _] rfl rfl (World.news_of_block HKY.out) (by simp [Value.oneCell']) (by have := HLE.out; simp only [maxLen]; omega) (by have := HLE.out; omega) (by have := HO.out.2.2.2.2.lt; have := HBW.out.size; simp; omega) ?_); intro v2 w2 hown2 hg2 hnil2 hat2)
      have HST := Lib.hid (infer_step HO.out.2.2.1 HO.out.2.2.2.1 HO.out.2.2.2.2 HBW.out hown1 (HO.out.2.1) HO.out.1.lt HT1.out hown2 hg2 hat2)
      exact ⟨⟨j + 1, by omega, by go_num, by rw [List.take_succ_eq_append_getElem hjp]; exact HST.out⟩, by simp [intOf]; omega⟩
    · have hjl : j = l.length := by omega
      have hI : InferI 7 i T l B A d c w u8 ps wr := by
        rw [List.take_of_length_le (by have := HP.out.2.2.2; omega)] at hown
        exact ⟨hown, hbel, hb0, hb1⟩
      obtain ⟨A3, c3, e3⟩ := hI.1.form
      subst e3
      have HI := Lib.hid hI
      subst hjl
      clear hown hbel hb0 hb1 hI
      go_wp2_with fail
      refine (nat_any _).mono ?_
      rintro e w2 ⟨rfl, hb2⟩
      go_wp2_with fail
      refine (list_any _).mono ?_
      rintro e w3 ⟨rfl, hb3⟩
      obtain ⟨X, hX, hIX, kn, kl, hz3, hzX⟩ := infer_mid HI.out hb2 hb3
      clear hb2 hb3
      go_upto_region 20 with fail
      rw [← hX]
      clear hX
      have HIX := Lib.hid hIX
      have hU : U = .mk 2 [] := by
        have hl0 : l = [] := List.eq_nil_of_length_eq_zero (by have := HF.out.2.2.2.1; simpa [arities] using this)
        have hp0 : ps = [] := List.eq_nil_of_length_eq_zero (by rw [HP.out.2.2.2, hl0]; rfl)
        have := HP.out.2.1
        rw [hp0] at this
        simpa [nodeTy, argTys, ownTy, sameAll, tyNat, tyList, tyUnit] using this.symm
      have HU := Lib.hid hU
      clear hU
      obtain ⟨_, _, hb0, hb1⟩ := hIX
      obtain ⟨m0, m1, m2, m3, m4, _⟩ := hb0.facts5
      obtain ⟨_, _, f0, f1⟩ := hb1.facts2
      obtain ⟨nt0, nt1, _, _⟩ := kn.facts2
      obtain ⟨lt0, lt1, _, _⟩ := kl.facts2
      have HK1 := Lib.hid hb1
      have HKN := Lib.hid (And.intro kn kl)
      clear hb0 hb1 kn kl
      go_wp2_with fail
      obtain ⟨z0, z1, _, _⟩ := (HK1.out.set2 (.int .i64 2) (.slice none 0 0)).facts2
      refine bodyPost_ret (v := .tuple #[.agg #[.int .i64 2, .slice none 0 0], .int .i64 0]) (by simp [results, Tryd.results107, go_sem, z0, z1]) rfl ?_
      rw [HU.out]
      exact infer_end HIX.out.2.1 (by omega) (IsTy.leaf _ _ _)

set_option maxRecDepth 100000 in
set_option maxHeartbeats 4000000 in
theorem infer_13 (n : Nat) (hih : InferIH n) (i : Int) (T : Ty) (l : List Tm) (G : List Ty) (s v : Value) (U : Ty) (w : World) (hn : (Tm.mk 13 i T l).bulk ≤ n + 1) (hok : (Tm.mk 13 i T l).ok = true) (hG : ∀ T ∈ G, T.err = 0) (hGn : G.length + n + 1 ≤ 400000)
    (htyp : (Tm.mk 13 i T l).typ G = .ok U) (hs : TyR.Sl (· < w.heap.size) w G s) (hfs : Roomy s) (hT : IsTm (· < w.heap.size) w (.mk 13 i T l) v) : Calls Tryd.prog 107 #[s, v] w (InferR U w) := by
  obtain ⟨ps, hps, hnode⟩ := typ_parts (by decide) (by decide) htyp
  obtain ⟨B, d, A, c, rfl, hTT, hl⟩ := hT.mk_parts
  obtain ⟨As, cs, rfl⟩ := hs.form
  have hplen := typAll_len hps
  have hll := bulkAll_len l
  rw [okT_eq, Bool.and_eq_true] at hok
  have hfk := formed_kind hok.1
  simp only [Tm.kind, Tm.index, Tm.type, Tm.args] at hfk hok
  simp only [Tm.bulk] at hn
  have hpe := typAll_err l G hok.2 hG hps
  obtain ⟨W, hW, hbW, hz, k0, k1⟩ := box52_facts w (.int .i64 13) (.int .i64 i) (.int .i64 T.kind) (.slice B T.args.length d) (.slice A l.length c)
  have hTW : IsTy (· < w.heap.size) W T (.agg #[.int .i64 T.kind, .slice B T.args.length d]) := IsTy.keep (fun _ h => h) (fun p hp => hbW.cell hp) _ hTT
  obtain ⟨p0, p1, p2, p3, p4, _⟩ := k0.facts5
  have HI0 := Lib.hid (show InferI 13 i T l B A d c w (.slice none 0 0) [] W from ⟨Rep.Own.nil _ _ _, hbW, k0, k1⟩)
  have HIH := Lib.hid hih
  have HG := Lib.hid hG
  have HFS := Lib.hid hfs
  have HS := Lib.hid hs
  have HL := Lib.hid hl
  have HP := Lib.hid (And.intro hps (And.intro hnode (And.intro hpe hplen)))
  have HF := Lib.hid (And.intro hok hfk)
  have HT := Lib.hid hTT
  have HN := Lib.hid (show bulkAll l ≤ n by omega)
  clear hfs hih hG hs hl hps hnode hpe hplen hok hfk hT htyp k0 k1 hbW hTT hTW
  go_enter Tryd.func107, Tryd.ntmps107
  go_wp2_with fail
  rw [← hW]
  clear hW hz
  go_loopw [8, 69] (fun ls ix wr => ∃ j : Nat, j ≤ l.length ∧ ix = .int .i64 j ∧ InferI 13 i T l B A d c w ls (ps.take j) wr) (fun _ ix _ => l.length - (intOf ix).toNat)
  case atStart => exact ⟨0, Nat.zero_le _, rfl, HI0.out⟩
  case round =>
    obtain ⟨j, hj, rfl, hown, hbel, hb0, hb1⟩ := hrel
    clear p0 p1 p2 p3 p4
    by_cases hlt : j < l.length
    · have hlr : TmR.Sl (· < w.heap.size) wr l (.slice A l.length c) := HL.out.keep (fun _ h => h) (fun p hp => hbel.cell hp)
      obtain ⟨a, rfl, ha, hat⟩ := hlr.get j hlt
      obtain ⟨B1, d1, A1, c1, q0, q1, q2, q3, q4, hx⟩ := at_tm hat
      simp only [show TmR.n = 5 from rfl] at q0 q1 q2 q3 q4
      have hjp : j < ps.length := by have := HP.out.2.2.2; omega
      have hxt := typAll_get HP.out.1 j hlt hjp
      have hnj : l[j].bulk ≤ n := by have := bulkAll_get l j hlt; have := HN.out; omega
      have hxo := okAllT_get HF.out.1.2 j hlt
      have hlen : (ps.take j).length = j := by simp; omega
      have hwz := hbel.size
      have hGs : TyR.Sl (· < w.heap.size) wr G (.slice As G.length cs) := HS.out.keep (fun _ h => h) (fun p hp => hbel.cell hp)
      obtain ⟨i0, hi, hz0, hz1, hz2⟩ := info_parts info_type
      obtain ⟨xs, hox, hxs⟩ := hown
      have HX := Lib.hid (And.intro hx (And.intro hxt (And.intro hnj (And.intro hxo hGs))))
      have HLE := Lib.hid hlen
      have HO := Lib.hid (And.intro hox (And.intro hxs (And.intro hbel (And.intro hb0 hb1))))
      clear hlr hat hx hxt hnj hxo hGs hlen hox hxs hbel hb0 hb1
      go_wp2_with fail
      have bo := (Below.refl wr.heap.size wr).alloc (Nat.le_refl _) (Obj.cells #[.int .i64 l[j].kind, .int .i64 l[j].index, .int .i64 l[j].type.kind, .slice B1 l[j].type.args.length d1, .slice A1 l[j].args.length c1] 34)
      refine (HIH.out l[j] G (.slice As G.length cs) _ ps[j] _ HX.out.2.2.1 HX.out.2.2.2.1 HG.out (by omega) HX.out.2.1 (HX.out.2.2.2.2.keep (fun b h => by have h' : b < w.heap.size := h; simp; omega) (fun p hp => World.cell?_alloc_lt _ _ _ (by have h' : p.block < w.heap.size := hp; omega))) HFS.out
        (HX.out.1.keep (fun b h => by have h' : b < w.heap.size := h; simp; omega) (fun p hp => World.cell?_alloc_lt _ _ _ (by have h' : p.block < w.heap.size := hp; omega)))).mono ?_
      rintro e w1 ⟨hb2, v1, rfl, ht1⟩
      obtain ⟨A2, c2, rfl⟩ := ht1.form
      have hbw : Below wr.heap.size wr w1 := bo.trans (hb2.mono (by simp))
      have ht1' : IsTy (fun b => wr.heap.size ≤ b ∧ b < w1.heap.size) w1 ps[j] (.agg #[.int .i64 ps[j].kind, .slice A2 ps[j].args.length c2]) := IsTy.keep (fun b h => ⟨by have := h.1; simp at this; omega, h.2⟩) (fun _ _ => rfl) _ ht1
      have HT1 := Lib.hid ht1'
      have hg2w := only_of_below hbw none
      have hown1 := ((HO.out.1.kept hg2w (by cases u8.ownBlock <;> simp)).alloc (Obj.cells #[.int .i64 ps[j].kind, .slice A2 ps[j].args.length c2] 30)).alloc (Obj.cells #[.int .i64 ps[j].kind, .slice A2 ps[j].args.length c2] 30)
      have kY : Blk ((w1.alloc (Obj.cells #[.int .i64 ps[j].kind, .slice A2 ps[j].args.length c2] 30)).alloc (Obj.cells #[.int .i64 ps[j].kind, .slice A2 ps[j].args.length c2] 30)) (w1.heap.size + 1) 30 #[.int .i64 ps[j].kind, .slice A2 ps[j].args.length c2] := by
        have := Blk.new (w1.alloc (Obj.cells #[.int .i64 ps[j].kind, .slice A2 ps[j].args.length c2] 30)) 30 #[.int .i64 ps[j].kind, .slice A2 ps[j].args.length c2]
        rwa [World.size_alloc] at this
      have HKY := Lib.hid kY
      have HBW := Lib.hid hbw
      clear kY hb2 ht1 ht1' bo hg2w hbw
      go_wp2_with (at_builtin; go_loud (refine wpList_append_own_at _ rfl _ _ 27 rfl (w.heap.size + 2) 30 i0 _ 2 32 Tryd.underlying27 hi hz0 hz1 hz2 rfl (by decide) u8 (ps.take j).length xs rfl hown1 ⟨w1.heap.size + 1, 0, none⟩ 1 1 [_, _] rfl rfl (World.news_of_block HKY.out) (by simp [Value.oneCell']) (by have := HLE.out; simp only [maxLen]; omega) (by have := HLE.out; omega) (by have := HO.out.2.2.2.2.lt; have := HBW.out.size; simp; omega) ?_); intro v2 w2 hown2 hg2 hnil2 hat2)
      have HST := Lib.hid (infer_step HO.out.2.2.1 HO.out.2.2.2.1 HO.out.2.2.2.2 HBW.out hown1 (HO.out.2.1) HO.out.1.lt HT1.out hown2 hg2 hat2)
      exact ⟨⟨j + 1, by omega, by go_num, by rw [List.take_succ_eq_append_getElem hjp]; exact HST.out⟩, by simp [intOf]; omega⟩
    · have hjl : j = l.length := by omega
      have hI : InferI 13 i T l B A d c w u8 ps wr := by
        rw [List.take_of_length_le (by have := HP.out.2.2.2; omega)] at hown
        exact ⟨hown, hbel, hb0, hb1⟩
      obtain ⟨A3, c3, e3⟩ := hI.1.form
      subst e3
      have HI := Lib.hid hI
      subst hjl
      clear hown hbel hb0 hb1 hI
      go_wp2_with fail
      refine (nat_any _).mono ?_
      rintro e w2 ⟨rfl, hb2⟩
      go_wp2_with fail
      refine (list_any _).mono ?_
      rintro e w3 ⟨rfl, hb3⟩
      obtain ⟨X, hX, hIX, kn, kl, hz3, hzX⟩ := infer_mid HI.out hb2 hb3
      clear hb2 hb3
      go_upto_region 20 with fail
      rw [← hX]
      clear hX
      have HIX := Lib.hid hIX
      have hU : U = .mk 5 [] := by
        have hl0 : l = [] := List.eq_nil_of_length_eq_zero (by have := HF.out.2.2.2.1; simpa [arities] using this)
        have hp0 : ps = [] := List.eq_nil_of_length_eq_zero (by rw [HP.out.2.2.2, hl0]; rfl)
        have := HP.out.2.1
        rw [hp0] at this
        simpa [nodeTy, argTys, ownTy, sameAll, tyNat, tyList, tyUnit] using this.symm
      have HU := Lib.hid hU
      clear hU
      obtain ⟨_, _, hb0, hb1⟩ := hIX
      obtain ⟨m0, m1, m2, m3, m4, _⟩ := hb0.facts5
      obtain ⟨_, _, f0, f1⟩ := hb1.facts2
      obtain ⟨nt0, nt1, _, _⟩ := kn.facts2
      obtain ⟨lt0, lt1, _, _⟩ := kl.facts2
      have HK1 := Lib.hid hb1
      have HKN := Lib.hid (And.intro kn kl)
      clear hb0 hb1 kn kl
      go_wp2_with fail
      refine (unit_any X).mono ?_
      rintro e w4 ⟨rfl, hb4⟩
      obtain ⟨_, _, f0, f1⟩ := (HK1.out.below hb4 HK1.out.lt).facts2
      have HB4 := Lib.hid hb4
      clear hb4
      go_wp2_with fail
      obtain ⟨z0, z1, _, _⟩ := ((HK1.out.below HB4.out HK1.out.lt).set2 (.int .i64 5) (.slice none 0 0)).facts2
      refine bodyPost_ret (v := .tuple #[.agg #[.int .i64 5, .slice none 0 0], .int .i64 0]) (by simp [results, Tryd.results107, go_sem, z0, z1]) rfl ?_
      rw [HU.out]
      exact infer_end (HIX.out.2.1.trans (HB4.out.mono HIX.out.2.1.size)) (by have := HB4.out.size; omega) (IsTy.leaf _ _ _)

set_option maxRecDepth 100000 in
set_option maxHeartbeats 4000000 in
theorem infer_5 (n : Nat) (hih : InferIH n) (i : Int) (T : Ty) (l : List Tm) (G : List Ty) (s v : Value) (U : Ty) (w : World) (hn : (Tm.mk 5 i T l).bulk ≤ n + 1) (hok : (Tm.mk 5 i T l).ok = true) (hG : ∀ T ∈ G, T.err = 0) (hGn : G.length + n + 1 ≤ 400000)
    (htyp : (Tm.mk 5 i T l).typ G = .ok U) (hs : TyR.Sl (· < w.heap.size) w G s) (hfs : Roomy s) (hT : IsTm (· < w.heap.size) w (.mk 5 i T l) v) : Calls Tryd.prog 107 #[s, v] w (InferR U w) := by
  obtain ⟨ps, hps, hnode⟩ := typ_parts (by decide) (by decide) htyp
  obtain ⟨B, d, A, c, rfl, hTT, hl⟩ := hT.mk_parts
  obtain ⟨As, cs, rfl⟩ := hs.form
  have hplen := typAll_len hps
  have hll := bulkAll_len l
  rw [okT_eq, Bool.and_eq_true] at hok
  have hfk := formed_kind hok.1
  simp only [Tm.kind, Tm.index, Tm.type, Tm.args] at hfk hok
  simp only [Tm.bulk] at hn
  have hpe := typAll_err l G hok.2 hG hps
  obtain ⟨W, hW, hbW, hz, k0, k1⟩ := box52_facts w (.int .i64 5) (.int .i64 i) (.int .i64 T.kind) (.slice B T.args.length d) (.slice A l.length c)
  have hTW : IsTy (· < w.heap.size) W T (.agg #[.int .i64 T.kind, .slice B T.args.length d]) := IsTy.keep (fun _ h => h) (fun p hp => hbW.cell hp) _ hTT
  obtain ⟨p0, p1, p2, p3, p4, _⟩ := k0.facts5
  have HI0 := Lib.hid (show InferI 5 i T l B A d c w (.slice none 0 0) [] W from ⟨Rep.Own.nil _ _ _, hbW, k0, k1⟩)
  have HIH := Lib.hid hih
  have HG := Lib.hid hG
  have HFS := Lib.hid hfs
  have HS := Lib.hid hs
  have HL := Lib.hid hl
  have HP := Lib.hid (And.intro hps (And.intro hnode (And.intro hpe hplen)))
  have HF := Lib.hid (And.intro hok hfk)
  have HT := Lib.hid hTT
  have HN := Lib.hid (show bulkAll l ≤ n by omega)
  clear hfs hih hG hs hl hps hnode hpe hplen hok hfk hT htyp k0 k1 hbW hTT hTW
  go_enter Tryd.func107, Tryd.ntmps107
  go_wp2_with fail
  rw [← hW]
  clear hW hz
  go_loopw [8, 69] (fun ls ix wr => ∃ j : Nat, j ≤ l.length ∧ ix = .int .i64 j ∧ InferI 5 i T l B A d c w ls (ps.take j) wr) (fun _ ix _ => l.length - (intOf ix).toNat)
  case atStart => exact ⟨0, Nat.zero_le _, rfl, HI0.out⟩
  case round =>
    obtain ⟨j, hj, rfl, hown, hbel, hb0, hb1⟩ := hrel
    clear p0 p1 p2 p3 p4
    by_cases hlt : j < l.length
    · have hlr : TmR.Sl (· < w.heap.size) wr l (.slice A l.length c) := HL.out.keep (fun _ h => h) (fun p hp => hbel.cell hp)
      obtain ⟨a, rfl, ha, hat⟩ := hlr.get j hlt
      obtain ⟨B1, d1, A1, c1, q0, q1, q2, q3, q4, hx⟩ := at_tm hat
      simp only [show TmR.n = 5 from rfl] at q0 q1 q2 q3 q4
      have hjp : j < ps.length := by have := HP.out.2.2.2; omega
      have hxt := typAll_get HP.out.1 j hlt hjp
      have hnj : l[j].bulk ≤ n := by have := bulkAll_get l j hlt; have := HN.out; omega
      have hxo := okAllT_get HF.out.1.2 j hlt
      have hlen : (ps.take j).length = j := by simp; omega
      have hwz := hbel.size
      have hGs : TyR.Sl (· < w.heap.size) wr G (.slice As G.length cs) := HS.out.keep (fun _ h => h) (fun p hp => hbel.cell hp)
      obtain ⟨i0, hi, hz0, hz1, hz2⟩ := info_parts info_type
      obtain ⟨xs, hox, hxs⟩ := hown
      have HX := Lib.hid (And.intro hx (And.intro hxt (And.intro hnj (And.intro hxo hGs))))
      have HLE := Lib.hid hlen
      have HO := Lib.hid (And.intro hox (And.intro hxs (And.intro hbel (And.intro hb0 hb1))))
      clear hlr hat hx hxt hnj hxo hGs hlen hox hxs hbel hb0 hb1
      go_wp2_with fail
      have bo := (Below.refl wr.heap.size wr).alloc (Nat.le_refl _) (Obj.cells #[.int .i64 l[j].kind, .int .i64 l[j].index, .int .i64 l[j].type.kind, .slice B1 l[j].type.args.length d1, .slice A1 l[j].args.length c1] 34)
      refine (HIH.out l[j] G (.slice As G.length cs) _ ps[j] _ HX.out.2.2.1 HX.out.2.2.2.1 HG.out (by omega) HX.out.2.1 (HX.out.2.2.2.2.keep (fun b h => by have h' : b < w.heap.size := h; simp; omega) (fun p hp => World.cell?_alloc_lt _ _ _ (by have h' : p.block < w.heap.size := hp; omega))) HFS.out
        (HX.out.1.keep (fun b h => by have h' : b < w.heap.size := h; simp; omega) (fun p hp => World.cell?_alloc_lt _ _ _ (by have h' : p.block < w.heap.size := hp; omega)))).mono ?_
      rintro e w1 ⟨hb2, v1, rfl, ht1⟩
      obtain ⟨A2, c2, rfl⟩ := ht1.form
      have hbw : Below wr.heap.size wr w1 := bo.trans (hb2.mono (by simp))
      have ht1' : IsTy (fun b => wr.heap.size ≤ b ∧ b < w1.heap.size) w1 ps[j] (.agg #[.int .i64 ps[j].kind, .slice A2 ps[j].args.length c2]) := IsTy.keep (fun b h => ⟨by have := h.1; simp at this; omega, h.2⟩) (fun _ _ => rfl) _ ht1
      have HT1 := Lib.hid ht1'
      have hg2w := only_of_below hbw none
      have hown1 := ((HO.out.1.kept hg2w (by cases u8.ownBlock <;> simp)).alloc (Obj.cells #[.int .i64 ps[j].kind, .slice A2 ps[j].args.length c2] 30)).alloc (Obj.cells #[.int .i64 ps[j].kind, .slice A2 ps[j].args.length c2] 30)
      have kY : Blk ((w1.alloc (Obj.cells #[.int .i64 ps[j].kind, .slice A2 ps[j].args.length c2] 30)).alloc (Obj.cells #[.int .i64 ps[j].kind, .slice A2 ps[j].args.length c2] 30)) (w1.heap.size + 1) 30 #[.int .i64 ps[j].kind, .slice A2 ps[j].args.length c2] := by
        have := Blk.new (w1.alloc (Obj.cells #[.int .i64 ps[j].kind, .slice A2 ps[j].args.length c2] 30)) 30 #[.int .i64 ps[j].kind, .slice A2 ps[j].args.length c2]
        rwa [World.size_alloc] at this
      have HKY := Lib.hid kY
      have HBW := Lib.hid hbw
      clear kY hb2 ht1 ht1' bo hg2w hbw
      go_wp2_with (at_builtin; go_loud (refine wpList_append_own_at _ rfl _ _ 27 rfl (w.heap.size + 2) 30 i0 _ 2 32 Tryd.underlying27 hi hz0 hz1 hz2 rfl (by decide) u8 (ps.take j).length xs rfl hown1 ⟨w1.heap.size + 1, 0, none⟩ 1 1 [_, _] rfl rfl (World.news_of_block HKY.out) (by simp [Value.oneCell']) (by have := HLE.out; simp only [maxLen]; omega) (by have := HLE.out; omega) (by have := HO.out.2.2.2.2.lt; have := HBW.out.size; simp; omega) ?_); intro v2 w2 hown2 hg2 hnil2 hat2)
      have HST := Lib.hid (infer_step HO.out.2.2.1 HO.out.2.2.2.1 HO.out.2.2.2.2 HBW.out hown1 (HO.out.2.1) HO.out.1.lt HT1.out hown2 hg2 hat2)
      exact ⟨⟨j + 1, by omega, by go_num, by rw [List.take_succ_eq_append_getElem hjp]; exact HST.out⟩, by simp [intOf]; omega⟩
    · have hjl : j = l.length := by omega
      have hI : InferI 5 i T l B A d c w u8 ps wr := by
        rw [List.take_of_length_le (by have := HP.out.2.2.2; omega)] at hown
        exact ⟨hown, hbel, hb0, hb1⟩
      obtain ⟨A3, c3, e3⟩ := hI.1.form
      subst e3
      have HI := Lib.hid hI
      subst hjl
      clear hown hbel hb0 hb1 hI
      go_wp2_with fail
      refine (nat_any _).mono ?_
      rintro e w2 ⟨rfl, hb2⟩
      go_wp2_with fail
      refine (list_any _).mono ?_
      rintro e w3 ⟨rfl, hb3⟩
      obtain ⟨X, hX, hIX, kn, kl, hz3, hzX⟩ := infer_mid HI.out hb2 hb3
      clear hb2 hb3
      go_upto_region 20 with fail
      rw [← hX]
      clear hX
      have HIX := Lib.hid hIX
      have hpsu : ps = [tyNat] ∧ U = tyNat := by
        have h := HP.out.2.1
        simp only [nodeTy, argTys, ownTy] at h
        simp at h
        split at h
        · rename_i h1
          exact ⟨sameAll_eq h1, by cases h; rfl⟩
        · cases h
      obtain ⟨hps1, hU1⟩ := hpsu
      have HU := Lib.hid hU1
      subst hps1
      clear hU1
      obtain ⟨hown, hbel, hb0, hb1⟩ := hIX
      obtain ⟨a, A0, c0, ca, ea, ha, q0, q1, hx⟩ := sl_one hown.sl
      rw [ea]
      obtain ⟨m0, _⟩ := hb0.facts5
      have haX : a.block < X.heap.size := ha.2
      have HK1 := Lib.hid hb1
      have HSK := Lib.hid fun (w' : World) (h : Below X.heap.size X w') => And.intro ((h.cell (p := a) haX).trans q0) (And.intro ((h.cell (p := ⟨a.block, a.off + 1, none⟩) haX).trans q1) (And.intro (kn.below h kn.lt).facts2.1 (kn.below h kn.lt).facts2.2.1))
      have HX := Lib.hid (show IsTy (· < X.heap.size) X tyNat _ from IsTy.keep (fun b h => h.2) (fun _ _ => rfl) _ hx)
      clear hown hbel hb0 hb1 q0 q1 hx kn kl
      obtain ⟨q0, q1, _⟩ := HSK.out X (Below.refl _ _)
      go_wp2_with fail
      go_region_held3 (fun w' => w'.cell? a = some (.int .i64 tyNat.kind) ∧ w'.cell? ⟨a.block, a.off + 1, none⟩ = some (.slice A0 tyNat.args.length c0) ∧ w'.cell? ⟨w3.heap.size, 0, none⟩ = some (.int .i64 1) ∧ w'.cell? ⟨w3.heap.size, 1, none⟩ = some (.slice none 0 0))
        (first | with_reducible exact HSK.out _ (Below.refl _ _).drew | with_reducible exact HSK.out _ G1.out | go_keep)
        (first
          | (go_at_call 24
             (with_reducible refine (refSame_is (S := tyNat) (T := tyNat) true (eqb_self _) (by simp [tyNat, Ty.nodes, nodesAll]) (by simp [tyNat, Ty.nodes, nodesAll]) (HX.out.boxed' ((Below.refl X.heap.size X).drew)) (IsTy.leaf _ _ _)).mono ?_)
             rintro e w4 ⟨rfl, hb4⟩
             have G1 := Lib.hid (show Below X.heap.size X w4 from ((Below.refl _ X).drew).trans hb4)
             obtain ⟨_, _, nt0, nt1⟩ := HSK.out _ G1.out
             obtain ⟨_, _, f0, f1⟩ := (HK1.out.below G1.out HK1.out.lt).facts2
             clear hb4))
      go_wp2_with fail
      obtain ⟨z0, z1, _, _⟩ := ((HK1.out.below G1.out HK1.out.lt).set2 (.int .i64 1) (.slice none 0 0)).facts2
      refine bodyPost_ret (v := .tuple #[.agg #[.int .i64 1, .slice none 0 0], .int .i64 0]) (by simp [results, Tryd.results107, go_sem, z0, z1]) rfl ?_
      rw [HU.out]
      exact infer_end (HIX.out.2.1.trans (G1.out.mono HIX.out.2.1.size)) (by have := G1.out.size; omega) (IsTy.leaf _ _ _)
end Go.Proofs.YtdbkphgamkeboaaDoor
namespace Go.Proofs.YtdbkphgamkeboaaDoor
open Go.RowKit

set_option maxRecDepth 100000 in
set_option maxHeartbeats 4000000 in
theorem infer_8 (n : Nat) (hih : InferIH n) (i : Int) (T : Ty) (l : List Tm) (G : List Ty) (s v : Value) (U : Ty) (w : World) (hn : (Tm.mk 8 i T l).bulk ≤ n + 1) (hok : (Tm.mk 8 i T l).ok = true) (hG : ∀ T ∈ G, T.err = 0) (hGn : G.length + n + 1 ≤ 400000)
    (htyp : (Tm.mk 8 i T l).typ G = .ok U) (hs : TyR.Sl (· < w.heap.size) w G s) (hfs : Roomy s) (hT : IsTm (· < w.heap.size) w (.mk 8 i T l) v) : Calls Tryd.prog 107 #[s, v] w (InferR U w) := by
  obtain ⟨ps, hps, hnode⟩ := typ_parts (by decide) (by decide) htyp
  obtain ⟨B, d, A, c, rfl, hTT, hl⟩ := hT.mk_parts
  obtain ⟨As, cs, rfl⟩ := hs.form
  have hplen := typAll_len hps
  have hll := bulkAll_len l
  rw [okT_eq, Bool.and_eq_true] at hok
  have hfk := formed_kind hok.1
  simp only [Tm.kind, Tm.index, Tm.type, Tm.args] at hfk hok
  simp only [Tm.bulk] at hn
  have hpe := typAll_err l G hok.2 hG hps
  obtain ⟨W, hW, hbW, hz, k0, k1⟩ := box52_facts w (.int .i64 8) (.int .i64 i) (.int .i64 T.kind) (.slice B T.args.length d) (.slice A l.length c)
  have hTW : IsTy (· < w.heap.size) W T (.agg #[.int .i64 T.kind, .slice B T.args.length d]) := IsTy.keep (fun _ h => h) (fun p hp => hbW.cell hp) _ hTT
  obtain ⟨p0, p1, p2, p3, p4, _⟩ := k0.facts5
  have HI0 := Lib.hid (show InferI 8 i T l B A d c w (.slice none 0 0) [] W from ⟨Rep.Own.nil _ _ _, hbW, k0, k1⟩)
  have HIH := Lib.hid hih
  have HG := Lib.hid hG
  have HFS := Lib.hid hfs
  have HS := Lib.hid hs
  have HL := Lib.hid hl
  have HP := Lib.hid (And.intro hps (And.intro hnode (And.intro hpe hplen)))
  have HF := Lib.hid (And.intro hok hfk)
  have HT := Lib.hid hTT
  have HN := Lib.hid (show bulkAll l ≤ n by omega)
  clear hfs hih hG hs hl hps hnode hpe hplen hok hfk hT htyp k0 k1 hbW hTT hTW
  go_enter Tryd.func107, Tryd.ntmps107
  go_wp2_with fail
  rw [← hW]
  clear hW hz
  go_loopw [8, 69] (fun ls ix wr => ∃ j : Nat, j ≤ l.length ∧ ix = .int .i64 j ∧ InferI 8 i T l B A d c w ls (ps.take j) wr) (fun _ ix _ => l.length - (intOf ix).toNat)
  case atStart => exact ⟨0, Nat.zero_le _, rfl, HI0.out⟩
  case round =>
    obtain ⟨j, hj, rfl, hown, hbel, hb0, hb1⟩ := hrel
    clear p0 p1 p2 p3 p4
    by_cases hlt : j < l.length
    · have hlr : TmR.Sl (· < w.heap.size) wr l (.slice A l.length c) := HL.out.keep (fun _ h => h) (fun p hp => hbel.cell hp)
      obtain ⟨a, rfl, ha, hat⟩ := hlr.get j hlt
      obtain ⟨B1, d1, A1, c1, q0, q1, q2, q3, q4, hx⟩ := at_tm hat
      simp only [show TmR.n = 5 from rfl] at q0 q1 q2 q3 q4
      have hjp : j < ps.length := by have := HP.out.2.2.2; omega
      have hxt := typAll_get HP.out.1 j hlt hjp
      have hnj : l[j].bulk ≤ n := by have := bulkAll_get l j hlt; have := HN.out; omega
      have hxo := okAllT_get HF.out.1.2 j hlt
      have hlen : (ps.take j).length = j := by simp; omega
      have hwz := hbel.size
      have hGs : TyR.Sl (· < w.heap.size) wr G (.slice As G.length cs) := HS.out.keep (fun _ h => h) (fun p hp => hbel.cell hp)
      obtain ⟨i0, hi, hz0, hz1, hz2⟩ := info_parts info_type
      obtain ⟨xs, hox, hxs⟩ := hown
      have HX := Lib.hid (And.intro hx (And.intro hxt (And.intro hnj (And.intro hxo hGs))))
      have HLE := Lib.hid hlen
      have HO := Lib.hid (And.intro hox (And.intro hxs (And.intro hbel (And.intro hb0 hb1))))
      clear hlr hat hx hxt hnj hxo hGs hlen hox hxs hbel hb0 hb1
      go_wp2_with fail
      have bo := (Below.refl wr.heap.size wr).alloc (Nat.le_refl _) (Obj.cells #[.int .i64 l[j].kind, .int .i64 l[j].index, .int .i64 l[j].type.kind, .slice B1 l[j].type.args.length d1, .slice A1 l[j].args.length c1] 34)
      refine (HIH.out l[j] G (.slice As G.length cs) _ ps[j] _ HX.out.2.2.1 HX.out.2.2.2.1 HG.out (by omega) HX.out.2.1 (HX.out.2.2.2.2.keep (fun b h => by have h' : b < w.heap.size := h; simp; omega) (fun p hp => World.cell?_alloc_lt _ _ _ (by have h' : p.block < w.heap.size := hp; omega))) HFS.out
        (HX.out.1.keep (fun b h => by have h' : b < w.heap.size := h; simp; omega) (fun p hp => World.cell?_alloc_lt _ _ _ (by have h' : p.block < w.heap.size := hp; omega)))).mono ?_
      rintro e w1 ⟨hb2, v1, rfl, ht1⟩
      obtain ⟨A2, c2, rfl⟩ := ht1.form
      have hbw : Below wr.heap.size wr w1 := bo.trans (hb2.mono (by simp))
      have ht1' : IsTy (fun b => wr.heap.size ≤ b ∧ b < w1.heap.size) w1 ps[j] (.agg #[.int .i64 ps[j].kind, .slice A2 ps[j].args.length c2]) := IsTy.keep (fun b h => ⟨by have := h.1; simp at this; omega, h.2⟩) (fun _ _ => rfl) _ ht1
      have HT1 := Lib.hid ht1'
      have hg2w := only_of_below hbw none
      have hown1 := ((HO.out.1.kept hg2w (by cases u8.ownBlock <;> simp)).alloc (Obj.cells #[.int .i64 ps[j].kind, .slice A2 ps[j].args.length c2] 30)).alloc (Obj.cells #[.int .i64 ps[j].kind, .slice A2 ps[j].args.length c2] 30)
      have kY : Blk ((w1.alloc (Obj.cells #[.int .i64 ps[j].kind, .slice A2 ps[j].args.length c2] 30)).alloc (Obj.cells #[.int .i64 ps[j].kind, .slice A2 ps[j].args.length c2] 30)) (w1.heap.size + 1) 30 #[.int .i64 ps[j].kind, .slice A2 ps[j].args.length c2] := by
        have := Blk.new (w1.alloc (Obj.cells #[.int .i64 ps[j].kind, .slice A2 ps[j].args.length c2] 30)) 30 #[.int .i64 ps[j].kind, .slice A2 ps[j].args.length c2]
        rwa [World.size_alloc] at this
      have HKY := Lib.hid kY
      have HBW := Lib.hid hbw
      clear kY hb2 ht1 ht1' bo hg2w hbw
      go_wp2_with (at_builtin; go_loud (refine wpList_append_own_at _ rfl _ _ 27 rfl (w.heap.size + 2) 30 i0 _ 2 32 Tryd.underlying27 hi hz0 hz1 hz2 rfl (by decide) u8 (ps.take j).length xs rfl hown1 ⟨w1.heap.size + 1, 0, none⟩ 1 1 [_, _] rfl rfl (World.news_of_block HKY.out) (by simp [Value.oneCell']) (by have := HLE.out; simp only [maxLen]; omega) (by have := HLE.out; omega) (by have := HO.out.2.2.2.2.lt; have := HBW.out.size; simp; omega) ?_); intro v2 w2 hown2 hg2 hnil2 hat2)
      have HST := Lib.hid (infer_step HO.out.2.2.1 HO.out.2.2.2.1 HO.out.2.2.2.2 HBW.out hown1 (HO.out.2.1) HO.out.1.lt HT1.out hown2 hg2 hat2)
      exact ⟨⟨j + 1, by omega, by go_num, by rw [List.take_succ_eq_append_getElem hjp]; exact HST.out⟩, by simp [intOf]; omega⟩
    · have hjl : j = l.length := by omega
      have hI : InferI 8 i T l B A d c w u8 ps wr := by
        rw [List.take_of_length_le (by have := HP.out.2.2.2; omega)] at hown
        exact ⟨hown, hbel, hb0, hb1⟩
      obtain ⟨A3, c3, e3⟩ := hI.1.form
      subst e3
      have HI := Lib.hid hI
      subst hjl
      clear hown hbel hb0 hb1 hI
      go_wp2_with fail
      refine (nat_any _).mono ?_
      rintro e w2 ⟨rfl, hb2⟩
      go_wp2_with fail
      refine (list_any _).mono ?_
      rintro e w3 ⟨rfl, hb3⟩
      obtain ⟨X, hX, hIX, kn, kl, hz3, hzX⟩ := infer_mid HI.out hb2 hb3
      clear hb2 hb3
      go_upto_region 20 with fail
      rw [← hX]
      clear hX
      have HIX := Lib.hid hIX
      have hpsu : ps = [tyNat, tyList] ∧ U = tyList := by
        have h := HP.out.2.1
        simp only [nodeTy, argTys, ownTy] at h
        simp at h
        split at h
        · rename_i h1
          exact ⟨sameAll_eq h1, by cases h; rfl⟩
        · cases h
      obtain ⟨hps1, hU1⟩ := hpsu
      have HU := Lib.hid hU1
      subst hps1
      clear hU1
      obtain ⟨hown, hbel, hb0, hb1⟩ := hIX
      obtain ⟨a, A0, A1, c0, c1, ca, ea, ha, q0, q1, q2, q3, hx, hy⟩ := sl_two hown.sl
      rw [ea]
      obtain ⟨m0, _⟩ := hb0.facts5
      have haX : a.block < X.heap.size := ha.2
      have HK1 := Lib.hid hb1
      have HSK := Lib.hid fun (w' : World) (h : Below X.heap.size X w') => And.intro ((h.cell (p := a) haX).trans q0) (And.intro ((h.cell (p := ⟨a.block, a.off + 1, none⟩) haX).trans q1) (And.intro ((h.cell (p := ⟨a.block, a.off + 2, none⟩) haX).trans q2) (And.intro ((h.cell (p := ⟨a.block, a.off + 2 + 1, none⟩) haX).trans q3) (And.intro ((kn.below h kn.lt).facts2.1) (And.intro ((kn.below h kn.lt).facts2.2.1) (And.intro ((kl.below h kl.lt).facts2.1) ((kl.below h kl.lt).facts2.2.1)))))))
      have HX := Lib.hid (And.intro (show IsTy (· < X.heap.size) X tyNat _ from IsTy.keep (fun b h => h.2) (fun _ _ => rfl) _ hx) (show IsTy (· < X.heap.size) X tyList _ from IsTy.keep (fun b h => h.2) (fun _ _ => rfl) _ hy))
      have HSMtyNat := Lib.hid (show tyNat.nodes ≤ 400000 by decide)
      have HSMtyList := Lib.hid (show tyList.nodes ≤ 400000 by decide)
      clear hown hbel hb0 hb1 q0 q1 q2 q3 hx hy kn kl
      obtain ⟨q0, q1, _⟩ := HSK.out X (Below.refl _ _)
      go_wp2_with fail
      go_region_held3 (fun w' => w'.cell? a = some (.int .i64 tyNat.kind) ∧ w'.cell? ⟨a.block, a.off + 1, none⟩ = some (.slice A0 tyNat.args.length c0) ∧ w'.cell? ⟨a.block, a.off + 2, none⟩ = some (.int .i64 tyList.kind) ∧ w'.cell? ⟨a.block, a.off + 2 + 1, none⟩ = some (.slice A1 tyList.args.length c1) ∧ w'.cell? ⟨w3.heap.size, 0, none⟩ = some (.int .i64 1) ∧ w'.cell? ⟨w3.heap.size, 1, none⟩ = some (.slice none 0 0) ∧ w'.cell? ⟨w3.heap.size + 1, 0, none⟩ = some (.int .i64 2) ∧ w'.cell? ⟨w3.heap.size + 1, 1, none⟩ = some (.slice none 0 0))
        (first | with_reducible exact HSK.out _ (Below.refl _ _).drew | with_reducible exact HSK.out _ G1.out | with_reducible exact HSK.out _ G2.out | go_keep)
        (first
          | (go_at_call 24
             (with_reducible refine (refSame_is (S := tyList) (T := tyList) (w := w4) true (eqb_self _) HSMtyList.out HSMtyList.out (HX.out.2.boxed' G1.out) (IsTy.leaf _ _ _)).mono ?_)
             rintro e w5 ⟨rfl, hbb⟩
             have G2 := Lib.hid (show Below X.heap.size X w5 from G1.out.trans (hbb.mono G1.out.size))
             clear hbb)
          | (go_at_call 24
             (with_reducible refine (refSame_is (S := tyNat) (T := tyNat) (w := X.drew) true (eqb_self _) HSMtyNat.out HSMtyNat.out (HX.out.1.boxed' ((Below.refl X.heap.size X).drew)) (IsTy.leaf _ _ _)).mono ?_)
             rintro e w4 ⟨rfl, hbb⟩
             have G1 := Lib.hid (show Below X.heap.size X w4 from ((Below.refl _ X).drew).trans hbb)
             clear hbb))
      obtain ⟨_, _, _, _, _, _, lt0, lt1⟩ := HSK.out _ G2.out
      obtain ⟨_, _, f0, f1⟩ := (HK1.out.below G2.out HK1.out.lt).facts2
      go_wp2_with fail
      obtain ⟨z0, z1, _, _⟩ := ((HK1.out.below G2.out HK1.out.lt).set2 (.int .i64 2) (.slice none 0 0)).facts2
      refine bodyPost_ret (v := .tuple #[.agg #[.int .i64 2, .slice none 0 0], .int .i64 0]) (by simp [results, Tryd.results107, go_sem, z0, z1]) rfl ?_
      rw [HU.out]
      exact infer_end (HIX.out.2.1.trans (G2.out.mono HIX.out.2.1.size)) (by have := G2.out.size; omega) (IsTy.leaf _ _ _)
end Go.Proofs.YtdbkphgamkeboaaDoor
namespace Go.Proofs.YtdbkphgamkeboaaDoor
open Go.RowKit

theorem ok2_any (T : Ty) (A : Option Addr) (c : Nat) (w : World) (he : T.err = 0) (hT : IsTy (· < w.heap.size) w T (.agg #[.int .i64 T.kind, .slice A T.args.length c])) :
    Calls Tryd.prog 147 #[.agg #[.int .i64 T.kind, .slice A T.args.length c]] w fun e w' => e = .returned (.tuple #[.agg #[.int .i64 T.kind, .slice A T.args.length c], .int .i64 0]) ∧ Below w.heap.size w w' := by
  have hTn := err_small he
  obtain ⟨b1, z1, k1⟩ := new_blk (Below.refl w.heap.size w) (Nat.le_refl _) #[.int .i64 T.kind, .slice A T.args.length c] 30
  obtain ⟨b2, z2, k2⟩ := new_blk b1 b1.size #[.int .i64 0, .slice none 0 0] 30
  have k1 := k1.alloc (Obj.cells #[.int .i64 0, .slice none 0 0] 30)
  rw [z1] at k2 z2
  obtain ⟨W, hW⟩ : ∃ W, W = (w.alloc (Obj.cells #[.int .i64 T.kind, .slice A T.args.length c] 30)).alloc (Obj.cells #[.int .i64 0, .slice none 0 0] 30) := ⟨_, rfl⟩
  rw [← hW] at b2 z2 k1 k2
  obtain ⟨p0, p1, _, _⟩ := k1.facts2
  have HT := Lib.hid (hT.boxed' b2)
  have HK := Lib.hid (And.intro k1 (And.intro k2 b2))
  have HE := Lib.hid he
  clear hT k1 k2 b1 z1 he
  go_enter Tryd.func147, Tryd.ntmps147
  go_wp2_with fail
  rw [← hW]
  clear hW
  refine (refCheck_any T _ W (by omega) HT.out).mono ?_
  rintro e w1 ⟨rfl, hb1⟩
  rw [HE.out]
  obtain ⟨p0, p1, _, _⟩ := (HK.out.1.below hb1 HK.out.1.lt).facts2
  have k2 := HK.out.2.1.below hb1 HK.out.2.1.lt
  obtain ⟨_, _, f0, f1⟩ := k2.facts2
  have HB := Lib.hid (HK.out.2.2.trans (hb1.mono HK.out.2.2.size))
  have HK2 := Lib.hid k2
  clear hb1 k2
  go_wp2_with fail
  obtain ⟨z0, z1, _, _⟩ := (HK2.out.set2 (.int .i64 T.kind) (.slice A T.args.length c)).facts2
  refine bodyPost_ret (v := .tuple #[.agg #[.int .i64 T.kind, .slice A T.args.length c], .int .i64 0]) (by simp [results, Tryd.results147, go_sem, z0, z1]) rfl ⟨rfl, ?_⟩
  exact HB.out.grown (only_set2 w1 (w.heap.size + 1) _ _) HB.out.size (fun k e => by cases e; omega)

set_option maxRecDepth 100000 in
set_option maxHeartbeats 4000000 in
theorem infer_11 (n : Nat) (hih : InferIH n) (i : Int) (T : Ty) (l : List Tm) (G : List Ty) (s v : Value) (U : Ty) (w : World) (hn : (Tm.mk 11 i T l).bulk ≤ n + 1) (hok : (Tm.mk 11 i T l).ok = true) (hG : ∀ T ∈ G, T.err = 0) (hGn : G.length + n + 1 ≤ 400000)
    (htyp : (Tm.mk 11 i T l).typ G = .ok U) (hs : TyR.Sl (· < w.heap.size) w G s) (hfs : Roomy s) (hT : IsTm (· < w.heap.size) w (.mk 11 i T l) v) : Calls Tryd.prog 107 #[s, v] w (InferR U w) := by
  obtain ⟨ps, hps, hnode⟩ := typ_parts (by decide) (by decide) htyp
  obtain ⟨B, d, A, c, rfl, hTT, hl⟩ := hT.mk_parts
  obtain ⟨As, cs, rfl⟩ := hs.form
  have hplen := typAll_len hps
  have hll := bulkAll_len l
  rw [okT_eq, Bool.and_eq_true] at hok
  have hfk := formed_kind hok.1
  simp only [Tm.kind, Tm.index, Tm.type, Tm.args] at hfk hok
  simp only [Tm.bulk] at hn
  have hpe := typAll_err l G hok.2 hG hps
  obtain ⟨W, hW, hbW, hz, k0, k1⟩ := box52_facts w (.int .i64 11) (.int .i64 i) (.int .i64 T.kind) (.slice B T.args.length d) (.slice A l.length c)
  have hTW : IsTy (· < w.heap.size) W T (.agg #[.int .i64 T.kind, .slice B T.args.length d]) := IsTy.keep (fun _ h => h) (fun p hp => hbW.cell hp) _ hTT
  obtain ⟨p0, p1, p2, p3, p4, _⟩ := k0.facts5
  have HI0 := Lib.hid (show InferI 11 i T l B A d c w (.slice none 0 0) [] W from ⟨Rep.Own.nil _ _ _, hbW, k0, k1⟩)
  have HIH := Lib.hid hih
  have HG := Lib.hid hG
  have HFS := Lib.hid hfs
  have HS := Lib.hid hs
  have HL := Lib.hid hl
  have HP := Lib.hid (And.intro hps (And.intro hnode (And.intro hpe hplen)))
  have HF := Lib.hid (And.intro hok hfk)
  have HT := Lib.hid hTT
  have HN := Lib.hid (show bulkAll l ≤ n by omega)
  clear hfs hih hG hs hl hps hnode hpe hplen hok hfk hT htyp k0 k1 hbW hTT hTW
  go_enter Tryd.func107, Tryd.ntmps107
  go_wp2_with fail
  rw [← hW]
  clear hW hz
  go_loopw [8, 69] (fun ls ix wr => ∃ j : Nat, j ≤ l.length ∧ ix = .int .i64 j ∧ InferI 11 i T l B A d c w ls (ps.take j) wr) (fun _ ix _ => l.length - (intOf ix).toNat)
  case atStart => exact ⟨0, Nat.zero_le _, rfl, HI0.out⟩
  case round =>
    obtain ⟨j, hj, rfl, hown, hbel, hb0, hb1⟩ := hrel
    clear p0 p1 p2 p3 p4
    by_cases hlt : j < l.length
    · have hlr : TmR.Sl (· < w.heap.size) wr l (.slice A l.length c) := HL.out.keep (fun _ h => h) (fun p hp => hbel.cell hp)
      obtain ⟨a, rfl, ha, hat⟩ := hlr.get j hlt
      obtain ⟨B1, d1, A1, c1, q0, q1, q2, q3, q4, hx⟩ := at_tm hat
      simp only [show TmR.n = 5 from rfl] at q0 q1 q2 q3 q4
      have hjp : j < ps.length := by have := HP.out.2.2.2; omega
      have hxt := typAll_get HP.out.1 j hlt hjp
      have hnj : l[j].bulk ≤ n := by have := bulkAll_get l j hlt; have := HN.out; omega
      have hxo := okAllT_get HF.out.1.2 j hlt
      have hlen : (ps.take j).length = j := by simp; omega
      have hwz := hbel.size
      have hGs : TyR.Sl (· < w.heap.size) wr G (.slice As G.length cs) := HS.out.keep (fun _ h => h) (fun p hp => hbel.cell hp)
      obtain ⟨i0, hi, hz0, hz1, hz2⟩ := info_parts info_type
      obtain ⟨xs, hox, hxs⟩ := hown
      have HX := Lib.hid (And.intro hx (And.intro hxt (And.intro hnj (And.intro hxo hGs))))
      have HLE := Lib.hid hlen
      have HO := Lib.hid (And.intro hox (And.intro hxs (And.intro hbel (And.intro hb0 hb1))))
      clear hlr hat hx hxt hnj hxo hGs hlen hox hxs hbel hb0 hb1
      go_wp2_with fail
      have bo := (Below.refl wr.heap.size wr).alloc (Nat.le_refl _) (Obj.cells #[.int .i64 l[j].kind, .int .i64 l[j].index, .int .i64 l[j].type.kind, .slice B1 l[j].type.args.length d1, .slice A1 l[j].args.length c1] 34)
      refine (HIH.out l[j] G (.slice As G.length cs) _ ps[j] _ HX.out.2.2.1 HX.out.2.2.2.1 HG.out (by omega) HX.out.2.1 (HX.out.2.2.2.2.keep (fun b h => by have h' : b < w.heap.size := h; simp; omega) (fun p hp => World.cell?_alloc_lt _ _ _ (by have h' : p.block < w.heap.size := hp; omega))) HFS.out
        (HX.out.1.keep (fun b h => by have h' : b < w.heap.size := h; simp; omega) (fun p hp => World.cell?_alloc_lt _ _ _ (by have h' : p.block < w.heap.size := hp; omega)))).mono ?_
      rintro e w1 ⟨hb2, v1, rfl, ht1⟩
      obtain ⟨A2, c2, rfl⟩ := ht1.form
      have hbw : Below wr.heap.size wr w1 := bo.trans (hb2.mono (by simp))
      have ht1' : IsTy (fun b => wr.heap.size ≤ b ∧ b < w1.heap.size) w1 ps[j] (.agg #[.int .i64 ps[j].kind, .slice A2 ps[j].args.length c2]) := IsTy.keep (fun b h => ⟨by have := h.1; simp at this; omega, h.2⟩) (fun _ _ => rfl) _ ht1
      have HT1 := Lib.hid ht1'
      have hg2w := only_of_below hbw none
      have hown1 := ((HO.out.1.kept hg2w (by cases u8.ownBlock <;> simp)).alloc (Obj.cells #[.int .i64 ps[j].kind, .slice A2 ps[j].args.length c2] 30)).alloc (Obj.cells #[.int .i64 ps[j].kind, .slice A2 ps[j].args.length c2] 30)
      have kY : Blk ((w1.alloc (Obj.cells #[.int .i64 ps[j].kind, .slice A2 ps[j].args.length c2] 30)).alloc (Obj.cells #[.int .i64 ps[j].kind, .slice A2 ps[j].args.length c2] 30)) (w1.heap.size + 1) 30 #[.int .i64 ps[j].kind, .slice A2 ps[j].args.length c2] := by
        have := Blk.new (w1.alloc (Obj.cells #[.int .i64 ps[j].kind, .slice A2 ps[j].args.length c2] 30)) 30 #[.int .i64 ps[j].kind, .slice A2 ps[j].args.length c2]
        rwa [World.size_alloc] at this
      have HKY := Lib.hid kY
      have HBW := Lib.hid hbw
      clear kY hb2 ht1 ht1' bo hg2w hbw
      go_wp2_with (at_builtin; go_loud (refine wpList_append_own_at _ rfl _ _ 27 rfl (w.heap.size + 2) 30 i0 _ 2 32 Tryd.underlying27 hi hz0 hz1 hz2 rfl (by decide) u8 (ps.take j).length xs rfl hown1 ⟨w1.heap.size + 1, 0, none⟩ 1 1 [_, _] rfl rfl (World.news_of_block HKY.out) (by simp [Value.oneCell']) (by have := HLE.out; simp only [maxLen]; omega) (by have := HLE.out; omega) (by have := HO.out.2.2.2.2.lt; have := HBW.out.size; simp; omega) ?_); intro v2 w2 hown2 hg2 hnil2 hat2)
      have HST := Lib.hid (infer_step HO.out.2.2.1 HO.out.2.2.2.1 HO.out.2.2.2.2 HBW.out hown1 (HO.out.2.1) HO.out.1.lt HT1.out hown2 hg2 hat2)
      exact ⟨⟨j + 1, by omega, by go_num, by rw [List.take_succ_eq_append_getElem hjp]; exact HST.out⟩, by simp [intOf]; omega⟩
    · have hjl : j = l.length := by omega
      have hI : InferI 11 i T l B A d c w u8 ps wr := by
        rw [List.take_of_length_le (by have := HP.out.2.2.2; omega)] at hown
        exact ⟨hown, hbel, hb0, hb1⟩
      obtain ⟨A3, c3, e3⟩ := hI.1.form
      subst e3
      have HI := Lib.hid hI
      subst hjl
      clear hown hbel hb0 hb1 hI
      go_wp2_with fail
      refine (nat_any _).mono ?_
      rintro e w2 ⟨rfl, hb2⟩
      go_wp2_with fail
      refine (list_any _).mono ?_
      rintro e w3 ⟨rfl, hb3⟩
      obtain ⟨X, hX, hIX, kn, kl, hz3, hzX⟩ := infer_mid HI.out hb2 hb3
      clear hb2 hb3
      go_upto_region 20 with fail
      rw [← hX]
      clear hX
      have HIX := Lib.hid hIX
      obtain ⟨p, q, hps1, hU1⟩ : ∃ p q, ps = [.mk 3 [p, q]] ∧ U = p := by
        have h := HP.out.2.1
        simp only [nodeTy] at h
        simp at h
        split at h
        · exact ⟨_, _, rfl, by cases h; rfl⟩
        · cases h
      have HU := Lib.hid hU1
      subst hps1
      clear hU1
      obtain ⟨hown, hbel, hb0, hb1⟩ := hIX
      obtain ⟨a, A0, c0, ca, ea, ha, q0, q1, hx⟩ := sl_one hown.sl
      rw [ea]
      simp only [Ty.kind, Ty.args, List.length_cons, List.length_nil, Nat.reduceAdd] at q0 q1 hx
      obtain ⟨b, D0, e0, D1, e1, rfl, hbb, r0, r1, s0, s1, hp, hq⟩ := hx.two
      obtain ⟨m0, _⟩ := hb0.facts5
      obtain ⟨_, _, f0, f1⟩ := hb1.facts2
      have HK1 := Lib.hid hb1
      have HX := Lib.hid (show IsTy (fun b => w.heap.size + 2 ≤ b ∧ b < X.heap.size) X p _ from IsTy.keep (fun b h => ⟨by have := h.1; omega, h.2⟩) (fun _ _ => rfl) _ hp)
      clear hown hbel hb0 hb1 hx kn kl hp hq
      go_wp2_with fail
      obtain ⟨z0, z1, _, _⟩ := (HK1.out.set2 (.int .i64 p.kind) (.slice D0 p.args.length e0)).facts2
      refine bodyPost_ret (v := .tuple #[.agg #[.int .i64 p.kind, .slice D0 p.args.length e0], .int .i64 0]) (by simp [results, Tryd.results107, go_sem, z0, z1]) rfl ?_
      rw [HU.out]
      exact infer_end HIX.out.2.1 (by omega) HX.out

set_option maxRecDepth 100000 in
set_option maxHeartbeats 4000000 in
theorem infer_12 (n : Nat) (hih : InferIH n) (i : Int) (T : Ty) (l : List Tm) (G : List Ty) (s v : Value) (U : Ty) (w : World) (hn : (Tm.mk 12 i T l).bulk ≤ n + 1) (hok : (Tm.mk 12 i T l).ok = true) (hG : ∀ T ∈ G, T.err = 0) (hGn : G.length + n + 1 ≤ 400000)
    (htyp : (Tm.mk 12 i T l).typ G = .ok U) (hs : TyR.Sl (· < w.heap.size) w G s) (hfs : Roomy s) (hT : IsTm (· < w.heap.size) w (.mk 12 i T l) v) : Calls Tryd.prog 107 #[s, v] w (InferR U w) := by
  obtain ⟨ps, hps, hnode⟩ := typ_parts (by decide) (by decide) htyp
  obtain ⟨B, d, A, c, rfl, hTT, hl⟩ := hT.mk_parts
  obtain ⟨As, cs, rfl⟩ := hs.form
  have hplen := typAll_len hps
  have hll := bulkAll_len l
  rw [okT_eq, Bool.and_eq_true] at hok
  have hfk := formed_kind hok.1
  simp only [Tm.kind, Tm.index, Tm.type, Tm.args] at hfk hok
  simp only [Tm.bulk] at hn
  have hpe := typAll_err l G hok.2 hG hps
  obtain ⟨W, hW, hbW, hz, k0, k1⟩ := box52_facts w (.int .i64 12) (.int .i64 i) (.int .i64 T.kind) (.slice B T.args.length d) (.slice A l.length c)
  have hTW : IsTy (· < w.heap.size) W T (.agg #[.int .i64 T.kind, .slice B T.args.length d]) := IsTy.keep (fun _ h => h) (fun p hp => hbW.cell hp) _ hTT
  obtain ⟨p0, p1, p2, p3, p4, _⟩ := k0.facts5
  have HI0 := Lib.hid (show InferI 12 i T l B A d c w (.slice none 0 0) [] W from ⟨Rep.Own.nil _ _ _, hbW, k0, k1⟩)
  have HIH := Lib.hid hih
  have HG := Lib.hid hG
  have HFS := Lib.hid hfs
  have HS := Lib.hid hs
  have HL := Lib.hid hl
  have HP := Lib.hid (And.intro hps (And.intro hnode (And.intro hpe hplen)))
  have HF := Lib.hid (And.intro hok hfk)
  have HT := Lib.hid hTT
  have HN := Lib.hid (show bulkAll l ≤ n by omega)
  clear hfs hih hG hs hl hps hnode hpe hplen hok hfk hT htyp k0 k1 hbW hTT hTW
  go_enter Tryd.func107, Tryd.ntmps107
  go_wp2_with fail
  rw [← hW]
  clear hW hz
  go_loopw [8, 69] (fun ls ix wr => ∃ j : Nat, j ≤ l.length ∧ ix = .int .i64 j ∧ InferI 12 i T l B A d c w ls (ps.take j) wr) (fun _ ix _ => l.length - (intOf ix).toNat)
  case atStart => exact ⟨0, Nat.zero_le _, rfl, HI0.out⟩
  case round =>
    obtain ⟨j, hj, rfl, hown, hbel, hb0, hb1⟩ := hrel
    clear p0 p1 p2 p3 p4
    by_cases hlt : j < l.length
    · have hlr : TmR.Sl (· < w.heap.size) wr l (.slice A l.length c) := HL.out.keep (fun _ h => h) (fun p hp => hbel.cell hp)
      obtain ⟨a, rfl, ha, hat⟩ := hlr.get j hlt
      obtain ⟨B1, d1, A1, c1, q0, q1, q2, q3, q4, hx⟩ := at_tm hat
      simp only [show TmR.n = 5 from rfl] at q0 q1 q2 q3 q4
      have hjp : j < ps.length := by have := HP.out.2.2.2; omega
      have hxt := typAll_get HP.out.1 j hlt hjp
      have hnj : l[j].bulk ≤ n := by have := bulkAll_get l j hlt; have := HN.out; omega
      have hxo := okAllT_get HF.out.1.2 j hlt
      have hlen : (ps.take j).length = j := by simp; omega
      have hwz := hbel.size
      have hGs : TyR.Sl (· < w.heap.size) wr G (.slice As G.length cs) := HS.out.keep (fun _ h => h) (fun p hp => hbel.cell hp)
      obtain ⟨i0, hi, hz0, hz1, hz2⟩ := info_parts info_type
      obtain ⟨xs, hox, hxs⟩ := hown
      have HX := Lib.hid (And.intro hx (And.intro hxt (And.intro hnj (And.intro hxo hGs))))
      have HLE := Lib.hid hlen
      have HO := Lib.hid (And.intro hox (And.intro hxs (And.intro hbel (And.intro hb0 hb1))))
      clear hlr hat hx hxt hnj hxo hGs hlen hox hxs hbel hb0 hb1
      go_wp2_with fail
      have bo := (Below.refl wr.heap.size wr).alloc (Nat.le_refl _) (Obj.cells #[.int .i64 l[j].kind, .int .i64 l[j].index, .int .i64 l[j].type.kind, .slice B1 l[j].type.args.length d1, .slice A1 l[j].args.length c1] 34)
      refine (HIH.out l[j] G (.slice As G.length cs) _ ps[j] _ HX.out.2.2.1 HX.out.2.2.2.1 HG.out (by omega) HX.out.2.1 (HX.out.2.2.2.2.keep (fun b h => by have h' : b < w.heap.size := h; simp; omega) (fun p hp => World.cell?_alloc_lt _ _ _ (by have h' : p.block < w.heap.size := hp; omega))) HFS.out
        (HX.out.1.keep (fun b h => by have h' : b < w.heap.size := h; simp; omega) (fun p hp => World.cell?_alloc_lt _ _ _ (by have h' : p.block < w.heap.size := hp; omega)))).mono ?_
      rintro e w1 ⟨hb2, v1, rfl, ht1⟩
      obtain ⟨A2, c2, rfl⟩ := ht1.form
      have hbw : Below wr.heap.size wr w1 := bo.trans (hb2.mono (by simp))
      have ht1' : IsTy (fun b => wr.heap.size ≤ b ∧ b < w1.heap.size) w1 ps[j] (.agg #[.int .i64 ps[j].kind, .slice A2 ps[j].args.length c2]) := IsTy.keep (fun b h => ⟨by have := h.1; simp at this; omega, h.2⟩) (fun _ _ => rfl) _ ht1
      have HT1 := Lib.hid ht1'
      have hg2w := only_of_below hbw none
      have hown1 := ((HO.out.1.kept hg2w (by cases u8.ownBlock <;> simp)).alloc (Obj.cells #[.int .i64 ps[j].kind, .slice A2 ps[j].args.length c2] 30)).alloc (Obj.cells #[.int .i64 ps[j].kind, .slice A2 ps[j].args.length c2] 30)
      have kY : Blk ((w1.alloc (Obj.cells #[.int .i64 ps[j].kind, .slice A2 ps[j].args.length c2] 30)).alloc (Obj.cells #[.int .i64 ps[j].kind, .slice A2 ps[j].args.length c2] 30)) (w1.heap.size + 1) 30 #[.int .i64 ps[j].kind, .slice A2 ps[j].args.length c2] := by
        have := Blk.new (w1.alloc (Obj.cells #[.int .i64 ps[j].kind, .slice A2 ps[j].args.length c2] 30)) 30 #[.int .i64 ps[j].kind, .slice A2 ps[j].args.length c2]
        rwa [World.size_alloc] at this
      have HKY := Lib.hid kY
      have HBW := Lib.hid hbw
      clear kY hb2 ht1 ht1' bo hg2w hbw
      go_wp2_with (at_builtin; go_loud (refine wpList_append_own_at _ rfl _ _ 27 rfl (w.heap.size + 2) 30 i0 _ 2 32 Tryd.underlying27 hi hz0 hz1 hz2 rfl (by decide) u8 (ps.take j).length xs rfl hown1 ⟨w1.heap.size + 1, 0, none⟩ 1 1 [_, _] rfl rfl (World.news_of_block HKY.out) (by simp [Value.oneCell']) (by have := HLE.out; simp only [maxLen]; omega) (by have := HLE.out; omega) (by have := HO.out.2.2.2.2.lt; have := HBW.out.size; simp; omega) ?_); intro v2 w2 hown2 hg2 hnil2 hat2)
      have HST := Lib.hid (infer_step HO.out.2.2.1 HO.out.2.2.2.1 HO.out.2.2.2.2 HBW.out hown1 (HO.out.2.1) HO.out.1.lt HT1.out hown2 hg2 hat2)
      exact ⟨⟨j + 1, by omega, by go_num, by rw [List.take_succ_eq_append_getElem hjp]; exact HST.out⟩, by simp [intOf]; omega⟩
    · have hjl : j = l.length := by omega
      have hI : InferI 12 i T l B A d c w u8 ps wr := by
        rw [List.take_of_length_le (by have := HP.out.2.2.2; omega)] at hown
        exact ⟨hown, hbel, hb0, hb1⟩
      obtain ⟨A3, c3, e3⟩ := hI.1.form
      subst e3
      have HI := Lib.hid hI
      subst hjl
      clear hown hbel hb0 hb1 hI
      go_wp2_with fail
      refine (nat_any _).mono ?_
      rintro e w2 ⟨rfl, hb2⟩
      go_wp2_with fail
      refine (list_any _).mono ?_
      rintro e w3 ⟨rfl, hb3⟩
      obtain ⟨X, hX, hIX, kn, kl, hz3, hzX⟩ := infer_mid HI.out hb2 hb3
      clear hb2 hb3
      go_upto_region 20 with fail
      rw [← hX]
      clear hX
      have HIX := Lib.hid hIX
      obtain ⟨p, q, hps1, hU1⟩ : ∃ p q, ps = [.mk 3 [p, q]] ∧ U = q := by
        have h := HP.out.2.1
        simp only [nodeTy] at h
        simp at h
        split at h
        · exact ⟨_, _, rfl, by cases h; rfl⟩
        · cases h
      have HU := Lib.hid hU1
      subst hps1
      clear hU1
      obtain ⟨hown, hbel, hb0, hb1⟩ := hIX
      obtain ⟨a, A0, c0, ca, ea, ha, q0, q1, hx⟩ := sl_one hown.sl
      rw [ea]
      simp only [Ty.kind, Ty.args, List.length_cons, List.length_nil, Nat.reduceAdd] at q0 q1 hx
      obtain ⟨b, D0, e0, D1, e1, rfl, hbb, r0, r1, s0, s1, hp, hq⟩ := hx.two
      obtain ⟨m0, _⟩ := hb0.facts5
      obtain ⟨_, _, f0, f1⟩ := hb1.facts2
      have HK1 := Lib.hid hb1
      have HX := Lib.hid (show IsTy (fun b => w.heap.size + 2 ≤ b ∧ b < X.heap.size) X q _ from IsTy.keep (fun b h => ⟨by have := h.1; omega, h.2⟩) (fun _ _ => rfl) _ hq)
      clear hown hbel hb0 hb1 hx kn kl hp hq
      go_wp2_with fail
      obtain ⟨z0, z1, _, _⟩ := (HK1.out.set2 (.int .i64 q.kind) (.slice D1 q.args.length e1)).facts2
      refine bodyPost_ret (v := .tuple #[.agg #[.int .i64 q.kind, .slice D1 q.args.length e1], .int .i64 0]) (by simp [results, Tryd.results107, go_sem, z0, z1]) rfl ?_
      rw [HU.out]
      exact infer_end HIX.out.2.1 (by omega) HX.out

set_option maxRecDepth 100000 in
set_option maxHeartbeats 4000000 in
theorem infer_10 (n : Nat) (hih : InferIH n) (i : Int) (T : Ty) (l : List Tm) (G : List Ty) (s v : Value) (U : Ty) (w : World) (hn : (Tm.mk 10 i T l).bulk ≤ n + 1) (hok : (Tm.mk 10 i T l).ok = true) (hG : ∀ T ∈ G, T.err = 0) (hGn : G.length + n + 1 ≤ 400000)
    (htyp : (Tm.mk 10 i T l).typ G = .ok U) (hs : TyR.Sl (· < w.heap.size) w G s) (hfs : Roomy s) (hT : IsTm (· < w.heap.size) w (.mk 10 i T l) v) : Calls Tryd.prog 107 #[s, v] w (InferR U w) := by
  obtain ⟨ps, hps, hnode⟩ := typ_parts (by decide) (by decide) htyp
  obtain ⟨B, d, A, c, rfl, hTT, hl⟩ := hT.mk_parts
  obtain ⟨As, cs, rfl⟩ := hs.form
  have hplen := typAll_len hps
  have hll := bulkAll_len l
  rw [okT_eq, Bool.and_eq_true] at hok
  have hfk := formed_kind hok.1
  simp only [Tm.kind, Tm.index, Tm.type, Tm.args] at hfk hok
  simp only [Tm.bulk] at hn
  have hpe := typAll_err l G hok.2 hG hps
  obtain ⟨W, hW, hbW, hz, k0, k1⟩ := box52_facts w (.int .i64 10) (.int .i64 i) (.int .i64 T.kind) (.slice B T.args.length d) (.slice A l.length c)
  have hTW : IsTy (· < w.heap.size) W T (.agg #[.int .i64 T.kind, .slice B T.args.length d]) := IsTy.keep (fun _ h => h) (fun p hp => hbW.cell hp) _ hTT
  obtain ⟨p0, p1, p2, p3, p4, _⟩ := k0.facts5
  have HI0 := Lib.hid (show InferI 10 i T l B A d c w (.slice none 0 0) [] W from ⟨Rep.Own.nil _ _ _, hbW, k0, k1⟩)
  have HIH := Lib.hid hih
  have HG := Lib.hid hG
  have HFS := Lib.hid hfs
  have HS := Lib.hid hs
  have HL := Lib.hid hl
  have HP := Lib.hid (And.intro hps (And.intro hnode (And.intro hpe hplen)))
  have HF := Lib.hid (And.intro hok hfk)
  have HT := Lib.hid hTT
  have HN := Lib.hid (show bulkAll l ≤ n by omega)
  clear hfs hih hG hs hl hps hnode hpe hplen hok hfk hT htyp k0 k1 hbW hTT hTW
  go_enter Tryd.func107, Tryd.ntmps107
  go_wp2_with fail
  rw [← hW]
  clear hW hz
  go_loopw [8, 69] (fun ls ix wr => ∃ j : Nat, j ≤ l.length ∧ ix = .int .i64 j ∧ InferI 10 i T l B A d c w ls (ps.take j) wr) (fun _ ix _ => l.length - (intOf ix).toNat)
  case atStart => exact ⟨0, Nat.zero_le _, rfl, HI0.out⟩
  case round =>
    obtain ⟨j, hj, rfl, hown, hbel, hb0, hb1⟩ := hrel
    clear p0 p1 p2 p3 p4
    by_cases hlt : j < l.length
    · have hlr : TmR.Sl (· < w.heap.size) wr l (.slice A l.length c) := HL.out.keep (fun _ h => h) (fun p hp => hbel.cell hp)
      obtain ⟨a, rfl, ha, hat⟩ := hlr.get j hlt
      obtain ⟨B1, d1, A1, c1, q0, q1, q2, q3, q4, hx⟩ := at_tm hat
      simp only [show TmR.n = 5 from rfl] at q0 q1 q2 q3 q4
      have hjp : j < ps.length := by have := HP.out.2.2.2; omega
      have hxt := typAll_get HP.out.1 j hlt hjp
      have hnj : l[j].bulk ≤ n := by have := bulkAll_get l j hlt; have := HN.out; omega
      have hxo := okAllT_get HF.out.1.2 j hlt
      have hlen : (ps.take j).length = j := by simp; omega
      have hwz := hbel.size
      have hGs : TyR.Sl (· < w.heap.size) wr G (.slice As G.length cs) := HS.out.keep (fun _ h => h) (fun p hp => hbel.cell hp)
      obtain ⟨i0, hi, hz0, hz1, hz2⟩ := info_parts info_type
      obtain ⟨xs, hox, hxs⟩ := hown
      have HX := Lib.hid (And.intro hx (And.intro hxt (And.intro hnj (And.intro hxo hGs))))
      have HLE := Lib.hid hlen
      have HO := Lib.hid (And.intro hox (And.intro hxs (And.intro hbel (And.intro hb0 hb1))))
      clear hlr hat hx hxt hnj hxo hGs hlen hox hxs hbel hb0 hb1
      go_wp2_with fail
      have bo := (Below.refl wr.heap.size wr).alloc (Nat.le_refl _) (Obj.cells #[.int .i64 l[j].kind, .int .i64 l[j].index, .int .i64 l[j].type.kind, .slice B1 l[j].type.args.length d1, .slice A1 l[j].args.length c1] 34)
      refine (HIH.out l[j] G (.slice As G.length cs) _ ps[j] _ HX.out.2.2.1 HX.out.2.2.2.1 HG.out (by omega) HX.out.2.1 (HX.out.2.2.2.2.keep (fun b h => by have h' : b < w.heap.size := h; simp; omega) (fun p hp => World.cell?_alloc_lt _ _ _ (by have h' : p.block < w.heap.size := hp; omega))) HFS.out
        (HX.out.1.keep (fun b h => by have h' : b < w.heap.size := h; simp; omega) (fun p hp => World.cell?_alloc_lt _ _ _ (by have h' : p.block < w.heap.size := hp; omega)))).mono ?_
      rintro e w1 ⟨hb2, v1, rfl, ht1⟩
      obtain ⟨A2, c2, rfl⟩ := ht1.form
      have hbw : Below wr.heap.size wr w1 := bo.trans (hb2.mono (by simp))
      have ht1' : IsTy (fun b => wr.heap.size ≤ b ∧ b < w1.heap.size) w1 ps[j] (.agg #[.int .i64 ps[j].kind, .slice A2 ps[j].args.length c2]) := IsTy.keep (fun b h => ⟨by have := h.1; simp at this; omega, h.2⟩) (fun _ _ => rfl) _ ht1
      have HT1 := Lib.hid ht1'
      have hg2w := only_of_below hbw none
      have hown1 := ((HO.out.1.kept hg2w (by cases u8.ownBlock <;> simp)).alloc (Obj.cells #[.int .i64 ps[j].kind, .slice A2 ps[j].args.length c2] 30)).alloc (Obj.cells #[.int .i64 ps[j].kind, .slice A2 ps[j].args.length c2] 30)
      have kY : Blk ((w1.alloc (Obj.cells #[.int .i64 ps[j].kind, .slice A2 ps[j].args.length c2] 30)).alloc (Obj.cells #[.int .i64 ps[j].kind, .slice A2 ps[j].args.length c2] 30)) (w1.heap.size + 1) 30 #[.int .i64 ps[j].kind, .slice A2 ps[j].args.length c2] := by
        have := Blk.new (w1.alloc (Obj.cells #[.int .i64 ps[j].kind, .slice A2 ps[j].args.length c2] 30)) 30 #[.int .i64 ps[j].kind, .slice A2 ps[j].args.length c2]
        rwa [World.size_alloc] at this
      have HKY := Lib.hid kY
      have HBW := Lib.hid hbw
      clear kY hb2 ht1 ht1' bo hg2w hbw
      go_wp2_with (at_builtin; go_loud (refine wpList_append_own_at _ rfl _ _ 27 rfl (w.heap.size + 2) 30 i0 _ 2 32 Tryd.underlying27 hi hz0 hz1 hz2 rfl (by decide) u8 (ps.take j).length xs rfl hown1 ⟨w1.heap.size + 1, 0, none⟩ 1 1 [_, _] rfl rfl (World.news_of_block HKY.out) (by simp [Value.oneCell']) (by have := HLE.out; simp only [maxLen]; omega) (by have := HLE.out; omega) (by have := HO.out.2.2.2.2.lt; have := HBW.out.size; simp; omega) ?_); intro v2 w2 hown2 hg2 hnil2 hat2)
      have HST := Lib.hid (infer_step HO.out.2.2.1 HO.out.2.2.2.1 HO.out.2.2.2.2 HBW.out hown1 (HO.out.2.1) HO.out.1.lt HT1.out hown2 hg2 hat2)
      exact ⟨⟨j + 1, by omega, by go_num, by rw [List.take_succ_eq_append_getElem hjp]; exact HST.out⟩, by simp [intOf]; omega⟩
    · have hjl : j = l.length := by omega
      have hI : InferI 10 i T l B A d c w u8 ps wr := by
        rw [List.take_of_length_le (by have := HP.out.2.2.2; omega)] at hown
        exact ⟨hown, hbel, hb0, hb1⟩
      obtain ⟨A3, c3, e3⟩ := hI.1.form
      subst e3
      have HI := Lib.hid hI
      subst hjl
      clear hown hbel hb0 hb1 hI
      go_wp2_with fail
      refine (nat_any _).mono ?_
      rintro e w2 ⟨rfl, hb2⟩
      go_wp2_with fail
      refine (list_any _).mono ?_
      rintro e w3 ⟨rfl, hb3⟩
      obtain ⟨X, hX, hIX, kn, kl, hz3, hzX⟩ := infer_mid HI.out hb2 hb3
      clear hb2 hb3
      go_upto_region 20 with fail
      rw [← hX]
      clear hX
      have HIX := Lib.hid hIX
      obtain ⟨p, q, hps1, hU1, hpe, hqe, hUe⟩ : ∃ p q, ps = [p, q] ∧ U = .mk 3 [p, q] ∧ p.err = 0 ∧ q.err = 0 ∧ (Ty.mk 3 [p, q]).err = 0 := by
        have h := HP.out.2.1
        have hl2 : ps.length = 2 := by rw [HP.out.2.2.2]; have := HF.out.2.2.2.1; simpa [arities] using this
        have hpe := HP.out.2.2.1
        simp only [nodeTy] at h
        simp at h
        split at h
        · rename_i hn64
          match ps, hl2, h, hn64, hpe with
          | [p, q], _, h, hn64, hpe =>
            have h1 := hpe p (by simp)
            have h2 := hpe q (by simp)
            exact ⟨p, q, rfl, by cases h; rfl, h1, h2, err_zero.2 ⟨by simp [Ty.ok, okAll, (err_zero.1 h1).1, (err_zero.1 h2).1], hn64⟩⟩
        · cases h
      have HU := Lib.hid (And.intro hU1 (And.intro hpe (And.intro hqe hUe)))
      have hpn := err_small hpe
      have hqn := err_small hqe
      subst hps1
      clear hU1 hpe hqe hUe
      obtain ⟨hown, hbel, hb0, hb1⟩ := hIX
      obtain ⟨a, A0, A1, c0, c1, ca, ea, ha, q0, q1, q2, q3, hx, hy⟩ := sl_two hown.sl
      rw [ea]
      obtain ⟨m0, _⟩ := hb0.facts5
      have haX : a.block < X.heap.size := ha.2
      have HK1 := Lib.hid hb1
      have HSK := Lib.hid fun (w' : World) (h : Turn (· = w.heap.size + 1) X w') => And.intro ((World.cell?_of_block (a := a) (h.block a.block haX (by have := ha.1; omega))).trans q0) (And.intro ((World.cell?_of_block (a := ⟨a.block, a.off + 1, none⟩) (h.block a.block haX (by have := ha.1; omega))).trans q1) (And.intro ((World.cell?_of_block (a := ⟨a.block, a.off + 2, none⟩) (h.block a.block haX (by have := ha.1; omega))).trans q2) ((World.cell?_of_block (a := ⟨a.block, a.off + 2 + 1, none⟩) (h.block a.block haX (by have := ha.1; omega))).trans q3)))
      have HX := Lib.hid (And.intro (show IsTy (· < X.heap.size) X p _ from IsTy.keep (fun b h => h.2) (fun _ _ => rfl) _ hx) (show IsTy (· < X.heap.size) X q _ from IsTy.keep (fun b h => h.2) (fun _ _ => rfl) _ hy))
      clear hown hbel hb0 hb1 hx hy kn kl
      obtain ⟨q0, q1, _⟩ := HSK.out X (Turn.refl _ _)
      go_wp2_with fail
      go_region_held3 (fun w' => w'.cell? a = some (.int .i64 p.kind) ∧ w'.cell? ⟨a.block, a.off + 1, none⟩ = some (.slice A0 p.args.length c0) ∧ w'.cell? ⟨a.block, a.off + 2, none⟩ = some (.int .i64 q.kind) ∧ w'.cell? ⟨a.block, a.off + 2 + 1, none⟩ = some (.slice A1 q.args.length c1))
        (first | with_reducible exact HSK.out _ (Turn.drew _) | with_reducible exact HSK.out _ T1.out | with_reducible exact HSK.out _ T2.out | with_reducible exact HSK.out _ T3.out | go_keep)
        (first
          | (go_at_call 147
             (with_reducible refine (ok2_any (.mk 3 [p, q]) _ _ w4 HU.out.2.2.2 HV.out).mono ?_)
             rintro e w5 ⟨rfl, hb5⟩
             have G2 := Lib.hid (G1.out.trans (hb5.mono G1.out.size))
             have T2 := Lib.hid (Turn.call (X := (· = w.heap.size + 1)) G2.out)
             have T3 := Lib.hid (T2.out.trans (Turn.grown (only_set2 w5 (w.heap.size + 1) (.int .i64 (Ty.mk 3 [p, q]).kind) (.slice A4 (Ty.mk 3 [p, q]).args.length c4)) (fun k e => by cases e; rfl)))
             have HV5 := Lib.hid (show IsTy (fun b => X.heap.size ≤ b ∧ b < w5.heap.size) w5 (.mk 3 [p, q]) _ from IsTy.keep (fun b h => ⟨h.1, Nat.lt_of_lt_of_le h.2 hb5.size⟩) (fun x hx => hb5.cell hx.2) _ HVN.out)
             obtain ⟨_, _, f0, f1⟩ := (HK1.out.below G2.out HK1.out.lt).facts2
             clear hb5)
          | (go_at_call 56
             (with_reducible refine (two_any p q _ _ X.drew (by omega) (by omega) (HX.out.1.boxed' ((Below.refl X.heap.size X).drew)) (HX.out.2.boxed' ((Below.refl X.heap.size X).drew))).mono ?_)
             rintro e w4 ⟨v4, rfl, hv4, hb4⟩
             obtain ⟨A4, c4, rfl⟩ := hv4.form
             have G1 := Lib.hid (show Below X.heap.size X w4 from ((Below.refl _ X).drew).trans hb4)
             have T1 := Lib.hid (Turn.call (X := (· = w.heap.size + 1)) G1.out)
             have HV := Lib.hid (show IsTy (· < w4.heap.size) w4 (.mk 3 [p, q]) _ from IsTy.keep (fun b h => h.2) (fun _ _ => rfl) _ hv4)
             have HVN := Lib.hid (show IsTy (fun b => X.heap.size ≤ b ∧ b < w4.heap.size) w4 (.mk 3 [p, q]) _ from hv4)
             clear hv4 hb4))
      go_wp2_with fail
      obtain ⟨z0, z1, _, _⟩ := ((HK1.out.below G2.out HK1.out.lt).set2 (.int .i64 (Ty.mk 3 [p, q]).kind) (.slice A4 (Ty.mk 3 [p, q]).args.length c4)).facts2
      refine bodyPost_ret (v := .tuple #[.agg #[.int .i64 (Ty.mk 3 [p, q]).kind, .slice A4 (Ty.mk 3 [p, q]).args.length c4], .int .i64 0]) (by simp [results, Tryd.results107, go_sem, z0, z1]) rfl ?_
      rw [HU.out.1]
      exact infer_end (HIX.out.2.1.trans (G2.out.mono HIX.out.2.1.size)) (by have := G2.out.size; omega) (HV5.out.keep (fun b h => ⟨by omega, h.2⟩) (fun _ _ => rfl))
end Go.Proofs.YtdbkphgamkeboaaDoor
namespace Go.Proofs.YtdbkphgamkeboaaDoor
open Go.RowKit

set_option maxRecDepth 100000 in
set_option maxHeartbeats 4000000 in
theorem infer_3 (n : Nat) (hih : InferIH n) (i : Int) (T : Ty) (l : List Tm) (G : List Ty) (s v : Value) (U : Ty) (w : World) (hn : (Tm.mk 3 i T l).bulk ≤ n + 1) (hok : (Tm.mk 3 i T l).ok = true) (hG : ∀ T ∈ G, T.err = 0) (hGn : G.length + n + 1 ≤ 400000)
    (htyp : (Tm.mk 3 i T l).typ G = .ok U) (hs : TyR.Sl (· < w.heap.size) w G s) (hfs : Roomy s) (hT : IsTm (· < w.heap.size) w (.mk 3 i T l) v) : Calls Tryd.prog 107 #[s, v] w (InferR U w) := by
  obtain ⟨ps, hps, hnode⟩ := typ_parts (by decide) (by decide) htyp
  obtain ⟨B, d, A, c, rfl, hTT, hl⟩ := hT.mk_parts
  obtain ⟨As, cs, rfl⟩ := hs.form
  have hplen := typAll_len hps
  have hll := bulkAll_len l
  rw [okT_eq, Bool.and_eq_true] at hok
  have hfk := formed_kind hok.1
  simp only [Tm.kind, Tm.index, Tm.type, Tm.args] at hfk hok
  simp only [Tm.bulk] at hn
  have hpe := typAll_err l G hok.2 hG hps
  obtain ⟨W, hW, hbW, hz, k0, k1⟩ := box52_facts w (.int .i64 3) (.int .i64 i) (.int .i64 T.kind) (.slice B T.args.length d) (.slice A l.length c)
  have hTW : IsTy (· < w.heap.size) W T (.agg #[.int .i64 T.kind, .slice B T.args.length d]) := IsTy.keep (fun _ h => h) (fun p hp => hbW.cell hp) _ hTT
  obtain ⟨p0, p1, p2, p3, p4, _⟩ := k0.facts5
  have HI0 := Lib.hid (show InferI 3 i T l B A d c w (.slice none 0 0) [] W from ⟨Rep.Own.nil _ _ _, hbW, k0, k1⟩)
  have HIH := Lib.hid hih
  have HG := Lib.hid hG
  have HFS := Lib.hid hfs
  have HS := Lib.hid hs
  have HL := Lib.hid hl
  have HP := Lib.hid (And.intro hps (And.intro hnode (And.intro hpe hplen)))
  have HF := Lib.hid (And.intro hok hfk)
  have HT := Lib.hid hTT
  have HN := Lib.hid (show bulkAll l ≤ n by omega)
  clear hfs hih hG hs hl hps hnode hpe hplen hok hfk hT htyp k0 k1 hbW hTT hTW
  go_enter Tryd.func107, Tryd.ntmps107
  go_wp2_with fail
  rw [← hW]
  clear hW hz
  go_loopw [8, 69] (fun ls ix wr => ∃ j : Nat, j ≤ l.length ∧ ix = .int .i64 j ∧ InferI 3 i T l B A d c w ls (ps.take j) wr) (fun _ ix _ => l.length - (intOf ix).toNat)
  case atStart => exact ⟨0, Nat.zero_le _, rfl, HI0.out⟩
  case round =>
    obtain ⟨j, hj, rfl, hown, hbel, hb0, hb1⟩ := hrel
    clear p0 p1 p2 p3 p4
    by_cases hlt : j < l.length
    · have hlr : TmR.Sl (· < w.heap.size) wr l (.slice A l.length c) := HL.out.keep (fun _ h => h) (fun p hp => hbel.cell hp)
      obtain ⟨a, rfl, ha, hat⟩ := hlr.get j hlt
      obtain ⟨B1, d1, A1, c1, q0, q1, q2, q3, q4, hx⟩ := at_tm hat
      simp only [show TmR.n = 5 from rfl] at q0 q1 q2 q3 q4
      have hjp : j < ps.length := by have := HP.out.2.2.2; omega
      have hxt := typAll_get HP.out.1 j hlt hjp
      have hnj : l[j].bulk ≤ n := by have := bulkAll_get l j hlt; have := HN.out; omega
      have hxo := okAllT_get HF.out.1.2 j hlt
      have hlen : (ps.take j).length = j := by simp; omega
      have hwz := hbel.size
      have hGs : TyR.Sl (· < w.heap.size) wr G (.slice As G.length cs) := HS.out.keep (fun _ h => h) (fun p hp => hbel.cell hp)
      obtain ⟨i0, hi, hz0, hz1, hz2⟩ := info_parts info_type
      obtain ⟨xs, hox, hxs⟩ := hown
      have HX := Lib.hid (And.intro hx (And.intro hxt (And.intro hnj (And.intro hxo hGs))))
      have HLE := Lib.hid hlen
      have HO := Lib.hid (And.intro hox (And.intro hxs (And.intro hbel (And.intro hb0 hb1))))
      clear hlr hat hx hxt hnj hxo hGs hlen hox hxs hbel hb0 hb1
      go_wp2_with fail
      have bo := (Below.refl wr.heap.size wr).alloc (Nat.le_refl _) (Obj.cells #[.int .i64 l[j].kind, .int .i64 l[j].index, .int .i64 l[j].type.kind, .slice B1 l[j].type.args.length d1, .slice A1 l[j].args.length c1] 34)
      refine (HIH.out l[j] G (.slice As G.length cs) _ ps[j] _ HX.out.2.2.1 HX.out.2.2.2.1 HG.out (by omega) HX.out.2.1 (HX.out.2.2.2.2.keep (fun b h => by have h' : b < w.heap.size := h; simp; omega) (fun p hp => World.cell?_alloc_lt _ _ _ (by have h' : p.block < w.heap.size := hp; omega))) HFS.out
        (HX.out.1.keep (fun b h => by have h' : b < w.heap.size := h; simp; omega) (fun p hp => World.cell?_alloc_lt _ _ _ (by have h' : p.block < w.heap.size := hp; omega)))).mono ?_
      rintro e w1 ⟨hb2, v1, rfl, ht1⟩
      obtain ⟨A2, c2, rfl⟩ := ht1.form
      have hbw : Below wr.heap.size wr w1 := bo.trans (hb2.mono (by simp))
      have ht1' : IsTy (fun b => wr.heap.size ≤ b ∧ b < w1.heap.size) w1 ps[j] (.agg #[.int .i64 ps[j].kind, .slice A2 ps[j].args.length c2]) := IsTy.keep (fun b h => ⟨by have := h.1; simp at this; omega, h.2⟩) (fun _ _ => rfl) _ ht1
      have HT1 := Lib.hid ht1'
      have hg2w := only_of_below hbw none
      have hown1 := ((HO.out.1.kept hg2w (by cases u8.ownBlock <;> simp)).alloc (Obj.cells #[.int .i64 ps[j].kind, .slice A2 ps[j].args.length c2] 30)).alloc (Obj.cells #[.int .i64 ps[j].kind, .slice A2 ps[j].args.length c2] 30)
      have kY : Blk ((w1.alloc (Obj.cells #[.int .i64 ps[j].kind, .slice A2 ps[j].args.length c2] 30)).alloc (Obj.cells #[.int .i64 ps[j].kind, .slice A2 ps[j].args.length c2] 30)) (w1.heap.size + 1) 30 #[.int .i64 ps[j].kind, .slice A2 ps[j].args.length c2] := by
        have := Blk.new (w1.alloc (Obj.cells #[.int .i64 ps[j].kind, .slice A2 ps[j].args.length c2] 30)) 30 #[.int .i64 ps[j].kind, .slice A2 ps[j].args.length c2]
        rwa [World.size_alloc] at this
      have HKY := Lib.hid kY
      have HBW := Lib.hid hbw
      clear kY hb2 ht1 ht1' bo hg2w hbw
      go_wp2_with (at_builtin; go_loud (refine wpList_append_own_at _ rfl _ _ 27 rfl (w.heap.size + 2) 30 i0 _ 2 32 Tryd.underlying27 hi hz0 hz1 hz2 rfl (by decide) u8 (ps.take j).length xs rfl hown1 ⟨w1.heap.size + 1, 0, none⟩ 1 1 [_, _] rfl rfl (World.news_of_block HKY.out) (by simp [Value.oneCell']) (by have := HLE.out; simp only [maxLen]; omega) (by have := HLE.out; omega) (by have := HO.out.2.2.2.2.lt; have := HBW.out.size; simp; omega) ?_); intro v2 w2 hown2 hg2 hnil2 hat2)
      have HST := Lib.hid (infer_step HO.out.2.2.1 HO.out.2.2.2.1 HO.out.2.2.2.2 HBW.out hown1 (HO.out.2.1) HO.out.1.lt HT1.out hown2 hg2 hat2)
      exact ⟨⟨j + 1, by omega, by go_num, by rw [List.take_succ_eq_append_getElem hjp]; exact HST.out⟩, by simp [intOf]; omega⟩
    · have hjl : j = l.length := by omega
      have hI : InferI 3 i T l B A d c w u8 ps wr := by
        rw [List.take_of_length_le (by have := HP.out.2.2.2; omega)] at hown
        exact ⟨hown, hbel, hb0, hb1⟩
      obtain ⟨A3, c3, e3⟩ := hI.1.form
      subst e3
      have HI := Lib.hid hI
      subst hjl
      clear hown hbel hb0 hb1 hI
      go_wp2_with fail
      refine (nat_any _).mono ?_
      rintro e w2 ⟨rfl, hb2⟩
      go_wp2_with fail
      refine (list_any _).mono ?_
      rintro e w3 ⟨rfl, hb3⟩
      obtain ⟨X, hX, hIX, kn, kl, hz3, hzX⟩ := infer_mid HI.out hb2 hb3
      clear hb2 hb3
      go_upto_region 20 with fail
      rw [← hX]
      clear hX
      have HIX := Lib.hid hIX
      obtain ⟨y, u, hps1, hU1, hye⟩ : ∃ y u, ps = [.mk 4 [y, u], y] ∧ U = u ∧ y.err = 0 := by
        have h := HP.out.2.1
        have hpe := HP.out.2.2.1
        simp only [nodeTy] at h
        simp at h
        split at h
        · rename_i x z g
          split at h
          · rename_i hsm
            cases h
            have e := same_eq hsm
            subst e
            exact ⟨_, _, rfl, rfl, hpe _ (by simp)⟩
          · cases h
        · cases h
      have HU := Lib.hid hU1
      have HSMy := Lib.hid (show y.nodes ≤ 400000 by have := err_small hye; omega)
      subst hps1
      clear hU1 hye
      obtain ⟨hown, hbel, hb0, hb1⟩ := hIX
      obtain ⟨a, A0, A1, c0, c1, ca, ea, ha, q0, q1, q2, q3, hx, hy⟩ := sl_two hown.sl
      rw [ea]
      simp only [Ty.kind, Ty.args, List.length_cons, List.length_nil, Nat.reduceAdd] at q0 q1 hx
      obtain ⟨b, D0, e0, D1, e1, rfl, hbb, r0, r1, s0, s1, hp, hq⟩ := hx.two
      obtain ⟨m0, _⟩ := hb0.facts5
      have haX : a.block < X.heap.size := ha.2
      have hbX : b.block < X.heap.size := hbb.2
      have HK1 := Lib.hid hb1
      have HSK := Lib.hid fun (w' : World) (h : Below X.heap.size X w') => And.intro ((h.cell (p := a) haX).trans q0) (And.intro ((h.cell (p := ⟨a.block, a.off + 1, none⟩) haX).trans q1) (And.intro ((h.cell (p := ⟨a.block, a.off + 2, none⟩) haX).trans q2) (And.intro ((h.cell (p := ⟨a.block, a.off + 2 + 1, none⟩) haX).trans q3) (And.intro ((h.cell (p := b) hbX).trans r0) (And.intro ((h.cell (p := ⟨b.block, b.off + 1, none⟩) hbX).trans r1) (And.intro ((h.cell (p := ⟨b.block, b.off + 2, none⟩) hbX).trans s0) ((h.cell (p := ⟨b.block, b.off + 2 + 1, none⟩) hbX).trans s1)))))))
      have HX := Lib.hid (And.intro (show IsTy (· < X.heap.size) X y _ from IsTy.keep (fun b h => h.2) (fun _ _ => rfl) _ hp) (And.intro (show IsTy (· < X.heap.size) X y _ from IsTy.keep (fun b h => h.2) (fun _ _ => rfl) _ hy)
        (show IsTy (fun b => w.heap.size + 2 ≤ b ∧ b < X.heap.size) X u _ from IsTy.keep (fun b h => ⟨by have := h.1; omega, h.2⟩) (fun _ _ => rfl) _ hq)))
      clear hown hbel hb0 hb1 hx hy hp hq kn kl q0 q1 q2 q3 r0 r1 s0 s1
      obtain ⟨q0, q1, q2, q3, r0, r1, s0, s1⟩ := HSK.out X (Below.refl _ _)
      go_wp2_with fail
      go_region_held3 (fun w' => w'.cell? a = some (.int .i64 4) ∧ w'.cell? ⟨a.block, a.off + 1, none⟩ = some (.slice (some b) 2 c0) ∧ w'.cell? ⟨a.block, a.off + 2, none⟩ = some (.int .i64 y.kind) ∧ w'.cell? ⟨a.block, a.off + 2 + 1, none⟩ = some (.slice A1 y.args.length c1) ∧ w'.cell? b = some (.int .i64 y.kind) ∧ w'.cell? ⟨b.block, b.off + 1, none⟩ = some (.slice D0 y.args.length e0) ∧ w'.cell? ⟨b.block, b.off + 2, none⟩ = some (.int .i64 u.kind) ∧ w'.cell? ⟨b.block, b.off + 2 + 1, none⟩ = some (.slice D1 u.args.length e1))
        (first | with_reducible exact HSK.out _ (Below.refl _ _).drew | with_reducible exact HSK.out _ G1.out | go_keep)
        (first
          | (go_at_call 24
             (with_reducible refine (refSame_is (S := y) (T := y) (w := X.drew) true (eqb_self _) HSMy.out HSMy.out (HX.out.1.boxed' ((Below.refl X.heap.size X).drew)) (HX.out.2.1.boxed' ((Below.refl X.heap.size X).drew))).mono ?_)
             rintro e w4 ⟨rfl, hbb⟩
             have G1 := Lib.hid (show Below X.heap.size X w4 from ((Below.refl _ X).drew).trans hbb)
             clear hbb))
      clear q0 q1 q2 q3 r0 r1 s0 s1
      obtain ⟨q0, q1, q2, q3, r0, r1, s0, s1⟩ := HSK.out _ G1.out
      obtain ⟨_, _, f0, f1⟩ := (HK1.out.below G1.out HK1.out.lt).facts2
      go_wp2_with fail
      obtain ⟨z0, z1, _, _⟩ := ((HK1.out.below G1.out HK1.out.lt).set2 (.int .i64 u.kind) (.slice D1 u.args.length e1)).facts2
      refine bodyPost_ret (v := .tuple #[.agg #[.int .i64 u.kind, .slice D1 u.args.length e1], .int .i64 0]) (by simp [results, Tryd.results107, go_sem, z0, z1]) rfl ?_
      rw [HU.out]
      exact infer_end (HIX.out.2.1.trans (G1.out.mono HIX.out.2.1.size)) (by have := G1.out.size; omega) (HX.out.2.2.keep (fun b h => ⟨h.1, Nat.lt_of_lt_of_le h.2 G1.out.size⟩) (fun p hp => G1.out.cell hp.2))
end Go.Proofs.YtdbkphgamkeboaaDoor
