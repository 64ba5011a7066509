/- reduce.becomes. -/
import Derived.Test.YtifijgihcincfaaDoorPackRed
import Derived.Deep.AppendLies
import Derived.Deep.RegionLaw
namespace Go.Proofs.YtifijgihcincfaaDoor
open Go.RowKit

/-- A term, or the error that it is too large. -/
def BecR (S : Nat → Prop) (T : Tm) (w : World) (e : Ending) (w' : World) : Prop :=
  ∃ (k i tk : Int) (B A : Option Addr) (n d m c : Nat) (er : Int), e = .returned (.tuple #[.agg #[.int .i64 k, .int .i64 i, .int .i64 tk, .slice B n d, .slice A m c], .int .i64 er]) ∧ Below w.heap.size w w' ∧
    ((er = 0 ∧ T.size ≤ 4096 ∧ IsTm (fun b => (S b ∨ w.heap.size ≤ b) ∧ b < w'.heap.size) w' T (.agg #[.int .i64 k, .int .i64 i, .int .i64 tk, .slice B n d, .slice A m c])) ∨ (er = 4 ∧ 4096 < T.size))

theorem Turn.cellv {X : Nat → Prop} {w w' : World} (h : Turn X w w') {p : Addr} {u : Value} (hu : w.cell? p = some u) (hp : p.block < w.heap.size) (hx : ¬ X p.block) : w'.cell? p = some u := (World.cell?_of_block (h.block p.block hp hx)).trans hu
theorem putR_bec {S : Nat → Prop} {T : Tm} {w w' : World} {e : Ending} (h : PutR S T w e w') : BecR S T w e w' := by
  unfold PutR at h
  by_cases hs : T.size ≤ 4096
  · rw [if_pos hs] at h
    obtain ⟨v, rfl, ht, hb⟩ := h
    obtain ⟨B, d, A, c, rfl, _⟩ := IsTm.form ht
    exact ⟨_, _, _, _, _, _, _, _, _, _, rfl, hb, .inl ⟨rfl, hs, ht⟩⟩
  · rw [if_neg hs] at h
    exact ⟨_, _, _, _, _, _, _, _, _, _, h.1, h.2, .inr ⟨rfl, by omega⟩⟩


/-- The result is stored, and becomes ends: what lies in S or behind the call's own blocks. -/
theorem bec_end {S : Nat → Prop} {T : Tm} {w W W2 : World} {g lo : Nat} {k i tk er : Int} {B A : Option Addr} {n d m c : Nat} (hS : ∀ b, S b → b < w.heap.size) (hg : w.heap.size ≤ g) (hlo : g < lo) (hb : Below w.heap.size w W) (hgr : W.grownBy W2 (some g))
    (ht : (er = 0 ∧ T.size ≤ 4096 ∧ IsTm (fun b => (S b ∨ lo ≤ b) ∧ b < W.heap.size) W T (.agg #[.int .i64 k, .int .i64 i, .int .i64 tk, .slice B n d, .slice A m c])) ∨ (er = 4 ∧ 4096 < T.size)) :
    BecR S T w (.returned (.tuple #[.agg #[.int .i64 k, .int .i64 i, .int .i64 tk, .slice B n d, .slice A m c], .int .i64 er])) W2 := by
  refine ⟨_, _, _, _, _, _, _, _, _, _, rfl, hb.grown hgr hb.size (fun k e => by cases e; exact hg), ht.imp (fun h => ⟨h.1, h.2.1, ?_⟩) id⟩
  refine IsTm.keep (fun b h => ⟨h.1.imp id (fun x => by omega), Nat.lt_of_lt_of_le h.2 hgr.size⟩) (fun p hp => World.cell?_of_block (hgr.block p.block hp.2 (fun e => ?_))) _ h.2.2
  have e' : p.block = g := by simpa using e
  exact hp.1.elim (fun h => by have := hS _ h; omega) (fun h => by omega)

set_option maxRecDepth 100000 in
set_option maxHeartbeats 4000000 in
theorem becomes_fst (i : Int) (T : Ty) (jj : Int) (U : Ty) (x c : Tm) (v : Value) (S : Nat → Prop) (w : World) (hsz : x.size ≤ 4096) (hS : ∀ b, S b → b < w.heap.size) (hT : IsTm S w (.mk 11 i T [.mk 10 jj U [x, c]]) v) :
    Calls Tryd.prog 107 #[v] w (BecR S x w) := by
  obtain ⟨B, d0, A, a0, rfl, hty, hl⟩ := hT.mk_parts
  obtain ⟨a, Bf, df, Af, cf, rfl, ha, q0, q1, q2, q3, q4, hf⟩ := sl_child hl 0 (by simp)
  rw [Nat.zero_mul, add_zero'] at q0 q1 q2 q3 q4
  have hf : IsTm S w (.mk 10 jj U [x, c]) (.agg #[.int .i64 10, .int .i64 jj, .int .i64 U.kind, .slice Bf U.args.length df, .slice Af 2 cf]) := hf
  have q0 : w.cell? a = some (.int .i64 10) := q0
  have q1 : w.cell? ⟨a.block, a.off + 1, none⟩ = some (.int .i64 jj) := q1
  have q2 : w.cell? ⟨a.block, a.off + 2, none⟩ = some (.int .i64 U.kind) := q2
  have q3 : w.cell? ⟨a.block, a.off + 3, none⟩ = some (.slice Bf U.args.length df) := q3
  have q4 : w.cell? ⟨a.block, a.off + 4, none⟩ = some (.slice Af 2 cf) := q4
  go_enter Tryd.func107, Tryd.ntmps107
  go_upto_region 1 with fail
  obtain ⟨V, hV, b2, z2, k0, k1⟩ := alloc2_facts w #[.int .i64 11, .int .i64 i, .int .i64 T.kind, .slice B T.args.length d0, .slice (some a) 1 a0] #[.int .i64 0, .int .i64 0, .int .i64 0, .slice none 0 0, .slice none 0 0] 34 34
  have hV' : V = (w.alloc (Obj.cells #[.int .i64 11, .int .i64 i, .int .i64 T.kind, .slice B T.args.length d0, .slice (some a) 1 a0] 34)).alloc (Obj.cells #[.int .i64 0, .int .i64 0, .int .i64 0, .slice none 0 0, .slice none 0 0] 34) := hV
  rw [← hV']
  clear hV hV'
  obtain ⟨r0, r1, r2, r3, r4, _, _, _, _, _⟩ := k0.facts5
  have haw := hS _ ha
  have q0 := (b2.cell haw).trans q0
  have q1 := (b2.cell (p := ⟨a.block, a.off + 1, none⟩) haw).trans q1
  have q2 := (b2.cell (p := ⟨a.block, a.off + 2, none⟩) haw).trans q2
  have q3 := (b2.cell (p := ⟨a.block, a.off + 3, none⟩) haw).trans q3
  have q4 := (b2.cell (p := ⟨a.block, a.off + 4, none⟩) haw).trans q4
  go_upto_region 2 with fail
  obtain ⟨b3, z3, k2⟩ := new_blk b2 b2.size #[.int .i64 10, .int .i64 jj, .int .i64 U.kind, .slice Bf U.args.length df, .slice Af 2 cf] 34
  have k0 := k0.alloc (Obj.cells #[.int .i64 10, .int .i64 jj, .int .i64 U.kind, .slice Bf U.args.length df, .slice Af 2 cf] 34)
  have k1 := k1.alloc (Obj.cells #[.int .i64 10, .int .i64 jj, .int .i64 U.kind, .slice Bf U.args.length df, .slice Af 2 cf] 34)
  generalize V.alloc (Obj.cells #[.int .i64 10, .int .i64 jj, .int .i64 U.kind, .slice Bf U.args.length df, .slice Af 2 cf] 34) = W at b3 z3 k0 k1 k2 ⊢
  rw [z2] at k2 z3
  obtain ⟨r0, r1, r2, r3, r4, _, _, _, _, _⟩ := k0.facts5
  obtain ⟨_, _, _, _, _, f0, f1, f2, f3, f4⟩ := k1.facts5
  obtain ⟨p0, p1, p2, p3, p4, _, _, _, _, _⟩ := k2.facts5
  clear q0 q1 q2 q3 q4
  have HS := Lib.hid hS
  have HB := Lib.hid (And.intro b3 z3)
  have HK := Lib.hid (And.intro k0 (And.intro k1 k2))
  have hsl : TmR.Sl S w [x, c] (.slice Af 2 cf) := (isTm_iff.1 hf).2.2.2
  obtain ⟨ap, B2, d2, A2, c2, rfl, ha2, s0, s1, s2, s3, s4, hx⟩ := sl_child hsl 0 (by simp)
  have hx : IsTm S w x (.agg #[.int .i64 x.kind, .int .i64 x.index, .int .i64 x.type.kind, .slice B2 x.type.args.length d2, .slice A2 x.args.length c2]) := hx
  have haw2 := hS _ ha2
  have s0 : w.cell? (ap.add (0 * 5)) = some (.int .i64 x.kind) := s0
  have s1 : w.cell? ⟨(ap.add (0 * 5)).block, (ap.add (0 * 5)).off + 1, none⟩ = some (.int .i64 x.index) := s1
  have s2 : w.cell? ⟨(ap.add (0 * 5)).block, (ap.add (0 * 5)).off + 2, none⟩ = some (.int .i64 x.type.kind) := s2
  have s3 : w.cell? ⟨(ap.add (0 * 5)).block, (ap.add (0 * 5)).off + 3, none⟩ = some (.slice B2 x.type.args.length d2) := s3
  have s4 : w.cell? ⟨(ap.add (0 * 5)).block, (ap.add (0 * 5)).off + 4, none⟩ = some (.slice A2 x.args.length c2) := s4
  simp [Addr.add] at s0 s1 s2 s3 s4
  have s0 := (HB.out.1.cell (by exact haw2)).trans s0
  have s1 := (HB.out.1.cell (by exact haw2)).trans s1
  have s2 := (HB.out.1.cell (by exact haw2)).trans s2
  have s3 := (HB.out.1.cell (by exact haw2)).trans s3
  have s4 := (HB.out.1.cell (by exact haw2)).trans s4
  have HX := Lib.hid hx
  clear hx hf hty hl hT hS hsl b3 z3 k0 k1 k2 b2 z2
  go_wp2_with fail
  obtain ⟨y0, y1, y2, y3, y4⟩ := (HK.out.2.1.set5 (.int .i64 x.kind) (.int .i64 x.index) (.int .i64 x.type.kind) (.slice B2 x.type.args.length d2) (.slice A2 x.args.length c2)).cells5
  have hg := only_set5 W (w.heap.size + 1) (.int .i64 x.kind) (.int .i64 x.index) (.int .i64 x.type.kind) (.slice B2 x.type.args.length d2) (.slice A2 x.args.length c2)
  have hz := HB.out.2
  exact bodyPost_ret (v := .tuple #[.agg #[.int .i64 x.kind, .int .i64 x.index, .int .i64 x.type.kind, .slice B2 x.type.args.length d2, .slice A2 x.args.length c2], .int .i64 0]) (by simp [results, Tryd.results107, go_sem, y0, y1, y2, y3, y4]) rfl
    (bec_end HS.out (by omega) (lo := w.heap.size + 2) (by omega) HB.out.1 hg (.inl ⟨rfl, hsz, IsTm.keep (fun b h => ⟨.inl h, by have := HS.out b h; omega⟩) (fun p hp => HB.out.1.cell (HS.out _ hp)) _ HX.out⟩))

set_option maxRecDepth 100000 in
set_option maxHeartbeats 4000000 in
theorem becomes_snd (i : Int) (T : Ty) (jj : Int) (U : Ty) (x c : Tm) (v : Value) (S : Nat → Prop) (w : World) (hsz : c.size ≤ 4096) (hS : ∀ b, S b → b < w.heap.size) (hT : IsTm S w (.mk 12 i T [.mk 10 jj U [x, c]]) v) :
    Calls Tryd.prog 107 #[v] w (BecR S c w) := by
  obtain ⟨B, d0, A, a0, rfl, hty, hl⟩ := hT.mk_parts
  obtain ⟨a, Bf, df, Af, cf, rfl, ha, q0, q1, q2, q3, q4, hf⟩ := sl_child hl 0 (by simp)
  rw [Nat.zero_mul, add_zero'] at q0 q1 q2 q3 q4
  have hf : IsTm S w (.mk 10 jj U [x, c]) (.agg #[.int .i64 10, .int .i64 jj, .int .i64 U.kind, .slice Bf U.args.length df, .slice Af 2 cf]) := hf
  have q0 : w.cell? a = some (.int .i64 10) := q0
  have q1 : w.cell? ⟨a.block, a.off + 1, none⟩ = some (.int .i64 jj) := q1
  have q2 : w.cell? ⟨a.block, a.off + 2, none⟩ = some (.int .i64 U.kind) := q2
  have q3 : w.cell? ⟨a.block, a.off + 3, none⟩ = some (.slice Bf U.args.length df) := q3
  have q4 : w.cell? ⟨a.block, a.off + 4, none⟩ = some (.slice Af 2 cf) := q4
  go_enter Tryd.func107, Tryd.ntmps107
  go_upto_region 1 with fail
  obtain ⟨V, hV, b2, z2, k0, k1⟩ := alloc2_facts w #[.int .i64 12, .int .i64 i, .int .i64 T.kind, .slice B T.args.length d0, .slice (some a) 1 a0] #[.int .i64 0, .int .i64 0, .int .i64 0, .slice none 0 0, .slice none 0 0] 34 34
  have hV' : V = (w.alloc (Obj.cells #[.int .i64 12, .int .i64 i, .int .i64 T.kind, .slice B T.args.length d0, .slice (some a) 1 a0] 34)).alloc (Obj.cells #[.int .i64 0, .int .i64 0, .int .i64 0, .slice none 0 0, .slice none 0 0] 34) := hV
  rw [← hV']
  clear hV hV'
  obtain ⟨r0, r1, r2, r3, r4, _, _, _, _, _⟩ := k0.facts5
  have haw := hS _ ha
  have q0 := (b2.cell haw).trans q0
  have q1 := (b2.cell (p := ⟨a.block, a.off + 1, none⟩) haw).trans q1
  have q2 := (b2.cell (p := ⟨a.block, a.off + 2, none⟩) haw).trans q2
  have q3 := (b2.cell (p := ⟨a.block, a.off + 3, none⟩) haw).trans q3
  have q4 := (b2.cell (p := ⟨a.block, a.off + 4, none⟩) haw).trans q4
  go_upto_region 2 with fail
  obtain ⟨b3, z3, k2⟩ := new_blk b2 b2.size #[.int .i64 10, .int .i64 jj, .int .i64 U.kind, .slice Bf U.args.length df, .slice Af 2 cf] 34
  have k0 := k0.alloc (Obj.cells #[.int .i64 10, .int .i64 jj, .int .i64 U.kind, .slice Bf U.args.length df, .slice Af 2 cf] 34)
  have k1 := k1.alloc (Obj.cells #[.int .i64 10, .int .i64 jj, .int .i64 U.kind, .slice Bf U.args.length df, .slice Af 2 cf] 34)
  generalize V.alloc (Obj.cells #[.int .i64 10, .int .i64 jj, .int .i64 U.kind, .slice Bf U.args.length df, .slice Af 2 cf] 34) = W at b3 z3 k0 k1 k2 ⊢
  rw [z2] at k2 z3
  obtain ⟨r0, r1, r2, r3, r4, _, _, _, _, _⟩ := k0.facts5
  obtain ⟨_, _, _, _, _, f0, f1, f2, f3, f4⟩ := k1.facts5
  obtain ⟨p0, p1, p2, p3, p4, _, _, _, _, _⟩ := k2.facts5
  clear q0 q1 q2 q3 q4
  have HS := Lib.hid hS
  have HB := Lib.hid (And.intro b3 z3)
  have HK := Lib.hid (And.intro k0 (And.intro k1 k2))
  have hsl : TmR.Sl S w [x, c] (.slice Af 2 cf) := (isTm_iff.1 hf).2.2.2
  obtain ⟨ap, B2, d2, A2, c2, rfl, ha2, s0, s1, s2, s3, s4, hx⟩ := sl_child hsl 1 (by simp)
  have hx : IsTm S w c (.agg #[.int .i64 c.kind, .int .i64 c.index, .int .i64 c.type.kind, .slice B2 c.type.args.length d2, .slice A2 c.args.length c2]) := hx
  have haw2 := hS _ ha2
  have s0 : w.cell? (ap.add (1 * 5)) = some (.int .i64 c.kind) := s0
  have s1 : w.cell? ⟨(ap.add (1 * 5)).block, (ap.add (1 * 5)).off + 1, none⟩ = some (.int .i64 c.index) := s1
  have s2 : w.cell? ⟨(ap.add (1 * 5)).block, (ap.add (1 * 5)).off + 2, none⟩ = some (.int .i64 c.type.kind) := s2
  have s3 : w.cell? ⟨(ap.add (1 * 5)).block, (ap.add (1 * 5)).off + 3, none⟩ = some (.slice B2 c.type.args.length d2) := s3
  have s4 : w.cell? ⟨(ap.add (1 * 5)).block, (ap.add (1 * 5)).off + 4, none⟩ = some (.slice A2 c.args.length c2) := s4
  simp [Addr.add] at s0 s1 s2 s3 s4
  have s0 := (HB.out.1.cell (by exact haw2)).trans s0
  have s1 := (HB.out.1.cell (by exact haw2)).trans s1
  have s2 := (HB.out.1.cell (by exact haw2)).trans s2
  have s3 := (HB.out.1.cell (by exact haw2)).trans s3
  have s4 := (HB.out.1.cell (by exact haw2)).trans s4
  have HX := Lib.hid hx
  clear hx hf hty hl hT hS hsl b3 z3 k0 k1 k2 b2 z2
  go_wp2_with fail
  obtain ⟨y0, y1, y2, y3, y4⟩ := (HK.out.2.1.set5 (.int .i64 c.kind) (.int .i64 c.index) (.int .i64 c.type.kind) (.slice B2 c.type.args.length d2) (.slice A2 c.args.length c2)).cells5
  have hg := only_set5 W (w.heap.size + 1) (.int .i64 c.kind) (.int .i64 c.index) (.int .i64 c.type.kind) (.slice B2 c.type.args.length d2) (.slice A2 c.args.length c2)
  have hz := HB.out.2
  exact bodyPost_ret (v := .tuple #[.agg #[.int .i64 c.kind, .int .i64 c.index, .int .i64 c.type.kind, .slice B2 c.type.args.length d2, .slice A2 c.args.length c2], .int .i64 0]) (by simp [results, Tryd.results107, go_sem, y0, y1, y2, y3, y4]) rfl
    (bec_end HS.out (by omega) (lo := w.heap.size + 2) (by omega) HB.out.1 hg (.inl ⟨rfl, hsz, IsTm.keep (fun b h => ⟨.inl h, by have := HS.out b h; omega⟩) (fun p hp => HB.out.1.cell (HS.out _ hp)) _ HX.out⟩))

set_option maxRecDepth 100000 in
set_option maxHeartbeats 4000000 in
theorem becomes_zero (i : Int) (T : Ty) (b f : Tm) (jj : Int) (U : Ty) (v : Value) (S : Nat → Prop) (w : World) (hsz : b.size ≤ 4096) (hS : ∀ b, S b → b < w.heap.size) (hT : IsTm S w (.mk 6 i T [b, f, .mk 4 jj U []]) v) :
    Calls Tryd.prog 107 #[v] w (BecR S b w) := by
  obtain ⟨B, d0, A, a0, rfl, hty, hl⟩ := hT.mk_parts
  obtain ⟨a, Bf, df, Af, cf, rfl, ha, q0, q1, q2, q3, q4, hf⟩ := sl_child hl 0 (by simp)
  rw [Nat.zero_mul, add_zero'] at q0 q1 q2 q3 q4
  have hf : IsTm S w b (.agg #[.int .i64 b.kind, .int .i64 b.index, .int .i64 b.type.kind, .slice Bf b.type.args.length df, .slice Af b.args.length cf]) := hf
  have q0 : w.cell? a = some (.int .i64 b.kind) := q0
  have q1 : w.cell? ⟨a.block, a.off + 1, none⟩ = some (.int .i64 b.index) := q1
  have q2 : w.cell? ⟨a.block, a.off + 2, none⟩ = some (.int .i64 b.type.kind) := q2
  have q3 : w.cell? ⟨a.block, a.off + 3, none⟩ = some (.slice Bf b.type.args.length df) := q3
  have q4 : w.cell? ⟨a.block, a.off + 4, none⟩ = some (.slice Af b.args.length cf) := q4
  go_enter Tryd.func107, Tryd.ntmps107
  go_upto_region 1 with fail
  obtain ⟨V, hV, b2, z2, k0, k1⟩ := alloc2_facts w #[.int .i64 6, .int .i64 i, .int .i64 T.kind, .slice B T.args.length d0, .slice (some a) 3 a0] #[.int .i64 0, .int .i64 0, .int .i64 0, .slice none 0 0, .slice none 0 0] 34 34
  have hV' : V = (w.alloc (Obj.cells #[.int .i64 6, .int .i64 i, .int .i64 T.kind, .slice B T.args.length d0, .slice (some a) 3 a0] 34)).alloc (Obj.cells #[.int .i64 0, .int .i64 0, .int .i64 0, .slice none 0 0, .slice none 0 0] 34) := hV
  rw [← hV']
  clear hV hV'
  obtain ⟨r0, r1, r2, r3, r4, _, _, _, _, _⟩ := k0.facts5
  have haw := hS _ ha
  have q0 := (b2.cell haw).trans q0
  have q1 := (b2.cell (p := ⟨a.block, a.off + 1, none⟩) haw).trans q1
  have q2 := (b2.cell (p := ⟨a.block, a.off + 2, none⟩) haw).trans q2
  have q3 := (b2.cell (p := ⟨a.block, a.off + 3, none⟩) haw).trans q3
  have q4 := (b2.cell (p := ⟨a.block, a.off + 4, none⟩) haw).trans q4
  go_upto_region 2 with fail
  obtain ⟨b3, z3, k2⟩ := new_blk b2 b2.size #[.int .i64 b.kind, .int .i64 b.index, .int .i64 b.type.kind, .slice Bf b.type.args.length df, .slice Af b.args.length cf] 34
  have k0 := k0.alloc (Obj.cells #[.int .i64 b.kind, .int .i64 b.index, .int .i64 b.type.kind, .slice Bf b.type.args.length df, .slice Af b.args.length cf] 34)
  have k1 := k1.alloc (Obj.cells #[.int .i64 b.kind, .int .i64 b.index, .int .i64 b.type.kind, .slice Bf b.type.args.length df, .slice Af b.args.length cf] 34)
  generalize V.alloc (Obj.cells #[.int .i64 b.kind, .int .i64 b.index, .int .i64 b.type.kind, .slice Bf b.type.args.length df, .slice Af b.args.length cf] 34) = W at b3 z3 k0 k1 k2 ⊢
  rw [z2] at k2 z3
  obtain ⟨r0, r1, r2, r3, r4, _, _, _, _, _⟩ := k0.facts5
  obtain ⟨_, _, _, _, _, f0, f1, f2, f3, f4⟩ := k1.facts5
  obtain ⟨p0, p1, p2, p3, p4, _, _, _, _, _⟩ := k2.facts5
  clear q0 q1 q2 q3 q4
  have HS := Lib.hid hS
  have HB := Lib.hid (And.intro b3 z3)
  have HK := Lib.hid (And.intro k0 (And.intro k1 k2))
  obtain ⟨ap, B2, d2, A2, c2, e2, ha2, _, _, _, _, s4, _⟩ := sl_child hl 2 (by simp)
  have e2 : ap = a := by simpa using e2.symm
  subst e2
  have s4 : w.cell? ⟨(ap.add (2 * 5)).block, (ap.add (2 * 5)).off + 4, none⟩ = some (.slice A2 0 c2) := s4
  simp [Addr.add] at s4
  have s4 := (HB.out.1.cell (by exact haw)).trans s4
  have HX := Lib.hid hf
  clear hf hty hl hT hS b3 z3 k0 k1 k2 b2 z2
  go_wp2_with fail
  obtain ⟨y0, y1, y2, y3, y4⟩ := (HK.out.2.1.set5 (.int .i64 b.kind) (.int .i64 b.index) (.int .i64 b.type.kind) (.slice Bf b.type.args.length df) (.slice Af b.args.length cf)).cells5
  have hg := only_set5 W (w.heap.size + 1) (.int .i64 b.kind) (.int .i64 b.index) (.int .i64 b.type.kind) (.slice Bf b.type.args.length df) (.slice Af b.args.length cf)
  have hz := HB.out.2
  exact bodyPost_ret (v := .tuple #[.agg #[.int .i64 b.kind, .int .i64 b.index, .int .i64 b.type.kind, .slice Bf b.type.args.length df, .slice Af b.args.length cf], .int .i64 0]) (by simp [results, Tryd.results107, go_sem, y0, y1, y2, y3, y4]) rfl
    (bec_end HS.out (by omega) (lo := w.heap.size + 2) (by omega) HB.out.1 hg (.inl ⟨rfl, hsz, IsTm.keep (fun b h => ⟨.inl h, by have := HS.out b h; omega⟩) (fun p hp => HB.out.1.cell (HS.out _ hp)) _ HX.out⟩))

set_option maxRecDepth 100000 in
set_option maxHeartbeats 4000000 in
theorem becomes_nil (i : Int) (T : Ty) (b f : Tm) (jj : Int) (U : Ty) (v : Value) (S : Nat → Prop) (w : World) (hsz : b.size ≤ 4096) (hS : ∀ b, S b → b < w.heap.size) (hT : IsTm S w (.mk 9 i T [b, f, .mk 7 jj U []]) v) :
    Calls Tryd.prog 107 #[v] w (BecR S b w) := by
  obtain ⟨B, d0, A, a0, rfl, hty, hl⟩ := hT.mk_parts
  obtain ⟨a, Bf, df, Af, cf, rfl, ha, q0, q1, q2, q3, q4, hf⟩ := sl_child hl 0 (by simp)
  rw [Nat.zero_mul, add_zero'] at q0 q1 q2 q3 q4
  have hf : IsTm S w b (.agg #[.int .i64 b.kind, .int .i64 b.index, .int .i64 b.type.kind, .slice Bf b.type.args.length df, .slice Af b.args.length cf]) := hf
  have q0 : w.cell? a = some (.int .i64 b.kind) := q0
  have q1 : w.cell? ⟨a.block, a.off + 1, none⟩ = some (.int .i64 b.index) := q1
  have q2 : w.cell? ⟨a.block, a.off + 2, none⟩ = some (.int .i64 b.type.kind) := q2
  have q3 : w.cell? ⟨a.block, a.off + 3, none⟩ = some (.slice Bf b.type.args.length df) := q3
  have q4 : w.cell? ⟨a.block, a.off + 4, none⟩ = some (.slice Af b.args.length cf) := q4
  go_enter Tryd.func107, Tryd.ntmps107
  go_upto_region 1 with fail
  obtain ⟨V, hV, b2, z2, k0, k1⟩ := alloc2_facts w #[.int .i64 9, .int .i64 i, .int .i64 T.kind, .slice B T.args.length d0, .slice (some a) 3 a0] #[.int .i64 0, .int .i64 0, .int .i64 0, .slice none 0 0, .slice none 0 0] 34 34
  have hV' : V = (w.alloc (Obj.cells #[.int .i64 9, .int .i64 i, .int .i64 T.kind, .slice B T.args.length d0, .slice (some a) 3 a0] 34)).alloc (Obj.cells #[.int .i64 0, .int .i64 0, .int .i64 0, .slice none 0 0, .slice none 0 0] 34) := hV
  rw [← hV']
  clear hV hV'
  obtain ⟨r0, r1, r2, r3, r4, _, _, _, _, _⟩ := k0.facts5
  have haw := hS _ ha
  have q0 := (b2.cell haw).trans q0
  have q1 := (b2.cell (p := ⟨a.block, a.off + 1, none⟩) haw).trans q1
  have q2 := (b2.cell (p := ⟨a.block, a.off + 2, none⟩) haw).trans q2
  have q3 := (b2.cell (p := ⟨a.block, a.off + 3, none⟩) haw).trans q3
  have q4 := (b2.cell (p := ⟨a.block, a.off + 4, none⟩) haw).trans q4
  go_upto_region 2 with fail
  obtain ⟨b3, z3, k2⟩ := new_blk b2 b2.size #[.int .i64 b.kind, .int .i64 b.index, .int .i64 b.type.kind, .slice Bf b.type.args.length df, .slice Af b.args.length cf] 34
  have k0 := k0.alloc (Obj.cells #[.int .i64 b.kind, .int .i64 b.index, .int .i64 b.type.kind, .slice Bf b.type.args.length df, .slice Af b.args.length cf] 34)
  have k1 := k1.alloc (Obj.cells #[.int .i64 b.kind, .int .i64 b.index, .int .i64 b.type.kind, .slice Bf b.type.args.length df, .slice Af b.args.length cf] 34)
  generalize V.alloc (Obj.cells #[.int .i64 b.kind, .int .i64 b.index, .int .i64 b.type.kind, .slice Bf b.type.args.length df, .slice Af b.args.length cf] 34) = W at b3 z3 k0 k1 k2 ⊢
  rw [z2] at k2 z3
  obtain ⟨r0, r1, r2, r3, r4, _, _, _, _, _⟩ := k0.facts5
  obtain ⟨_, _, _, _, _, f0, f1, f2, f3, f4⟩ := k1.facts5
  obtain ⟨p0, p1, p2, p3, p4, _, _, _, _, _⟩ := k2.facts5
  clear q0 q1 q2 q3 q4
  have HS := Lib.hid hS
  have HB := Lib.hid (And.intro b3 z3)
  have HK := Lib.hid (And.intro k0 (And.intro k1 k2))
  obtain ⟨ap, B2, d2, A2, c2, e2, ha2, _, _, _, _, s4, _⟩ := sl_child hl 2 (by simp)
  have e2 : ap = a := by simpa using e2.symm
  subst e2
  have s4 : w.cell? ⟨(ap.add (2 * 5)).block, (ap.add (2 * 5)).off + 4, none⟩ = some (.slice A2 0 c2) := s4
  simp [Addr.add] at s4
  have s4 := (HB.out.1.cell (by exact haw)).trans s4
  have HX := Lib.hid hf
  clear hf hty hl hT hS b3 z3 k0 k1 k2 b2 z2
  go_wp2_with fail
  obtain ⟨y0, y1, y2, y3, y4⟩ := (HK.out.2.1.set5 (.int .i64 b.kind) (.int .i64 b.index) (.int .i64 b.type.kind) (.slice Bf b.type.args.length df) (.slice Af b.args.length cf)).cells5
  have hg := only_set5 W (w.heap.size + 1) (.int .i64 b.kind) (.int .i64 b.index) (.int .i64 b.type.kind) (.slice Bf b.type.args.length df) (.slice Af b.args.length cf)
  have hz := HB.out.2
  exact bodyPost_ret (v := .tuple #[.agg #[.int .i64 b.kind, .int .i64 b.index, .int .i64 b.type.kind, .slice Bf b.type.args.length df, .slice Af b.args.length cf], .int .i64 0]) (by simp [results, Tryd.results107, go_sem, y0, y1, y2, y3, y4]) rfl
    (bec_end HS.out (by omega) (lo := w.heap.size + 2) (by omega) HB.out.1 hg (.inl ⟨rfl, hsz, IsTm.keep (fun b h => ⟨.inl h, by have := HS.out b h; omega⟩) (fun p hp => HB.out.1.cell (HS.out _ hp)) _ HX.out⟩))

set_option maxRecDepth 100000 in
set_option maxHeartbeats 4000000 in
theorem becomes_app (i : Int) (T : Ty) (jj : Int) (U : Ty) (b x : Tm) (v : Value) (S : Nat → Prop) (w : World) (hbe : b.err = 0) (hxe : x.err = 0) (hbb : b.bulk ≤ 390000) (hxb : x.bulk ≤ 390000) (hbl : b.low 536870912 = true) (hxl : x.low 536870912 = true) (htab : Tab w) (hS : ∀ b, S b → b < w.heap.size) (hT : IsTm S w (.mk 3 i T [.mk 2 jj U [b], x]) v) :
    Calls Tryd.prog 107 #[v] w (BecR S (b.put 0 x) w) := by
  obtain ⟨B, d0, A, a0, rfl, hty, hl⟩ := hT.mk_parts
  obtain ⟨a, Bf, df, Af, cf, rfl, ha, q0, q1, q2, q3, q4, hf⟩ := sl_child hl 0 (by simp)
  rw [Nat.zero_mul, add_zero'] at q0 q1 q2 q3 q4
  have hf : IsTm S w (.mk 2 jj U [b]) (.agg #[.int .i64 2, .int .i64 jj, .int .i64 U.kind, .slice Bf U.args.length df, .slice Af 1 cf]) := hf
  have q0 : w.cell? a = some (.int .i64 2) := q0
  have q1 : w.cell? ⟨a.block, a.off + 1, none⟩ = some (.int .i64 jj) := q1
  have q2 : w.cell? ⟨a.block, a.off + 2, none⟩ = some (.int .i64 U.kind) := q2
  have q3 : w.cell? ⟨a.block, a.off + 3, none⟩ = some (.slice Bf U.args.length df) := q3
  have q4 : w.cell? ⟨a.block, a.off + 4, none⟩ = some (.slice Af 1 cf) := q4
  go_enter Tryd.func107, Tryd.ntmps107
  go_upto_region 1 with fail
  obtain ⟨V, hV, b2, z2, k0, k1⟩ := alloc2_facts w #[.int .i64 3, .int .i64 i, .int .i64 T.kind, .slice B T.args.length d0, .slice (some a) 2 a0] #[.int .i64 0, .int .i64 0, .int .i64 0, .slice none 0 0, .slice none 0 0] 34 34
  have hV' : V = (w.alloc (Obj.cells #[.int .i64 3, .int .i64 i, .int .i64 T.kind, .slice B T.args.length d0, .slice (some a) 2 a0] 34)).alloc (Obj.cells #[.int .i64 0, .int .i64 0, .int .i64 0, .slice none 0 0, .slice none 0 0] 34) := hV
  rw [← hV']
  clear hV hV'
  obtain ⟨r0, r1, r2, r3, r4, _, _, _, _, _⟩ := k0.facts5
  have haw := hS _ ha
  have q0 := (b2.cell haw).trans q0
  have q1 := (b2.cell (p := ⟨a.block, a.off + 1, none⟩) haw).trans q1
  have q2 := (b2.cell (p := ⟨a.block, a.off + 2, none⟩) haw).trans q2
  have q3 := (b2.cell (p := ⟨a.block, a.off + 3, none⟩) haw).trans q3
  have q4 := (b2.cell (p := ⟨a.block, a.off + 4, none⟩) haw).trans q4
  go_upto_region 2 with fail
  obtain ⟨b3, z3, k2⟩ := new_blk b2 b2.size #[.int .i64 2, .int .i64 jj, .int .i64 U.kind, .slice Bf U.args.length df, .slice Af 1 cf] 34
  have k0 := k0.alloc (Obj.cells #[.int .i64 2, .int .i64 jj, .int .i64 U.kind, .slice Bf U.args.length df, .slice Af 1 cf] 34)
  have k1 := k1.alloc (Obj.cells #[.int .i64 2, .int .i64 jj, .int .i64 U.kind, .slice Bf U.args.length df, .slice Af 1 cf] 34)
  generalize V.alloc (Obj.cells #[.int .i64 2, .int .i64 jj, .int .i64 U.kind, .slice Bf U.args.length df, .slice Af 1 cf] 34) = W at b3 z3 k0 k1 k2 ⊢
  rw [z2] at k2 z3
  obtain ⟨r0, r1, r2, r3, r4, _, _, _, _, _⟩ := k0.facts5
  obtain ⟨_, _, _, _, _, f0, f1, f2, f3, f4⟩ := k1.facts5
  obtain ⟨p0, p1, p2, p3, p4, _, _, _, _, _⟩ := k2.facts5
  clear q0 q1 q2 q3 q4
  have HS := Lib.hid hS
  have HB := Lib.hid (And.intro b3 z3)
  have HK := Lib.hid (And.intro k0 (And.intro k1 k2))
  have hsl : TmR.Sl S w [b] (.slice Af 1 cf) := (isTm_iff.1 hf).2.2.2
  obtain ⟨ap, B2, d2, A2, c2, rfl, ha2, s0, s1, s2, s3, s4, hb⟩ := sl_child hsl 0 (by simp)
  have hb : IsTm S w b (.agg #[.int .i64 b.kind, .int .i64 b.index, .int .i64 b.type.kind, .slice B2 b.type.args.length d2, .slice A2 b.args.length c2]) := hb
  have haw2 := hS _ ha2
  have s0 : w.cell? (ap.add (0 * 5)) = some (.int .i64 b.kind) := s0
  have s1 : w.cell? ⟨(ap.add (0 * 5)).block, (ap.add (0 * 5)).off + 1, none⟩ = some (.int .i64 b.index) := s1
  have s2 : w.cell? ⟨(ap.add (0 * 5)).block, (ap.add (0 * 5)).off + 2, none⟩ = some (.int .i64 b.type.kind) := s2
  have s3 : w.cell? ⟨(ap.add (0 * 5)).block, (ap.add (0 * 5)).off + 3, none⟩ = some (.slice B2 b.type.args.length d2) := s3
  have s4 : w.cell? ⟨(ap.add (0 * 5)).block, (ap.add (0 * 5)).off + 4, none⟩ = some (.slice A2 b.args.length c2) := s4
  simp [Addr.add] at s0 s1 s2 s3 s4
  have s0 := (HB.out.1.cell (by exact haw2)).trans s0
  have s1 := (HB.out.1.cell (by exact haw2)).trans s1
  have s2 := (HB.out.1.cell (by exact haw2)).trans s2
  have s3 := (HB.out.1.cell (by exact haw2)).trans s3
  have s4 := (HB.out.1.cell (by exact haw2)).trans s4
  obtain ⟨aq, B3, d3, A3, c3, e3, ha3, u0, u1, u2, u3, u4, hx⟩ := sl_child hl 1 (by simp)
  have e3 : aq = a := by simpa using e3.symm
  subst e3
  have hx : IsTm S w x (.agg #[.int .i64 x.kind, .int .i64 x.index, .int .i64 x.type.kind, .slice B3 x.type.args.length d3, .slice A3 x.args.length c3]) := hx
  have u0 : w.cell? (aq.add (1 * 5)) = some (.int .i64 x.kind) := u0
  have u1 : w.cell? ⟨(aq.add (1 * 5)).block, (aq.add (1 * 5)).off + 1, none⟩ = some (.int .i64 x.index) := u1
  have u2 : w.cell? ⟨(aq.add (1 * 5)).block, (aq.add (1 * 5)).off + 2, none⟩ = some (.int .i64 x.type.kind) := u2
  have u3 : w.cell? ⟨(aq.add (1 * 5)).block, (aq.add (1 * 5)).off + 3, none⟩ = some (.slice B3 x.type.args.length d3) := u3
  have u4 : w.cell? ⟨(aq.add (1 * 5)).block, (aq.add (1 * 5)).off + 4, none⟩ = some (.slice A3 x.args.length c3) := u4
  simp [Addr.add] at u0 u1 u2 u3 u4
  have u0 := (HB.out.1.cell (by exact haw)).trans u0
  have u1 := (HB.out.1.cell (by exact haw)).trans u1
  have u2 := (HB.out.1.cell (by exact haw)).trans u2
  have u3 := (HB.out.1.cell (by exact haw)).trans u3
  have u4 := (HB.out.1.cell (by exact haw)).trans u4
  have HX := Lib.hid (And.intro hb hx)
  have HTab := Lib.hid (htab.after HB.out.1)
  have hzW := HB.out.2
  have HSK := Lib.hid fun (w' : World) (h : Turn (· = w.heap.size + 1) W w') => And.intro (h.blk HK.out.1 (by omega)).facts5.2.2.2.2.1 (And.intro (h.blk HK.out.2.2 (by omega)).facts5.2.2.2.2.1
    (And.intro (h.cellv s0 (show ap.block < W.heap.size by omega) (show ¬ ap.block = w.heap.size + 1 by omega)) (And.intro (h.cellv s1 (show ap.block < W.heap.size by omega) (show ¬ ap.block = w.heap.size + 1 by omega)) (And.intro (h.cellv s2 (show ap.block < W.heap.size by omega) (show ¬ ap.block = w.heap.size + 1 by omega)) (And.intro (h.cellv s3 (show ap.block < W.heap.size by omega) (show ¬ ap.block = w.heap.size + 1 by omega)) (And.intro (h.cellv s4 (show ap.block < W.heap.size by omega) (show ¬ ap.block = w.heap.size + 1 by omega))
    (And.intro (h.cellv u0 (show aq.block < W.heap.size by omega) (show ¬ aq.block = w.heap.size + 1 by omega)) (And.intro (h.cellv u1 (show aq.block < W.heap.size by omega) (show ¬ aq.block = w.heap.size + 1 by omega)) (And.intro (h.cellv u2 (show aq.block < W.heap.size by omega) (show ¬ aq.block = w.heap.size + 1 by omega)) (And.intro (h.cellv u3 (show aq.block < W.heap.size by omega) (show ¬ aq.block = w.heap.size + 1 by omega)) (h.cellv u4 (show aq.block < W.heap.size by omega) (show ¬ aq.block = w.heap.size + 1 by omega))))))))))))
  have QD := Lib.hid (show Turn (· = w.heap.size + 1) W W.drew from Turn.drew W)
  clear hx hb hf hty hl hT hS hsl b3 z3 k0 k1 k2 b2 z2 htab f0 f1 f2 f3 f4
  go_upto_region 4 with fail
  go_region_held3 (fun w' => w'.cell? ⟨w.heap.size, 4, none⟩ = some (.slice (some aq) 2 a0) ∧ w'.cell? ⟨w.heap.size + 1 + 1, 4, none⟩ = some (.slice (some ap) 1 cf) ∧ w'.cell? ap = some (.int .i64 b.kind) ∧ w'.cell? ⟨ap.block, ap.off + 1, none⟩ = some (.int .i64 b.index) ∧ w'.cell? ⟨ap.block, ap.off + 2, none⟩ = some (.int .i64 b.type.kind) ∧ w'.cell? ⟨ap.block, ap.off + 3, none⟩ = some (.slice B2 b.type.args.length d2) ∧ w'.cell? ⟨ap.block, ap.off + 4, none⟩ = some (.slice A2 b.args.length c2) ∧
      w'.cell? ⟨aq.block, aq.off + 5, none⟩ = some (.int .i64 x.kind) ∧ w'.cell? ⟨aq.block, aq.off + 5 + 1, none⟩ = some (.int .i64 x.index) ∧ w'.cell? ⟨aq.block, aq.off + 5 + 2, none⟩ = some (.int .i64 x.type.kind) ∧ w'.cell? ⟨aq.block, aq.off + 5 + 3, none⟩ = some (.slice B3 x.type.args.length d3) ∧ w'.cell? ⟨aq.block, aq.off + 5 + 4, none⟩ = some (.slice A3 x.args.length c3))
    (first | with_reducible exact HSK.out _ QD.out | with_reducible exact HSK.out _ T5.out | with_reducible exact HSK.out _ TF.out)
    (first
      | (go_at_call 117
         have P5 := (putTop_any b x _ _ 0 S W.drew hbb hxb hbe hxe hbl hxl (by omega) (HTab.out.after (Below.refl _ W).drew) (fun b h => by have h1 := HS.out b h; have h2 : W.drew.heap.size = W.heap.size := rfl; omega) (IsTm.keep (w := w) (S := S) (S' := S) (w' := W.drew) (fun _ h => h) (fun p hp => HB.out.1.cell (HS.out _ hp)) _ HX.out.1) (IsTm.keep (w := w) (S := S) (S' := S) (w' := W.drew) (fun _ h => h) (fun p hp => HB.out.1.cell (HS.out _ hp)) _ HX.out.2)).mono (fun _ _ h => putR_bec h)
         rw [show ((0 : Nat) : Int) = 0 from rfl] at P5
         (with_reducible refine P5.mono ?_)
         rintro e w5 ⟨pk, pi, ptk, pB, pA, pn, pd, pm, pc, er, rfl, r5, h5⟩
         clear P5
         have T5 := Lib.hid (show Turn (· = w.heap.size + 1) W w5 from QD.out.trans (Turn.call r5))
         have B5 := Lib.hid (show Below W.heap.size W w5 from ((Below.refl _ W).drew).trans r5)
         have K5 := Lib.hid (HK.out.2.1.below B5.out HK.out.2.1.lt)
         obtain ⟨_, _, _, _, _, f0, f1, f2, f3, f4⟩ := K5.out.facts5
         have TF := Lib.hid (T5.out.trans (Turn.grown (only_set5 w5 (w.heap.size + 1) (.int .i64 pk) (.int .i64 pi) (.int .i64 ptk) (.slice pB pn pd) (.slice pA pm pc)) (fun k e => by cases e; rfl)))
         have H5 := Lib.hid h5
         clear r5 h5))
  go_wp2_with fail
  obtain ⟨y0, y1, y2, y3, y4⟩ := (K5.out.set5 (.int .i64 pk) (.int .i64 pi) (.int .i64 ptk) (.slice pB pn pd) (.slice pA pm pc)).cells5
  have hg := only_set5 w5 (w.heap.size + 1) (.int .i64 pk) (.int .i64 pi) (.int .i64 ptk) (.slice pB pn pd) (.slice pA pm pc)
  have hb5 : Below w.heap.size w w5 := HB.out.1.trans (B5.out.mono HB.out.1.size)
  exact bodyPost_ret (v := .tuple #[.agg #[.int .i64 pk, .int .i64 pi, .int .i64 ptk, .slice pB pn pd, .slice pA pm pc], .int .i64 er]) (by simp [results, Tryd.results107, go_sem, y0, y1, y2, y3, y4]) rfl
    (bec_end HS.out (by omega) (lo := W.drew.heap.size) (by have : W.drew.heap.size = W.heap.size := rfl; omega) hb5 hg H5.out)
end Go.Proofs.YtifijgihcincfaaDoor
namespace Go.Proofs.YtifijgihcincfaaDoor
open Go.RowKit

mutual
/-- Types in terms are small. -/
theorem ok_bulkT : ∀ (t : Tm), t.ok = true → t.bulk ≤ 65 * t.size
  | .mk k i T l, h => by
    rw [Tm.ok, Bool.and_eq_true] at h
    have hl := okAllT_bulk l h.2
    obtain ⟨_, _, _, _, _, h6, h7⟩ := formed_kind h.1
    simp only [Tm.bulk, Tm.size]
    have hT : T.nodes ≤ 64 := by
      by_cases hk : k = 2 ∨ k = 6 ∨ k = 9
      · exact (err_zero.1 (h6 hk)).2
      · have h8 := (h7 hk).2
        obtain ⟨kk, m⟩ := T
        have hm : m = [] := List.eq_nil_of_length_eq_zero h8
        subst hm
        simp [Ty.nodes, nodesAll]
    omega
theorem okAllT_bulk : ∀ (l : List Tm), okAllT l = true → bulkAll l ≤ 65 * sizeAllT l
  | [], _ => by simp [bulkAll, sizeAllT]
  | t :: r, h => by
    simp only [okAllT, Bool.and_eq_true] at h
    have := ok_bulkT t h.1
    have := okAllT_bulk r h.2
    simp only [bulkAll, sizeAllT]
    omega
end
theorem with_two (k i : Int) (T : Ty) (l : List Tm) (U : Tm) (v u : Value) (S : Nat → Prop) (w : World) (hj : 2 < l.length) (hlen : l.length ≤ 1000000) (hS : ∀ b, S b → b < w.heap.size) (hT : IsTm S w (.mk k i T l) v) (hU : IsTm S w U u) :
    Calls Tryd.prog 109 #[v, .int .i64 2, u] w (LiftR S (.mk k i T (l.set 2 U)) w) := with_any k i T l 2 U v u S w hj hlen hS hT hU
theorem rec_bulk6 {i : Int} {T : Ty} {b f : Tm} {jj : Int} {U : Ty} {n : Tm} (hok : (Tm.mk 6 i T [b, f, .mk 5 jj U [n]]).ok = true) (hsz : (Tm.mk 6 i T [b, f, .mk 5 jj U [n]]).size ≤ 4096) (h : ∀ x ∈ [n] ++ [Tm.mk 6 i T [b, f, n]], x.err = 0) :
    (∀ x ∈ [n] ++ [Tm.mk 6 i T [b, f, n]], x.err = 0) ∧ (∀ x ∈ [n] ++ [Tm.mk 6 i T [b, f, n]], x.bulk ≤ 300000) ∧ f.bulk ≤ 300000 := by
  refine ⟨h, fun x hx => ?_, ?_⟩
  · have h1 := errT_zero.1 (h x hx)
    have := ok_bulkT x h1.1
    omega
  · have := ok_bulkT f (ok_arg hok (by simp))
    simp only [Tm.size, sizeAllT] at hsz
    omega
theorem rec_bulk9 {i : Int} {T : Ty} {b f : Tm} {jj : Int} {U : Ty} {y l : Tm} (hok : (Tm.mk 9 i T [b, f, .mk 8 jj U [y, l]]).ok = true) (hsz : (Tm.mk 9 i T [b, f, .mk 8 jj U [y, l]]).size ≤ 4096) (h : ∀ x ∈ [y, l] ++ [Tm.mk 9 i T [b, f, l]], x.err = 0) :
    (∀ x ∈ [y, l] ++ [Tm.mk 9 i T [b, f, l]], x.err = 0) ∧ (∀ x ∈ [y, l] ++ [Tm.mk 9 i T [b, f, l]], x.bulk ≤ 300000) ∧ f.bulk ≤ 300000 := by
  refine ⟨h, fun x hx => ?_, ?_⟩
  · have h1 := errT_zero.1 (h x hx)
    have := ok_bulkT x h1.1
    omega
  · have := ok_bulkT f (ok_arg hok (by simp))
    simp only [Tm.size, sizeAllT] at hsz
    omega
theorem bulk_few1 {x y : Tm} (h : ∀ z ∈ [x] ++ [y], z.bulk ≤ 300000) : bulkAll ([x] ++ [y]) ≤ 900000 := by
  have h1 := h x (by simp)
  have h2 := h y (by simp)
  simp only [List.cons_append, List.nil_append, bulkAll]
  omega
theorem bulk_few2 {x y z : Tm} (h : ∀ u ∈ [x, y] ++ [z], u.bulk ≤ 300000) : bulkAll ([x, y] ++ [z]) ≤ 900000 := by
  have h1 := h x (by simp)
  have h2 := h y (by simp)
  have h3 := h z (by simp)
  simp only [List.cons_append, List.nil_append, bulkAll]
  omega

theorem sizeAllT_one (x : Tm) : sizeAllT [x] = x.size := by simp [sizeAllT]
theorem appTm_size : ∀ (l : List Tm) (f : Tm), (appTm f l).size = f.size + (sizeAllT l + l.length)
  | [], f => by simp [appTm, sizeAllT]
  | x :: r, f => by
    have h : appTm f (x :: r) = appTm (.mk 3 0 .zero [f, x]) r := rfl
    rw [h, appTm_size r]
    simp only [Tm.size, sizeAllT, List.length_cons]
    omega
theorem errsT_zero : ∀ {l : List Tm}, (∀ x ∈ l, x.err = 0) → errsT l = 0
  | [], _ => rfl
  | t :: r, h => by
    rw [errsT, if_pos (h t (by simp))]
    exact errsT_zero fun x hx => h x (by simp [hx])
theorem applyIn_bec {S : Nat → Prop} {f : Tm} {l : List Tm} {w w' : World} {e : Ending} (hf : f.err = 0) (hl : ∀ x ∈ l, x.err = 0) (h : ApplyIn S f l w e w') : BecR S (appTm f l) w e w' := by
  obtain ⟨hb, h⟩ := h
  have hz := appTm_size l f
  by_cases hs : f.size + (sizeAllT l + l.length) ≤ 4096
  · have he : appErr f l = 0 := by unfold appErr; rw [if_pos hf, if_pos (errsT_zero hl), if_pos hs]
    rw [if_pos he] at h
    obtain ⟨v, rfl, ht⟩ := h
    obtain ⟨B, d, A, c, rfl, _⟩ := IsTm.form ht
    exact ⟨_, _, _, _, _, _, _, _, _, _, rfl, hb, .inl ⟨rfl, by omega, ht⟩⟩
  · have he : appErr f l = 4 := by unfold appErr; rw [if_pos hf, if_pos (errsT_zero hl), if_neg hs]
    rw [if_neg (by rw [he]; decide), he] at h
    exact ⟨_, _, _, _, _, _, _, _, _, _, h, hb, .inr ⟨rfl, by omega⟩⟩
theorem own_moved {S S' : Nat → Prop} {base : Nat} {v : Value} {l : List Tm} {w w' : World} (hb : Below w.heap.size w w') (h : TmR.Own S base v l w) (hS : ∀ b, S b → S' b) : TmR.Own S' base v l w' :=
  (h.below hb).mono (fun b x _ => hS b x) (Nat.le_refl _)
/-- One term behind a slice of the call's own: as a slice. -/
theorem own_one {S : Nat → Prop} {W wc w w' : World} {n c g cap : Nat} {A : Option Addr} {l : List Tm} {R : Tm} {xs : List Value} {x0 x1 x2 x3 x4 : Value} (hxo : w.ownsRow wc.heap.size 34 5 (.slice A n c) n xs) (hxc : TmR.Ch (fun b => ((S b ∨ W.heap.size ≤ b) ∧ b < wc.heap.size) ∧ b < w.heap.size ∧ (Value.slice A n c).ownBlock ≠ some b) w l xs)
    (hb : Below wc.heap.size wc w) (hr : IsTm (fun b => (S b ∨ W.heap.size ≤ b) ∧ b < wc.heap.size) wc R (.agg #[x0, x1, x2, x3, x4])) (hown : w'.ownsRow wc.heap.size 34 5 (.slice (some ⟨g, 0, none⟩) (n + 1) cap) (n + 1) (xs ++ [x0, x1, x2, x3, x4]))
    (hg : w.grownBy w' (Value.slice A n c).ownBlock) (hat : (Value.slice A n c).ownBlock = some g ∨ g = w.heap.size) (hWc : W.heap.size ≤ wc.heap.size := by omega) (hn : l.length = n := by rfl) :
    TmR.Sl (fun b => (S b ∨ W.heap.size ≤ b) ∧ b < w'.heap.size) w' (l ++ [R]) (.slice (some ⟨g, 0, none⟩) (n + 1) cap) := by
  subst hn
  have h := Rep.Own.more (R := TmR) (S := fun b => (S b ∨ W.heap.size ≤ b) ∧ b < wc.heap.size) (l := l) (m := [R]) hxo hxc (Rep.Ch.one (R := TmR) (vs := [x0, x1, x2, x3, x4])
    (show TmR.is _ w R _ from IsTm.keep (fun b x => ⟨x, Nat.lt_of_lt_of_le x.2 hb.size, fun e => by have := (hxo.lt b e).1; omega⟩) (fun p hp => hb.cell hp.2) _ hr)) hown hg (hat.imp (fun e => by rw [e]; rfl) (fun e => by rw [e]; rfl))
  exact h.sl.keep (fun b x => ⟨x.1.elim (fun y => y.1) (fun y => .inr (by omega)), x.2⟩) (fun _ _ => rfl)
/-- The rest of a recursion stands in a block of its own. -/
def RestAt (S : Nat → Prop) (W : World) (R : Tm) (s6 : Value) (wx : World) : Prop :=
  ∃ (g6 : Nat) (x0 x1 x2 x3 x4 : Value), s6 = .pointer (some ⟨g6, 0, none⟩) ∧ Blk wx g6 34 #[x0, x1, x2, x3, x4] ∧ W.heap.size ≤ g6 ∧ Below W.heap.size W wx ∧
    IsTm (fun b => (S b ∨ W.heap.size ≤ b) ∧ b < wx.heap.size) wx R (.agg #[x0, x1, x2, x3, x4])
theorem rest_a {S : Nat → Prop} {W w5 : World} {R : Tm} {n : Nat} {x0 x1 x2 x3 x4 : Value} (hb : Below W.heap.size W w5) (hn : W.heap.size ≤ n) (ht : IsTm (fun b => (S b ∨ n ≤ b) ∧ b < w5.heap.size) w5 R (.agg #[x0, x1, x2, x3, x4])) :
    RestAt S W R (.pointer (some ⟨w5.heap.size, 0, none⟩)) (w5.alloc (.cells #[x0, x1, x2, x3, x4] 34)) :=
  ⟨_, _, _, _, _, _, rfl, Blk.new _ _ _, hb.size, hb.alloc hb.size _, IsTm.keep (fun b h => ⟨h.1.imp id (fun x => by omega), by have := h.2; simp; omega⟩) (fun p hp => World.cell?_alloc_lt _ _ _ hp.2) _ ht⟩
theorem rest_b {S : Nat → Prop} {W w5 : World} {R : Tm} {n : Nat} {x0 x1 x2 x3 x4 : Value} (hS : ∀ b, S b → b < W.heap.size) (hk : Blk w5 W.heap.size 34 #[.int .i64 0, .int .i64 0, .int .i64 0, .slice none 0 0, .slice none 0 0]) (hb : Below W.heap.size W w5) (hn : W.heap.size + 1 ≤ n)
    (ht : IsTm (fun b => (S b ∨ n ≤ b) ∧ b < w5.heap.size) w5 R (.agg #[x0, x1, x2, x3, x4])) :
    RestAt S W R (.pointer (some ⟨W.heap.size, 0, none⟩)) (((((w5.setCell ⟨W.heap.size, 0, none⟩ x0).setCell ⟨W.heap.size, 1, none⟩ x1).setCell ⟨W.heap.size, 2, none⟩ x2).setCell ⟨W.heap.size, 3, none⟩ x3).setCell ⟨W.heap.size, 4, none⟩ x4) := by
  have hg := only_set5 w5 W.heap.size x0 x1 x2 x3 x4
  refine ⟨_, _, _, _, _, _, rfl, hk.set5 x0 x1 x2 x3 x4, Nat.le_refl _, hb.grown hg hb.size (fun k e => by cases e; exact Nat.le_refl _), IsTm.keep (fun b h => ⟨h.1.imp id (fun x => by omega), Nat.lt_of_lt_of_le h.2 hg.size⟩) (fun p hp => World.cell?_of_block (hg.block p.block hp.2 (fun e => ?_))) _ ht⟩
  have e' : p.block = W.heap.size := by simpa using e
  exact hp.1.elim (fun h => by have := hS _ h; omega) (fun h => by omega)
theorem ok_bulk {t : Tm} (h : t.ok = true) : t.bulk ≤ 65 * t.size := ok_bulkT t h
/-- Sizes and forms of what a recursion becomes. -/
theorem rec_facts6 {i : Int} {T : Ty} {b f : Tm} {jj : Int} {U : Ty} {n : Tm} (hok : (Tm.mk 6 i T [b, f, .mk 5 jj U [n]]).ok = true) (hsz : (Tm.mk 6 i T [b, f, .mk 5 jj U [n]]).size ≤ 4096) :
    f.err = 0 ∧ (∀ x ∈ [n] ++ [Tm.mk 6 i T [b, f, n]], x.err = 0) := by
  have hf := ok_arg hok (a := f) (by simp)
  have hn := ok_arg (ok_arg hok (a := .mk 5 jj U [n]) (by simp)) (a := n) (by simp)
  have hr : (Tm.mk 6 i T [b, f, n]).ok = true := ok_same hok rfl (by intro a h; simp at h; rcases h with rfl | rfl | rfl; exact ok_arg hok (by simp); exact hf; exact hn)
  simp only [Tm.size, sizeAllT] at hsz
  refine ⟨errT_zero.2 ⟨hf, by omega⟩, fun x hx => ?_⟩
  simp at hx
  rcases hx with rfl | rfl
  · exact errT_zero.2 ⟨hn, by omega⟩
  · exact errT_zero.2 ⟨hr, by simp only [Tm.size, sizeAllT]; omega⟩
theorem rec_facts9 {i : Int} {T : Ty} {b f : Tm} {jj : Int} {U : Ty} {h l : Tm} (hok : (Tm.mk 9 i T [b, f, .mk 8 jj U [h, l]]).ok = true) (hsz : (Tm.mk 9 i T [b, f, .mk 8 jj U [h, l]]).size ≤ 4096) :
    f.err = 0 ∧ (∀ x ∈ [h, l] ++ [Tm.mk 9 i T [b, f, l]], x.err = 0) := by
  have hf := ok_arg hok (a := f) (by simp)
  have hh := ok_arg (ok_arg hok (a := .mk 8 jj U [h, l]) (by simp)) (a := h) (by simp)
  have hl := ok_arg (ok_arg hok (a := .mk 8 jj U [h, l]) (by simp)) (a := l) (by simp)
  have hr : (Tm.mk 9 i T [b, f, l]).ok = true := ok_same hok rfl (by intro a h; simp at h; rcases h with rfl | rfl | rfl; exact ok_arg hok (by simp); exact hf; exact hl)
  simp only [Tm.size, sizeAllT] at hsz
  refine ⟨errT_zero.2 ⟨hf, by omega⟩, fun x hx => ?_⟩
  simp at hx
  rcases hx with rfl | rfl | rfl
  · exact errT_zero.2 ⟨hh, by omega⟩
  · exact errT_zero.2 ⟨hl, by omega⟩
  · exact errT_zero.2 ⟨hr, by simp only [Tm.size, sizeAllT]; omega⟩

set_option maxRecDepth 100000 in
set_option maxHeartbeats 4000000 in
theorem becomes_succ (i : Int) (T : Ty) (b f : Tm) (jj : Int) (U : Ty) (n : Tm) (v : Value) (S : Nat → Prop) (w : World) (hok : (Tm.mk 6 i T [b, f, .mk 5 jj U [n]]).ok = true) (hsz : (Tm.mk 6 i T [b, f, .mk 5 jj U [n]]).size ≤ 4096) (htab : Tab w) (hS : ∀ b, S b → b < w.heap.size) (hT : IsTm S w (.mk 6 i T [b, f, .mk 5 jj U [n]]) v) :
    Calls Tryd.prog 107 #[v] w (BecR S (appTm f ([n] ++ [(Tm.mk 6 i T [b, f, n])])) w) := by
  have hbk := ok_bulk hok
  have hfacts := rec_facts6 hok hsz
  have HF := Lib.hid (And.intro hok (And.intro hsz (And.intro hbk hfacts)))
  clear hok hsz hbk hfacts
  obtain ⟨B, d0, A, a0, rfl, hty, hl⟩ := hT.mk_parts
  obtain ⟨a, Bf, df, Af, cf, rfl, ha, q0, q1, q2, q3, q4, hf⟩ := sl_child hl 0 (by simp)
  rw [Nat.zero_mul, add_zero'] at q0 q1 q2 q3 q4
  have hf : IsTm S w b (.agg #[.int .i64 b.kind, .int .i64 b.index, .int .i64 b.type.kind, .slice Bf b.type.args.length df, .slice Af b.args.length cf]) := hf
  have q0 : w.cell? a = some (.int .i64 b.kind) := q0
  have q1 : w.cell? ⟨a.block, a.off + 1, none⟩ = some (.int .i64 b.index) := q1
  have q2 : w.cell? ⟨a.block, a.off + 2, none⟩ = some (.int .i64 b.type.kind) := q2
  have q3 : w.cell? ⟨a.block, a.off + 3, none⟩ = some (.slice Bf b.type.args.length df) := q3
  have q4 : w.cell? ⟨a.block, a.off + 4, none⟩ = some (.slice Af b.args.length cf) := q4
  go_enter Tryd.func107, Tryd.ntmps107
  go_upto_region 1 with fail
  obtain ⟨V, hV, b2, z2, k0, k1⟩ := alloc2_facts w #[.int .i64 6, .int .i64 i, .int .i64 T.kind, .slice B T.args.length d0, .slice (some a) 3 a0] #[.int .i64 0, .int .i64 0, .int .i64 0, .slice none 0 0, .slice none 0 0] 34 34
  have hV' : V = (w.alloc (Obj.cells #[.int .i64 6, .int .i64 i, .int .i64 T.kind, .slice B T.args.length d0, .slice (some a) 3 a0] 34)).alloc (Obj.cells #[.int .i64 0, .int .i64 0, .int .i64 0, .slice none 0 0, .slice none 0 0] 34) := hV
  rw [← hV']
  clear hV hV'
  obtain ⟨r0, r1, r2, r3, r4, _, _, _, _, _⟩ := k0.facts5
  have haw := hS _ ha
  have q0 := (b2.cell haw).trans q0
  have q1 := (b2.cell (p := ⟨a.block, a.off + 1, none⟩) haw).trans q1
  have q2 := (b2.cell (p := ⟨a.block, a.off + 2, none⟩) haw).trans q2
  have q3 := (b2.cell (p := ⟨a.block, a.off + 3, none⟩) haw).trans q3
  have q4 := (b2.cell (p := ⟨a.block, a.off + 4, none⟩) haw).trans q4
  go_upto_region 2 with fail
  obtain ⟨b3, z3, k2⟩ := new_blk b2 b2.size #[.int .i64 b.kind, .int .i64 b.index, .int .i64 b.type.kind, .slice Bf b.type.args.length df, .slice Af b.args.length cf] 34
  have k0 := k0.alloc (Obj.cells #[.int .i64 b.kind, .int .i64 b.index, .int .i64 b.type.kind, .slice Bf b.type.args.length df, .slice Af b.args.length cf] 34)
  have k1 := k1.alloc (Obj.cells #[.int .i64 b.kind, .int .i64 b.index, .int .i64 b.type.kind, .slice Bf b.type.args.length df, .slice Af b.args.length cf] 34)
  generalize V.alloc (Obj.cells #[.int .i64 b.kind, .int .i64 b.index, .int .i64 b.type.kind, .slice Bf b.type.args.length df, .slice Af b.args.length cf] 34) = W at b3 z3 k0 k1 k2 ⊢
  rw [z2] at k2 z3
  obtain ⟨r0, r1, r2, r3, r4, _, _, _, _, _⟩ := k0.facts5
  obtain ⟨_, _, _, _, _, f0, f1, f2, f3, f4⟩ := k1.facts5
  obtain ⟨p0, p1, p2, p3, p4, _, _, _, _, _⟩ := k2.facts5
  clear q0 q1 q2 q3 q4
  have HS := Lib.hid hS
  have HB := Lib.hid (And.intro b3 z3)
  have HK := Lib.hid (And.intro k0 (And.intro k1 k2))
  obtain ⟨a', B2, d2, A2, c2, e2, ha2, _, _, _, _, s4, h2⟩ := sl_child hl 2 (by simp)
  have e2 : a' = a := by simpa using e2.symm
  subst e2
  have h2 : IsTm S w (.mk 5 jj U [n]) (.agg #[.int .i64 5, .int .i64 jj, .int .i64 U.kind, .slice B2 U.args.length d2, .slice A2 1 c2]) := h2
  have s4 : w.cell? ⟨(a'.add (2 * 5)).block, (a'.add (2 * 5)).off + 4, none⟩ = some (.slice A2 1 c2) := s4
  simp [Addr.add] at s4
  have s4 := (HB.out.1.cell (by exact haw)).trans s4
  have hov : TmR.Sl S w [n] (.slice A2 1 c2) := (isTm_iff.1 h2).2.2.2
  obtain ⟨ap, B3, d3, A3, c3, rfl, ha3, n0, n1, n2, n3, n4, hn⟩ := sl_child hov 0 (by simp)
  have hn : IsTm S w n (.agg #[.int .i64 n.kind, .int .i64 n.index, .int .i64 n.type.kind, .slice B3 n.type.args.length d3, .slice A3 n.args.length c3]) := hn
  have haw3 := hS _ ha3
  have n0 : w.cell? (ap.add (0 * 5)) = some (.int .i64 n.kind) := n0
  have n1 : w.cell? ⟨(ap.add (0 * 5)).block, (ap.add (0 * 5)).off + 1, none⟩ = some (.int .i64 n.index) := n1
  have n2 : w.cell? ⟨(ap.add (0 * 5)).block, (ap.add (0 * 5)).off + 2, none⟩ = some (.int .i64 n.type.kind) := n2
  have n3 : w.cell? ⟨(ap.add (0 * 5)).block, (ap.add (0 * 5)).off + 3, none⟩ = some (.slice B3 n.type.args.length d3) := n3
  have n4 : w.cell? ⟨(ap.add (0 * 5)).block, (ap.add (0 * 5)).off + 4, none⟩ = some (.slice A3 n.args.length c3) := n4
  simp [Addr.add] at n0 n1 n2 n3 n4
  have n0 := (HB.out.1.cell (by exact haw3)).trans n0
  have n1 := (HB.out.1.cell (by exact haw3)).trans n1
  have n2 := (HB.out.1.cell (by exact haw3)).trans n2
  have n3 := (HB.out.1.cell (by exact haw3)).trans n3
  have n4 := (HB.out.1.cell (by exact haw3)).trans n4
  obtain ⟨aq, B4, d4, A4, c4, e4, ha4, u0, u1, u2, u3, u4, hf4⟩ := sl_child hl 1 (by simp)
  have e4 : aq = a' := by simpa using e4.symm
  subst e4
  have hf4 : IsTm S w f (.agg #[.int .i64 f.kind, .int .i64 f.index, .int .i64 f.type.kind, .slice B4 f.type.args.length d4, .slice A4 f.args.length c4]) := hf4
  have u0 : w.cell? (aq.add (1 * 5)) = some (.int .i64 f.kind) := u0
  have u1 : w.cell? ⟨(aq.add (1 * 5)).block, (aq.add (1 * 5)).off + 1, none⟩ = some (.int .i64 f.index) := u1
  have u2 : w.cell? ⟨(aq.add (1 * 5)).block, (aq.add (1 * 5)).off + 2, none⟩ = some (.int .i64 f.type.kind) := u2
  have u3 : w.cell? ⟨(aq.add (1 * 5)).block, (aq.add (1 * 5)).off + 3, none⟩ = some (.slice B4 f.type.args.length d4) := u3
  have u4 : w.cell? ⟨(aq.add (1 * 5)).block, (aq.add (1 * 5)).off + 4, none⟩ = some (.slice A4 f.args.length c4) := u4
  simp [Addr.add] at u0 u1 u2 u3 u4
  have u0 := (HB.out.1.cell (by exact haw)).trans u0
  have u1 := (HB.out.1.cell (by exact haw)).trans u1
  have u2 := (HB.out.1.cell (by exact haw)).trans u2
  have u3 := (HB.out.1.cell (by exact haw)).trans u3
  have u4 := (HB.out.1.cell (by exact haw)).trans u4
  have hzW := HB.out.2
  have hT : IsTm S w (.mk 6 i T [b, f, .mk 5 jj U [n]]) (.agg #[.int .i64 6, .int .i64 i, .int .i64 T.kind, .slice B T.args.length d0, .slice (some aq) 3 a0]) := hT
  have HX := Lib.hid (And.intro hT (And.intro hn (And.intro hf4 hov)))
  have HTab := Lib.hid (htab.after HB.out.1)
  have HSK := Lib.hid fun (w' : World) (h : Below W.heap.size W w') => And.intro (HK.out.1.below h HK.out.1.lt).facts5.1 (And.intro (HK.out.1.below h HK.out.1.lt).facts5.2.1 (And.intro (HK.out.1.below h HK.out.1.lt).facts5.2.2.1 (And.intro (HK.out.1.below h HK.out.1.lt).facts5.2.2.2.1 (And.intro (HK.out.1.below h HK.out.1.lt).facts5.2.2.2.2.1 (And.intro ((h.cell (p := ap) (show ap.block < W.heap.size by omega)).trans n0) (And.intro ((h.cell (p := ⟨ap.block, ap.off + 1, none⟩) (show ap.block < W.heap.size by omega)).trans n1) (And.intro ((h.cell (p := ⟨ap.block, ap.off + 2, none⟩) (show ap.block < W.heap.size by omega)).trans n2) (And.intro ((h.cell (p := ⟨ap.block, ap.off + 3, none⟩) (show ap.block < W.heap.size by omega)).trans n3) (((h.cell (p := ⟨ap.block, ap.off + 4, none⟩) (show ap.block < W.heap.size by omega)).trans n4))))))))))
  have HSU := Lib.hid (And.intro u0 (And.intro u1 (And.intro u2 (And.intro u3 u4))))
  have hSW : ∀ b, S b → b < W.heap.size := fun b h => by have := hS b h; omega
  have GT := Lib.hid fun (w' : World) (h : Below W.heap.size W w') => And.intro (fun b (x : S b) => Nat.lt_of_lt_of_le (hSW b x) h.size) (And.intro (IsTm.keep (S' := S) (fun _ x => x) (fun p hp => (h.cell (hSW _ hp)).trans (HB.out.1.cell (hS _ hp))) _ hT) (And.intro (IsTm.keep (S' := S) (fun _ x => x) (fun p hp => (h.cell (hSW _ hp)).trans (HB.out.1.cell (hS _ hp))) _ hn)
    (And.intro (IsTm.keep (S' := S) (fun _ x => x) (fun p hp => (h.cell (hSW _ hp)).trans (HB.out.1.cell (hS _ hp))) _ hf4) (hov.keep (S' := S) (fun _ x => x) (fun p hp => (h.cell (hSW _ hp)).trans (HB.out.1.cell (hS _ hp)))))))
  have QD := Lib.hid (show Below W.heap.size W W.drew from (Below.refl _ W).drew)
  have QA := Lib.hid (show Below W.heap.size W (W.alloc (Obj.cells #[.int .i64 0, .int .i64 0, .int .i64 0, .slice none 0 0, .slice none 0 0] 34)).drew from ((Below.refl _ W).alloc (Nat.le_refl _) _).drew)
  have QB := Lib.hid (show Below W.heap.size W (W.alloc (Obj.cells #[.int .i64 0, .int .i64 0, .int .i64 0, .slice none 0 0, .slice none 0 0] 34)) from (Below.refl _ W).alloc (Nat.le_refl _) _)
  have KA := Lib.hid ((Blk.new W 34 #[.int .i64 0, .int .i64 0, .int .i64 0, .slice none 0 0, .slice none 0 0]).drew)
  clear hn hf4 h2 hf hov hty hl hT hS hSW b3 z3 k0 k1 k2 b2 z2 htab hzW f0 f1 f2 f3 f4 u0 u1 u2 u3 u4
  go_upto_region 12 with fail
  clear r0 r1 r2 r3 r4 p0 p1 p2 p3 p4
  go_cut [6] from 47 to 54 (fun s6 wx => RestAt S W (Tm.mk 6 i T [b, f, n]) s6 wx)
  case first =>
    obtain ⟨r0, r1, r2, r3, r4, _, _, _, _, _⟩ := HSK.out W (Below.refl _ _)
    have hw1 : IntKind.i64.wrap ((1 : Int) - 1) = 0 := by decide
    have hw1b : IntKind.i64.wrap (0 : Int) = 0 := by decide
    have hw2 : (0 : Int) ≤ 0 := by decide
    have hw3 : (0 : Int) < 1 := by decide
    go_region_held3 (fun w' => w'.cell? ⟨w.heap.size, 0, none⟩ = some (.int .i64 6) ∧ w'.cell? ⟨w.heap.size, 1, none⟩ = some (.int .i64 i) ∧ w'.cell? ⟨w.heap.size, 2, none⟩ = some (.int .i64 T.kind) ∧ w'.cell? ⟨w.heap.size, 3, none⟩ = some (.slice B T.args.length d0) ∧ w'.cell? ⟨w.heap.size, 4, none⟩ = some (.slice (some aq) 3 a0) ∧ w'.cell? ap = some (.int .i64 n.kind) ∧ w'.cell? ⟨ap.block, ap.off + 1, none⟩ = some (.int .i64 n.index) ∧ w'.cell? ⟨ap.block, ap.off + 2, none⟩ = some (.int .i64 n.type.kind) ∧ w'.cell? ⟨ap.block, ap.off + 3, none⟩ = some (.slice B3 n.type.args.length d3) ∧ w'.cell? ⟨ap.block, ap.off + 4, none⟩ = some (.slice A3 n.args.length c3))
      (first | with_reducible exact HSK.out _ QD.out | with_reducible exact HSK.out _ QA.out | with_reducible exact HSK.out _ QB.out | with_reducible exact HSK.out _ B5.out | with_reducible exact HSK.out _ B5Z.out | with_reducible exact HSK.out _ B5V.out)
      (first
        | (go_at_call 109
           have P5 := with_two 6 i T [b, f, .mk 5 jj U [n]] n (.agg #[.int .i64 6, .int .i64 i, .int .i64 T.kind, .slice B T.args.length d0, .slice (some aq) 3 a0]) (.agg #[.int .i64 n.kind, .int .i64 n.index, .int .i64 n.type.kind, .slice B3 n.type.args.length d3, .slice A3 n.args.length c3]) S W.drew (by simp) (by simp) (GT.out _ QD.out).1 (GT.out _ QD.out).2.1 (GT.out _ QD.out).2.2.1
           (with_reducible refine P5.mono ?_)
           rintro e w5 ⟨v5, rfl, t5, r5⟩
           clear P5
           obtain ⟨B5', e5, A5, c5, rfl, _⟩ := IsTm.form t5
           have B5 := Lib.hid (show Below W.heap.size W w5 from QD.out.trans (r5.mono QD.out.size))
           have B5Z := Lib.hid (show Below W.heap.size W (w5.alloc (Obj.cells #[.int .i64 0, .int .i64 0, .int .i64 0, .slice none 0 0, .slice none 0 0] 34)) from B5.out.alloc B5.out.size _)
           have B5V := Lib.hid (show Below W.heap.size W (w5.alloc (Obj.cells #[.int .i64 (Tm.mk 6 i T [b, f, n]).kind, .int .i64 (Tm.mk 6 i T [b, f, n]).index, .int .i64 (Tm.mk 6 i T [b, f, n]).type.kind, .slice B5' (Tm.mk 6 i T [b, f, n]).type.args.length e5, .slice A5 (Tm.mk 6 i T [b, f, n]).args.length c5] 34)) from B5.out.alloc B5.out.size _)
           have FIN := Lib.hid (rest_a (S := S) B5.out (show W.heap.size ≤ W.drew.heap.size from Nat.le_refl _) t5)
           clear t5 r5)
        | (go_at_call 109
           have P5 := with_two 6 i T [b, f, .mk 5 jj U [n]] n (.agg #[.int .i64 6, .int .i64 i, .int .i64 T.kind, .slice B T.args.length d0, .slice (some aq) 3 a0]) (.agg #[.int .i64 n.kind, .int .i64 n.index, .int .i64 n.type.kind, .slice B3 n.type.args.length d3, .slice A3 n.args.length c3]) S (W.alloc (Obj.cells #[.int .i64 0, .int .i64 0, .int .i64 0, .slice none 0 0, .slice none 0 0] 34)).drew (by simp) (by simp) (GT.out _ QA.out).1 (GT.out _ QA.out).2.1 (GT.out _ QA.out).2.2.1
           (with_reducible refine P5.mono ?_)
           rintro e w5 ⟨v5, rfl, t5, r5⟩
           clear P5
           obtain ⟨B5', e5, A5, c5, rfl, _⟩ := IsTm.form t5
           have B5 := Lib.hid (show Below W.heap.size W w5 from QA.out.trans (r5.mono QA.out.size))
           have K5 := KA.out.below r5 KA.out.lt
           obtain ⟨z0, z1, z2, z3, z4, f0, f1, f2, f3, f4⟩ := K5.facts5
           have FIN := Lib.hid (rest_b (S := S) (fun b x => by have h1 := HS.out b x; have h2 := HB.out.1.size; omega) K5 B5.out (show W.heap.size + 1 ≤ _ by have : (W.alloc (Obj.cells #[.int .i64 0, .int .i64 0, .int .i64 0, .slice none 0 0, .slice none 0 0] 34)).drew.heap.size = W.heap.size + 1 := World.size_alloc _ _; omega) t5)
           have B5V := Lib.hid (B5.out.grown (only_set5 w5 W.heap.size (.int .i64 (Tm.mk 6 i T [b, f, n]).kind) (.int .i64 (Tm.mk 6 i T [b, f, n]).index) (.int .i64 (Tm.mk 6 i T [b, f, n]).type.kind) (.slice B5' (Tm.mk 6 i T [b, f, n]).type.args.length e5) (.slice A5 (Tm.mk 6 i T [b, f, n]).args.length c5)) B5.out.size (fun k e => by cases e; exact Nat.le_refl _))
           clear t5 r5 K5))
    all_goals (go_wp2_with fail; go_meet)
    all_goals exact FIN.out
  case rest =>
    obtain ⟨R, hR⟩ : ∃ R : Tm, R = (Tm.mk 6 i T [b, f, n]) := ⟨_, rfl⟩
    rw [← hR] at hcut
    have HR := Lib.hid hR
    have hRe : (∀ x ∈ [n] ++ [R], x.err = 0) ∧ (∀ x ∈ [n] ++ [R], x.bulk ≤ 300000) ∧ f.bulk ≤ 300000 := by rw [hR]; exact rec_bulk6 HF.out.1 HF.out.2.1 HF.out.2.2.2.2
    have HRE := Lib.hid hRe
    obtain ⟨g6, x0, x1, x2, x3, x4, rfl, k6, hg6, hbc, hrt⟩ := hcut
    obtain ⟨B6, e6, A6, c6, e5, _⟩ := IsTm.form hrt
    simp at e5
    obtain ⟨rfl, rfl, rfl, rfl, rfl⟩ := e5
    have HBC := Lib.hid hbc
    have HRT := Lib.hid hrt
    have K6 := Lib.hid k6
    have hcz := hbc.size
    have hwz : w.heap.size + 1 + 1 < W.heap.size := HK.out.2.2.lt
    have hlt6 := k6.lt
    have HSV := Lib.hid fun (w' : World) (h : Turn (· = w.heap.size + 1) wc w') => And.intro (h.blk (HK.out.1.below HBC.out HK.out.1.lt) (show ¬ w.heap.size = w.heap.size + 1 by omega)).facts5.2.2.2.2.1 (And.intro (h.cellv ((HBC.out.cell (p := ⟨aq.block, aq.off + 5, none⟩) (show aq.block < W.heap.size by omega)).trans HSU.out.1) (show aq.block < wc.heap.size by omega) (show ¬ aq.block = w.heap.size + 1 by omega)) (And.intro (h.cellv ((HBC.out.cell (p := ⟨aq.block, aq.off + 5 + 1, none⟩) (show aq.block < W.heap.size by omega)).trans HSU.out.2.1) (show aq.block < wc.heap.size by omega) (show ¬ aq.block = w.heap.size + 1 by omega)) (And.intro (h.cellv ((HBC.out.cell (p := ⟨aq.block, aq.off + 5 + 2, none⟩) (show aq.block < W.heap.size by omega)).trans HSU.out.2.2.1) (show aq.block < wc.heap.size by omega) (show ¬ aq.block = w.heap.size + 1 by omega)) (And.intro (h.cellv ((HBC.out.cell (p := ⟨aq.block, aq.off + 5 + 3, none⟩) (show aq.block < W.heap.size by omega)).trans HSU.out.2.2.2.1) (show aq.block < wc.heap.size by omega) (show ¬ aq.block = w.heap.size + 1 by omega)) (And.intro (h.cellv ((HBC.out.cell (p := ⟨aq.block, aq.off + 5 + 4, none⟩) (show aq.block < W.heap.size by omega)).trans HSU.out.2.2.2.2) (show aq.block < wc.heap.size by omega) (show ¬ aq.block = w.heap.size + 1 by omega)) (And.intro (h.blk K6.out (show ¬ g6 = w.heap.size + 1 by omega)).facts5.1 (And.intro (h.blk K6.out (show ¬ g6 = w.heap.size + 1 by omega)).facts5.2.1 (And.intro (h.blk K6.out (show ¬ g6 = w.heap.size + 1 by omega)).facts5.2.2.1 (And.intro (h.blk K6.out (show ¬ g6 = w.heap.size + 1 by omega)).facts5.2.2.2.1 ((h.blk K6.out (show ¬ g6 = w.heap.size + 1 by omega)).facts5.2.2.2.2.1))))))))))
    have HBR := Lib.hid fun (w' : World) (h : Below wc.heap.size wc w') => (show Turn (· = w.heap.size + 1) wc w' from Turn.call h)
    have QD := Lib.hid (show Below wc.heap.size wc wc.drew from (Below.refl _ _).drew)
    have QA := Lib.hid (show Below wc.heap.size wc (wc.alloc (Obj.cells #[.int .i64 R.kind, .int .i64 R.index, .int .i64 R.type.kind, .slice B6 R.type.args.length e6, .slice A6 R.args.length c6] 34)) from (Below.refl _ _).alloc (Nat.le_refl _) _)
    have QB := Lib.hid (show Below wc.heap.size wc (wc.alloc (Obj.cells #[.int .i64 R.kind, .int .i64 R.index, .int .i64 R.type.kind, .slice B6 R.type.args.length e6, .slice A6 R.args.length c6] 34)).drew from ((Below.refl _ _).alloc (Nat.le_refl _) _).drew)
    have KB := Lib.hid ((Blk.new wc 34 #[.int .i64 R.kind, .int .i64 R.index, .int .i64 R.type.kind, .slice B6 R.type.args.length e6, .slice A6 R.args.length c6]).drew)
    have HOVC := Lib.hid fun (w' : World) (h : Below wc.heap.size wc w') => And.intro (fun b (x : S b) => show b < w'.heap.size by have h1 := HS.out b x; have h2 := h.size; omega) ((GT.out _ (HBC.out.trans (h.mono hcz))).2.2.2.2)
    have HFC := Lib.hid fun (w' : World) (h : Below wc.heap.size wc w') => ((GT.out _ (HBC.out.trans (h.mono hcz))).2.2.2.1)
    have HTC := Lib.hid fun (w' : World) (h : Below wc.heap.size wc w') => HTab.out.after (HBC.out.trans (h.mono hcz))
    obtain ⟨i0, hi, hz0, hz1, hz2⟩ := info_parts info_term
    obtain ⟨r4, u0, u1, u2, u3, u4, v0, v1, v2, v3, v4⟩ := HSV.out wc (Turn.refl _ _)
    have hi1 : (0 : Int) ≤ 1 := by decide
    have hi2 : (1 : Int) < 3 := by decide
    clear hR hRe hbc hrt k6 n0 n1 n2 n3 n4 s4
    go_upto_region 13 with fail
    go_region_held3 (fun w' => w'.cell? ⟨w.heap.size, 4, none⟩ = some (.slice (some aq) 3 a0) ∧ w'.cell? ⟨aq.block, aq.off + 5, none⟩ = some (.int .i64 f.kind) ∧ w'.cell? ⟨aq.block, aq.off + 5 + 1, none⟩ = some (.int .i64 f.index) ∧ w'.cell? ⟨aq.block, aq.off + 5 + 2, none⟩ = some (.int .i64 f.type.kind) ∧ w'.cell? ⟨aq.block, aq.off + 5 + 3, none⟩ = some (.slice B4 f.type.args.length d4) ∧ w'.cell? ⟨aq.block, aq.off + 5 + 4, none⟩ = some (.slice A4 f.args.length c4) ∧ w'.cell? ⟨g6, 0, none⟩ = some (.int .i64 R.kind) ∧ w'.cell? ⟨g6, 1, none⟩ = some (.int .i64 R.index) ∧ w'.cell? ⟨g6, 2, none⟩ = some (.int .i64 R.type.kind) ∧ w'.cell? ⟨g6, 3, none⟩ = some (.slice B6 R.type.args.length e6) ∧ w'.cell? ⟨g6, 4, none⟩ = some (.slice A6 R.args.length c6))
      (first | with_reducible exact HSV.out _ (HBR.out _ QD.out) | with_reducible exact HSV.out _ (HBR.out _ QA.out) | with_reducible exact HSV.out _ (HBR.out _ QB.out) | with_reducible exact HSV.out _ (HBR.out _ B5.out) | with_reducible exact HSV.out _ (HBR.out _ B5V.out) | with_reducible exact HSV.out _ (HBR.out _ B7.out) | with_reducible exact HSV.out _ T8.out | with_reducible exact HSV.out _ TF.out)
      (first
        | (go_at_call 119
           have P5 := cloneT_in S [n] (.slice (some ap) 1 c2) wc.drew (HOVC.out _ QD.out).1 (by simp) (HOVC.out _ QD.out).2
           (with_reducible refine P5.mono ?_)
           rintro e w5 ⟨v5, rfl, own5, r5⟩
           clear P5
           obtain ⟨A5, c5, rfl⟩ := own5.form
           have B5 := Lib.hid (show Below wc.heap.size wc w5 from QD.out.trans (r5.mono QD.out.size))
           have B5V := Lib.hid (show Below wc.heap.size wc (w5.alloc (Obj.cells #[.int .i64 R.kind, .int .i64 R.index, .int .i64 R.type.kind, .slice B6 R.type.args.length e6, .slice A6 R.args.length c6] 34)) from B5.out.alloc B5.out.size _)
           have OWN := Lib.hid (own_moved (S' := fun b => (S b ∨ W.heap.size ≤ b) ∧ b < wc.heap.size) (below_box w5 (Obj.cells #[.int .i64 R.kind, .int .i64 R.index, .int .i64 R.type.kind, .slice B6 R.type.args.length e6, .slice A6 R.args.length c6] 34)) own5 (fun b x => ⟨.inl x, by have h1 := HS.out b x; omega⟩))
           obtain ⟨xs, hxo, hxc⟩ := OWN.out
           have HXO := Lib.hid (show (w5.alloc (Obj.cells #[.int .i64 R.kind, .int .i64 R.index, .int .i64 R.type.kind, .slice B6 R.type.args.length e6, .slice A6 R.args.length c6] 34)).ownsRow wc.heap.size 34 5 (.slice A5 1 c5) 1 xs from hxo)
           have HXC := Lib.hid (show TmR.Ch (fun b => ((S b ∨ W.heap.size ≤ b) ∧ b < wc.heap.size) ∧ b < (w5.alloc (Obj.cells #[.int .i64 R.kind, .int .i64 R.index, .int .i64 R.type.kind, .slice B6 R.type.args.length e6, .slice A6 R.args.length c6] 34)).heap.size ∧ (Value.slice A5 1 c5).ownBlock ≠ some b) (w5.alloc (Obj.cells #[.int .i64 R.kind, .int .i64 R.index, .int .i64 R.type.kind, .slice B6 R.type.args.length e6, .slice A6 R.args.length c6] 34)) [n] xs from hxc)
           have NEWS := Lib.hid (cells_new w5 #[.int .i64 R.kind, .int .i64 R.index, .int .i64 R.type.kind, .slice B6 R.type.args.length e6, .slice A6 R.args.length c6] 34)
           have HBS := Lib.hid B5V.out.size
           have BAW := Lib.hid B5V.out
           have HOB := Lib.hid (show ∀ g, (Value.slice A5 1 c5).ownBlock = some g → wc.heap.size ≤ g from fun g e => (hxo.lt g e).1)
           clear own5 r5 hxo hxc)
        | (go_at_call 119
           have P5 := cloneT_in S [n] (.slice (some ap) 1 c2) (wc.alloc (Obj.cells #[.int .i64 R.kind, .int .i64 R.index, .int .i64 R.type.kind, .slice B6 R.type.args.length e6, .slice A6 R.args.length c6] 34)).drew (HOVC.out _ QB.out).1 (by simp) (HOVC.out _ QB.out).2
           (with_reducible refine P5.mono ?_)
           rintro e w5 ⟨v5, rfl, own5, r5⟩
           clear P5
           obtain ⟨A5, c5, rfl⟩ := own5.form
           have B5 := Lib.hid (show Below wc.heap.size wc w5 from QB.out.trans (r5.mono QB.out.size))
           have OWN := Lib.hid (own_moved (S' := fun b => (S b ∨ W.heap.size ≤ b) ∧ b < wc.heap.size) (Below.refl w5.heap.size w5) (own5.mono (S' := S) (base' := wc.heap.size) (fun b x _ => x) QB.out.size) (fun b x => ⟨.inl x, by have h1 := HS.out b x; omega⟩))
           obtain ⟨xs, hxo, hxc⟩ := OWN.out
           have HXO := Lib.hid (show w5.ownsRow wc.heap.size 34 5 (.slice A5 1 c5) 1 xs from hxo)
           have HXC := Lib.hid (show TmR.Ch (fun b => ((S b ∨ W.heap.size ≤ b) ∧ b < wc.heap.size) ∧ b < w5.heap.size ∧ (Value.slice A5 1 c5).ownBlock ≠ some b) w5 [n] xs from hxc)
           have NEWS := Lib.hid (World.news_of_block (KB.out.below r5 KB.out.lt))
           have HBS := Lib.hid B5.out.size
           have BAW := Lib.hid B5.out
           have HOB := Lib.hid (show ∀ g, (Value.slice A5 1 c5).ownBlock = some g → wc.heap.size ≤ g from fun g e => (hxo.lt g e).1)
           clear own5 r5 hxo hxc)
        | (refine step_append_lies _ (by rfl) (.tmp 60) (.tmp 62) 32 (by rfl) wc.heap.size 34 i0 _ 5 72 Tryd.underlying32 hi hz0 hz1 hz2 rfl (by decide) (.slice A5 1 c5) 1 xs (by rfl) HXO.out _ 1 1 [.int .i64 R.kind, .int .i64 R.index, .int .i64 R.type.kind, .slice B6 R.type.args.length e6, .slice A6 R.args.length c6] (by rfl) rfl NEWS.out (by simp [Value.oneCell']) (by decide) (by simp only [maxLen]; omega) (by omega) ?_ _ rfl ?_
           · exact HBS.out
           intro g7 cap7 w7 hown7 hgr7 hat7 hlt7
           have B7 := Lib.hid (show Below wc.heap.size wc w7 from BAW.out.grown hgr7 BAW.out.size HOB.out)
           have OWN7 := Lib.hid (own_one (R := R) HXO.out HXC.out BAW.out HRT.out hown7 hgr7 hat7)
           clear hown7 hgr7 hat7)
        | (go_at_call 118
           have P8 := (apply_in (fun b => (S b ∨ W.heap.size ≤ b) ∧ b < w7.heap.size) f ([n] ++ [R]) (.agg #[.int .i64 f.kind, .int .i64 f.index, .int .i64 f.type.kind, .slice B4 f.type.args.length d4, .slice A4 f.args.length c4]) (.slice (some ⟨g7, 0, none⟩) 2 cap7) w7 (HTC.out _ B7.out) (by have := HRE.out.2.2; omega) (bulk_few1 HRE.out.2.1) (fun x hx => by have := HRE.out.2.1 x hx; omega) (fun b x => x.2) (IsTm.keep (fun b x => ⟨.inl x, by have h1 := HS.out b x; have h2 := B7.out.size; omega⟩) (fun _ _ => rfl) _ (HFC.out _ B7.out)) OWN7.out).mono (fun _ _ h => applyIn_bec HF.out.2.2.2.1 HRE.out.1 h)
           (with_reducible refine P8.mono ?_)
           rintro e w8 ⟨pk, pi, ptk, pB, pA, pn, pd, pm, pc, er, rfl, r8, h8⟩
           clear P8
           have B8 := Lib.hid (show Below wc.heap.size wc w8 from B7.out.trans (r8.mono B7.out.size))
           have T8 := Lib.hid (HBR.out _ B8.out)
           have K8 := Lib.hid (HK.out.2.1.below (HBC.out.trans (B8.out.mono hcz)) HK.out.2.1.lt)
           obtain ⟨_, _, _, _, _, f0, f1, f2, f3, f4⟩ := K8.out.facts5
           have TF := Lib.hid (T8.out.trans (Turn.grown (only_set5 w8 (w.heap.size + 1) (.int .i64 pk) (.int .i64 pi) (.int .i64 ptk) (.slice pB pn pd) (.slice pA pm pc)) (fun k e => by cases e; rfl)))
           have H8 := Lib.hid (show (er = 0 ∧ (appTm f ([n] ++ [R])).size ≤ 4096 ∧ IsTm (fun b => (S b ∨ W.heap.size ≤ b) ∧ b < w8.heap.size) w8 (appTm f ([n] ++ [R])) (.agg #[.int .i64 pk, .int .i64 pi, .int .i64 ptk, .slice pB pn pd, .slice pA pm pc])) ∨ (er = 4 ∧ 4096 < (appTm f ([n] ++ [R])).size) from
             h8.imp (fun h => ⟨h.1, h.2.1, IsTm.keep (fun b x => ⟨x.1.elim (fun y => y.1) (fun y => .inr (by have := B7.out.size; omega)), x.2⟩) (fun _ _ => rfl) _ h.2.2⟩) id)
           clear r8 h8))
    all_goals
      go_wp2_with fail
      obtain ⟨y0, y1, y2, y3, y4⟩ := (K8.out.set5 (.int .i64 pk) (.int .i64 pi) (.int .i64 ptk) (.slice pB pn pd) (.slice pA pm pc)).cells5
      have hg := only_set5 w8 (w.heap.size + 1) (.int .i64 pk) (.int .i64 pi) (.int .i64 ptk) (.slice pB pn pd) (.slice pA pm pc)
      have hb8 : Below w.heap.size w w8 := HB.out.1.trans ((HBC.out.trans (B8.out.mono hcz)).mono HB.out.1.size)
      have hfin := bec_end HS.out (show w.heap.size ≤ w.heap.size + 1 by omega) (lo := W.heap.size) (by omega) hb8 hg H8.out
      rw [HR.out] at hfin
      exact bodyPost_ret (v := .tuple #[.agg #[.int .i64 pk, .int .i64 pi, .int .i64 ptk, .slice pB pn pd, .slice pA pm pc], .int .i64 er]) (by simp [results, Tryd.results107, go_sem, y0, y1, y2, y3, y4]) rfl hfin

set_option maxRecDepth 100000 in
set_option maxHeartbeats 4000000 in
theorem becomes_cons (i : Int) (T : Ty) (b f : Tm) (jj : Int) (U : Ty) (h l : Tm) (v : Value) (S : Nat → Prop) (w : World) (hok : (Tm.mk 9 i T [b, f, .mk 8 jj U [h, l]]).ok = true) (hsz : (Tm.mk 9 i T [b, f, .mk 8 jj U [h, l]]).size ≤ 4096) (htab : Tab w) (hS : ∀ b, S b → b < w.heap.size) (hT : IsTm S w (.mk 9 i T [b, f, .mk 8 jj U [h, l]]) v) :
    Calls Tryd.prog 107 #[v] w (BecR S (appTm f ([h, l] ++ [(Tm.mk 9 i T [b, f, l])])) w) := by
  have hbk := ok_bulk hok
  have hfacts := rec_facts9 hok hsz
  have HF := Lib.hid (And.intro hok (And.intro hsz (And.intro hbk hfacts)))
  clear hok hsz hbk hfacts
  obtain ⟨B, d0, A, a0, rfl, hty, hl⟩ := hT.mk_parts
  obtain ⟨a, Bf, df, Af, cf, rfl, ha, q0, q1, q2, q3, q4, hf⟩ := sl_child hl 0 (by simp)
  rw [Nat.zero_mul, add_zero'] at q0 q1 q2 q3 q4
  have hf : IsTm S w b (.agg #[.int .i64 b.kind, .int .i64 b.index, .int .i64 b.type.kind, .slice Bf b.type.args.length df, .slice Af b.args.length cf]) := hf
  have q0 : w.cell? a = some (.int .i64 b.kind) := q0
  have q1 : w.cell? ⟨a.block, a.off + 1, none⟩ = some (.int .i64 b.index) := q1
  have q2 : w.cell? ⟨a.block, a.off + 2, none⟩ = some (.int .i64 b.type.kind) := q2
  have q3 : w.cell? ⟨a.block, a.off + 3, none⟩ = some (.slice Bf b.type.args.length df) := q3
  have q4 : w.cell? ⟨a.block, a.off + 4, none⟩ = some (.slice Af b.args.length cf) := q4
  go_enter Tryd.func107, Tryd.ntmps107
  go_upto_region 1 with fail
  obtain ⟨V, hV, b2, z2, k0, k1⟩ := alloc2_facts w #[.int .i64 9, .int .i64 i, .int .i64 T.kind, .slice B T.args.length d0, .slice (some a) 3 a0] #[.int .i64 0, .int .i64 0, .int .i64 0, .slice none 0 0, .slice none 0 0] 34 34
  have hV' : V = (w.alloc (Obj.cells #[.int .i64 9, .int .i64 i, .int .i64 T.kind, .slice B T.args.length d0, .slice (some a) 3 a0] 34)).alloc (Obj.cells #[.int .i64 0, .int .i64 0, .int .i64 0, .slice none 0 0, .slice none 0 0] 34) := hV
  rw [← hV']
  clear hV hV'
  obtain ⟨r0, r1, r2, r3, r4, _, _, _, _, _⟩ := k0.facts5
  have haw := hS _ ha
  have q0 := (b2.cell haw).trans q0
  have q1 := (b2.cell (p := ⟨a.block, a.off + 1, none⟩) haw).trans q1
  have q2 := (b2.cell (p := ⟨a.block, a.off + 2, none⟩) haw).trans q2
  have q3 := (b2.cell (p := ⟨a.block, a.off + 3, none⟩) haw).trans q3
  have q4 := (b2.cell (p := ⟨a.block, a.off + 4, none⟩) haw).trans q4
  go_upto_region 2 with fail
  obtain ⟨b3, z3, k2⟩ := new_blk b2 b2.size #[.int .i64 b.kind, .int .i64 b.index, .int .i64 b.type.kind, .slice Bf b.type.args.length df, .slice Af b.args.length cf] 34
  have k0 := k0.alloc (Obj.cells #[.int .i64 b.kind, .int .i64 b.index, .int .i64 b.type.kind, .slice Bf b.type.args.length df, .slice Af b.args.length cf] 34)
  have k1 := k1.alloc (Obj.cells #[.int .i64 b.kind, .int .i64 b.index, .int .i64 b.type.kind, .slice Bf b.type.args.length df, .slice Af b.args.length cf] 34)
  generalize V.alloc (Obj.cells #[.int .i64 b.kind, .int .i64 b.index, .int .i64 b.type.kind, .slice Bf b.type.args.length df, .slice Af b.args.length cf] 34) = W at b3 z3 k0 k1 k2 ⊢
  rw [z2] at k2 z3
  obtain ⟨r0, r1, r2, r3, r4, _, _, _, _, _⟩ := k0.facts5
  obtain ⟨_, _, _, _, _, f0, f1, f2, f3, f4⟩ := k1.facts5
  obtain ⟨p0, p1, p2, p3, p4, _, _, _, _, _⟩ := k2.facts5
  clear q0 q1 q2 q3 q4
  have HS := Lib.hid hS
  have HB := Lib.hid (And.intro b3 z3)
  have HK := Lib.hid (And.intro k0 (And.intro k1 k2))
  obtain ⟨a', B2, d2, A2, c2, e2, ha2, _, _, _, _, s4, h2⟩ := sl_child hl 2 (by simp)
  have e2 : a' = a := by simpa using e2.symm
  subst e2
  have h2 : IsTm S w (.mk 8 jj U [h, l]) (.agg #[.int .i64 8, .int .i64 jj, .int .i64 U.kind, .slice B2 U.args.length d2, .slice A2 2 c2]) := h2
  have s4 : w.cell? ⟨(a'.add (2 * 5)).block, (a'.add (2 * 5)).off + 4, none⟩ = some (.slice A2 2 c2) := s4
  simp [Addr.add] at s4
  have s4 := (HB.out.1.cell (by exact haw)).trans s4
  have hov : TmR.Sl S w [h, l] (.slice A2 2 c2) := (isTm_iff.1 h2).2.2.2
  obtain ⟨ap, B3, d3, A3, c3, rfl, ha3, n0, n1, n2, n3, n4, hn⟩ := sl_child hov 1 (by simp)
  have hn : IsTm S w l (.agg #[.int .i64 l.kind, .int .i64 l.index, .int .i64 l.type.kind, .slice B3 l.type.args.length d3, .slice A3 l.args.length c3]) := hn
  have haw3 := hS _ ha3
  have n0 : w.cell? (ap.add (1 * 5)) = some (.int .i64 l.kind) := n0
  have n1 : w.cell? ⟨(ap.add (1 * 5)).block, (ap.add (1 * 5)).off + 1, none⟩ = some (.int .i64 l.index) := n1
  have n2 : w.cell? ⟨(ap.add (1 * 5)).block, (ap.add (1 * 5)).off + 2, none⟩ = some (.int .i64 l.type.kind) := n2
  have n3 : w.cell? ⟨(ap.add (1 * 5)).block, (ap.add (1 * 5)).off + 3, none⟩ = some (.slice B3 l.type.args.length d3) := n3
  have n4 : w.cell? ⟨(ap.add (1 * 5)).block, (ap.add (1 * 5)).off + 4, none⟩ = some (.slice A3 l.args.length c3) := n4
  simp [Addr.add] at n0 n1 n2 n3 n4
  have n0 := (HB.out.1.cell (by exact haw3)).trans n0
  have n1 := (HB.out.1.cell (by exact haw3)).trans n1
  have n2 := (HB.out.1.cell (by exact haw3)).trans n2
  have n3 := (HB.out.1.cell (by exact haw3)).trans n3
  have n4 := (HB.out.1.cell (by exact haw3)).trans n4
  obtain ⟨aq, B4, d4, A4, c4, e4, ha4, u0, u1, u2, u3, u4, hf4⟩ := sl_child hl 1 (by simp)
  have e4 : aq = a' := by simpa using e4.symm
  subst e4
  have hf4 : IsTm S w f (.agg #[.int .i64 f.kind, .int .i64 f.index, .int .i64 f.type.kind, .slice B4 f.type.args.length d4, .slice A4 f.args.length c4]) := hf4
  have u0 : w.cell? (aq.add (1 * 5)) = some (.int .i64 f.kind) := u0
  have u1 : w.cell? ⟨(aq.add (1 * 5)).block, (aq.add (1 * 5)).off + 1, none⟩ = some (.int .i64 f.index) := u1
  have u2 : w.cell? ⟨(aq.add (1 * 5)).block, (aq.add (1 * 5)).off + 2, none⟩ = some (.int .i64 f.type.kind) := u2
  have u3 : w.cell? ⟨(aq.add (1 * 5)).block, (aq.add (1 * 5)).off + 3, none⟩ = some (.slice B4 f.type.args.length d4) := u3
  have u4 : w.cell? ⟨(aq.add (1 * 5)).block, (aq.add (1 * 5)).off + 4, none⟩ = some (.slice A4 f.args.length c4) := u4
  simp [Addr.add] at u0 u1 u2 u3 u4
  have u0 := (HB.out.1.cell (by exact haw)).trans u0
  have u1 := (HB.out.1.cell (by exact haw)).trans u1
  have u2 := (HB.out.1.cell (by exact haw)).trans u2
  have u3 := (HB.out.1.cell (by exact haw)).trans u3
  have u4 := (HB.out.1.cell (by exact haw)).trans u4
  have hzW := HB.out.2
  have hT : IsTm S w (.mk 9 i T [b, f, .mk 8 jj U [h, l]]) (.agg #[.int .i64 9, .int .i64 i, .int .i64 T.kind, .slice B T.args.length d0, .slice (some aq) 3 a0]) := hT
  have HX := Lib.hid (And.intro hT (And.intro hn (And.intro hf4 hov)))
  have HTab := Lib.hid (htab.after HB.out.1)
  have HSK := Lib.hid fun (w' : World) (h : Below W.heap.size W w') => And.intro (HK.out.1.below h HK.out.1.lt).facts5.1 (And.intro (HK.out.1.below h HK.out.1.lt).facts5.2.1 (And.intro (HK.out.1.below h HK.out.1.lt).facts5.2.2.1 (And.intro (HK.out.1.below h HK.out.1.lt).facts5.2.2.2.1 (And.intro (HK.out.1.below h HK.out.1.lt).facts5.2.2.2.2.1 (And.intro ((h.cell (p := ⟨ap.block, ap.off + 5, none⟩) (show ap.block < W.heap.size by omega)).trans n0) (And.intro ((h.cell (p := ⟨ap.block, ap.off + 5 + 1, none⟩) (show ap.block < W.heap.size by omega)).trans n1) (And.intro ((h.cell (p := ⟨ap.block, ap.off + 5 + 2, none⟩) (show ap.block < W.heap.size by omega)).trans n2) (And.intro ((h.cell (p := ⟨ap.block, ap.off + 5 + 3, none⟩) (show ap.block < W.heap.size by omega)).trans n3) (((h.cell (p := ⟨ap.block, ap.off + 5 + 4, none⟩) (show ap.block < W.heap.size by omega)).trans n4))))))))))
  have HSU := Lib.hid (And.intro u0 (And.intro u1 (And.intro u2 (And.intro u3 u4))))
  have hSW : ∀ b, S b → b < W.heap.size := fun b h => by have := hS b h; omega
  have GT := Lib.hid fun (w' : World) (h : Below W.heap.size W w') => And.intro (fun b (x : S b) => Nat.lt_of_lt_of_le (hSW b x) h.size) (And.intro (IsTm.keep (S' := S) (fun _ x => x) (fun p hp => (h.cell (hSW _ hp)).trans (HB.out.1.cell (hS _ hp))) _ hT) (And.intro (IsTm.keep (S' := S) (fun _ x => x) (fun p hp => (h.cell (hSW _ hp)).trans (HB.out.1.cell (hS _ hp))) _ hn)
    (And.intro (IsTm.keep (S' := S) (fun _ x => x) (fun p hp => (h.cell (hSW _ hp)).trans (HB.out.1.cell (hS _ hp))) _ hf4) (hov.keep (S' := S) (fun _ x => x) (fun p hp => (h.cell (hSW _ hp)).trans (HB.out.1.cell (hS _ hp)))))))
  have QD := Lib.hid (show Below W.heap.size W W.drew from (Below.refl _ W).drew)
  have QA := Lib.hid (show Below W.heap.size W (W.alloc (Obj.cells #[.int .i64 0, .int .i64 0, .int .i64 0, .slice none 0 0, .slice none 0 0] 34)).drew from ((Below.refl _ W).alloc (Nat.le_refl _) _).drew)
  have QB := Lib.hid (show Below W.heap.size W (W.alloc (Obj.cells #[.int .i64 0, .int .i64 0, .int .i64 0, .slice none 0 0, .slice none 0 0] 34)) from (Below.refl _ W).alloc (Nat.le_refl _) _)
  have KA := Lib.hid ((Blk.new W 34 #[.int .i64 0, .int .i64 0, .int .i64 0, .slice none 0 0, .slice none 0 0]).drew)
  clear hn hf4 h2 hf hov hty hl hT hS hSW b3 z3 k0 k1 k2 b2 z2 htab hzW f0 f1 f2 f3 f4 u0 u1 u2 u3 u4
  go_upto_region 12 with fail
  clear r0 r1 r2 r3 r4 p0 p1 p2 p3 p4
  go_cut [6] from 47 to 54 (fun s6 wx => RestAt S W (Tm.mk 9 i T [b, f, l]) s6 wx)
  case first =>
    obtain ⟨r0, r1, r2, r3, r4, _, _, _, _, _⟩ := HSK.out W (Below.refl _ _)
    have hw1 : IntKind.i64.wrap ((2 : Int) - 1) = 1 := by decide
    have hw1b : IntKind.i64.wrap (1 : Int) = 1 := by decide
    have hw2 : (0 : Int) ≤ 1 := by decide
    have hw3 : (1 : Int) < 2 := by decide
    go_region_held3 (fun w' => w'.cell? ⟨w.heap.size, 0, none⟩ = some (.int .i64 9) ∧ w'.cell? ⟨w.heap.size, 1, none⟩ = some (.int .i64 i) ∧ w'.cell? ⟨w.heap.size, 2, none⟩ = some (.int .i64 T.kind) ∧ w'.cell? ⟨w.heap.size, 3, none⟩ = some (.slice B T.args.length d0) ∧ w'.cell? ⟨w.heap.size, 4, none⟩ = some (.slice (some aq) 3 a0) ∧ w'.cell? ⟨ap.block, ap.off + 5, none⟩ = some (.int .i64 l.kind) ∧ w'.cell? ⟨ap.block, ap.off + 5 + 1, none⟩ = some (.int .i64 l.index) ∧ w'.cell? ⟨ap.block, ap.off + 5 + 2, none⟩ = some (.int .i64 l.type.kind) ∧ w'.cell? ⟨ap.block, ap.off + 5 + 3, none⟩ = some (.slice B3 l.type.args.length d3) ∧ w'.cell? ⟨ap.block, ap.off + 5 + 4, none⟩ = some (.slice A3 l.args.length c3))
      (first | with_reducible exact HSK.out _ QD.out | with_reducible exact HSK.out _ QA.out | with_reducible exact HSK.out _ QB.out | with_reducible exact HSK.out _ B5.out | with_reducible exact HSK.out _ B5Z.out | with_reducible exact HSK.out _ B5V.out)
      (first
        | (go_at_call 109
           have P5 := with_two 9 i T [b, f, .mk 8 jj U [h, l]] l (.agg #[.int .i64 9, .int .i64 i, .int .i64 T.kind, .slice B T.args.length d0, .slice (some aq) 3 a0]) (.agg #[.int .i64 l.kind, .int .i64 l.index, .int .i64 l.type.kind, .slice B3 l.type.args.length d3, .slice A3 l.args.length c3]) S W.drew (by simp) (by simp) (GT.out _ QD.out).1 (GT.out _ QD.out).2.1 (GT.out _ QD.out).2.2.1
           (with_reducible refine P5.mono ?_)
           rintro e w5 ⟨v5, rfl, t5, r5⟩
           clear P5
           obtain ⟨B5', e5, A5, c5, rfl, _⟩ := IsTm.form t5
           have B5 := Lib.hid (show Below W.heap.size W w5 from QD.out.trans (r5.mono QD.out.size))
           have B5Z := Lib.hid (show Below W.heap.size W (w5.alloc (Obj.cells #[.int .i64 0, .int .i64 0, .int .i64 0, .slice none 0 0, .slice none 0 0] 34)) from B5.out.alloc B5.out.size _)
           have B5V := Lib.hid (show Below W.heap.size W (w5.alloc (Obj.cells #[.int .i64 (Tm.mk 9 i T [b, f, l]).kind, .int .i64 (Tm.mk 9 i T [b, f, l]).index, .int .i64 (Tm.mk 9 i T [b, f, l]).type.kind, .slice B5' (Tm.mk 9 i T [b, f, l]).type.args.length e5, .slice A5 (Tm.mk 9 i T [b, f, l]).args.length c5] 34)) from B5.out.alloc B5.out.size _)
           have FIN := Lib.hid (rest_a (S := S) B5.out (show W.heap.size ≤ W.drew.heap.size from Nat.le_refl _) t5)
           clear t5 r5)
        | (go_at_call 109
           have P5 := with_two 9 i T [b, f, .mk 8 jj U [h, l]] l (.agg #[.int .i64 9, .int .i64 i, .int .i64 T.kind, .slice B T.args.length d0, .slice (some aq) 3 a0]) (.agg #[.int .i64 l.kind, .int .i64 l.index, .int .i64 l.type.kind, .slice B3 l.type.args.length d3, .slice A3 l.args.length c3]) S (W.alloc (Obj.cells #[.int .i64 0, .int .i64 0, .int .i64 0, .slice none 0 0, .slice none 0 0] 34)).drew (by simp) (by simp) (GT.out _ QA.out).1 (GT.out _ QA.out).2.1 (GT.out _ QA.out).2.2.1
           (with_reducible refine P5.mono ?_)
           rintro e w5 ⟨v5, rfl, t5, r5⟩
           clear P5
           obtain ⟨B5', e5, A5, c5, rfl, _⟩ := IsTm.form t5
           have B5 := Lib.hid (show Below W.heap.size W w5 from QA.out.trans (r5.mono QA.out.size))
           have K5 := KA.out.below r5 KA.out.lt
           obtain ⟨z0, z1, z2, z3, z4, f0, f1, f2, f3, f4⟩ := K5.facts5
           have FIN := Lib.hid (rest_b (S := S) (fun b x => by have h1 := HS.out b x; have h2 := HB.out.1.size; omega) K5 B5.out (show W.heap.size + 1 ≤ _ by have : (W.alloc (Obj.cells #[.int .i64 0, .int .i64 0, .int .i64 0, .slice none 0 0, .slice none 0 0] 34)).drew.heap.size = W.heap.size + 1 := World.size_alloc _ _; omega) t5)
           have B5V := Lib.hid (B5.out.grown (only_set5 w5 W.heap.size (.int .i64 (Tm.mk 9 i T [b, f, l]).kind) (.int .i64 (Tm.mk 9 i T [b, f, l]).index) (.int .i64 (Tm.mk 9 i T [b, f, l]).type.kind) (.slice B5' (Tm.mk 9 i T [b, f, l]).type.args.length e5) (.slice A5 (Tm.mk 9 i T [b, f, l]).args.length c5)) B5.out.size (fun k e => by cases e; exact Nat.le_refl _))
           clear t5 r5 K5))
    all_goals (go_wp2_with fail; go_meet)
    all_goals exact FIN.out
  case rest =>
    obtain ⟨R, hR⟩ : ∃ R : Tm, R = (Tm.mk 9 i T [b, f, l]) := ⟨_, rfl⟩
    rw [← hR] at hcut
    have HR := Lib.hid hR
    have hRe : (∀ x ∈ [h, l] ++ [R], x.err = 0) ∧ (∀ x ∈ [h, l] ++ [R], x.bulk ≤ 300000) ∧ f.bulk ≤ 300000 := by rw [hR]; exact rec_bulk9 HF.out.1 HF.out.2.1 HF.out.2.2.2.2
    have HRE := Lib.hid hRe
    obtain ⟨g6, x0, x1, x2, x3, x4, rfl, k6, hg6, hbc, hrt⟩ := hcut
    obtain ⟨B6, e6, A6, c6, e5, _⟩ := IsTm.form hrt
    simp at e5
    obtain ⟨rfl, rfl, rfl, rfl, rfl⟩ := e5
    have HBC := Lib.hid hbc
    have HRT := Lib.hid hrt
    have K6 := Lib.hid k6
    have hcz := hbc.size
    have hwz : w.heap.size + 1 + 1 < W.heap.size := HK.out.2.2.lt
    have hlt6 := k6.lt
    have HSV := Lib.hid fun (w' : World) (h : Turn (· = w.heap.size + 1) wc w') => And.intro (h.blk (HK.out.1.below HBC.out HK.out.1.lt) (show ¬ w.heap.size = w.heap.size + 1 by omega)).facts5.2.2.2.2.1 (And.intro (h.cellv ((HBC.out.cell (p := ⟨aq.block, aq.off + 5, none⟩) (show aq.block < W.heap.size by omega)).trans HSU.out.1) (show aq.block < wc.heap.size by omega) (show ¬ aq.block = w.heap.size + 1 by omega)) (And.intro (h.cellv ((HBC.out.cell (p := ⟨aq.block, aq.off + 5 + 1, none⟩) (show aq.block < W.heap.size by omega)).trans HSU.out.2.1) (show aq.block < wc.heap.size by omega) (show ¬ aq.block = w.heap.size + 1 by omega)) (And.intro (h.cellv ((HBC.out.cell (p := ⟨aq.block, aq.off + 5 + 2, none⟩) (show aq.block < W.heap.size by omega)).trans HSU.out.2.2.1) (show aq.block < wc.heap.size by omega) (show ¬ aq.block = w.heap.size + 1 by omega)) (And.intro (h.cellv ((HBC.out.cell (p := ⟨aq.block, aq.off + 5 + 3, none⟩) (show aq.block < W.heap.size by omega)).trans HSU.out.2.2.2.1) (show aq.block < wc.heap.size by omega) (show ¬ aq.block = w.heap.size + 1 by omega)) (And.intro (h.cellv ((HBC.out.cell (p := ⟨aq.block, aq.off + 5 + 4, none⟩) (show aq.block < W.heap.size by omega)).trans HSU.out.2.2.2.2) (show aq.block < wc.heap.size by omega) (show ¬ aq.block = w.heap.size + 1 by omega)) (And.intro (h.blk K6.out (show ¬ g6 = w.heap.size + 1 by omega)).facts5.1 (And.intro (h.blk K6.out (show ¬ g6 = w.heap.size + 1 by omega)).facts5.2.1 (And.intro (h.blk K6.out (show ¬ g6 = w.heap.size + 1 by omega)).facts5.2.2.1 (And.intro (h.blk K6.out (show ¬ g6 = w.heap.size + 1 by omega)).facts5.2.2.2.1 ((h.blk K6.out (show ¬ g6 = w.heap.size + 1 by omega)).facts5.2.2.2.2.1))))))))))
    have HBR := Lib.hid fun (w' : World) (h : Below wc.heap.size wc w') => (show Turn (· = w.heap.size + 1) wc w' from Turn.call h)
    have QD := Lib.hid (show Below wc.heap.size wc wc.drew from (Below.refl _ _).drew)
    have QA := Lib.hid (show Below wc.heap.size wc (wc.alloc (Obj.cells #[.int .i64 R.kind, .int .i64 R.index, .int .i64 R.type.kind, .slice B6 R.type.args.length e6, .slice A6 R.args.length c6] 34)) from (Below.refl _ _).alloc (Nat.le_refl _) _)
    have QB := Lib.hid (show Below wc.heap.size wc (wc.alloc (Obj.cells #[.int .i64 R.kind, .int .i64 R.index, .int .i64 R.type.kind, .slice B6 R.type.args.length e6, .slice A6 R.args.length c6] 34)).drew from ((Below.refl _ _).alloc (Nat.le_refl _) _).drew)
    have KB := Lib.hid ((Blk.new wc 34 #[.int .i64 R.kind, .int .i64 R.index, .int .i64 R.type.kind, .slice B6 R.type.args.length e6, .slice A6 R.args.length c6]).drew)
    have HOVC := Lib.hid fun (w' : World) (h : Below wc.heap.size wc w') => And.intro (fun b (x : S b) => show b < w'.heap.size by have h1 := HS.out b x; have h2 := h.size; omega) ((GT.out _ (HBC.out.trans (h.mono hcz))).2.2.2.2)
    have HFC := Lib.hid fun (w' : World) (h : Below wc.heap.size wc w') => ((GT.out _ (HBC.out.trans (h.mono hcz))).2.2.2.1)
    have HTC := Lib.hid fun (w' : World) (h : Below wc.heap.size wc w') => HTab.out.after (HBC.out.trans (h.mono hcz))
    obtain ⟨i0, hi, hz0, hz1, hz2⟩ := info_parts info_term
    obtain ⟨r4, u0, u1, u2, u3, u4, v0, v1, v2, v3, v4⟩ := HSV.out wc (Turn.refl _ _)
    have hi1 : (0 : Int) ≤ 1 := by decide
    have hi2 : (1 : Int) < 3 := by decide
    clear hR hRe hbc hrt k6 n0 n1 n2 n3 n4 s4
    go_upto_region 13 with fail
    go_region_held3 (fun w' => w'.cell? ⟨w.heap.size, 4, none⟩ = some (.slice (some aq) 3 a0) ∧ w'.cell? ⟨aq.block, aq.off + 5, none⟩ = some (.int .i64 f.kind) ∧ w'.cell? ⟨aq.block, aq.off + 5 + 1, none⟩ = some (.int .i64 f.index) ∧ w'.cell? ⟨aq.block, aq.off + 5 + 2, none⟩ = some (.int .i64 f.type.kind) ∧ w'.cell? ⟨aq.block, aq.off + 5 + 3, none⟩ = some (.slice B4 f.type.args.length d4) ∧ w'.cell? ⟨aq.block, aq.off + 5 + 4, none⟩ = some (.slice A4 f.args.length c4) ∧ w'.cell? ⟨g6, 0, none⟩ = some (.int .i64 R.kind) ∧ w'.cell? ⟨g6, 1, none⟩ = some (.int .i64 R.index) ∧ w'.cell? ⟨g6, 2, none⟩ = some (.int .i64 R.type.kind) ∧ w'.cell? ⟨g6, 3, none⟩ = some (.slice B6 R.type.args.length e6) ∧ w'.cell? ⟨g6, 4, none⟩ = some (.slice A6 R.args.length c6))
      (first | with_reducible exact HSV.out _ (HBR.out _ QD.out) | with_reducible exact HSV.out _ (HBR.out _ QA.out) | with_reducible exact HSV.out _ (HBR.out _ QB.out) | with_reducible exact HSV.out _ (HBR.out _ B5.out) | with_reducible exact HSV.out _ (HBR.out _ B5V.out) | with_reducible exact HSV.out _ (HBR.out _ B7.out) | with_reducible exact HSV.out _ T8.out | with_reducible exact HSV.out _ TF.out)
      (first
        | (go_at_call 119
           have P5 := cloneT_in S [h, l] (.slice (some ap) 2 c2) wc.drew (HOVC.out _ QD.out).1 (by simp) (HOVC.out _ QD.out).2
           (with_reducible refine P5.mono ?_)
           rintro e w5 ⟨v5, rfl, own5, r5⟩
           clear P5
           obtain ⟨A5, c5, rfl⟩ := own5.form
           have B5 := Lib.hid (show Below wc.heap.size wc w5 from QD.out.trans (r5.mono QD.out.size))
           have B5V := Lib.hid (show Below wc.heap.size wc (w5.alloc (Obj.cells #[.int .i64 R.kind, .int .i64 R.index, .int .i64 R.type.kind, .slice B6 R.type.args.length e6, .slice A6 R.args.length c6] 34)) from B5.out.alloc B5.out.size _)
           have OWN := Lib.hid (own_moved (S' := fun b => (S b ∨ W.heap.size ≤ b) ∧ b < wc.heap.size) (below_box w5 (Obj.cells #[.int .i64 R.kind, .int .i64 R.index, .int .i64 R.type.kind, .slice B6 R.type.args.length e6, .slice A6 R.args.length c6] 34)) own5 (fun b x => ⟨.inl x, by have h1 := HS.out b x; omega⟩))
           obtain ⟨xs, hxo, hxc⟩ := OWN.out
           have HXO := Lib.hid (show (w5.alloc (Obj.cells #[.int .i64 R.kind, .int .i64 R.index, .int .i64 R.type.kind, .slice B6 R.type.args.length e6, .slice A6 R.args.length c6] 34)).ownsRow wc.heap.size 34 5 (.slice A5 2 c5) 2 xs from hxo)
           have HXC := Lib.hid (show TmR.Ch (fun b => ((S b ∨ W.heap.size ≤ b) ∧ b < wc.heap.size) ∧ b < (w5.alloc (Obj.cells #[.int .i64 R.kind, .int .i64 R.index, .int .i64 R.type.kind, .slice B6 R.type.args.length e6, .slice A6 R.args.length c6] 34)).heap.size ∧ (Value.slice A5 2 c5).ownBlock ≠ some b) (w5.alloc (Obj.cells #[.int .i64 R.kind, .int .i64 R.index, .int .i64 R.type.kind, .slice B6 R.type.args.length e6, .slice A6 R.args.length c6] 34)) [h, l] xs from hxc)
           have NEWS := Lib.hid (cells_new w5 #[.int .i64 R.kind, .int .i64 R.index, .int .i64 R.type.kind, .slice B6 R.type.args.length e6, .slice A6 R.args.length c6] 34)
           have HBS := Lib.hid B5V.out.size
           have BAW := Lib.hid B5V.out
           have HOB := Lib.hid (show ∀ g, (Value.slice A5 2 c5).ownBlock = some g → wc.heap.size ≤ g from fun g e => (hxo.lt g e).1)
           clear own5 r5 hxo hxc)
        | (go_at_call 119
           have P5 := cloneT_in S [h, l] (.slice (some ap) 2 c2) (wc.alloc (Obj.cells #[.int .i64 R.kind, .int .i64 R.index, .int .i64 R.type.kind, .slice B6 R.type.args.length e6, .slice A6 R.args.length c6] 34)).drew (HOVC.out _ QB.out).1 (by simp) (HOVC.out _ QB.out).2
           (with_reducible refine P5.mono ?_)
           rintro e w5 ⟨v5, rfl, own5, r5⟩
           clear P5
           obtain ⟨A5, c5, rfl⟩ := own5.form
           have B5 := Lib.hid (show Below wc.heap.size wc w5 from QB.out.trans (r5.mono QB.out.size))
           have OWN := Lib.hid (own_moved (S' := fun b => (S b ∨ W.heap.size ≤ b) ∧ b < wc.heap.size) (Below.refl w5.heap.size w5) (own5.mono (S' := S) (base' := wc.heap.size) (fun b x _ => x) QB.out.size) (fun b x => ⟨.inl x, by have h1 := HS.out b x; omega⟩))
           obtain ⟨xs, hxo, hxc⟩ := OWN.out
           have HXO := Lib.hid (show w5.ownsRow wc.heap.size 34 5 (.slice A5 2 c5) 2 xs from hxo)
           have HXC := Lib.hid (show TmR.Ch (fun b => ((S b ∨ W.heap.size ≤ b) ∧ b < wc.heap.size) ∧ b < w5.heap.size ∧ (Value.slice A5 2 c5).ownBlock ≠ some b) w5 [h, l] xs from hxc)
           have NEWS := Lib.hid (World.news_of_block (KB.out.below r5 KB.out.lt))
           have HBS := Lib.hid B5.out.size
           have BAW := Lib.hid B5.out
           have HOB := Lib.hid (show ∀ g, (Value.slice A5 2 c5).ownBlock = some g → wc.heap.size ≤ g from fun g e => (hxo.lt g e).1)
           clear own5 r5 hxo hxc)
        | (refine step_append_lies _ (by rfl) (.tmp 60) (.tmp 62) 32 (by rfl) wc.heap.size 34 i0 _ 5 72 Tryd.underlying32 hi hz0 hz1 hz2 rfl (by decide) (.slice A5 2 c5) 2 xs (by rfl) HXO.out _ 1 1 [.int .i64 R.kind, .int .i64 R.index, .int .i64 R.type.kind, .slice B6 R.type.args.length e6, .slice A6 R.args.length c6] (by rfl) rfl NEWS.out (by simp [Value.oneCell']) (by decide) (by simp only [maxLen]; omega) (by omega) ?_ _ rfl ?_
           · exact HBS.out
           intro g7 cap7 w7 hown7 hgr7 hat7 hlt7
           have B7 := Lib.hid (show Below wc.heap.size wc w7 from BAW.out.grown hgr7 BAW.out.size HOB.out)
           have OWN7 := Lib.hid (own_one (R := R) HXO.out HXC.out BAW.out HRT.out hown7 hgr7 hat7)
           clear hown7 hgr7 hat7)
        | (go_at_call 118
           have P8 := (apply_in (fun b => (S b ∨ W.heap.size ≤ b) ∧ b < w7.heap.size) f ([h, l] ++ [R]) (.agg #[.int .i64 f.kind, .int .i64 f.index, .int .i64 f.type.kind, .slice B4 f.type.args.length d4, .slice A4 f.args.length c4]) (.slice (some ⟨g7, 0, none⟩) 3 cap7) w7 (HTC.out _ B7.out) (by have := HRE.out.2.2; omega) (bulk_few2 HRE.out.2.1) (fun x hx => by have := HRE.out.2.1 x hx; omega) (fun b x => x.2) (IsTm.keep (fun b x => ⟨.inl x, by have h1 := HS.out b x; have h2 := B7.out.size; omega⟩) (fun _ _ => rfl) _ (HFC.out _ B7.out)) OWN7.out).mono (fun _ _ h => applyIn_bec HF.out.2.2.2.1 HRE.out.1 h)
           (with_reducible refine P8.mono ?_)
           rintro e w8 ⟨pk, pi, ptk, pB, pA, pn, pd, pm, pc, er, rfl, r8, h8⟩
           clear P8
           have B8 := Lib.hid (show Below wc.heap.size wc w8 from B7.out.trans (r8.mono B7.out.size))
           have T8 := Lib.hid (HBR.out _ B8.out)
           have K8 := Lib.hid (HK.out.2.1.below (HBC.out.trans (B8.out.mono hcz)) HK.out.2.1.lt)
           obtain ⟨_, _, _, _, _, f0, f1, f2, f3, f4⟩ := K8.out.facts5
           have TF := Lib.hid (T8.out.trans (Turn.grown (only_set5 w8 (w.heap.size + 1) (.int .i64 pk) (.int .i64 pi) (.int .i64 ptk) (.slice pB pn pd) (.slice pA pm pc)) (fun k e => by cases e; rfl)))
           have H8 := Lib.hid (show (er = 0 ∧ (appTm f ([h, l] ++ [R])).size ≤ 4096 ∧ IsTm (fun b => (S b ∨ W.heap.size ≤ b) ∧ b < w8.heap.size) w8 (appTm f ([h, l] ++ [R])) (.agg #[.int .i64 pk, .int .i64 pi, .int .i64 ptk, .slice pB pn pd, .slice pA pm pc])) ∨ (er = 4 ∧ 4096 < (appTm f ([h, l] ++ [R])).size) from
             h8.imp (fun h => ⟨h.1, h.2.1, IsTm.keep (fun b x => ⟨x.1.elim (fun y => y.1) (fun y => .inr (by have := B7.out.size; omega)), x.2⟩) (fun _ _ => rfl) _ h.2.2⟩) id)
           clear r8 h8))
    all_goals
      go_wp2_with fail
      obtain ⟨y0, y1, y2, y3, y4⟩ := (K8.out.set5 (.int .i64 pk) (.int .i64 pi) (.int .i64 ptk) (.slice pB pn pd) (.slice pA pm pc)).cells5
      have hg := only_set5 w8 (w.heap.size + 1) (.int .i64 pk) (.int .i64 pi) (.int .i64 ptk) (.slice pB pn pd) (.slice pA pm pc)
      have hb8 : Below w.heap.size w w8 := HB.out.1.trans ((HBC.out.trans (B8.out.mono hcz)).mono HB.out.1.size)
      have hfin := bec_end HS.out (show w.heap.size ≤ w.heap.size + 1 by omega) (lo := W.heap.size) (by omega) hb8 hg H8.out
      rw [HR.out] at hfin
      exact bodyPost_ret (v := .tuple #[.agg #[.int .i64 pk, .int .i64 pi, .int .i64 ptk, .slice pB pn pd, .slice pA pm pc], .int .i64 er]) (by simp [results, Tryd.results107, go_sem, y0, y1, y2, y3, y4]) rfl hfin

/-- What a redex becomes, in memory. -/
theorem becomes_any (t : Tm) (v : Value) (S : Nat → Prop) (w : World) (hok : t.ok = true) (hr : t.redex = true) (hsz : t.size ≤ 4096) (hlow : t.low 536870912 = true) (htab : Tab w) (hS : ∀ b, S b → b < w.heap.size) (hT : IsTm S w t v) :
    Calls Tryd.prog 107 #[v] w (BecR S t.becomes w) := by
  have h := red_of hok hr
  generalize t.becomes = u at h ⊢
  cases h with
  | app i T j U b a =>
    have hb := ok_arg (ok_arg hok (a := .mk 2 j U [b]) (by simp)) (a := b) (by simp)
    have ha := ok_arg hok (a := a) (by simp)
    simp only [low_mk, lowAll, Bool.and_eq_true, and_true] at hlow
    simp only [Tm.size, sizeAllT] at hsz
    have h1 := ok_bulk hb
    have h2 := ok_bulk ha
    exact becomes_app i T j U b a v S w (errT_zero.2 ⟨hb, by omega⟩) (errT_zero.2 ⟨ha, by omega⟩) (by omega) (by omega) hlow.2.1.2 hlow.2.2 htab hS hT
  | zero i T _ f j U =>
    simp only [Tm.size, sizeAllT] at hsz
    exact becomes_zero i T _ f j U v S w (by omega) hS hT
  | nil i T _ f j U =>
    simp only [Tm.size, sizeAllT] at hsz
    exact becomes_nil i T _ f j U v S w (by omega) hS hT
  | succ i T b f j U n => exact becomes_succ i T b f j U n v S w hok hsz htab hS hT
  | cons i T b f j U x y => exact becomes_cons i T b f j U x y v S w hok hsz htab hS hT
  | fst i T j U _ c =>
    simp only [Tm.size, sizeAllT] at hsz
    exact becomes_fst i T j U _ c v S w (by omega) hS hT
  | snd i T j U a _ =>
    simp only [Tm.size, sizeAllT] at hsz
    exact becomes_snd i T j U a _ v S w (by omega) hS hT
end Go.Proofs.YtifijgihcincfaaDoor
