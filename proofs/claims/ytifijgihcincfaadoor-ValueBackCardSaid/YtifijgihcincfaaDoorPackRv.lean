/- value.Read of the term of a value: numbers. -/
import Derived.Test.YtifijgihcincfaaDoorPackVa
import Derived.Test.YtifijgihcincfaaDoorPackWalk
import Derived.Deep.LoopGhost
import Derived.Test.YtifijgihcincfaaDoorMkVars
import Derived.Test.YtifijgihcincfaaDoorMade
import Derived.Deep.RegionHeld3
import Derived.Test.YtifijgihcincfaaDoorRefSame
import Derived.Test.YtifijgihcincfaaDoorPackEnd
namespace Go.Proofs.YtifijgihcincfaaDoor
open Go.RowKit

/-- How the loop over a number stands: k are to come. -/
def NumAt (w : World) (n k : Nat) (cnt : Value) (wr : World) : Prop :=
  ∃ (B A : Option Addr) (d c : Nat), k ≤ n ∧ cnt = .int .i64 ((n - k : Nat) : Int) ∧ Blk wr w.heap.size 34 #[.int .i64 (numTm k).kind, .int .i64 (numTm k).index, .int .i64 (numTm k).type.kind, .slice B (numTm k).type.args.length d, .slice A (numTm k).args.length c] ∧
    IsTm (· < w.heap.size) wr (numTm k) (.agg #[.int .i64 (numTm k).kind, .int .i64 (numTm k).index, .int .i64 (numTm k).type.kind, .slice B (numTm k).type.args.length d, .slice A (numTm k).args.length c]) ∧ Below w.heap.size w wr ∧ w.heap.size + 1 ≤ wr.heap.size

theorem far_set5 {S : Nat → Prop} {w : World} {g : Nat} {x : Tm} {v a0 a1 a2 a3 a4 : Value} (h : IsTm S w x v) (hS : ∀ b, S b → b < w.heap.size ∧ b ≠ g) :
    IsTm S (((((w.setCell ⟨g, 0, none⟩ a0).setCell ⟨g, 1, none⟩ a1).setCell ⟨g, 2, none⟩ a2).setCell ⟨g, 3, none⟩ a3).setCell ⟨g, 4, none⟩ a4) x v := by
  have hg := only_set5 w g a0 a1 a2 a3 a4
  exact IsTm.keep (fun _ h => h) (fun p hp => World.cell?_of_block (hg.block p.block (hS _ hp).1 (fun e => (hS _ hp).2 (by simpa using e)))) _ h

set_option maxRecDepth 100000 in
set_option maxHeartbeats 4000000 in
theorem readNum_any (n : Nat) (v : Value) (w : World) (hn : n ≤ 400000) (hT : IsTm (· < w.heap.size) w (numTm n) v) :
    Calls Tryd.prog 79 #[v] w fun e w' => e = .returned (.tuple #[.int .i64 n, .bool true]) ∧ Below w.heap.size w w' := by
  obtain ⟨B, d, A, c, rfl, _⟩ := IsTm.form hT
  have HT := Lib.hid hT
  clear hT
  go_enter Tryd.func79, Tryd.ntmps79
  go_upto_region 1 with fail
  obtain ⟨b1, z1, k0⟩ := new_blk (Below.refl w.heap.size w) (Nat.le_refl _) #[.int .i64 (numTm n).kind, .int .i64 (numTm n).index, .int .i64 (numTm n).type.kind, .slice B (numTm n).type.args.length d, .slice A (numTm n).args.length c] 34
  generalize w.alloc (Obj.cells #[.int .i64 (numTm n).kind, .int .i64 (numTm n).index, .int .i64 (numTm n).type.kind, .slice B (numTm n).type.args.length d, .slice A (numTm n).args.length c] 34) = W at b1 z1 k0 ⊢
  have HP := Lib.hid (show NumAt w n n (.int .i64 0) W from ⟨B, A, d, c, Nat.le_refl _, by simp, k0, IsTm.keep (fun _ h => h) (fun p hp => b1.cell hp) _ HT.out, b1, by omega⟩)
  clear b1 z1 k0
  go_wp2_with fail
  go_loopg [4] n (fun k cnt wr => NumAt w n k cnt wr)
  case atStart => exact HP.out
  case round =>
    obtain ⟨B1, A1, d1, c1, hk, rfl, kb, hx, hb, hz⟩ := hrel
    cases gk with
    | zero =>
      have kb : Blk wr w.heap.size 34 #[.int .i64 4, .int .i64 0, .int .i64 0, .slice B1 0 d1, .slice A1 0 c1] := kb
      obtain ⟨r0, r1, r2, r3, r4, _, _, _, _, _⟩ := kb.facts5
      have HB := Lib.hid hb
      clear hb hx kb
      go_upto_region 5 with fail
      go_region
      all_goals
        go_wp2_with fail
        go_ret2
        exact ⟨by simp, HB.out.drew⟩
    | succ m =>
      have kb : Blk wr w.heap.size 34 #[.int .i64 5, .int .i64 0, .int .i64 0, .slice B1 0 d1, .slice A1 1 c1] := kb
      have hl : TmR.Sl (· < w.heap.size) wr [numTm m] (.slice A1 1 c1) := (isTm_iff.1 hx).2.2.2
      obtain ⟨a, B2, d2, A2, c2, rfl, ha, q0, q1, q2, q3, q4, hxn⟩ := sl_child hl 0 (by simp)
      rw [Nat.zero_mul, add_zero'] at q0 q1 q2 q3 q4
      have hxn : IsTm (· < w.heap.size) wr (numTm m) (.agg #[.int .i64 (numTm m).kind, .int .i64 (numTm m).index, .int .i64 (numTm m).type.kind, .slice B2 (numTm m).type.args.length d2, .slice A2 (numTm m).args.length c2]) := hxn
      have q0 : wr.cell? a = some (.int .i64 (numTm m).kind) := q0
      have q1 : wr.cell? ⟨a.block, a.off + 1, none⟩ = some (.int .i64 (numTm m).index) := q1
      have q2 : wr.cell? ⟨a.block, a.off + 2, none⟩ = some (.int .i64 (numTm m).type.kind) := q2
      have q3 : wr.cell? ⟨a.block, a.off + 3, none⟩ = some (.slice B2 (numTm m).type.args.length d2) := q3
      have q4 : wr.cell? ⟨a.block, a.off + 4, none⟩ = some (.slice A2 (numTm m).args.length c2) := q4
      obtain ⟨r0, r1, r2, r3, r4, f0, f1, f2, f3, f4⟩ := kb.facts5
      have hg := only_set5 wr w.heap.size (.int .i64 (numTm m).kind) (.int .i64 (numTm m).index) (.int .i64 (numTm m).type.kind) (.slice B2 (numTm m).type.args.length d2) (.slice A2 (numTm m).args.length c2)
      have HST := Lib.hid (And.intro (kb.set5 (.int .i64 (numTm m).kind) (.int .i64 (numTm m).index) (.int .i64 (numTm m).type.kind) (.slice B2 (numTm m).type.args.length d2) (.slice A2 (numTm m).args.length c2)) (And.intro (far_set5 (g := w.heap.size) (a0 := .int .i64 (numTm m).kind) (a1 := .int .i64 (numTm m).index) (a2 := .int .i64 (numTm m).type.kind) (a3 := .slice B2 (numTm m).type.args.length d2) (a4 := .slice A2 (numTm m).args.length c2) hxn (fun b h => by have h' : b < w.heap.size := h; omega)) (And.intro (hb.grown hg hb.size (fun k e => by cases e; exact Nat.le_refl _)) hg.size)))
      clear kb hx hl hxn hb hg
      go_wp2_with fail
      go_roundg m
      case rel => exact ⟨B2, A2, d2, c2, by omega, by go_num, HST.out.1, HST.out.2.1, HST.out.2.2.1, by have := HST.out.2.2.2; omega⟩
      case measure => omega
end Go.Proofs.YtifijgihcincfaaDoor
namespace Go.Proofs.YtifijgihcincfaaDoor
open Go.RowKit

/-- How the loop over a list stands: pre is read, k elements are to come. -/
def ReadAt (w : World) (m : List Int) (k : Nat) (s : Value) (wr : World) : Prop :=
  ∃ (pre rest : List Int) (B A : Option Addr) (d c : Nat), m = pre ++ rest ∧ rest.length = k ∧ ZR.Own (· < w.heap.size) (w.heap.size + 1) s pre wr ∧
    Blk wr w.heap.size 34 #[.int .i64 (listTm rest).kind, .int .i64 (listTm rest).index, .int .i64 (listTm rest).type.kind, .slice B (listTm rest).type.args.length d, .slice A (listTm rest).args.length c] ∧
    IsTm (· < w.heap.size) wr (listTm rest) (.agg #[.int .i64 (listTm rest).kind, .int .i64 (listTm rest).index, .int .i64 (listTm rest).type.kind, .slice B (listTm rest).type.args.length d, .slice A (listTm rest).args.length c]) ∧ Below w.heap.size w wr ∧ w.heap.size + 1 ≤ wr.heap.size

set_option maxRecDepth 100000 in
set_option maxHeartbeats 4000000 in
theorem readList_any (m : List Int) (v : Value) (w : World) (hm : ∀ x ∈ m, 0 ≤ x ∧ x ≤ 400000) (hlen : m.length ≤ 400000) (hT : IsTm (· < w.heap.size) w (listTm m) v) :
    Calls Tryd.prog 80 #[v] w fun e w' => ∃ s, e = .returned (.tuple #[s, .bool true]) ∧ ZR.Own (· < w.heap.size) (w.heap.size + 1) s m w' ∧ Below w.heap.size w w' := by
  obtain ⟨B, d, A, c, rfl, _⟩ := IsTm.form hT
  have HT := Lib.hid hT
  have HM := Lib.hid hm
  clear hT hm
  go_enter Tryd.func80, Tryd.ntmps80
  go_upto_region 1 with fail
  obtain ⟨b1, z1, k0⟩ := new_blk (Below.refl w.heap.size w) (Nat.le_refl _) #[.int .i64 (listTm m).kind, .int .i64 (listTm m).index, .int .i64 (listTm m).type.kind, .slice B (listTm m).type.args.length d, .slice A (listTm m).args.length c] 34
  generalize w.alloc (Obj.cells #[.int .i64 (listTm m).kind, .int .i64 (listTm m).index, .int .i64 (listTm m).type.kind, .slice B (listTm m).type.args.length d, .slice A (listTm m).args.length c] 34) = W at b1 z1 k0 ⊢
  have HP := Lib.hid (show ReadAt w m m.length (.slice none 0 0) W from ⟨[], m, B, A, d, c, rfl, rfl, Rep.Own.nil _ _ _, k0, IsTm.keep (fun _ h => h) (fun p hp => b1.cell hp) _ HT.out, b1, by omega⟩)
  clear b1 z1 k0
  go_wp2_with fail
  go_loopg [4] m.length (fun k s wr => ReadAt w m k s wr)
  case atStart => exact HP.out
  case round =>
    obtain ⟨pre, rest, B1, A1, d1, c1, hmr, hk, hown, kb, hx, hb, hz⟩ := hrel
    cases rest with
    | nil =>
      have kb : Blk wr w.heap.size 34 #[.int .i64 7, .int .i64 0, .int .i64 0, .slice B1 0 d1, .slice A1 0 c1] := kb
      obtain ⟨r0, r1, r2, r3, r4, _, _, _, _, _⟩ := kb.facts5
      have hmp : pre = m := by simpa using hmr.symm
      have HB := Lib.hid (And.intro hb (And.intro hown hmp))
      clear hb hx kb hown hmr hmp
      go_upto_region 8 with fail
      go_region
      all_goals
        go_wp2_with fail
        go_ret2
        exact ⟨_, rfl, HB.out.2.2 ▸ HB.out.2.1.below ((Below.refl _ _).drew), HB.out.1.drew⟩
    | cons x r =>
      have kb : Blk wr w.heap.size 34 #[.int .i64 8, .int .i64 0, .int .i64 0, .slice B1 0 d1, .slice A1 2 c1] := kb
      have hl : TmR.Sl (· < w.heap.size) wr [numTm x.toNat, listTm r] (.slice A1 2 c1) := (isTm_iff.1 hx).2.2.2
      have hxm := HM.out x (by rw [hmr]; simp)
      have hpl : pre.length + 1 ≤ m.length := by rw [hmr]; simp
      obtain ⟨a, B2, d2, A2, c2, rfl, ha, q0, q1, q2, q3, q4, hxn⟩ := sl_child hl 0 (by simp)
      obtain ⟨a', B3, d3, A3, c3, e3, _, s0, s1, s2, s3, s4, hyn⟩ := sl_child hl 1 (by simp)
      have e3 : a' = a := by simpa using e3.symm
      subst e3
      have ha : a'.block < w.heap.size := ha
      rw [Nat.zero_mul, add_zero'] at q0 q1 q2 q3 q4
      rw [Nat.one_mul] at s0 s1 s2 s3 s4
      obtain ⟨tn, htn⟩ : ∃ tn, tn = numTm x.toNat := ⟨_, rfl⟩
      obtain ⟨tl, htl⟩ : ∃ tl, tl = listTm r := ⟨_, rfl⟩
      have hxn : IsTm (· < w.heap.size) wr tn (.agg #[.int .i64 tn.kind, .int .i64 tn.index, .int .i64 tn.type.kind, .slice B2 tn.type.args.length d2, .slice A2 tn.args.length c2]) := by rw [htn]; exact hxn
      have hyn : IsTm (· < w.heap.size) wr tl (.agg #[.int .i64 tl.kind, .int .i64 tl.index, .int .i64 tl.type.kind, .slice B3 tl.type.args.length d3, .slice A3 tl.args.length c3]) := by rw [htl]; exact hyn
      have q0 : wr.cell? a' = some (.int .i64 tn.kind) := by rw [htn]; exact q0
      have q1 : wr.cell? ⟨a'.block, a'.off + 1, none⟩ = some (.int .i64 tn.index) := by rw [htn]; exact q1
      have q2 : wr.cell? ⟨a'.block, a'.off + 2, none⟩ = some (.int .i64 tn.type.kind) := by rw [htn]; exact q2
      have q3 : wr.cell? ⟨a'.block, a'.off + 3, none⟩ = some (.slice B2 tn.type.args.length d2) := by rw [htn]; exact q3
      have q4 : wr.cell? ⟨a'.block, a'.off + 4, none⟩ = some (.slice A2 tn.args.length c2) := by rw [htn]; exact q4
      have s0 : wr.cell? (a'.add 5) = some (.int .i64 tl.kind) := by rw [htl]; exact s0
      have s1 : wr.cell? ⟨(a'.add 5).block, (a'.add 5).off + 1, none⟩ = some (.int .i64 tl.index) := by rw [htl]; exact s1
      have s2 : wr.cell? ⟨(a'.add 5).block, (a'.add 5).off + 2, none⟩ = some (.int .i64 tl.type.kind) := by rw [htl]; exact s2
      have s3 : wr.cell? ⟨(a'.add 5).block, (a'.add 5).off + 3, none⟩ = some (.slice B3 tl.type.args.length d3) := by rw [htl]; exact s3
      have s4 : wr.cell? ⟨(a'.add 5).block, (a'.add 5).off + 4, none⟩ = some (.slice A3 tl.args.length c3) := by rw [htl]; exact s4
      have hab : (a'.add 5).block = a'.block := by unfold Addr.add; split <;> rfl
      obtain ⟨r0, r1, r2, r3, r4, f0, f1, f2, f3, f4⟩ := kb.facts5
      have HF := Lib.hid (And.intro htn (And.intro htl (And.intro hmr (And.intro hxm hk))))
      have HX := Lib.hid (And.intro hxn (And.intro hyn (And.intro kb (And.intro hown (And.intro hb hz)))))
      have HSY := Lib.hid fun (w' : World) (h : ∀ p : Addr, p.block < w.heap.size → w'.cell? p = wr.cell? p) => And.intro ((h _ (by rw [hab]; omega)).trans s0) (And.intro ((h ⟨(a'.add 5).block, (a'.add 5).off + 1, none⟩ (show (a'.add 5).block < _ by rw [hab]; omega)).trans s1) (And.intro ((h ⟨(a'.add 5).block, (a'.add 5).off + 2, none⟩ (show (a'.add 5).block < _ by rw [hab]; omega)).trans s2) (And.intro ((h ⟨(a'.add 5).block, (a'.add 5).off + 3, none⟩ (show (a'.add 5).block < _ by rw [hab]; omega)).trans s3) ((h ⟨(a'.add 5).block, (a'.add 5).off + 4, none⟩ (show (a'.add 5).block < _ by rw [hab]; omega)).trans s4))))
      clear htn htl hmr hxm hk hxn hyn kb hown hb hl hx s0 s1 s2 s3 s4 hab
      go_wp2_with fail
      refine (readNum_any x.toNat _ wr (by have := HF.out.2.2.2.1; omega) (by rw [← HF.out.1]; exact HX.out.1.keep (fun b h => by have h' : b < w.heap.size := h; show b < wr.heap.size; omega) (fun _ _ => rfl))).mono ?_
      rintro e w4 ⟨rfl, h4⟩
      rw [show ((x.toNat : Nat) : Int) = x from Int.toNat_of_nonneg HF.out.2.2.2.1.1]
      have B4 := Lib.hid h4
      have hz4 := h4.size
      obtain ⟨i0, hi, hz0, hz1, hz2⟩ := info_parts info_int
      obtain ⟨xs, hxo, hxc⟩ := HX.out.2.2.2.1.below h4
      have hxo1 := hxo.alloc (Obj.cells #[.int .i64 x] 3)
      have HXC := Lib.hid hxc
      obtain ⟨r0', r1', r2', r3', r4', f0', f1', f2', f3', f4'⟩ := (HX.out.2.2.1.below h4 HX.out.2.2.1.lt).facts5
      clear h4 hxo hxc q0 q1 q2 q3 q4 r0 r1 r2 r3 r4 f0 f1 f2 f3 f4
      go_upto_region 7 with (at_builtin; go_loud (refine wpList_append_own_at _ rfl _ _ 22 rfl (w.heap.size + 1) 3 i0 _ 1 8 Tryd.underlying22 hi hz0 hz1 hz2 rfl (by decide) u4 pre.length xs rfl hxo1 ⟨w4.heap.size, 0, none⟩ 1 1 [_] rfl rfl (cells_new _ _ _) (by simp [Value.oneCell']) (by simp only [maxLen]; omega) (by omega) (by simp; omega) ?_); intro v2 w2 hown2 hg2 hnil2 hat2)
      have hlow2 := HX.out.2.2.2.1.lt
      have hk2 := ((HX.out.2.2.1.below B4.out HX.out.2.2.1.lt).alloc (Obj.cells #[.int .i64 x] 3)).grown hg2 (fun e => by have := (hlow2 _ e.symm).1; omega)
      have hfar2 : ∀ p : Addr, p.block < w.heap.size → w2.cell? p = wr.cell? p := fun p hp =>
        (World.cell?_of_block (hg2.block p.block (by simp; omega) (fun e => by have := (hlow2 _ e.symm).1; omega))).trans ((World.cell?_alloc_lt _ _ _ (by omega)).trans (B4.out.cell (by omega)))
      obtain ⟨t0', t1', t2', t3', t4', g0', g1', g2', g3', g4'⟩ := hk2.facts5
      obtain ⟨s0, s1, s2, s3, s4⟩ := HSY.out w2 hfar2
      simp [Addr.add] at s0 s1 s2 s3 s4
      have hz2 := hg2.size
      have HW2 := Lib.hid (And.intro hk2 hfar2)
      have HO2 := Lib.hid (Rep.Own.more (R := ZR) (m := [x]) hxo1 (HXC.out.keep (fun b hb => ⟨hb.1, by have := hb.2.1; simp; omega, hb.2.2⟩) (fun p hp => World.cell?_alloc_lt _ _ _ hp.2.1)) (Rep.Ch.one (R := ZR) (vs := [.int .i64 x]) rfl) hown2 hg2 hat2)
      have HB2 := Lib.hid (show Below w.heap.size w w2 from ((HX.out.2.2.2.2.1.trans (B4.out.mono (by omega))).alloc (by omega) _).grown hg2 (by simp; omega) (fun k e => by have := (hlow2 k e).1; omega))
      have hg5 := only_set5 w2 w.heap.size (.int .i64 tl.kind) (.int .i64 tl.index) (.int .i64 tl.type.kind) (.slice B3 tl.type.args.length d3) (.slice A3 tl.args.length c3)
      have hzw : w.heap.size + 1 ≤ w2.heap.size := by have := hk2.lt; omega
      have HFIN := Lib.hid (And.intro (HO2.out.far hg5 (by omega) (by omega)) (And.intro (hk2.set5 (.int .i64 tl.kind) (.int .i64 tl.index) (.int .i64 tl.type.kind) (.slice B3 tl.type.args.length d3) (.slice A3 tl.args.length c3)) (And.intro (far_set5 (g := w.heap.size) (a0 := .int .i64 tl.kind) (a1 := .int .i64 tl.index) (a2 := .int .i64 tl.type.kind) (a3 := .slice B3 tl.type.args.length d3) (a4 := .slice A3 tl.args.length c3) (show IsTm (· < w.heap.size) w2 tl (.agg #[.int .i64 tl.kind, .int .i64 tl.index, .int .i64 tl.type.kind, .slice B3 tl.type.args.length d3, .slice A3 tl.args.length c3]) from IsTm.keep (fun _ h => h) (fun p hp => hfar2 p hp) _ HX.out.2.1) (fun b h => by have h' : b < w.heap.size := h; omega)) (And.intro (HB2.out.grown hg5 HB2.out.size (fun k e => by cases e; exact Nat.le_refl _)) hg5.size))))
      clear r0' r1' r2' r3' r4' f0' f1' f2' f3' f4' hlow2 hk2 hfar2 hown2 hat2 hnil2 hxo1 hg5
      go_wp2_with fail
      go_roundg r.length
      case rel =>
        obtain ⟨rfl, rfl, hmr, _, _⟩ := HF.out
        exact ⟨pre ++ [x], r, B3, A3, d3, c3, by rw [hmr]; simp, rfl, HFIN.out.1, HFIN.out.2.1, HFIN.out.2.2.1, HFIN.out.2.2.2.1, by have := HFIN.out.2.2.2.2; omega⟩
      case measure => have := HF.out.2.2.2.2; simp only [List.length_cons] at this; omega
end Go.Proofs.YtifijgihcincfaaDoor
namespace Go.Proofs.YtifijgihcincfaaDoor
open Go.RowKit

def ReadV (t : Va) (w : World) (e : Ending) (w' : World) : Prop := ∃ v, e = .returned (.tuple #[v, .bool true]) ∧ IsVa (fun b => w.heap.size ≤ b ∧ b < w'.heap.size) w' t v ∧ Below w.heap.size w w'
theorem own_ints {S S' : Nat → Prop} {base : Nat} {v : Value} {l : List Int} {w : World} (h : ZR.Own S base v l w) : ZR.Own S' base v l w := by
  obtain ⟨xs, h1, h2, h3⟩ := h
  exact ⟨xs, h1, h2, fun i hi => by obtain ⟨vs, g1, g2⟩ := h3 i hi; exact ⟨vs, g1, g2⟩⟩
/-- The result is stored. -/
theorem read_end {t : Va} {w W : World} {a b c d : Value} (hb : Below w.heap.size w W) (hV : IsVa (fun q => w.heap.size ≤ q ∧ q ≠ w.heap.size + 1 ∧ q < W.heap.size) W t (.agg #[a, b, c, d])) :
    ReadV t w (.returned (.tuple #[.agg #[a, b, c, d], .bool true])) ((((W.setCell ⟨w.heap.size + 1, 0, none⟩ a).setCell ⟨w.heap.size + 1, 1, none⟩ b).setCell ⟨w.heap.size + 1, 2, none⟩ c).setCell ⟨w.heap.size + 1, 3, none⟩ d) := by
  have hg := only_set4 W (w.heap.size + 1) a b c d
  refine ⟨_, rfl, IsVa.keep (fun q h => ⟨h.1, Nat.lt_of_lt_of_le h.2.2 hg.size⟩) (fun p h => World.cell?_of_block (hg.block p.block h.2.2 (fun e => h.2.1 (by simpa using e)))) _ hV, hb.grown hg hb.size (fun k e => by cases e; omega)⟩

set_option maxRecDepth 100000 in
set_option maxHeartbeats 4000000 in
theorem read_num (n : Nat) (u : Value) (w : World) (hn : n ≤ 400000) (hT : IsTm (· < w.heap.size) w (numTm n) u) : Calls Tryd.prog 52 #[u] w (ReadV (.mk 1 n [] []) w) := by
  obtain ⟨B, d, A, c, rfl, _⟩ := IsTm.form hT
  have hkind : (numTm n).kind = 4 ∨ (numTm n).kind = 5 := by cases n; exact .inl rfl; exact .inr rfl
  have HT := Lib.hid hT
  obtain ⟨tn, htn⟩ : ∃ tn, Hid (tn = numTm n) := ⟨_, Lib.hid rfl⟩
  rw [← htn.out] at hkind ⊢ HT
  clear hT
  go_enter Tryd.func52, Tryd.ntmps52
  go_upto_region 1 with fail
  obtain ⟨W, hW, b2, z2, k0, k1⟩ := alloc2_facts w #[.int .i64 tn.kind, .int .i64 tn.index, .int .i64 tn.type.kind, .slice B tn.type.args.length d, .slice A tn.args.length c] #[.int .i64 0, .int .i64 0, .slice none 0 0, .slice none 0 0] 34 45
  rw [← hW]
  obtain ⟨r0, r1, r2, r3, r4, _⟩ := k0.facts5
  have HB := Lib.hid (And.intro b2 z2)
  have HK := Lib.hid k1
  have hzW := b2.size
  clear hW b2 k0 k1
  rcases hkind with hk | hk
  all_goals
    rw [hk] at r0
    have HK0 := Lib.hid hk
    clear hk
    go_wp2_with fail
    refine (readNum_any n _ W hn (by rw [← HK0.out, ← htn.out]; exact HT.out.keep (fun b h => Nat.lt_of_lt_of_le h HB.out.1.size) (fun p h => HB.out.1.cell h))).mono ?_
    rintro e w1 ⟨rfl, h1⟩
    have B1 := Lib.hid (HB.out.1.trans (h1.mono hzW))
    have hz1 := h1.size
    have K1 := Lib.hid (HK.out.below h1 HK.out.lt)
    obtain ⟨_, _, _, _, f0, f1, f2, f3⟩ := K1.out.facts4
    clear h1 r0 r1 r2 r3 r4
    go_wp2_with fail
    obtain ⟨y0, y1, y2, y3, _⟩ := (K1.out.set4 (.int .i64 1) (.int .i64 n) (.slice none 0 0) (.slice none 0 0)).facts4
    exact bodyPost_ret (v := .tuple #[.agg #[.int .i64 1, .int .i64 n, .slice none 0 0, .slice none 0 0], .bool true]) (by simp [results, Tryd.results52, go_sem, y0, y1, y2, y3]) rfl
      (read_end B1.out (isVa_iff.2 ⟨rfl, rfl, Rep.Sl.nil _ _, Rep.Sl.nil _ _⟩))

set_option maxRecDepth 100000 in
set_option maxHeartbeats 4000000 in
theorem read_list (m : List Int) (u : Value) (w : World) (hm : ∀ x ∈ m, 0 ≤ x ∧ x ≤ 400000) (hlen : m.length ≤ 400000) (hT : IsTm (· < w.heap.size) w (listTm m) u) : Calls Tryd.prog 52 #[u] w (ReadV (.mk 2 0 m []) w) := by
  obtain ⟨B, d, A, c, rfl, _⟩ := IsTm.form hT
  have hkind : (listTm m).kind = 7 ∨ (listTm m).kind = 8 := by cases m; exact .inl rfl; exact .inr rfl
  have HT := Lib.hid hT
  have HM := Lib.hid hm
  obtain ⟨tn, htn⟩ : ∃ tn, Hid (tn = listTm m) := ⟨_, Lib.hid rfl⟩
  rw [← htn.out] at hkind ⊢ HT
  clear hT hm
  go_enter Tryd.func52, Tryd.ntmps52
  go_upto_region 1 with fail
  obtain ⟨W, hW, b2, z2, k0, k1⟩ := alloc2_facts w #[.int .i64 tn.kind, .int .i64 tn.index, .int .i64 tn.type.kind, .slice B tn.type.args.length d, .slice A tn.args.length c] #[.int .i64 0, .int .i64 0, .slice none 0 0, .slice none 0 0] 34 45
  rw [← hW]
  obtain ⟨r0, r1, r2, r3, r4, _⟩ := k0.facts5
  have HB := Lib.hid (And.intro b2 z2)
  have HK := Lib.hid k1
  have hzW := b2.size
  clear hW b2 k0 k1
  rcases hkind with hk | hk
  all_goals
    rw [hk] at r0
    have HK0 := Lib.hid hk
    clear hk
    go_wp2_with fail
    refine (readList_any m _ W HM.out hlen (by rw [← HK0.out, ← htn.out]; exact HT.out.keep (fun b h => Nat.lt_of_lt_of_le h HB.out.1.size) (fun p h => HB.out.1.cell h))).mono ?_
    rintro e w1 ⟨s1, rfl, o1, h1⟩
    obtain ⟨A1, c1, rfl⟩ := o1.form
    have O1 := Lib.hid (own_ints (S' := fun _ => False) o1)
    have B1 := Lib.hid (HB.out.1.trans (h1.mono hzW))
    have hz1 := h1.size
    have K1 := Lib.hid (HK.out.below h1 HK.out.lt)
    obtain ⟨_, _, _, _, f0, f1, f2, f3⟩ := K1.out.facts4
    clear h1 o1 r0 r1 r2 r3 r4
    go_wp2_with fail
    obtain ⟨y0, y1, y2, y3, _⟩ := (K1.out.set4 (.int .i64 2) (.int .i64 0) (.slice A1 m.length c1) (.slice none 0 0)).facts4
    exact bodyPost_ret (v := .tuple #[.agg #[.int .i64 2, .int .i64 0, .slice A1 m.length c1, .slice none 0 0], .bool true]) (by simp [results, Tryd.results52, go_sem, y0, y1, y2, y3]) rfl
      (read_end B1.out (isVa_iff.2 ⟨rfl, rfl, Rep.Sl.keep (fun b h => (fun h2 => ⟨by omega, by omega, h.2⟩) (show w.heap.size + 2 ≤ b by have h1 := h.1; have h3 := HB.out.2; rcases h1 with h1 | h1; exact h1.elim; omega)) (fun _ _ => rfl) O1.out.sl, Rep.Sl.nil _ _⟩))

set_option maxRecDepth 100000 in
set_option maxHeartbeats 4000000 in
theorem read_unit (u : Value) (w : World) (hT : IsTm (· < w.heap.size) w (.mk 13 0 .zero []) u) : Calls Tryd.prog 52 #[u] w (ReadV (.mk 4 0 [] []) w) := by
  obtain ⟨tn, htn⟩ : ∃ tn : Tm, Hid (tn = .mk 13 0 .zero []) := ⟨_, Lib.hid rfl⟩
  rw [← htn.out] at hT
  obtain ⟨B, d, A, c, rfl, _⟩ := IsTm.form hT
  have hk : tn.kind = 13 := by rw [htn.out]; rfl
  clear hT
  go_enter Tryd.func52, Tryd.ntmps52
  go_upto_region 1 with fail
  obtain ⟨W, hW, b2, z2, k0, k1⟩ := alloc2_facts w #[.int .i64 tn.kind, .int .i64 tn.index, .int .i64 tn.type.kind, .slice B tn.type.args.length d, .slice A tn.args.length c] #[.int .i64 0, .int .i64 0, .slice none 0 0, .slice none 0 0] 34 45
  have hW' : W = (w.alloc (Obj.cells #[.int .i64 13, .int .i64 tn.index, .int .i64 tn.type.kind, .slice B tn.type.args.length d, .slice A tn.args.length c] 34)).alloc (Obj.cells #[.int .i64 0, .int .i64 0, .slice none 0 0, .slice none 0 0] 45) := by rw [hW, hk]
  first
    | rw [← hW']
    | rw [← hW]
  obtain ⟨r0, r1, r2, r3, r4, _⟩ := k0.facts5
  obtain ⟨_, _, _, _, f0, f1, f2, f3⟩ := k1.facts4
  rw [hk] at r0
  have HB := Lib.hid (And.intro b2 z2)
  have HK := Lib.hid k1
  clear b2 z2 k0 k1 hk hW hW'
  go_wp2_with fail
  obtain ⟨y0, y1, y2, y3, _⟩ := (HK.out.set4 (.int .i64 4) (.int .i64 0) (.slice none 0 0) (.slice none 0 0)).facts4
  exact bodyPost_ret (v := .tuple #[.agg #[.int .i64 4, .int .i64 0, .slice none 0 0, .slice none 0 0], .bool true]) (by simp [results, Tryd.results52, go_sem, y0, y1, y2, y3]) rfl
    (read_end HB.out.1 (isVa_iff.2 ⟨rfl, rfl, Rep.Sl.nil _ _, Rep.Sl.nil _ _⟩))

theorem read_leaf {T : Ty} {V : Va} (h : leafV T V) (u : Value) (w : World) (hT : IsTm (· < w.heap.size) w V.term u) : Calls Tryd.prog 52 #[u] w (ReadV V w) := by
  rcases h with ⟨_, n, hn, rfl⟩ | ⟨_, m, hl, hb, rfl⟩ | ⟨_, rfl⟩
  · rw [show (Va.mk 1 n [] []).term = numTm n from by simp [Va.term]] at hT
    exact read_num n u w (by omega) hT
  · rw [show (Va.mk 2 0 m []).term = listTm m from by simp [Va.term]] at hT
    exact read_list m u w (fun x hx => by have := hb x hx; omega) (by omega) hT
  · rw [show (Va.mk 4 0 [] []).term = .mk 13 0 .zero [] from by simp [Va.term]] at hT
    exact read_unit u w hT

/-- Two values in one slice that was just built, below a pair. -/
theorem pair_va {lo : Nat} {w : World} {a b : Va} {x0 x1 x2 x3 y0 y1 y2 y3 : Value} (hlo : lo ≤ w.heap.size)
    (ha : IsVa (fun q => lo ≤ q ∧ q < w.heap.size) w a (.agg #[x0, x1, x2, x3])) (hb : IsVa (fun q => lo ≤ q ∧ q < w.heap.size) w b (.agg #[y0, y1, y2, y3])) :
    IsVa (fun q => lo ≤ q ∧ q < (w.alloc (.cells #[x0, x1, x2, x3, y0, y1, y2, y3] 45)).heap.size) (w.alloc (.cells #[x0, x1, x2, x3, y0, y1, y2, y3] 45)) (.mk 3 0 [] [a, b]) (.agg #[.int .i64 3, .int .i64 0, .slice none 0 0, .slice (some ⟨w.heap.size, 0, none⟩) 2 2]) := by
  have hc := (Rep.Ch.one (R := VaR) (vs := [x0, x1, x2, x3]) ha).append (Rep.Ch.one (R := VaR) (vs := [y0, y1, y2, y3]) hb)
  have hs := Rep.Sl.built (R := VaR) hc (fun b h => h.2) (fun q => lo ≤ q ∧ q < w.heap.size + 1) (fun b h => ⟨h.1, by omega⟩) ⟨by omega, by omega⟩
  have hs' : VaR.Sl (fun q => lo ≤ q ∧ q < w.heap.size + 1) (w.alloc (.cells #[x0, x1, x2, x3, y0, y1, y2, y3] 45)) [a, b] (.slice (some ⟨w.heap.size, 0, none⟩) 2 2) := hs
  exact isVa_iff.2 ⟨rfl, rfl, Rep.Sl.nil _ _, hs'.keep (fun q h => ⟨h.1, by simp; omega⟩) (fun _ _ => rfl)⟩

set_option maxRecDepth 100000 in
set_option maxHeartbeats 8000000 in
theorem read_pair {TA TB : Ty} {a b : Va} (h1 : leafV TA a) (h2 : leafV TB b) (u : Value) (w : World) (hT : IsTm (· < w.heap.size) w (.mk 10 0 .zero [a.term, b.term]) u) : Calls Tryd.prog 52 #[u] w (ReadV (.mk 3 0 [] [a, b]) w) := by
  obtain ⟨B, d, A, c, rfl, _, hl⟩ := hT.mk_parts
  simp only [List.length_cons, List.length_nil, Nat.reduceAdd] at hl ⊢
  obtain ⟨W, hW, b2, z2, k0, k1⟩ := alloc2_facts w #[.int .i64 10, .int .i64 0, .int .i64 Ty.zero.kind, .slice B Ty.zero.args.length d, .slice A 2 c] #[.int .i64 0, .int .i64 0, .slice none 0 0, .slice none 0 0] 34 45
  have HL := Lib.hid hl
  have HH := Lib.hid (And.intro h1 h2)
  clear hT hl h1 h2
  go_enter Tryd.func52, Tryd.ntmps52
  go_upto_region 1 with fail
  rw [← hW]
  have HB := Lib.hid (And.intro b2 z2)
  have HK := Lib.hid (And.intro k0 k1)
  have hzW := b2.size
  have HX := Lib.hid fun (w' : World) (h : Below W.heap.size W w') => (show TmR.Sl (· < w.heap.size) w' [a.term, b.term] (.slice A 2 c) from HL.out.keep (fun _ h => h) (fun p hp => (h.cell (Nat.lt_of_lt_of_le hp HB.out.1.size)).trans (HB.out.1.cell hp)))
  obtain ⟨_, _, _, _, r4, _⟩ := k0.facts5
  have r0 := k0.facts5.1
  obtain ⟨q, B1, d1, A1, c1, rfl, hq, s0, s1, s2, s3, s4, hx⟩ := sl_child (HX.out W (Below.refl _ _)) 0 (by simp)
  simp only [Nat.zero_mul, add_zero', List.getElem_cons_zero] at s0 s1 s2 s3 s4 hx
  have HQ := Lib.hid (And.intro hx hq)
  clear hW b2 k0 k1 hx hq
  go_wp2_with fail
  refine (read_leaf HH.out.1 _ W (HQ.out.1.keep (fun b h => Nat.lt_of_lt_of_le h HB.out.1.size) (fun _ _ => rfl))).mono ?_
  rintro e w1 ⟨v1, rfl, t1, hb1⟩
  obtain ⟨E1, e1, F1, f1, rfl⟩ := t1.form
  go_upto_region 12 with fail
  obtain ⟨W2, hW2⟩ : ∃ W2, W2 = w1.alloc (Obj.cells #[.int .i64 a.kind, .int .i64 a.num, .slice E1 a.list.length e1, .slice F1 a.args.length f1] 45) := ⟨_, rfl⟩
  have ka := Blk.new w1 45 #[.int .i64 a.kind, .int .i64 a.num, .slice E1 a.list.length e1, .slice F1 a.args.length f1]
  have b3 := (Below.refl w1.heap.size w1).alloc (Nat.le_refl _) (Obj.cells #[.int .i64 a.kind, .int .i64 a.num, .slice E1 a.list.length e1, .slice F1 a.args.length f1] 45)
  have z3 := World.size_alloc w1 (Obj.cells #[.int .i64 a.kind, .int .i64 a.num, .slice E1 a.list.length e1, .slice F1 a.args.length f1] 45)
  rw [← hW2] at ka b3 z3 ⊢
  have hz1 := hb1.size
  have B2' := Lib.hid (hb1.trans (b3.mono hz1))
  have HA := Lib.hid (And.intro (show IsVa (fun q => w.heap.size + 2 ≤ q ∧ q < W2.heap.size) W2 a _ from t1.keep (fun p hp => ⟨by have := hp.1; have := HB.out.2; omega, by have := hp.2; omega⟩) (fun p hp => b3.cell hp.2)) (And.intro ka z3))
  obtain ⟨q', B4, d4, A4, c4, eq', hq', y0, y1, y2, y3, y4, hy⟩ := sl_child (HX.out W2 B2'.out) 1 (by simp)
  cases eq'
  simp only [Nat.one_mul, List.getElem_cons_succ, List.getElem_cons_zero] at y0 y1 y2 y3 y4 hy
  rw [show q.add 5 = ⟨q.block, q.off + 5, none⟩ from by simp [Addr.add]] at y0 y1 y2 y3 y4
  obtain ⟨_, _, _, _, x4, _⟩ := (HK.out.1.below B2'.out HK.out.1.lt).facts5
  have HY := Lib.hid hy
  clear hW2 ka b3 t1 hb1 hy s0 s1 s2 s3 s4 r0 r4 z3
  go_wp2_with fail
  refine (read_leaf HH.out.2 _ W2 (HY.out.keep (fun b h => Nat.lt_of_lt_of_le h (Nat.le_trans HB.out.1.size B2'.out.size)) (fun _ _ => rfl))).mono ?_
  rintro e w4 ⟨v4, rfl, t4, hb4⟩
  obtain ⟨E4, e4, F4, f4, rfl⟩ := t4.form
  go_upto_region 15 with fail
  obtain ⟨W5, hW5⟩ : ∃ W5, W5 = w4.alloc (Obj.cells #[.int .i64 b.kind, .int .i64 b.num, .slice E4 b.list.length e4, .slice F4 b.args.length f4] 45) := ⟨_, rfl⟩
  have kb := Blk.new w4 45 #[.int .i64 b.kind, .int .i64 b.num, .slice E4 b.list.length e4, .slice F4 b.args.length f4]
  have b5 := (Below.refl w4.heap.size w4).alloc (Nat.le_refl _) (Obj.cells #[.int .i64 b.kind, .int .i64 b.num, .slice E4 b.list.length e4, .slice F4 b.args.length f4] 45)
  have z5 := World.size_alloc w4 (Obj.cells #[.int .i64 b.kind, .int .i64 b.num, .slice E4 b.list.length e4, .slice F4 b.args.length f4] 45)
  rw [← hW5] at kb b5 z5 ⊢
  have hz4 := hb4.size
  have hz2 := B2'.out.size
  have b45 := hb4.trans (b5.mono hz4)
  have HE := Lib.hid (And.intro (show IsVa (fun q => w.heap.size + 2 ≤ q ∧ q < W5.heap.size) W5 a _ from HA.out.1.keep (fun p hp => ⟨hp.1, by have := hp.2; omega⟩) (fun p hp => b45.cell hp.2))
    (show IsVa (fun q => w.heap.size + 2 ≤ q ∧ q < W5.heap.size) W5 b _ from t4.keep (fun p hp => ⟨by have := hp.1; have := HB.out.2; omega, by have := hp.2; omega⟩) (fun p hp => b5.cell hp.2)))
  have BB := Lib.hid ((HB.out.1.trans (B2'.out.mono HB.out.1.size)).trans (b45.mono (Nat.le_trans HB.out.1.size hz2)))
  have HZ := Lib.hid (show w.heap.size + 2 ≤ W5.heap.size by have := HB.out.2; omega)
  obtain ⟨g0, g1, g2, g3, _⟩ := (HA.out.2.1.below b45 HA.out.2.1.lt).facts4
  obtain ⟨h0, h1, h2, h3, _⟩ := kb.facts4
  have KR := Lib.hid ((HK.out.2.below (B2'.out.trans (b45.mono hz2)) HK.out.2.lt).alloc (Obj.cells #[.int .i64 a.kind, .int .i64 a.num, .slice E1 a.list.length e1, .slice F1 a.args.length f1, .int .i64 b.kind, .int .i64 b.num, .slice E4 b.list.length e4, .slice F4 b.args.length f4] 45))
  obtain ⟨_, _, _, _, f0, f1', f2, f3⟩ := KR.out.facts4
  clear hW5 kb b5 t4 hb4 y0 y1 y2 y3 y4 x4 z5 hz4 b45
  go_wp2_with fail
  obtain ⟨y0, y1, y2, y3, _⟩ := (KR.out.set4 (.int .i64 3) (.int .i64 0) (.slice none 0 0) (.slice (some ⟨W5.heap.size, 0, none⟩) 2 2)).facts4
  refine bodyPost_ret (v := .tuple #[.agg #[.int .i64 3, .int .i64 0, .slice none 0 0, .slice (some ⟨W5.heap.size, 0, none⟩) 2 2], .bool true]) (by simp [results, Tryd.results52, go_sem, y0, y1, y2, y3]) rfl
    (read_end (BB.out.alloc BB.out.size _) ((pair_va HZ.out HE.out.1 HE.out.2).keep (fun q h => ⟨by omega, by omega, h.2⟩) (fun _ _ => rfl)))

theorem read_made {T : Ty} {V : Va} (h : MadeV T V) (u : Value) (w : World) (hT : IsTm (· < w.heap.size) w V.term u) : Calls Tryd.prog 52 #[u] w (ReadV V w) := by
  rcases h with h | ⟨A, B, a, b, _, ha, hb, rfl⟩
  · exact read_leaf h u w hT
  · rw [show (Va.mk 3 0 [] [a, b]).term = .mk 10 0 .zero [a.term, b.term] from by simp [Va.term, termsV]] at hT
    exact read_pair ha hb u w hT
end Go.Proofs.YtifijgihcincfaaDoor
namespace Go.Proofs.YtifijgihcincfaaDoor
open Go.RowKit

theorem back_num {G : List Ty} : ∀ n : Nat, Made G tyNat (n + 1) 0 (numTm n)
  | 0 => (made_leaf (.inl ⟨rfl, rfl⟩))
  | n + 1 => (made_succ (back_num n)).mono (by omega) (by omega)
theorem back_list {G : List Ty} : ∀ m : List Int, Made G tyList (listTm m).size 0 (listTm m)
  | [] => (made_leaf (.inr (.inl ⟨rfl, rfl⟩))).mono (by simp [listTm, Tm.size, sizeAllT]) (by omega)
  | x :: r => (made_cons (back_num x.toNat) (back_list r)).mono (by simp only [listTm, Tm.size, sizeAllT, numTm_size]; omega) (by omega)
/-- What is owed of a term: no step, and low variables. -/
def StillTm (t : Tm) : Prop := t.next = none ∧ t.low 536870912 = true
theorem still_node {k : Int} (hk : k ≠ 3 ∧ k ≠ 6 ∧ k ≠ 9 ∧ k ≠ 11 ∧ k ≠ 12) {l : List Tm} (hl : nextAll l = none ∧ lowAll l 536870912 = true) : StillTm (.mk k 0 .zero l) := by
  refine ⟨?_, by simp [Tm.low, hl.2]⟩
  rw [next_mk, show redexOf k l = false from by simp [redexOf, hk.1, hk.2.1, hk.2.2.1, hk.2.2.2.1, hk.2.2.2.2], hl.1]
  rfl
theorem still_two {x y : Tm} (hx : StillTm x) (hy : StillTm y) : nextAll [x, y] = none ∧ lowAll [x, y] 536870912 = true := by
  simp [nextAll, lowAll, hx.1, hx.2, hy.1, hy.2]
theorem still_num : ∀ n : Nat, StillTm (numTm n)
  | 0 => still_node (by decide) (by simp [nextAll, lowAll])
  | n + 1 => still_node (by decide) (by have := still_num n; simp [nextAll, lowAll, this.1, this.2])
theorem still_list : ∀ m : List Int, StillTm (listTm m)
  | [] => still_node (by decide) (by simp [nextAll, lowAll])
  | x :: r => still_node (by decide) (still_two (still_num x.toNat) (still_list r))

theorem backNum_bulk (n : Nat) (h : n ≤ 4) : (numTm n).bulk ≤ 10 := by rw [numTm_bulk]; omega
theorem backList_bulk : ∀ m : List Int, (∀ x ∈ m, 0 ≤ x ∧ x ≤ 3) → (listTm m).bulk ≤ 2 + 10 * m.length
  | [], _ => by simp [listTm, Tm.bulk, bulkAll, Ty.zero, Ty.nodes, nodesAll]
  | x :: r, h => by
    have h0 := h x (by simp)
    have h1 := backList_bulk r (fun y hy => h y (by simp [hy]))
    have h2 := numTm_bulk x.toNat
    simp only [listTm, Tm.bulk, bulkAll, Ty.zero, Ty.nodes, nodesAll, List.length_cons]
    omega

/-- What the law asks of a value's term. -/
structure Back (T : Ty) (t : Tm) (k : Nat) : Prop where
  made : Made [] T t.size 0 t
  still : StillTm t
  bulk : t.bulk ≤ k
  nodes : T.nodes ≤ 3
theorem back_leaf {T : Ty} {V : Va} (h : leafV T V) : Back T V.term 40 ∧ T.nodes = 1 := by
  rcases h with ⟨rfl, n, hn, rfl⟩ | ⟨rfl, m, hl, hm, rfl⟩ | ⟨rfl, rfl⟩
  · rw [show (Va.mk 1 n [] []).term = numTm n from by simp [Va.term]]
    exact ⟨⟨(back_num n).mono (by rw [numTm_size]; omega) (by omega), still_num n, by have := backNum_bulk n hn; omega, by simp [Ty.nodes, nodesAll]⟩, by simp [Ty.nodes, nodesAll]⟩
  · rw [show (Va.mk 2 0 m []).term = listTm m from by simp [Va.term]]
    exact ⟨⟨back_list m, still_list m, by have := backList_bulk m hm; omega, by simp [Ty.nodes, nodesAll]⟩, by simp [Ty.nodes, nodesAll]⟩
  · rw [show (Va.mk 4 0 [] []).term = .mk 13 0 .zero [] from by simp [Va.term]]
    exact ⟨⟨(made_leaf (.inr (.inr ⟨rfl, rfl⟩))).mono (by simp [Tm.size, sizeAllT]) (by omega), still_node (by decide) (by simp [nextAll, lowAll]), by simp [Tm.bulk, bulkAll, Ty.zero, Ty.nodes, nodesAll], by simp [Ty.nodes, nodesAll]⟩, by simp [Ty.nodes, nodesAll]⟩
theorem back_made {T : Ty} {V : Va} (h : MadeV T V) : Back T V.term 100 := by
  rcases h with h | ⟨A, B, a, b, rfl, ha, hb, rfl⟩
  · obtain ⟨⟨h1, h2, h3, h4⟩, _⟩ := back_leaf h
    exact ⟨h1, h2, by omega, h4⟩
  · obtain ⟨⟨a1, a2, a3, a4⟩, a5⟩ := back_leaf ha
    obtain ⟨⟨b1, b2, b3, b4⟩, b5⟩ := back_leaf hb
    rw [show (Va.mk 3 0 [] [a, b]).term = .mk 10 0 .zero [a.term, b.term] from by simp [Va.term, termsV]]
    refine ⟨(made_pair (by omega) a1 b1).mono (by simp only [Tm.size, sizeAllT]; omega) (by omega), still_node (by decide) (still_two a2 b2), ?_, ?_⟩
    · simp only [Tm.bulk, bulkAll, Ty.zero, Ty.nodes, nodesAll]; omega
    · simp only [Ty.nodes, nodesAll]; omega
/-- All at once. -/
theorem back_facts {T : Ty} {V : Va} (h : MadeV T V) : V.term.ok = true ∧ V.term.size ≤ 4096 ∧ V.term.err = 0 ∧ V.term.typ [] = .ok T ∧ V.term.next = none ∧ V.term.low 536870912 = true ∧ V.term.bulk ≤ 100 ∧ T.nodes ≤ 3 ∧ V.bulk ≤ 12 := by
  obtain ⟨h1, h2, h3, h4⟩ := back_made h
  have hs := madeV_small h
  have hz : V.term.size ≤ 4096 := by have := hs.size; have := hs.weight; omega
  exact ⟨h1.ok, hz, errT_zero.2 ⟨h1.ok, hz⟩, h1.typ, h2.1, h2.2, h3, h4, by have := hs.bulk; omega⟩
end Go.Proofs.YtifijgihcincfaaDoor
namespace Go.Proofs.YtifijgihcincfaaDoor
open Go.RowKit

/-- The value, and no error. -/
def ReadR0 (w : World) (V : Va) (e : Ending) (w' : World) : Prop :=
  ∃ v, e = .returned (.tuple #[v, .int .i64 0]) ∧ IsVa (fun b => w.heap.size ≤ b ∧ b < w'.heap.size) w' V v ∧ Below w.heap.size w w'
set_option maxRecDepth 100000 in
set_option maxHeartbeats 4000000 in
theorem valueRead_made {T : Ty} {V : Va} (h : MadeV T V) (v : Value) (w : World) (htab : Tab w) (hv : IsTm (· < w.heap.size) w V.term v) :
    Calls Tryd.prog 20 #[v] w (ReadR0 w V) := by
  have hs := madeV_small h
  have he := small_err hs (by decide)
  obtain ⟨hok, hsz, herr, _, _, _, hbk, _, hvb⟩ := back_facts h
  obtain ⟨B, d, A, c, rfl, _⟩ := IsTm.form hv
  obtain ⟨t, ht⟩ : ∃ t, t = V.term := ⟨_, rfl⟩
  rw [← ht] at hv herr hbk ⊢
  have HTE := Lib.hid ht
  obtain ⟨W, hW, hbW, hz, k0, k1⟩ := alloc2_facts w #[.int .i64 t.kind, .int .i64 t.index, .int .i64 t.type.kind, .slice B t.type.args.length d, .slice A t.args.length c] #[.int .i64 0, .int .i64 0, .slice none 0 0, .slice none 0 0] 34 45
  obtain ⟨r0, r1, r2, r3, r4, _⟩ := k0.facts5
  have HT := Lib.hid fun (w' : World) (h : Below W.heap.size W w') => (show IsTm (· < w'.heap.size) w' t _ from IsTm.keep (S' := (· < w'.heap.size)) (w' := w') (fun b hb => Nat.lt_of_lt_of_le hb (Nat.le_trans hbW.size h.size)) (fun p hp => (h.cell (Nat.lt_of_lt_of_le hp hbW.size)).trans (hbW.cell hp)) _ hv)
  have HB := Lib.hid (And.intro hbW (And.intro hz (And.intro k0 k1)))
  have HS := Lib.hid (And.intro h (And.intro hs (And.intro he (And.intro herr (And.intro hbk hvb)))))
  have HTab := Lib.hid (htab.after hbW)
  clear hv k0 k1 hz h hs he htab herr hbk hvb ht hok hsz
  go_enter Tryd.func20, Tryd.ntmps20
  go_upto_region 1 with fail
  rw [← hW]
  clear hW
  go_wp2_with fail
  refine (checkT_any t _ W (by have := HS.out.2.2.2.2.1; omega) HTab.out (HT.out W (Below.refl _ _))).mono ?_
  rintro e w1 ⟨rfl, hb1⟩
  rw [HS.out.2.2.2.1]
  obtain ⟨s0, s1, s2, s3, s4, _⟩ := (HB.out.2.2.1.below hb1 HB.out.2.2.1.lt).facts5
  have HB1 := Lib.hid hb1
  clear hb1 r0 r1 r2 r3 r4
  go_wp2_with fail
  refine (read_made HS.out.1 _ w1 (by rw [← HTE.out]; exact HT.out w1 HB1.out)).mono ?_
  rintro e w2 ⟨v2, rfl, t2, hb2⟩
  obtain ⟨B2, d2, A2, c2, rfl⟩ := t2.form
  go_upto_region 5 with fail
  obtain ⟨W3, hW3⟩ : ∃ W3, W3 = w2.alloc (Obj.cells #[.int .i64 V.kind, .int .i64 V.num, .slice B2 V.list.length d2, .slice A2 V.args.length c2] 45) := ⟨_, rfl⟩
  have kv := Blk.new w2 45 #[.int .i64 V.kind, .int .i64 V.num, .slice B2 V.list.length d2, .slice A2 V.args.length c2]
  have b3 := (Below.refl w2.heap.size w2).alloc (Nat.le_refl _) (Obj.cells #[.int .i64 V.kind, .int .i64 V.num, .slice B2 V.list.length d2, .slice A2 V.args.length c2] 45)
  rw [← hW3] at kv b3 ⊢
  have hz2 := hb2.size
  have hz1 := HB1.out.size
  have b13 := hb2.trans (b3.mono hz2)
  have HV := Lib.hid fun (w' : World) (h : Below W3.heap.size W3 w') => And.intro (show IsVa (fun b => w.heap.size + 2 ≤ b ∧ b < w'.heap.size) w' V _ from t2.keep (fun p hp => ⟨by have := hp.1; have := HB.out.2.1; omega, Nat.lt_of_lt_of_le hp.2 (Nat.le_trans b3.size h.size)⟩) (fun p hp => (h.cell (Nat.lt_of_lt_of_le hp.2 b3.size)).trans (b3.cell hp.2))) (kv.below h kv.lt).facts4
  have BB := Lib.hid ((HB.out.1.trans (HB1.out.mono HB.out.1.size)).trans (b13.mono (Nat.le_trans HB.out.1.size hz1)))
  have KR := Lib.hid (HB.out.2.2.2.below (HB1.out.trans (b13.mono hz1)) HB.out.2.2.2.lt)
  obtain ⟨_, q0, q1, q2, q3, _⟩ := HV.out W3 (Below.refl _ _)
  clear hW3 kv b3 t2 hb2 s0 s1 s2 s3 s4 b13
  go_wp2_with fail
  refine (checkV_any V _ W3 (by have := HS.out.2.1.bulk; omega) HS.out.2.1.ok ((HV.out W3 (Below.refl _ _)).1.keep (fun _ h => h.2) (fun _ _ => rfl))).mono ?_
  rintro e w4 ⟨rfl, hb4⟩
  rw [HS.out.2.2.1]
  obtain ⟨_, q0, q1, q2, q3, _⟩ := HV.out w4 hb4
  have HB4 := Lib.hid hb4
  have K4 := Lib.hid (KR.out.below hb4 KR.out.lt)
  obtain ⟨_, _, _, _, f0, f1, f2, f3⟩ := K4.out.facts4
  clear hb4
  go_wp2_with fail
  obtain ⟨y0, y1, y2, y3, _⟩ := (K4.out.set4 (.int .i64 V.kind) (.int .i64 V.num) (.slice B2 V.list.length d2) (.slice A2 V.args.length c2)).facts4
  refine bodyPost_ret (v := .tuple #[.agg #[.int .i64 V.kind, .int .i64 V.num, .slice B2 V.list.length d2, .slice A2 V.args.length c2], .int .i64 0]) (by simp [results, Tryd.results20, go_sem, y0, y1, y2, y3]) rfl ?_
  have hg := only_set4 w4 (w.heap.size + 1) (.int .i64 V.kind) (.int .i64 V.num) (.slice B2 V.list.length d2) (.slice A2 V.args.length c2)
  have hbb := BB.out.trans (HB4.out.mono BB.out.size)
  exact ⟨_, rfl, IsVa.keep (fun q h => ⟨by omega, Nat.lt_of_lt_of_le h.2 hg.size⟩) (fun p h => World.cell?_of_block (hg.block p.block h.2 (by have := h.1; simp; omega))) _ (HV.out w4 HB4.out).1, hbb.grown hg hbb.size (fun k e => by cases e; omega)⟩
end Go.Proofs.YtifijgihcincfaaDoor
namespace Go.Proofs.YtifijgihcincfaaDoor
open Go.RowKit

/-- A type in new blocks. -/
def FreshY (w : World) (T : Ty) (e : Ending) (w' : World) : Prop :=
  ∃ v, e = .returned v ∧ IsTy (fun b => w.heap.size ≤ b ∧ b < w'.heap.size) w' T v ∧ Below w.heap.size w w'
theorem box_vy (w : World) (x0 x1 x2 x3 y0 y1 : Value) : ∃ W, W = (w.alloc (Obj.cells #[x0, x1, x2, x3] 45)).alloc (Obj.cells #[y0, y1] 30) ∧
    Below w.heap.size w W ∧ W.heap.size = w.heap.size + 2 ∧ Blk W w.heap.size 45 #[x0, x1, x2, x3] ∧ Blk W (w.heap.size + 1) 30 #[y0, y1] := by
  have b1 := (Below.refl w.heap.size w).alloc (Nat.le_refl _) (Obj.cells #[x0, x1, x2, x3] 45)
  have k1 := Blk.new w 45 #[x0, x1, x2, x3]
  have z1 := World.size_alloc w (Obj.cells #[x0, x1, x2, x3] 45)
  generalize w.alloc (Obj.cells #[x0, x1, x2, x3] 45) = W1 at b1 z1 k1 ⊢
  have k2 := Blk.new W1 30 #[y0, y1]
  rw [z1] at k2
  exact ⟨_, rfl, b1.alloc b1.size _, by simp [z1], k1.alloc _, k2⟩
/-- The result is stored. -/
theorem type_endV {w w2 : World} {T : Ty} {x0 x1 : Value} (hb : Below w.heap.size w w2) (ht : IsTy (fun b => w.heap.size + 2 ≤ b ∧ b < w2.heap.size) w2 T (.agg #[x0, x1])) :
    FreshY w T (.returned (.agg #[x0, x1])) ((w2.setCell ⟨w.heap.size + 1, 0, none⟩ x0).setCell ⟨w.heap.size + 1, 1, none⟩ x1) := by
  have hg := only_set2 w2 (w.heap.size + 1) x0 x1
  exact ⟨_, rfl, IsTy.keep (fun b h => ⟨by omega, Nat.lt_of_lt_of_le h.2 hg.size⟩) (fun p hp => World.cell?_of_block (hg.block p.block hp.2 (by have := hp.1; simp; omega))) _ ht, hb.grown hg hb.size (fun k e => by cases e; omega)⟩

set_option maxHeartbeats 1000000 in
theorem typeV_leaf {T : Ty} {V : Va} (h : leafV T V) (v : Value) (w : World) (hv : IsVa (· < w.heap.size) w V v) :
    Calls Tryd.prog 53 #[v] w (FreshY w T) := by
  obtain ⟨B, d, A, c, rfl, _, _⟩ := hv.parts
  obtain ⟨k, t, hk, hkt, rfl⟩ : ∃ k t : Int, V.kind = k ∧ (k = 1 ∧ t = 1 ∨ k = 2 ∧ t = 2 ∨ k = 4 ∧ t = 5) ∧ T = .mk t [] := by
    rcases h with ⟨rfl, n, hn, rfl⟩ | ⟨rfl, m, hl, hb, rfl⟩ | ⟨rfl, rfl⟩
    · exact ⟨1, 1, rfl, .inl ⟨rfl, rfl⟩, rfl⟩
    · exact ⟨2, 2, rfl, .inr (.inl ⟨rfl, rfl⟩), rfl⟩
    · exact ⟨4, 5, rfl, .inr (.inr ⟨rfl, rfl⟩), rfl⟩
  rw [hk]
  obtain ⟨W, hW, hbW, hz, k0, k1⟩ := box_vy w (.int .i64 k) (.int .i64 V.num) (.slice B V.list.length d) (.slice A V.args.length c) (.int .i64 0) (.slice none 0 0)
  obtain ⟨q0, q1, _⟩ := k0.facts4
  obtain ⟨f0, f1, f2, f3⟩ := k1.facts2
  have HB := Lib.hid (And.intro hbW (And.intro hz k1))
  clear k0 k1 hz hv h hk
  rcases hkt with ⟨rfl, rfl⟩ | ⟨rfl, rfl⟩ | ⟨rfl, rfl⟩
  all_goals
    go_enter Tryd.func53, Tryd.ntmps53
    go_upto_region 1 with fail
    rw [← hW]
    clear hW
    go_wp2_with fail
  · obtain ⟨z0, z1, _⟩ := (HB.out.2.2.set2 (.int .i64 1) (.slice none 0 0)).facts2
    exact bodyPost_ret (v := .agg #[.int .i64 1, .slice none 0 0]) (by simp [results, Tryd.results53, go_sem, z0, z1]) rfl (type_endV HB.out.1 (IsTy.leaf _ _ _))
  · obtain ⟨z0, z1, _⟩ := (HB.out.2.2.set2 (.int .i64 2) (.slice none 0 0)).facts2
    exact bodyPost_ret (v := .agg #[.int .i64 2, .slice none 0 0]) (by simp [results, Tryd.results53, go_sem, z0, z1]) rfl (type_endV HB.out.1 (IsTy.leaf _ _ _))
  · obtain ⟨z0, z1, _⟩ := (HB.out.2.2.set2 (.int .i64 5) (.slice none 0 0)).facts2
    exact bodyPost_ret (v := .agg #[.int .i64 5, .slice none 0 0]) (by simp [results, Tryd.results53, go_sem, z0, z1]) rfl (type_endV HB.out.1 (IsTy.leaf _ _ _))

/-- Two types in one slice that was just built, below a pair. -/
theorem pair_ty {lo : Nat} {w1 w2 : World} {a b : Ty} {x0 x1 y0 y1 : Value} (hb2 : Below w1.heap.size w1 w2) (hlo : lo ≤ w1.heap.size)
    (ha : IsTy (fun q => lo ≤ q ∧ q < w1.heap.size) w1 a (.agg #[x0, x1])) (hb : IsTy (fun q => lo ≤ q ∧ q < w2.heap.size) w2 b (.agg #[y0, y1])) :
    IsTy (fun q => lo ≤ q ∧ q < (w2.alloc (.cells #[x0, x1, y0, y1] 30)).heap.size) (w2.alloc (.cells #[x0, x1, y0, y1] 30)) (.mk 3 [a, b]) (.agg #[.int .i64 3, .slice (some ⟨w2.heap.size, 0, none⟩) 2 2]) := by
  have hz := hb2.size
  have ha2 : IsTy (fun q => lo ≤ q ∧ q < w2.heap.size) w2 a (.agg #[x0, x1]) := IsTy.keep (fun q h => ⟨h.1, by omega⟩) (fun p hp => hb2.cell hp.2) _ ha
  have hc := (Rep.Ch.one (R := TyR) (vs := [x0, x1]) ha2).append (Rep.Ch.one (R := TyR) (vs := [y0, y1]) hb)
  have hs := Rep.Sl.built (R := TyR) hc (fun b h => h.2) (fun q => lo ≤ q ∧ q < w2.heap.size + 1) (fun b h => ⟨h.1, by omega⟩) ⟨by omega, by omega⟩
  have hs' : TyR.Sl (fun q => lo ≤ q ∧ q < w2.heap.size + 1) (w2.alloc (.cells #[x0, x1, y0, y1] 30)) [a, b] (.slice (some ⟨w2.heap.size, 0, none⟩) 2 2) := hs
  exact IsTy.of_sl (hs'.keep (fun q h => ⟨h.1, by simp; omega⟩) (fun _ _ => rfl))

set_option maxRecDepth 100000 in
set_option maxHeartbeats 8000000 in
theorem typeV_pair {TA TB : Ty} {a b : Va} (h1 : leafV TA a) (h2 : leafV TB b) (v : Value) (w : World) (hv : IsVa (· < w.heap.size) w (.mk 3 0 [] [a, b]) v) :
    Calls Tryd.prog 53 #[v] w (FreshY w (.mk 3 [TA, TB])) := by
  obtain ⟨B, d, A, c, rfl⟩ := hv.form
  simp only [Va.kind, Va.num, Va.list, Va.args, List.length_cons, List.length_nil, Nat.reduceAdd] at hv ⊢
  obtain ⟨W, hW, hbW, hz, b0, b1⟩ := box_vy w (.int .i64 3) (.int .i64 0) (.slice B 0 d) (.slice A 2 c) (.int .i64 0) (.slice none 0 0)
  have hvW := IsVa.keep (S' := (· < w.heap.size)) (fun _ h => h) (fun p hp => hbW.cell hp) _ hv
  obtain ⟨q, B1, d1, A1, c1, B2, d2, A2, c2, rfl, hq, ⟨r0, r1, r2, r3⟩, ⟨s0, s1, s2, s3⟩, hx, hy⟩ := hvW.two
  have hq' : q.block < w.heap.size := hq
  have HB := Lib.hid (And.intro hbW (And.intro hz b1))
  have HSK := Lib.hid fun (w1 : World) (h : Below (w.heap.size + 1) W w1) => And.intro ((b0.below h (Nat.lt_succ_self _)).facts4.2.2.2.1)
    (And.intro ((h.cell (p := q) (by omega)).trans r0) (And.intro ((h.cell (p := ⟨q.block, q.off + 1, none⟩) (by show q.block < _; omega)).trans r1) (And.intro ((h.cell (p := ⟨q.block, q.off + 2, none⟩) (by show q.block < _; omega)).trans r2)
      (And.intro ((h.cell (p := ⟨q.block, q.off + 3, none⟩) (by show q.block < _; omega)).trans r3) (And.intro ((h.cell (p := ⟨q.block, q.off + 4, none⟩) (by show q.block < _; omega)).trans s0)
        (And.intro ((h.cell (p := ⟨q.block, q.off + 4 + 1, none⟩) (by show q.block < _; omega)).trans s1) (And.intro ((h.cell (p := ⟨q.block, q.off + 4 + 2, none⟩) (by show q.block < _; omega)).trans s2) ((h.cell (p := ⟨q.block, q.off + 4 + 3, none⟩) (by show q.block < _; omega)).trans s3))))))))
  have H1 := Lib.hid (And.intro h1 hx)
  have H2 := Lib.hid (And.intro h2 hy)
  have qk := b0.facts4.1
  obtain ⟨p0, p1, p2, p3, p4, p5, p6, p7, p8⟩ := HSK.out W (Below.refl _ _)
  have HW := Lib.hid (show W.heap.size ≤ W.heap.size from Nat.le_refl _)
  clear b0 b1 hz hvW hv hx hy h1 h2 r0 r1 r2 r3 s0 s1 s2 s3 hq
  go_enter Tryd.func53, Tryd.ntmps53
  go_upto_region 1 with fail
  rw [← hW]
  clear hW
  go_wp2_with fail
  clear qk
  go_region_held3 (fun w' => w'.cell? ⟨w.heap.size, 3, none⟩ = some (.slice (some q) 2 c) ∧ w'.cell? q = some (.int .i64 a.kind) ∧ w'.cell? ⟨q.block, q.off + 1, none⟩ = some (.int .i64 a.num) ∧ w'.cell? ⟨q.block, q.off + 2, none⟩ = some (.slice B1 a.list.length d1) ∧ w'.cell? ⟨q.block, q.off + 3, none⟩ = some (.slice A1 a.args.length c1) ∧
      w'.cell? ⟨q.block, q.off + 4, none⟩ = some (.int .i64 b.kind) ∧ w'.cell? ⟨q.block, q.off + 4 + 1, none⟩ = some (.int .i64 b.num) ∧ w'.cell? ⟨q.block, q.off + 4 + 2, none⟩ = some (.slice B2 b.list.length d2) ∧ w'.cell? ⟨q.block, q.off + 4 + 3, none⟩ = some (.slice A2 b.args.length c2))
    (first | with_reducible exact HSK.out _ (Below.refl _ _).drew | with_reducible exact HSK.out _ L1.out | with_reducible exact HSK.out _ L2.out | with_reducible exact HSK.out _ L3.out | with_reducible exact HSK.out _ L5.out | go_keep)
    (first
      | (go_at_call 53
         (with_reducible refine (typeV_leaf H2.out.1 _ w1 (H2.out.2.keep (fun b h => by have := G1.out.size; have h' : b < w.heap.size := h; have := HB.out.1.size; omega) (fun p hp => G1.out.cell (by have hp' : p.block < w.heap.size := hp; have := HB.out.1.size; omega)))).mono ?_)
         rintro e2 w2 ⟨v2, rfl, t2, hb2⟩
         obtain ⟨E2, f2', rfl⟩ := t2.form
         have G2 := Lib.hid (G1.out.trans (hb2.mono G1.out.size))
         have HZ2 := Lib.hid (show w.heap.size + 2 ≤ w2.heap.size by have := G2.out.size; have := HB.out.2.1; omega)
         have L2 := Lib.hid (show Below (w.heap.size + 1) W w2 from G2.out.mono (by have := HB.out.2.1; omega))
         have L3 := Lib.hid (L2.out.alloc (by have := HZ2.out; omega) (Obj.cells #[.int .i64 TA.kind, .slice E1 TA.args.length f1', .int .i64 TB.kind, .slice E2 TB.args.length f2'] 30))
         have L5 := Lib.hid ((L3.out.setCell (p := ⟨w.heap.size + 1, 0, none⟩) (Nat.le_refl _) (.int .i64 3)).setCell (p := ⟨w.heap.size + 1, 1, none⟩) (Nat.le_refl _) (.slice (some ⟨w2.heap.size, 0, none⟩) 2 2))
         have K2 := Lib.hid ((HB.out.2.2.below G2.out HB.out.2.2.lt).alloc (Obj.cells #[.int .i64 TA.kind, .slice E1 TA.args.length f1', .int .i64 TB.kind, .slice E2 TB.args.length f2'] 30))
         have HT2 := Lib.hid (And.intro t2 hb2)
         obtain ⟨_, _, f0, f1⟩ := K2.out.facts2
         clear t2 hb2)
      | (go_at_call 53
         (with_reducible refine (typeV_leaf H1.out.1 _ W.drew (H1.out.2.keep (fun b h => by have h' : b < w.heap.size := h; have := HB.out.1.size; have e : W.drew.heap.size = W.heap.size := rfl; show b < W.drew.heap.size; omega) (fun p hp => World.cell?_drew W p))).mono ?_)
         rintro e1 w1 ⟨v1, rfl, t1, hb1⟩
         obtain ⟨E1, f1', rfl⟩ := t1.form
         have G1 := Lib.hid (show Below W.heap.size W w1 from ((Below.refl _ W).drew).trans hb1)
         have L1 := Lib.hid (show Below (w.heap.size + 1) W w1 from G1.out.mono (by have := HB.out.2.1; omega))
         have HT1 := Lib.hid t1
         clear t1 hb1))
  go_wp2_with fail
  obtain ⟨z0, z1, _⟩ := (K2.out.set2 (.int .i64 3) (.slice (some ⟨w2.heap.size, 0, none⟩) 2 2)).facts2
  refine bodyPost_ret (v := .agg #[.int .i64 3, .slice (some ⟨w2.heap.size, 0, none⟩) 2 2]) (by simp [results, Tryd.results53, go_sem, z0, z1]) rfl ?_
  have hz := HB.out.2.1
  have hs1 := G1.out.size
  have ew : W.drew.heap.size = W.heap.size := rfl
  have hz2 := HZ2.out
  refine type_endV (((HB.out.1.trans (G2.out.mono HB.out.1.size))).alloc (by omega) _) ?_
  exact pair_ty HT2.out.2 (by omega) (HT1.out.keep (fun b h => ⟨by have := h.1; omega, h.2⟩) (fun _ _ => rfl)) (HT2.out.1.keep (fun b h => ⟨by omega, h.2⟩) (fun _ _ => rfl))

theorem typeV_made {T : Ty} {V : Va} (h : MadeV T V) (v : Value) (w : World) (hv : IsVa (· < w.heap.size) w V v) :
    Calls Tryd.prog 53 #[v] w (FreshY w T) := by
  rcases h with h | ⟨A, B, a, b, rfl, ha, hb, rfl⟩
  · exact typeV_leaf h v w hv
  · exact typeV_pair ha hb v w hv

/-- The type, and no error. -/
def TypeR0 (w : World) (T : Ty) (e : Ending) (w' : World) : Prop :=
  ∃ v, e = .returned (.tuple #[v, .int .i64 0]) ∧ IsTy (fun b => w.heap.size ≤ b ∧ b < w'.heap.size) w' T v ∧ Below w.heap.size w w'
set_option maxRecDepth 100000 in
set_option maxHeartbeats 1000000 in
theorem valueType_made {T : Ty} {V : Va} (h : MadeV T V) (v : Value) (w : World) (hv : IsVa (· < w.heap.size) w V v) :
    Calls Tryd.prog 21 #[v] w (TypeR0 w T) := by
  have hs := madeV_small h
  have he := small_err hs (by decide)
  obtain ⟨B, d, A, c, rfl⟩ := hv.form
  obtain ⟨W, hW, hbW, hz, k0, k1⟩ := box_vy w (.int .i64 V.kind) (.int .i64 V.num) (.slice B V.list.length d) (.slice A V.args.length c) (.int .i64 0) (.slice none 0 0)
  have hv0 : IsVa (· < w.heap.size) W V (.agg #[.int .i64 V.kind, .int .i64 V.num, .slice B V.list.length d, .slice A V.args.length c]) := IsVa.keep (fun _ h => h) (fun p hp => hbW.cell hp) _ hv
  obtain ⟨r0, r1, r2, r3, _⟩ := k0.facts4
  have HV := Lib.hid fun (w1 : World) (h : Below W.heap.size W w1) => And.intro (show IsVa (· < w1.heap.size) w1 V _ from IsVa.keep (fun b hb => by have h1 := h.size; have h2 := hbW.size; have h3 : b < w.heap.size := hb; omega) (fun p hp => h.cell (by have h2 := hbW.size; have h3 : p.block < w.heap.size := hp; omega)) _ hv0) (k0.below h k0.lt).facts4
  have HB := Lib.hid (And.intro hbW (And.intro hz k1))
  have HS := Lib.hid (And.intro h (And.intro hs he))
  clear hv hv0 k0 k1 hz h hs he
  go_enter Tryd.func21, Tryd.ntmps21
  go_upto_region 1 with fail
  rw [← hW]
  clear hW
  go_wp2_with fail
  refine (checkV_any V _ W (by have := HS.out.2.1.bulk; omega) HS.out.2.1.ok (HV.out W (Below.refl _ _)).1).mono ?_
  rintro e w1 ⟨rfl, hb1⟩
  rw [HS.out.2.2]
  obtain ⟨_, s0, s1, s2, s3, _⟩ := HV.out w1 hb1
  have HB1 := Lib.hid hb1
  clear hb1 r0 r1 r2 r3
  go_wp2_with fail
  refine (typeV_made HS.out.1 _ w1 (HV.out w1 HB1.out).1).mono ?_
  rintro e w3 ⟨v3, rfl, ht3, hb3⟩
  obtain ⟨E3, f3', rfl⟩ := ht3.form
  have hz2 := HB1.out.size
  have hz0 := HB.out.2.1
  have k3 := (HB.out.2.2.below HB1.out HB.out.2.2.lt).below hb3 (by omega)
  obtain ⟨_, _, f0, f1⟩ := k3.facts2
  have HT3 := Lib.hid (And.intro ht3 hb3)
  clear ht3 hb3
  go_wp2_with fail
  obtain ⟨z0, z1, _⟩ := (k3.set2 (.int .i64 T.kind) (.slice E3 T.args.length f3')).facts2
  refine bodyPost_ret (v := .tuple #[.agg #[.int .i64 T.kind, .slice E3 T.args.length f3'], .int .i64 0]) (by simp [results, Tryd.results21, go_sem, z0, z1]) rfl ?_
  obtain ⟨v4, e4, ht4, hb4⟩ := type_endV (w := w) (w2 := w3) (HB.out.1.trans ((HB1.out.trans (HT3.out.2.mono hz2)).mono HB.out.1.size)) (HT3.out.1.keep (fun b h => ⟨by omega, h.2⟩) (fun _ _ => rfl))
  cases e4
  exact ⟨_, rfl, ht4, hb4⟩
end Go.Proofs.YtifijgihcincfaaDoor
namespace Go.Proofs.YtifijgihcincfaaDoor
open Go.RowKit

set_option maxRecDepth 100000 in
set_option maxHeartbeats 4000000 in
theorem ints_refl (m : List Int) (B B' : Option Addr) (d d' : Nat) (S : Nat → Prop) (w : World) (hl : m.length ≤ 400000) (hu : ZR.Sl S w m (.slice B m.length d)) (hv : ZR.Sl S w m (.slice B' m.length d')) :
    Calls Tryd.prog 60 #[.slice B m.length d, .slice B' m.length d'] w fun e w' => e = .returned (.bool true) ∧ Below w.heap.size w w' := by
  have HU := Lib.hid (And.intro hu hv)
  clear hu hv
  go_enter Tryd.func60, Tryd.ntmps60
  go_wp2_with fail
  go_loopw [13] (fun ix wr => ∃ j : Nat, j ≤ m.length ∧ ix = .int .i64 j ∧ Below w.heap.size w wr ∧ ∀ p : Addr, wr.cell? p = w.cell? p) (fun ix _ => m.length - (intOf ix).toNat)
  case atStart => exact ⟨0, by omega, rfl, Below.refl _ _, fun _ => rfl⟩
  case round =>
    obtain ⟨j, hj, rfl, hbel, hc⟩ := hrel
    by_cases hlt : j < m.length
    · obtain ⟨a, rfl, ha, hat⟩ := HU.out.1.get j hlt
      obtain ⟨a', rfl, ha', hat'⟩ := HU.out.2.get j hlt
      have q0 := (hc (a.add (j * ZR.n))).trans (at_z hat)
      have r0 := (hc (a'.add (j * ZR.n))).trans (at_z hat')
      simp only [show ZR.n = 1 from rfl, Nat.mul_one] at q0 r0
      have HC := Lib.hid (And.intro hbel hc)
      clear hat hat' hbel hc
      go_upto_region 6 with fail
      go_region
      all_goals
        go_wp2_with fail
        exact ⟨⟨j + 1, by omega, by go_num, HC.out.1.drew, fun p => (World.cell?_drew _ p).trans (HC.out.2 p)⟩, by simp [intOf]; omega⟩
    · have hjl : j = m.length := by omega
      subst hjl
      have HC := Lib.hid hbel
      clear hbel hc
      go_wp2_with fail
      go_ret
      exact ⟨rfl, HC.out⟩

set_option maxRecDepth 100000 in
set_option maxHeartbeats 4000000 in
theorem sameV_refl (n : Nat) : ∀ (t : Va) (u v : Value) (w : World), t.bulk ≤ n → n ≤ 400000 → IsVa (· < w.heap.size) w t u → IsVa (· < w.heap.size) w t v →
    Calls Tryd.prog 24 #[u, v] w fun e w' => e = .returned (.bool true) ∧ Below w.heap.size w w' := by
  induction n with
  | zero => intro t; have := bulkV_pos t; omega
  | succ n ih =>
    rintro ⟨k, i, m, l⟩ u v w hn hb hu hv
    obtain ⟨B, d, A, c, rfl, hT, hl⟩ := hu.parts
    obtain ⟨B', d', A', c', rfl, hT', hl'⟩ := hv.parts
    simp only [Va.kind, Va.num, Va.list, Va.args] at *
    have hll := bulkAllV_len l
    simp only [Va.bulk] at hn
    have IH := Lib.hid ih
    have HL := Lib.hid (And.intro hl hl')
    obtain ⟨b1, z1, k1⟩ := new_blk (Below.refl w.heap.size w) (Nat.le_refl _) #[.int .i64 k, .int .i64 i, .slice B m.length d, .slice A l.length c] 45
    obtain ⟨b2, z2, k2⟩ := new_blk b1 b1.size #[.int .i64 k, .int .i64 i, .slice B' m.length d', .slice A' l.length c'] 45
    have k1 := k1.alloc (Obj.cells #[.int .i64 k, .int .i64 i, .slice B' m.length d', .slice A' l.length c'] 45)
    rw [z1] at k2 z2
    obtain ⟨W, hW⟩ : ∃ W, W = (w.alloc (Obj.cells #[.int .i64 k, .int .i64 i, .slice B m.length d, .slice A l.length c] 45)).alloc (Obj.cells #[.int .i64 k, .int .i64 i, .slice B' m.length d', .slice A' l.length c'] 45) := ⟨_, rfl⟩
    rw [← hW] at b2 z2 k1 k2
    have HTY := Lib.hid (And.intro (show ZR.Sl (· < w.heap.size) W m (.slice B m.length d) from hT.keep (fun _ h => h) (fun p hp => b2.cell hp)) (show ZR.Sl (· < w.heap.size) W m (.slice B' m.length d') from hT'.keep (fun _ h => h) (fun p hp => b2.cell hp)))
    have hTn : m.length ≤ 400000 := by omega
    have HKK := Lib.hid (And.intro k1 (And.intro k2 b2))
    obtain ⟨p0, p1, p2, p3, _⟩ := k1.facts4
    obtain ⟨s0, s1, s2, s3, _⟩ := k2.facts4
    clear hu hv hT hT' hl hl' ih b1 z1 k1 k2
    go_enter Tryd.func24, Tryd.ntmps24
    go_wp2_with fail
    rw [← hW]
    clear hW
    refine (ints_refl m _ _ _ _ (· < w.heap.size) W hTn HTY.out.1 HTY.out.2).mono ?_
    rintro e W1 ⟨rfl, hbW⟩
    have HBW := Lib.hid hbW
    have HK2 := Lib.hid (And.intro (HKK.out.1.below hbW HKK.out.1.lt) (And.intro (HKK.out.2.1.below hbW HKK.out.2.1.lt) (HKK.out.2.2.trans (hbW.mono HKK.out.2.2.size))))
    obtain ⟨_, _, _, q4, _⟩ := HK2.out.1.facts4
    obtain ⟨_, _, _, r4, _⟩ := HK2.out.2.1.facts4
    clear hbW p0 p1 p2 p3 s0 s1 s2 s3
    go_wp2_with fail
    go_loopw [38] (fun ix wr => ∃ j : Nat, j ≤ l.length ∧ ix = .int .i64 j ∧ Below W1.heap.size W1 wr) (fun ix _ => l.length - (intOf ix).toNat)
    case atStart => exact ⟨0, by omega, rfl, Below.refl _ _⟩
    case round =>
      obtain ⟨j, hj, rfl, hbel⟩ := hrel
      have hws := hbel.size
      have hB2 : Below w.heap.size w wr := HK2.out.2.2.trans (hbel.mono HK2.out.2.2.size)
      by_cases hlt : j < l.length
      · have hl1 : VaR.Sl (· < w.heap.size) wr l (.slice A l.length c) := HL.out.1.keep (fun _ h => h) (fun p hp => hB2.cell hp)
        have hm1 : VaR.Sl (· < w.heap.size) wr l (.slice A' l.length c') := HL.out.2.keep (fun _ h => h) (fun p hp => hB2.cell hp)
        obtain ⟨a, rfl, ha, hat⟩ := hl1.get j hlt
        obtain ⟨a', rfl, ha', hat'⟩ := hm1.get j hlt
        obtain ⟨B1, d1, A1, c1, q0, q1, q2, q3, hx⟩ := at_va hat
        obtain ⟨B2, d2, A2, c2, r0, r1, r2, r3, hy⟩ := at_va hat'
        simp only [show VaR.n = 4 from rfl] at q0 q1 q2 q3 r0 r1 r2 r3
        have hnj := bulkAllV_get l j hlt
        have hab : (a.add (j * 4)).block < w.heap.size := by rw [add_block]; exact ha
        have hab' : (a'.add (j * 4)).block < w.heap.size := by rw [add_block]; exact ha'
        have hwz := hB2.size
        have k1 := HK2.out.1.below hbel HK2.out.1.lt
        have k2 := HK2.out.2.1.below hbel HK2.out.2.1.lt
        have HSK := Lib.hid fun (w1 : World) (h : Below wr.heap.size wr w1) => And.intro (k1.below h k1.lt).facts4.2.2.2.1 (And.intro (k2.below h k2.lt).facts4.2.2.2.1
          (And.intro ((h.cell (p := a.add (j * 4)) (by omega)).trans q0) (And.intro ((h.cell (p := ⟨(a.add (j * 4)).block, (a.add (j * 4)).off + 1, none⟩) (by show (a.add (j * 4)).block < _; omega)).trans q1)
            (And.intro ((h.cell (p := ⟨(a.add (j * 4)).block, (a.add (j * 4)).off + 2, none⟩) (by show (a.add (j * 4)).block < _; omega)).trans q2) (And.intro ((h.cell (p := ⟨(a.add (j * 4)).block, (a.add (j * 4)).off + 3, none⟩) (by show (a.add (j * 4)).block < _; omega)).trans q3)
          (And.intro ((h.cell (p := a'.add (j * 4)) (by omega)).trans r0) (And.intro ((h.cell (p := ⟨(a'.add (j * 4)).block, (a'.add (j * 4)).off + 1, none⟩) (by show (a'.add (j * 4)).block < _; omega)).trans r1)
            (And.intro ((h.cell (p := ⟨(a'.add (j * 4)).block, (a'.add (j * 4)).off + 2, none⟩) (by show (a'.add (j * 4)).block < _; omega)).trans r2)
              ((h.cell (p := ⟨(a'.add (j * 4)).block, (a'.add (j * 4)).off + 3, none⟩) (by show (a'.add (j * 4)).block < _; omega)).trans r3)))))))))
        have ARM := Lib.hid (show Calls Tryd.prog 24 #[.agg #[.int .i64 l[j].kind, .int .i64 l[j].num, .slice B1 l[j].list.length d1, .slice A1 l[j].args.length c1],
            .agg #[.int .i64 l[j].kind, .int .i64 l[j].num, .slice B2 l[j].list.length d2, .slice A2 l[j].args.length c2]] wr.drew fun e w' => e = .returned (.bool true) ∧ Below wr.heap.size wr w' by
          refine (IH.out l[j] _ _ wr.drew (by omega) (by omega) (hx.keep (fun b h => Nat.lt_of_lt_of_le h hwz) (fun p _ => World.cell?_drew _ p)) (hy.keep (fun b h => Nat.lt_of_lt_of_le h hwz) (fun p _ => World.cell?_drew _ p))).mono ?_
          rintro e w1 ⟨h1, h2⟩
          exact ⟨h1, ((Below.refl _ wr).drew).trans h2⟩)
        obtain ⟨m0, m1, _⟩ := HSK.out wr (Below.refl _ _)
        have HBL := Lib.hid hbel
        clear hl1 hm1 hat hat' hx hy k1 k2 q0 q1 q2 q3 r0 r1 r2 r3 hbel hB2
        go_wp2_with fail
        go_region_held3 (fun w' => w'.cell? ⟨w.heap.size, 3, none⟩ = some (.slice (some a) l.length c) ∧ w'.cell? ⟨w.heap.size + 1, 3, none⟩ = some (.slice (some a') l.length c') ∧
            w'.cell? (a.add (j * 4)) = some (.int .i64 l[j].kind) ∧ w'.cell? ⟨(a.add (j * 4)).block, (a.add (j * 4)).off + 1, none⟩ = some (.int .i64 l[j].num) ∧
            w'.cell? ⟨(a.add (j * 4)).block, (a.add (j * 4)).off + 2, none⟩ = some (.slice B1 l[j].list.length d1) ∧ w'.cell? ⟨(a.add (j * 4)).block, (a.add (j * 4)).off + 3, none⟩ = some (.slice A1 l[j].args.length c1) ∧
            w'.cell? (a'.add (j * 4)) = some (.int .i64 l[j].kind) ∧ w'.cell? ⟨(a'.add (j * 4)).block, (a'.add (j * 4)).off + 1, none⟩ = some (.int .i64 l[j].num) ∧
            w'.cell? ⟨(a'.add (j * 4)).block, (a'.add (j * 4)).off + 2, none⟩ = some (.slice B2 l[j].list.length d2) ∧ w'.cell? ⟨(a'.add (j * 4)).block, (a'.add (j * 4)).off + 3, none⟩ = some (.slice A2 l[j].args.length c2))
          (first | with_reducible exact HSK.out _ (Below.refl _ _).drew | with_reducible exact HSK.out _ HB1.out | go_keep)
          (first
            | (go_at_call 24
               (with_reducible refine ARM.out.mono ?_)
               rintro e w1 ⟨rfl, hb1⟩
               have HB1 := Lib.hid hb1
               clear hb1))
        go_wp2_with fail
        exact ⟨⟨j + 1, by omega, by go_num, HBL.out.trans (HB1.out.mono hws)⟩, by simp [intOf]; omega⟩
      · have hjl : j = l.length := by omega
        subst hjl
        clear hbel
        go_wp2_with fail
        go_ret
        exact ⟨rfl, hB2⟩
end Go.Proofs.YtifijgihcincfaaDoor
namespace Go.Proofs.YtifijgihcincfaaDoor
open Go.RowKit

set_option maxRecDepth 100000 in
set_option maxHeartbeats 4000000 in
theorem root_any (t : Tm) (v : Value) (w : World) (hok : t.ok = true ∨ t.kind = 0) (hT : IsTm (· < w.heap.size) w t v) :
    Calls Tryd.prog 84 #[v] w (RedexR t.redex w) := by
  obtain ⟨k, i, T, l⟩ := t
  obtain ⟨B, d0, A, a0, rfl, hty, hl⟩ := hT.mk_parts
  have hb1 := below_box w (Obj.cells #[.int .i64 k, .int .i64 i, .int .i64 T.kind, .slice B T.args.length d0, .slice A l.length a0] 34)
  have hlW := hl.keep (S' := (· < w.heap.size)) (w' := w.alloc (Obj.cells #[.int .i64 k, .int .i64 i, .int .i64 T.kind, .slice B T.args.length d0, .slice A l.length a0] 34)) (fun _ h => h) (fun p hp => hb1.cell hp)
  have hr : (Tm.mk k i T l).redex = redexOf k l := rfl
  rw [hr]
  clear hr hT hty hl
  by_cases h3 : k = 3 ∨ k = 11 ∨ k = 12
  · have hok := hok.resolve_right (show ¬ (Tm.mk k i T l).kind = 0 from fun e => by have e : k = 0 := e; omega)
    have hlen : 0 < l.length := by rw [ok_len hok]; rcases h3 with rfl | rfl | rfl <;> decide
    obtain ⟨a, B1, d1, A1, c1, rfl, ha, q0, _, _, _, _, _⟩ := sl_child hlW 0 hlen
    rw [Nat.zero_mul, add_zero'] at q0
    have hg : (l.getD 0 .void) = l[0] := by rw [List.getD_eq_getElem?_getD, List.getElem?_eq_getElem hlen]; rfl
    have hre : redexOf k l = (l[0].kind == (if k = 3 then 2 else 10)) := by
      unfold redexOf
      rw [hg]
      rcases h3 with rfl | rfl | rfl <;> simp
    rw [hre]
    have HB := Lib.hid hb1
    have hl0 : (0 : Int) < (l.length : Int) := by omega
    clear hok hlW hg hre hb1
    generalize l[0].kind = kk at q0 ⊢
    rcases h3 with rfl | rfl | rfl
    all_goals
      go_enter Tryd.func84, Tryd.ntmps84
      go_wp2_with fail
      go_ret
      exact ⟨rfl, HB.out⟩
  · by_cases h6 : k = 6 ∨ k = 9
    · have hok := hok.resolve_right (show ¬ (Tm.mk k i T l).kind = 0 from fun e => by have e : k = 0 := e; omega)
      have hlen : 2 < l.length := by rw [ok_len hok]; rcases h6 with rfl | rfl <;> decide
      obtain ⟨a, B1, d1, A1, c1, rfl, ha, q0, _, _, _, _, _⟩ := sl_child hlW 2 hlen
      have hg : (l.getD 2 .void) = l[2] := by rw [List.getD_eq_getElem?_getD, List.getElem?_eq_getElem hlen]; rfl
      have hre : redexOf k l = (l[2].kind == (if k = 6 then 4 else 7) || l[2].kind == (if k = 6 then 5 else 8)) := by
        unfold redexOf
        rw [hg]
        rcases h6 with rfl | rfl <;> simp
      rw [hre]
      have HB := Lib.hid hb1
      have hl0 : (2 : Int) < (l.length : Int) := by omega
      simp [Addr.add] at q0
      clear hok hlW hg hre hb1 h3
      generalize l[2].kind = kk at q0 ⊢
      rcases h6 with rfl | rfl
      · by_cases h4 : kk = 4
        · subst h4
          go_enter Tryd.func84, Tryd.ntmps84
          go_wp2_with fail
          go_ret
          exact ⟨rfl, HB.out⟩
        · have e4 : (kk == 4) = false := by simpa using h4
          clear h4
          go_enter Tryd.func84, Tryd.ntmps84
          go_wp2_with fail
          go_ret
          exact ⟨ret_boolD (by simp [e4]), HB.out⟩
      · by_cases h4 : kk = 7
        · subst h4
          go_enter Tryd.func84, Tryd.ntmps84
          go_wp2_with fail
          go_ret
          exact ⟨rfl, HB.out⟩
        · have e4 : (kk == 7) = false := by simpa using h4
          clear h4
          go_enter Tryd.func84, Tryd.ntmps84
          go_wp2_with fail
          go_ret
          exact ⟨ret_boolD (by simp), HB.out⟩
    · have hre : redexOf k l = false := by
        unfold redexOf
        rw [if_neg (by omega), if_neg (by omega), if_neg (by omega), if_neg (by omega)]
      rw [hre]
      have e1 : (k == 3) = false := by simp; omega
      have e2 : (k == 6) = false := by simp; omega
      have e3 : (k == 9) = false := by simp; omega
      have e4 : (k == 11) = false := by simp; omega
      have e5 : (k == 12) = false := by simp; omega
      have HB := Lib.hid hb1
      clear hok hlW hre hb1 h3 h6
      go_enter Tryd.func84, Tryd.ntmps84
      go_wp2_with fail
      go_ret
      exact ⟨rfl, HB.out⟩


set_option maxRecDepth 100000 in
set_option maxHeartbeats 4000000 in
theorem least_any (N : Nat) : ∀ (t : Tm) (v : Value) (n : Int) (w : World), t.bulk ≤ N → N ≤ 400000 → t.low n = true → IsTm (· < w.heap.size) w t v →
    Calls Tryd.prog 57 #[v, .int .i64 n] w fun e w' => e = .returned (.bool true) ∧ Below w.heap.size w w' := by
  induction N with
  | zero => intro t; have := bulk_pos t; omega
  | succ N ih =>
    rintro ⟨k, i, T, l⟩ v n w hN hN4 hlow hT
    have IH := Lib.hid ih
    clear ih
    obtain ⟨B, d0, A, a0, rfl, hty, hl⟩ := hT.mk_parts
    rw [low_mk] at hlow
    have e1 : decide (i > n) = false := decide_eq_false (by have := hlow.1; omega)
    have HLOW := Lib.hid hlow.2
    simp only [Tm.bulk] at hN
    have hll := bulkAll_len l
    have HL := Lib.hid hl
    clear hlow hty hl hT
    go_enter Tryd.func57, Tryd.ntmps57
    go_upto_region 1 with fail
    obtain ⟨b1, z1, k0⟩ := new_blk (Below.refl w.heap.size w) (Nat.le_refl _) #[.int .i64 k, .int .i64 i, .int .i64 T.kind, .slice B T.args.length d0, .slice A l.length a0] 34
    generalize w.alloc (Obj.cells #[.int .i64 k, .int .i64 i, .int .i64 T.kind, .slice B T.args.length d0, .slice A l.length a0] 34) = W at b1 z1 k0 ⊢
    have HB := Lib.hid (And.intro b1 z1)
    obtain ⟨r0, r1, r2, r3, r4, _, _, _, _, _⟩ := k0.facts5
    clear b1 z1 k0
    go_wp2_with fail
    go_loopw [14] (fun ix wr => ∃ j : Nat, j ≤ l.length ∧ ix = .int .i64 j ∧ Below w.heap.size w wr)
      (fun ix _ => l.length - (intOf ix).toNat)
    case atStart => exact ⟨0, by omega, rfl, HB.out.1⟩
    case round =>
      obtain ⟨j, hj, rfl, hb⟩ := hrel
      by_cases hlt : j < l.length
      · have hlr : TmR.Sl (· < w.heap.size) wr l (.slice A l.length a0) := HL.out.keep (fun _ h => h) (fun p hp => hb.cell hp)
        obtain ⟨a, rfl, ha, hat⟩ := hlr.get j hlt
        obtain ⟨B1, d1, A1, c1, q0, q1, q2, q3, q4, hx⟩ := at_tm hat
        change wr.cell? (a.add (j * 5)) = _ at q0
        simp only [show TmR.n = 5 from rfl] at q1 q2 q3 q4
        have hbj := bulkAll_get l j hlt
        have HH := Lib.hid (And.intro (lowAll_get HLOW.out j hlt) hx)
        have HB1 := Lib.hid hb
        have hbz := hb.size
        clear hx hat hlr hb r0 r1 r2 r3 r4
        go_wp2_with fail
        have hbx := below_box wr (Obj.cells #[.int .i64 l[j].kind, .int .i64 l[j].index, .int .i64 l[j].type.kind, .slice B1 l[j].type.args.length d1, .slice A1 l[j].args.length c1] 34)
        refine (IH.out l[j] _ n _ (by omega) (by omega) HH.out.1 (IsTm.keep (fun b h => by have h' : b < w.heap.size := h; simp; omega) (fun p hp => World.cell?_alloc_lt _ _ _ (by have h' : p.block < w.heap.size := hp; omega)) _ HH.out.2)).mono ?_
        rintro e w1 ⟨rfl, hb1⟩
        have HB2 := Lib.hid (HB1.out.trans ((hbx.trans (hb1.mono hbx.size)).mono hbz))
        clear hb1 hbx
        go_wp2_with fail
        go_roundw
        case rel => exact ⟨j + 1, by omega, by go_num, HB2.out⟩
        case measure => simp [intOf]; omega
      · have HB1 := Lib.hid hb
        clear hb
        go_wp2_with fail
        go_ret
        exact ⟨rfl, HB1.out⟩
end Go.Proofs.YtifijgihcincfaaDoor
namespace Go.Proofs.YtifijgihcincfaaDoor
open Go.RowKit

theorem next_parts' {k i : Int} {T : Ty} {l : List Tm} (h : (Tm.mk k i T l).next = none) : redexOf k l = false ∧ ∀ j (hj : j < l.length), l[j].next = none := by
  rw [next_mk] at h
  split at h
  · cases h
  · rename_i hr
    refine ⟨by simpa using hr, nextAll_normal ?_⟩
    cases hn : nextAll l with
    | none => rfl
    | some m => rw [hn] at h; cases h

def NoNextR (v : Value) (w : World) (e : Ending) (w' : World) : Prop := e = .returned (.tuple #[v, .bool false, .bool true]) ∧ Below w.heap.size w w'

set_option maxRecDepth 100000 in
set_option maxHeartbeats 4000000 in
theorem next_normal (N : Nat) : ∀ (t : Tm) (v : Value) (room : Int) (w : World), t.bulk ≤ N → N ≤ 400000 → t.ok = true → t.next = none → IsTm (· < w.heap.size) w t v →
    Calls Tryd.prog 58 #[v, .int .i64 room] w (NoNextR v w) := by
  induction N with
  | zero => intro t; have := bulk_pos t; omega
  | succ N ih =>
    rintro ⟨k, i, T, l⟩ v room w hN hN4 hok hnx hT
    have IH := Lib.hid ih
    clear ih
    have HT := Lib.hid hT
    obtain ⟨B, d0, A, a0, rfl, hty, hl⟩ := hT.mk_parts
    obtain ⟨hr, hns⟩ := next_parts' hnx
    have HOK := Lib.hid (And.intro hok hns)
    simp only [Tm.bulk] at hN
    have hll := bulkAll_len l
    have HL := Lib.hid hl
    have hre : (Tm.mk k i T l).redex = false := hr
    clear hty hl hT hok hnx hns hr
    go_enter Tryd.func58, Tryd.ntmps58
    go_upto_region 1 with fail
    obtain ⟨W, hW, b2, z2, k0, k1⟩ := alloc2_facts w #[.int .i64 k, .int .i64 i, .int .i64 T.kind, .slice B T.args.length d0, .slice A l.length a0] #[.int .i64 0, .int .i64 0, .int .i64 0, .slice none 0 0, .slice none 0 0] 34 34
    rw [← hW]
    have HB := Lib.hid (And.intro b2 z2)
    have HK := Lib.hid (And.intro k0 k1)
    have hzW := b2.size
    obtain ⟨r0, r1, r2, r3, r4, _, _, _, _, _⟩ := k0.facts5
    clear hW b2 k0 k1
    go_wp2_with fail
    refine (root_any (.mk k i T l) _ W (.inl HOK.out.1) (IsTm.keep (fun b h => by have h' : b < w.heap.size := h; show b < W.heap.size; omega) (fun p h => HB.out.1.cell h) _ HT.out)).mono ?_
    rintro e w1 ⟨rfl, hb1⟩
    rw [hre]
    have B1 := Lib.hid hb1
    have hz1 := hb1.size
    obtain ⟨s0, s1, s2, s3, s4, _, _, _, _, _⟩ := (HK.out.1.below hb1 HK.out.1.lt).facts5
    clear hb1 r0 r1 r2 r3 r4 hre
    go_wp2_with fail
    go_loopw [25] (fun ix wr => ∃ j : Nat, j ≤ l.length ∧ ix = .int .i64 j ∧ Below W.heap.size W wr)
      (fun ix _ => l.length - (intOf ix).toNat)
    case atStart => exact ⟨0, by omega, rfl, B1.out⟩
    case round =>
      obtain ⟨j, hj, rfl, hb⟩ := hrel
      have hbz := hb.size
      have hbw : Below w.heap.size w wr := HB.out.1.trans (hb.mono hzW)
      clear s0 s1 s2 s3 s4
      by_cases hlt : j < l.length
      · have hlr : TmR.Sl (· < w.heap.size) wr l (.slice A l.length a0) := HL.out.keep (fun _ h => h) (fun p hp => hbw.cell hp)
        obtain ⟨a, rfl, ha, hat⟩ := hlr.get j hlt
        obtain ⟨B1', d1, A1, c1, q0, q1, q2, q3, q4, hx⟩ := at_tm hat
        change wr.cell? (a.add (j * 5)) = _ at q0
        simp only [show TmR.n = 5 from rfl] at q1 q2 q3 q4
        have hbj := bulkAll_get l j hlt
        have HX := Lib.hid hx
        have HBR := Lib.hid hb
        clear hx hat hlr hb hbw
        go_upto_region 8 with fail
        obtain ⟨b3, z3, k3⟩ := new_blk (Below.refl wr.heap.size wr) (Nat.le_refl _) #[.int .i64 l[j].kind, .int .i64 l[j].index, .int .i64 l[j].type.kind, .slice B1' l[j].type.args.length d1, .slice A1 l[j].args.length c1] 34
        generalize wr.alloc (Obj.cells #[.int .i64 l[j].kind, .int .i64 l[j].index, .int .i64 l[j].type.kind, .slice B1' l[j].type.args.length d1, .slice A1 l[j].args.length c1] 34) = W3 at b3 z3 k3 ⊢
        have B3 := Lib.hid (HBR.out.trans (b3.mono hbz))
        have C3 := Lib.hid b3
        have hz3 := b3.size
        obtain ⟨s0, s1, s2, s3, s4, _, _, _, _, _⟩ := k3.facts5
        clear b3 k3
        go_wp2_with fail
        refine (IH.out l[j] _ room W3 (by omega) (by omega) (ok_arg HOK.out.1 (List.getElem_mem hlt)) (HOK.out.2 j hlt) (IsTm.keep (fun b h => by have h' : b < w.heap.size := h; show b < W3.heap.size; omega) (fun p hp => C3.out.cell (by have h' : p.block < w.heap.size := hp; omega)) _ HX.out)).mono ?_
        rintro e w4 ⟨rfl, hb4⟩
        have B4 := Lib.hid (B3.out.trans (hb4.mono (by omega)))
        clear hb4 s0 s1 s2 s3 s4
        go_wp2_with fail
        go_roundw
        case rel => exact ⟨j + 1, by omega, by go_num, B4.out.alloc B4.out.size _⟩
        case measure => simp [intOf]; omega
      · have HBR := Lib.hid hb
        have K1 := Lib.hid (HK.out.2.below hb HK.out.2.lt)
        obtain ⟨s0, s1, s2, s3, s4, _, _, _, _, _⟩ := (HK.out.1.below hb HK.out.1.lt).facts5
        obtain ⟨_, _, _, _, _, f0, f1, f2, f3, f4⟩ := K1.out.facts5
        have HBW := Lib.hid hbw
        clear hb hbw
        go_wp2_with fail
        obtain ⟨y0, y1, y2, y3, y4⟩ := (K1.out.set5 (.int .i64 k) (.int .i64 i) (.int .i64 T.kind) (.slice B T.args.length d0) (.slice A l.length a0)).cells5
        have hg := only_set5 wr (w.heap.size + 1) (.int .i64 k) (.int .i64 i) (.int .i64 T.kind) (.slice B T.args.length d0) (.slice A l.length a0)
        exact bodyPost_ret (v := .tuple #[.agg #[.int .i64 k, .int .i64 i, .int .i64 T.kind, .slice B T.args.length d0, .slice A l.length a0], .bool false, .bool true]) (by simp [results, Tryd.results58, go_sem, y0, y1, y2, y3, y4]) rfl
          ⟨rfl, HBW.out.grown hg HBW.out.size (fun k e => by cases e; omega)⟩
end Go.Proofs.YtifijgihcincfaaDoor
namespace Go.Proofs.YtifijgihcincfaaDoor
open Go.RowKit

set_option maxRecDepth 100000 in
set_option maxHeartbeats 4000000 in
theorem ref4Normal_any (t : Tm) (v : Value) (w : World) (hb : t.bulk ≤ 390000) (hok : t.ok = true) (hsz : t.size ≤ 4096) (hlow : t.low 536870912 = true) (hnx : t.next = none) (hT : IsTm (· < w.heap.size) w t v) :
    Calls Tryd.prog 23 #[v, .int .i64 10] w fun e w' => ∃ v', e = .returned (.tuple #[v', .int .i64 0, .int .i64 0]) ∧ IsTm (· < w'.heap.size) w' t v' ∧ Below w.heap.size w w' := by
  obtain ⟨B, d, A, c, rfl, _⟩ := IsTm.form hT
  have HT := Lib.hid hT
  have HOK := Lib.hid (And.intro hok (And.intro hlow (And.intro hnx hsz)))
  clear hT hok hlow hnx
  go_enter Tryd.func23, Tryd.ntmps23
  go_upto_region 1 with fail
  obtain ⟨W, hW, b2, z2, k0, k1⟩ := alloc2_facts w #[.int .i64 t.kind, .int .i64 t.index, .int .i64 t.type.kind, .slice B t.type.args.length d, .slice A t.args.length c] #[.int .i64 0, .int .i64 0, .int .i64 0, .slice none 0 0, .slice none 0 0] 34 34
  rw [← hW]
  have HB := Lib.hid (And.intro b2 z2)
  have HK := Lib.hid (And.intro k0 k1)
  have hzW := b2.size
  obtain ⟨r0, r1, r2, r3, r4, _, _, _, _, _⟩ := k0.facts5
  have HTW := Lib.hid fun (w' : World) (h : Below W.heap.size W w') => IsTm.keep (S' := (· < w'.heap.size)) (w' := w') (fun b hb => by have h' : b < w.heap.size := hb; have := h.size; show b < w'.heap.size; omega) (fun p hp => (h.cell (by have h' : p.block < w.heap.size := hp; omega)).trans (HB.out.1.cell hp)) _ HT.out
  clear hW b2 k0 k1
  go_wp2_with fail
  refine (refCheckT_any t _ W HOK.out.1 (by omega) HOK.out.2.2.2 (HTW.out W (Below.refl _ _))).mono ?_
  rintro e w1 ⟨rfl, h1⟩
  have C1 := Lib.hid h1
  have hz1 := h1.size
  obtain ⟨s0, s1, s2, s3, s4, _, _, _, _, _⟩ := (HK.out.1.below h1 HK.out.1.lt).facts5
  clear h1 r0 r1 r2 r3 r4
  go_wp2_with fail
  refine (least_any t.bulk t _ 536870912 w1 (Nat.le_refl _) (by omega) HOK.out.2.1 (HTW.out w1 C1.out)).mono ?_
  rintro e w2 ⟨rfl, h2⟩
  have C2 := Lib.hid (C1.out.trans (h2.mono hz1))
  have hz2 := h2.size
  clear h2 s0 s1 s2 s3 s4
  go_wp2_with fail
  go_loopg [8] 1 (fun k ix wr => k = 1 ∧ ix = .int .i64 0 ∧ wr = w2)
  case atStart => exact ⟨rfl, rfl, rfl⟩
  case round =>
    obtain ⟨hk1, rfl, rfl⟩ := hrel
    go_upto_region 8 with fail
    have hzr := C2.out.size
    have HSK := Lib.hid fun (w' : World) (h : Below wr.heap.size wr w') => (fun (x : _ ∧ _ ∧ _ ∧ _ ∧ _ ∧ _) => And.intro x.1 (And.intro x.2.1 (And.intro x.2.2.1 (And.intro x.2.2.2.1 x.2.2.2.2.1)))) (HK.out.1.below (C2.out.trans (h.mono hzr)) HK.out.1.lt).facts5
    obtain ⟨y0, y1, y2, y3, y4⟩ := HSK.out wr (Below.refl _ _)
    have HTR := Lib.hid fun (w' : World) (h : Below wr.heap.size wr w') => HTW.out w' (C2.out.trans (h.mono hzr))
    have hts := size_bulk t
    have hsz0 : (0 : Int) ≤ (t.size : Int) := by omega
    have hsz1 : (t.size : Int) ≤ 4096 := by omega
    have hwr : IntKind.i64.wrap (4096 - (t.size : Int)) = 4096 - (t.size : Int) := IntWalk.i64_in _ (by omega)
    have QD := Lib.hid (show Below wr.heap.size wr wr.drew from (Below.refl _ _).drew)
    have QA := Lib.hid (show Below wr.heap.size wr (wr.alloc (Obj.cells #[.int .i64 0, .int .i64 0, .int .i64 0, .slice none 0 0, .slice none 0 0] 34)) from (Below.refl _ _).alloc (Nat.le_refl _) _)
    have QAd := Lib.hid (show Below wr.heap.size wr (wr.alloc (Obj.cells #[.int .i64 0, .int .i64 0, .int .i64 0, .slice none 0 0, .slice none 0 0] 34)).drew from ((Below.refl _ _).alloc (Nat.le_refl _) _).drew)
    have KA := Lib.hid ((Blk.new wr 34 #[.int .i64 0, .int .i64 0, .int .i64 0, .slice none 0 0, .slice none 0 0]).drew)
    go_region_held3 (fun w' => w'.cell? ⟨w.heap.size, 0, none⟩ = some (.int .i64 t.kind) ∧ w'.cell? ⟨w.heap.size, 1, none⟩ = some (.int .i64 t.index) ∧ w'.cell? ⟨w.heap.size, 2, none⟩ = some (.int .i64 t.type.kind) ∧ w'.cell? ⟨w.heap.size, 3, none⟩ = some (.slice B t.type.args.length d) ∧ w'.cell? ⟨w.heap.size, 4, none⟩ = some (.slice A t.args.length c))
      (first | with_reducible exact HSK.out _ QD.out | with_reducible exact HSK.out _ QA.out | with_reducible exact HSK.out _ QAd.out | with_reducible exact HSK.out _ C3.out | with_reducible exact HSK.out _ C3Z.out | with_reducible exact HSK.out _ C4.out | with_reducible exact HSK.out _ C4Z.out | with_reducible exact HSK.out _ C4A.out | with_reducible exact HSK.out _ TF.out)
      (first
        | (go_at_call 58
           have P := next_normal t.bulk t (.agg #[.int .i64 t.kind, .int .i64 t.index, .int .i64 t.type.kind, .slice B t.type.args.length d, .slice A t.args.length c]) (4096 - (t.size : Int)) (w3.alloc (Obj.cells #[.int .i64 0, .int .i64 0, .int .i64 0, .slice none 0 0, .slice none 0 0] 34)) (Nat.le_refl _) (by omega) HOK.out.1 HOK.out.2.2.1 (HTR.out _ C3Z.out)
           (with_reducible refine P.mono ?_)
           rintro e w4 ⟨rfl, h4⟩
           clear P
           have C4 := Lib.hid (show Below wr.heap.size wr w4 from C3Z.out.trans (h4.mono C3Z.out.size))
           have KL := Lib.hid ((Blk.new w3 34 #[.int .i64 0, .int .i64 0, .int .i64 0, .slice none 0 0, .slice none 0 0]).below h4 (by simp))
           have hw3 := C3.out.size
           obtain ⟨_, _, _, _, _, f0, f1, f2, f3, f4⟩ := KL.out.facts5
           have TF := Lib.hid (C4.out.grown (only_set5 w4 w3.heap.size (.int .i64 t.kind) (.int .i64 t.index) (.int .i64 t.type.kind) (.slice B t.type.args.length d) (.slice A t.args.length c)) C4.out.size (fun k e => by cases e; exact hw3))
           clear h4)
        | (go_at_call 58
           have P := next_normal t.bulk t (.agg #[.int .i64 t.kind, .int .i64 t.index, .int .i64 t.type.kind, .slice B t.type.args.length d, .slice A t.args.length c]) (4096 - (t.size : Int)) w3 (Nat.le_refl _) (by omega) HOK.out.1 HOK.out.2.2.1 (HTR.out _ C3.out)
           (with_reducible refine P.mono ?_)
           rintro e w4 ⟨rfl, h4⟩
           clear P
           have C4 := Lib.hid (show Below wr.heap.size wr w4 from C3.out.trans (h4.mono C3.out.size))
           have C4Z := Lib.hid (C4.out.alloc C4.out.size (Obj.cells #[.int .i64 0, .int .i64 0, .int .i64 0, .slice none 0 0, .slice none 0 0] 34))
           have C4A := Lib.hid (C4.out.alloc C4.out.size (Obj.cells #[.int .i64 t.kind, .int .i64 t.index, .int .i64 t.type.kind, .slice B t.type.args.length d, .slice A t.args.length c] 34))
           try (have KL := Lib.hid (KL3.out.below h4 KL3.out.lt))
           try (obtain ⟨_, _, _, _, _, f0, f1, f2, f3, f4⟩ := KL.out.facts5)
           have TF := Lib.hid (C4.out.grown (only_set5 w4 wr.heap.size (.int .i64 t.kind) (.int .i64 t.index) (.int .i64 t.type.kind) (.slice B t.type.args.length d) (.slice A t.args.length c)) C4.out.size (fun k e => by cases e; exact Nat.le_refl _))
           clear h4)
        | (go_at_call 59
           have P := countT_any t.bulk t (.agg #[.int .i64 t.kind, .int .i64 t.index, .int .i64 t.type.kind, .slice B t.type.args.length d, .slice A t.args.length c]) (wr.alloc (Obj.cells #[.int .i64 0, .int .i64 0, .int .i64 0, .slice none 0 0, .slice none 0 0] 34)).drew (Nat.le_refl _) (by omega) (HTR.out _ QAd.out)
           (with_reducible refine P.mono ?_)
           rintro e w3 ⟨rfl, h3⟩
           clear P
           have C3 := Lib.hid (show Below wr.heap.size wr w3 from QAd.out.trans (h3.mono QAd.out.size))
           have KL3 := Lib.hid (KA.out.below h3 KA.out.lt)
           clear h3)
        | (go_at_call 59
           have P := countT_any t.bulk t (.agg #[.int .i64 t.kind, .int .i64 t.index, .int .i64 t.type.kind, .slice B t.type.args.length d, .slice A t.args.length c]) wr.drew (Nat.le_refl _) (by omega) (HTR.out _ QD.out)
           (with_reducible refine P.mono ?_)
           rintro e w3 ⟨rfl, h3⟩
           clear P
           have C3 := Lib.hid (show Below wr.heap.size wr w3 from QD.out.trans (h3.mono QD.out.size))
           have C3Z := Lib.hid (C3.out.alloc C3.out.size (Obj.cells #[.int .i64 0, .int .i64 0, .int .i64 0, .slice none 0 0, .slice none 0 0] 34))
           clear h3))
    all_goals
      obtain ⟨z0, z1, z2, z3, z4⟩ := HSK.out w4 C4.out
      clear y0 y1 y2 y3 y4
      go_wp2_with fail
      first
        | (have hX := C4A.out
           refine (copyT_any t.bulk t _ _ (Nat.le_refl _) (by omega) (HTR.out _ hX)).mono ?_)
        | (have hX := TF.out
           refine (copyT_any t.bulk t _ _ (Nat.le_refl _) (by omega) (HTR.out _ hX)).mono ?_)
      rintro e w6 ⟨v6, rfl, t6, h6⟩
      obtain ⟨B6, d6, A6, c6, rfl, _⟩ := IsTm.form t6
      have H6 := Lib.hid (C2.out.trans ((hX.trans (h6.mono hX.size)).mono hzr))
      have T6 := Lib.hid (show IsTm (· < w6.heap.size) w6 t _ from IsTm.keep (fun b h => h.2) (fun _ _ => rfl) _ t6)
      have hlo : w.heap.size + 1 < w6.heap.size := by have := H6.out.size; have := HB.out.2; omega
      have hT6 := Lib.hid t6
      have hxs := hX.size
      have K1 := Lib.hid (HK.out.2.below H6.out HK.out.2.lt)
      obtain ⟨_, _, _, _, _, g0, g1, g2, g3, g4⟩ := K1.out.facts5
      clear t6 h6 hX z0 z1 z2 z3 z4
      go_wp2_with fail
      obtain ⟨u0, u1, u2, u3, u4⟩ := (K1.out.set5 (.int .i64 t.kind) (.int .i64 t.index) (.int .i64 t.type.kind) (.slice B6 t.type.args.length d6) (.slice A6 t.args.length c6)).cells5
      have hg := only_set5 w6 (w.heap.size + 1) (.int .i64 t.kind) (.int .i64 t.index) (.int .i64 t.type.kind) (.slice B6 t.type.args.length d6) (.slice A6 t.args.length c6)
      refine bodyPost_ret (v := .tuple #[.agg #[.int .i64 t.kind, .int .i64 t.index, .int .i64 t.type.kind, .slice B6 t.type.args.length d6, .slice A6 t.args.length c6], .int .i64 0, .int .i64 0]) (by simp [results, Tryd.results23, go_sem, u0, u1, u2, u3, u4]) rfl
        ⟨_, rfl, IsTm.keep (fun b h => Nat.lt_of_lt_of_le h.2 hg.size) (fun p hp => World.cell?_of_block (hg.block p.block hp.2 (fun e => ?_))) _ hT6.out, HB.out.1.trans (H6.out.mono hzW) |>.grown hg (by have := HB.out.1.size; have := H6.out.size; omega) (fun k e => by cases e; omega)⟩
      have e' : p.block = w.heap.size + 1 := by simpa using e
      have h1 := hp.1
      have h2 := HB.out.2
      omega
end Go.Proofs.YtifijgihcincfaaDoor
namespace Go.Proofs.YtifijgihcincfaaDoor
open Go.RowKit

theorem one_blk (w : World) (xs : Array Value) (t : TypeId) : ∃ W, W = w.alloc (Obj.cells xs t) ∧ Below w.heap.size w W ∧ Blk W w.heap.size t xs :=
  ⟨_, rfl, (Below.refl _ _).alloc (Nat.le_refl _) _, Blk.new _ _ _⟩

theorem saneV_tab (w : World) (_ : Tab w) : Calls Tryd.prog 16 #[] w fun e w' => e = .returned (.bool true) ∧ Below w.heap.size w w' := saneV_any w

/-! What lies in a local of the law, the deck's block being another one. -/
structure TyBox (gg g : Nat) (T : Ty) (a b : Value) (w : World) : Prop where
  is : IsTy (fun q => q ≠ gg ∧ q < w.heap.size) w T (.agg #[a, b])
  blk : Blk w g 30 #[a, b]
  ne : g ≠ gg
structure VaBox (gg g : Nat) (T : Va) (a b c d : Value) (w : World) : Prop where
  is : IsVa (fun q => q ≠ gg ∧ q < w.heap.size) w T (.agg #[a, b, c, d])
  blk : Blk w g 45 #[a, b, c, d]
  ne : g ≠ gg
structure TmBox (gg g : Nat) (T : Tm) (a b c d e : Value) (w : World) : Prop where
  is : IsTm (fun q => q ≠ gg ∧ q < w.heap.size) w T (.agg #[a, b, c, d, e])
  blk : Blk w g 34 #[a, b, c, d, e]
  ne : g ≠ gg
theorem TyBox.grown {gg g : Nat} {T : Ty} {a b : Value} {w w' : World} (h : TyBox gg g T a b w) (hg : w.grownBy w' (some gg)) : TyBox gg g T a b w' :=
  ⟨IsTy.keep (fun q h => ⟨h.1, Nat.lt_of_lt_of_le h.2 hg.size⟩) (fun p hp => World.cell?_of_block (hg.block p.block hp.2 (by simpa using hp.1))) _ h.is, h.blk.grown hg (by simpa using h.ne), h.ne⟩
theorem VaBox.grown {gg g : Nat} {T : Va} {a b c d : Value} {w w' : World} (h : VaBox gg g T a b c d w) (hg : w.grownBy w' (some gg)) : VaBox gg g T a b c d w' :=
  ⟨IsVa.keep (fun q h => ⟨h.1, Nat.lt_of_lt_of_le h.2 hg.size⟩) (fun p hp => World.cell?_of_block (hg.block p.block hp.2 (by simpa using hp.1))) _ h.is, h.blk.grown hg (by simpa using h.ne), h.ne⟩
theorem TmBox.grown {gg g : Nat} {T : Tm} {a b c d e : Value} {w w' : World} (h : TmBox gg g T a b c d e w) (hg : w.grownBy w' (some gg)) : TmBox gg g T a b c d e w' :=
  ⟨IsTm.keep (fun q h => ⟨h.1, Nat.lt_of_lt_of_le h.2 hg.size⟩) (fun p hp => World.cell?_of_block (hg.block p.block hp.2 (by simpa using hp.1))) _ h.is, h.blk.grown hg (by simpa using h.ne), h.ne⟩
theorem TyBox.later {gg g : Nat} {T : Ty} {a b : Value} {w w' : World} (h : TyBox gg g T a b w) (hb : Below w.heap.size w w') : TyBox gg g T a b w' := h.grown (only_of_below hb _)
theorem VaBox.later {gg g : Nat} {T : Va} {a b c d : Value} {w w' : World} (h : VaBox gg g T a b c d w) (hb : Below w.heap.size w w') : VaBox gg g T a b c d w' := h.grown (only_of_below hb _)
theorem TmBox.later {gg g : Nat} {T : Tm} {a b c d e : Value} {w w' : World} (h : TmBox gg g T a b c d e w) (hb : Below w.heap.size w w') : TmBox gg g T a b c d e w' := h.grown (only_of_below hb _)
theorem TyBox.low {gg g : Nat} {T : Ty} {a b : Value} {w : World} (h : TyBox gg g T a b w) : IsTy (· < w.heap.size) w T (.agg #[a, b]) := h.is.keep (fun _ h => h.2) (fun _ _ => rfl)
theorem VaBox.low {gg g : Nat} {T : Va} {a b c d : Value} {w : World} (h : VaBox gg g T a b c d w) : IsVa (· < w.heap.size) w T (.agg #[a, b, c, d]) := h.is.keep (fun _ h => h.2) (fun _ _ => rfl)
theorem TmBox.low {gg g : Nat} {T : Tm} {a b c d e : Value} {w : World} (h : TmBox gg g T a b c d e w) : IsTm (· < w.heap.size) w T (.agg #[a, b, c, d, e]) := h.is.keep (fun _ h => h.2) (fun _ _ => rfl)

set_option maxRecDepth 100000 in
set_option maxHeartbeats 8000000 in
theorem backLaw_small (A : Option Addr) (len cap : Nat) (w : World) (htab : Tab w) (hlen : len ≤ 500) (hA : ∀ i, i < len → ∃ a x, A = some a ∧ a.block < w.heap.size ∧ w.cell? (a.add i) = some (.int .i64 x)) :
    Calls Tryd.prog 4 #[.slice A len cap] w fun e w' => e = .returned (.bool true) ∧ Below w.heap.size w w' := by
  have hA' := Lib.hid hA
  have HTab := Lib.hid htab
  clear hA htab
  have e500 : decide ((len : Int) ≤ 500) = true := by simp; omega
  go_enter Tryd.func4, Tryd.ntmps4
  go_wp2_with fail
  refine (saneV_any w).mono ?_
  rintro e w1 ⟨rfl, hb1⟩
  go_wp2_with fail
  refine (few_any A len cap w1 (by simp only [maxLen]; omega)).mono ?_
  rintro e w1' ⟨rfl, rfl⟩
  rw [e500]
  go_wp2_with fail
  have hA1 : ∀ i, i < len → ∃ a x, A = some a ∧ a.block < w1.heap.size ∧ w1.cell? (a.add i) = some (.int .i64 x) := fun i hi => by
    obtain ⟨a, x, h1, h2, h3⟩ := hA'.out i hi
    exact ⟨a, x, h1, Nat.lt_of_lt_of_le h2 hb1.size, (hb1.cell (by rw [add_block]; exact h2)).trans h3⟩
  refine (new_any A len cap w1 hlen hA1).mono ?_
  rintro e w2 ⟨rfl, hw2⟩
  have hd2 := new_deck A len cap w1 hlen hA1
  rw [hw2] at hd2
  have b_w2 : Below w.heap.size w w2 := by rw [← hw2]; exact hb1.alloc hb1.size _
  have hgw : w.heap.size ≤ w1.heap.size := hb1.size
  clear hw2 hA1 hb1
  generalize w1.heap.size = gg at hd2 hgw ⊢
  go_wp2_with fail
  refine (plain_any gg w2 hd2).mono ?_
  rintro e w3 ⟨T, v3, rfl, hPT, hT3, hd3, hg3⟩
  have z_w2 := hd2.lt
  have b_w3 : Below w.heap.size w w3 := b_w2.grown hg3 b_w2.size (fun k e => by cases e; exact hgw)
  have HPT := Lib.hid hPT
  obtain ⟨AT, cT, rfl⟩ := hT3.form
  go_upto_region 7 with fail
  obtain ⟨W3, hW3, q3, k3⟩ := one_blk w3 #[.int .i64 T.kind, .slice AT T.args.length cT] 30
  rw [← hW3]
  have XT := Lib.hid (show TyBox gg w3.heap.size T (.int .i64 T.kind) (.slice AT T.args.length cT) W3 from ⟨hT3.keep (fun b h => ⟨by omega, Nat.lt_of_lt_of_le h.2 q3.size⟩) (fun p hp => q3.cell hp.2), k3, by have := hd3.lt; omega⟩)
  have hd3' : Deck W3 gg := hd3.grown (only_of_below q3 none) (by simp)
  have BW := Lib.hid (b_w3.trans (q3.mono b_w3.size))
  have HG := Lib.hid (And.intro hgw hd3'.lt)
  obtain ⟨p0, p1, _⟩ := XT.out.blk.facts2
  clear hW3 q3 k3 hT3 hPT hd2 hd3 hg3 b_w2 b_w3 z_w2 hgw
  go_wp2_with fail
  refine (mkValue_any T HPT.out gg _ W3 hd3' XT.out.is).mono ?_
  rintro e w4 ⟨V, v4, rfl, hMV, hV4, hd4, hg4⟩
  obtain ⟨B, d, A4, c4, rfl⟩ := hV4.form
  go_upto_region 8 with fail
  obtain ⟨W4, hW4, q4, k4⟩ := one_blk w4 #[.int .i64 V.kind, .int .i64 V.num, .slice B V.list.length d, .slice A4 V.args.length c4] 45
  rw [← hW4]
  have HMV := Lib.hid hMV
  have HF := Lib.hid (back_facts hMV)
  have XV := Lib.hid (show VaBox gg w4.heap.size V (.int .i64 V.kind) (.int .i64 V.num) (.slice B V.list.length d) (.slice A4 V.args.length c4) W4 from ⟨hV4.keep (fun b h => ⟨by have := h.1; have := HG.out.2; omega, Nat.lt_of_lt_of_le h.2 q4.size⟩) (fun p hp => q4.cell hp.2), k4, by have := hd4.lt; omega⟩)
  have XT4 := Lib.hid ((XT.out.grown hg4).later q4)
  have BW4 := Lib.hid (have h := BW.out.grown hg4 BW.out.size (fun k e => by cases e; exact HG.out.1); h.trans (q4.mono h.size))
  have HG4 := Lib.hid (show gg < W4.heap.size from Nat.lt_of_lt_of_le hd4.lt q4.size)
  obtain ⟨p0, p1, p2, p3, _⟩ := XV.out.blk.facts4
  clear hW4 q4 k4 hV4 hMV hd3' hd4 hg4
  go_wp2_with fail
  refine (valueTerm_made HMV.out _ W4 XV.out.low).mono ?_
  rintro e w5 ⟨v5, rfl, ht5, hb5⟩
  obtain ⟨B5, d5, A5, c5, rfl, _⟩ := ht5.form
  go_upto_region 9 with fail
  obtain ⟨W5, hW5, q5, k5⟩ := one_blk w5 #[.int .i64 V.term.kind, .int .i64 V.term.index, .int .i64 V.term.type.kind, .slice B5 V.term.type.args.length d5, .slice A5 V.term.args.length c5] 34
  rw [← hW5]
  have b5 := hb5.trans (q5.mono hb5.size)
  have XM := Lib.hid (show TmBox gg w5.heap.size V.term _ _ _ _ _ W5 from ⟨ht5.keep (fun b h => ⟨by have := h.1; have := HG4.out; omega, Nat.lt_of_lt_of_le h.2 q5.size⟩) (fun p hp => q5.cell hp.2), k5, by have := HG4.out; have := hb5.size; omega⟩)
  have XT5 := Lib.hid (XT4.out.later b5)
  have XV5 := Lib.hid (XV.out.later b5)
  have BW5 := Lib.hid (BW4.out.trans (b5.mono BW4.out.size))
  have HG5 := Lib.hid (Nat.lt_of_lt_of_le HG4.out b5.size)
  obtain ⟨r0, r1, r2, r3, r4, _⟩ := XM.out.blk.facts5
  clear hW5 q5 k5 ht5 hb5 b5 p0 p1 p2 p3
  go_wp2_with fail
  refine (valueRead_made HMV.out _ W5 (HTab.out.after BW5.out) XM.out.low).mono ?_
  rintro e w6 ⟨v6, rfl, ht6, hb6⟩
  obtain ⟨B6, d6, A6, c6, rfl⟩ := ht6.form
  go_upto_region 10 with fail
  obtain ⟨W6, hW6, q6, k6⟩ := one_blk w6 #[.int .i64 V.kind, .int .i64 V.num, .slice B6 V.list.length d6, .slice A6 V.args.length c6] 45
  rw [← hW6]
  have b6 := hb6.trans (q6.mono hb6.size)
  have XR := Lib.hid (show VaBox gg w6.heap.size V (.int .i64 V.kind) (.int .i64 V.num) (.slice B6 V.list.length d6) (.slice A6 V.args.length c6) W6 from ⟨ht6.keep (fun b h => ⟨by have := h.1; have := HG5.out; omega, Nat.lt_of_lt_of_le h.2 q6.size⟩) (fun p hp => q6.cell hp.2), k6, by have := HG5.out; have := hb6.size; omega⟩)
  have XT6 := Lib.hid (XT5.out.later b6)
  have XV6 := Lib.hid (XV5.out.later b6)
  have XM6 := Lib.hid (XM.out.later b6)
  have BW6 := Lib.hid (BW5.out.trans (b6.mono BW5.out.size))
  have HG6 := Lib.hid (Nat.lt_of_lt_of_le HG5.out b6.size)
  obtain ⟨p0, p1, p2, p3, _⟩ := XV6.out.blk.facts4
  clear hW6 q6 k6 ht6 hb6 b6 r0 r1 r2 r3 r4
  go_wp2_with fail
  refine (valueType_made HMV.out _ W6 XV6.out.low).mono ?_
  rintro e w7 ⟨v7, rfl, ht7, hb7⟩
  obtain ⟨A7, c7, rfl⟩ := ht7.form
  go_upto_region 11 with fail
  obtain ⟨W7, hW7, q7, k7⟩ := one_blk w7 #[.int .i64 T.kind, .slice A7 T.args.length c7] 30
  rw [← hW7]
  have b7 := hb7.trans (q7.mono hb7.size)
  have XU := Lib.hid (show TyBox gg w7.heap.size T (.int .i64 T.kind) (.slice A7 T.args.length c7) W7 from ⟨ht7.keep (fun b h => ⟨by have := h.1; have := HG6.out; omega, Nat.lt_of_lt_of_le h.2 q7.size⟩) (fun p hp => q7.cell hp.2), k7, by have := HG6.out; have := hb7.size; omega⟩)
  have XT7 := Lib.hid (XT6.out.later b7)
  have XV7 := Lib.hid (XV6.out.later b7)
  have XM7 := Lib.hid (XM6.out.later b7)
  have XR7 := Lib.hid (XR.out.later b7)
  have BW7 := Lib.hid (BW6.out.trans (b7.mono BW6.out.size))
  have HG7 := Lib.hid (Nat.lt_of_lt_of_le HG6.out b7.size)
  obtain ⟨r0, r1, r2, r3, r4, _⟩ := XM7.out.blk.facts5
  clear hW7 q7 k7 ht7 hb7 b7 p0 p1 p2 p3
  go_wp2_with fail
  refine (refTypeOf_any V.term [] (.slice none 0 0) _ T W7 HF.out.1 HF.out.2.1 (fun _ h => by cases h) (by simp) (by have := HF.out.2.2.2.2.2.2.1; omega) HF.out.2.2.2.1 (Rep.Sl.nil _ _) (.inl rfl) XM7.out.low).mono ?_
  rintro e w8 ⟨hb8, v8, rfl, ht8⟩
  obtain ⟨A8, c8, rfl⟩ := ht8.form
  go_upto_region 12 with fail
  obtain ⟨W8, hW8, q8, k8⟩ := one_blk w8 #[.int .i64 T.kind, .slice A8 T.args.length c8] 30
  rw [← hW8]
  have b8 := hb8.trans (q8.mono hb8.size)
  have XO := Lib.hid (show TyBox gg w8.heap.size T (.int .i64 T.kind) (.slice A8 T.args.length c8) W8 from ⟨ht8.keep (fun b h => ⟨by have h1 := h.1; have := HG7.out; rcases h1 with h1 | h1; exact h1.elim; omega, Nat.lt_of_lt_of_le h.2 q8.size⟩) (fun p hp => q8.cell hp.2), k8, by have := HG7.out; have := hb8.size; omega⟩)
  have XT8 := Lib.hid (XT7.out.later b8)
  have XV8 := Lib.hid (XV7.out.later b8)
  have XM8 := Lib.hid (XM7.out.later b8)
  have XR8 := Lib.hid (XR7.out.later b8)
  have XU8 := Lib.hid (XU.out.later b8)
  have BW8 := Lib.hid (BW7.out.trans (b8.mono BW7.out.size))
  obtain ⟨r0, r1, r2, r3, r4, _⟩ := XM8.out.blk.facts5
  clear hW8 q8 k8 ht8 hb8 b8
  go_wp2_with fail
  refine (ref4Normal_any V.term _ W8 (by have := HF.out.2.2.2.2.2.2.1; omega) HF.out.1 HF.out.2.1 HF.out.2.2.2.2.2.1 HF.out.2.2.2.2.1 XM8.out.low).mono ?_
  rintro e w9 ⟨v9, rfl, ht9, hb9⟩
  obtain ⟨B9, d9, A9, c9, rfl, _⟩ := IsTm.form ht9
  go_upto_region 13 with fail
  obtain ⟨W9, hW9, q9, k9⟩ := one_blk w9 #[.int .i64 V.term.kind, .int .i64 V.term.index, .int .i64 V.term.type.kind, .slice B9 V.term.type.args.length d9, .slice A9 V.term.args.length c9] 34
  rw [← hW9]
  have b9 := hb9.trans (q9.mono hb9.size)
  have XT9 := Lib.hid (XT8.out.later b9)
  have XV9 := Lib.hid (XV8.out.later b9)
  have XR9 := Lib.hid (XR8.out.later b9)
  have XU9 := Lib.hid (XU8.out.later b9)
  have XO9 := Lib.hid (XO.out.later b9)
  have BW9 := Lib.hid (BW8.out.trans (b9.mono BW8.out.size))
  obtain ⟨p0, p1, p2, p3, _⟩ := XV9.out.blk.facts4
  obtain ⟨s0, s1, s2, s3, _⟩ := XR9.out.blk.facts4
  clear hW9 q9 k9 ht9 hb9 b9 r0 r1 r2 r3 r4
  go_wp2_with fail
  refine (sameV_refl 400000 V _ _ W9 (by have := HF.out.2.2.2.2.2.2.2.2; omega) (Nat.le_refl _) XV9.out.low XR9.out.low).mono ?_
  rintro e wa ⟨rfl, hba⟩
  have XTa := Lib.hid (XT9.out.later hba)
  have XUa := Lib.hid (XU9.out.later hba)
  have XOa := Lib.hid (XO9.out.later hba)
  have BWa := Lib.hid (BW9.out.trans (hba.mono BW9.out.size))
  obtain ⟨t0, t1, _⟩ := XTa.out.blk.facts2
  obtain ⟨u0, u1, _⟩ := XUa.out.blk.facts2
  clear hba p0 p1 p2 p3 s0 s1 s2 s3
  go_wp2_with fail
  refine (refSame_any 400000 T T _ _ wa (by have := HF.out.2.2.2.2.2.2.2.1; omega) (Nat.le_refl _) XUa.out.low XTa.out.low (by have := HF.out.2.2.2.2.2.2.2.1; omega)).mono ?_
  rintro e wb ⟨rfl, hbb⟩
  rw [eqb_self]
  have XTb := Lib.hid (XTa.out.later hbb)
  have XOb := Lib.hid (XOa.out.later hbb)
  have BWb := Lib.hid (BWa.out.trans (hbb.mono BWa.out.size))
  obtain ⟨y0, y1, _⟩ := XTb.out.blk.facts2
  obtain ⟨x0, x1, _⟩ := XOb.out.blk.facts2
  clear hbb t0 t1 u0 u1
  go_wp2_with fail
  refine (refSame_any 400000 T T _ _ wb (by have := HF.out.2.2.2.2.2.2.2.1; omega) (Nat.le_refl _) XOb.out.low XTb.out.low (by have := HF.out.2.2.2.2.2.2.2.1; omega)).mono ?_
  rintro e wc ⟨rfl, hbc⟩
  rw [eqb_self]
  go_wp2_with fail
  go_ret
  exact ⟨rfl, BWb.out.trans (hbc.mono BWb.out.size)⟩
end Go.Proofs.YtifijgihcincfaaDoor
