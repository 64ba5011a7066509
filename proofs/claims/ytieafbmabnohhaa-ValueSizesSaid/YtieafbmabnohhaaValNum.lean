/- value.node and value.number. -/
import Derived.Test.YtieafbmabnohhaaValMath
namespace Go.Proofs.Ytieafbmabnohhaa
open Go.RowKit

def NodeV (k : Int) (s : Value) (w : World) (e : Ending) (w' : World) : Prop := e = .returned (.agg #[.int .i64 k, .int .i64 0, .int .i64 0, .slice none 0 0, s]) ∧ Below w.heap.size w w'
theorem node_any (k : Int) (A : Option Addr) (n c : Nat) (w : World) :
    Calls Try.prog 30 #[.int .i64 k, .slice A n c] w (NodeV k (.slice A n c) w) := by
  go_enter Try.func30, Try.ntmps30
  go_wp2_with fail
  have hb := (Below.refl w.heap.size w).alloc (Nat.le_refl _) (Obj.cells #[.int .i64 k, .int .i64 0, .int .i64 0, .slice none 0 0, .slice A n c] 37)
  refine bodyPost_ret (v := .agg #[.int .i64 k, .int .i64 0, .int .i64 0, .slice none 0 0, .slice A n c]) (by simp [results, Try.results30, go_sem]) rfl ⟨rfl, ?_⟩
  exact hb

/-- The term of m stands in block q. -/
def NumRelV (w : World) (q m : Nat) (wr : World) : Prop :=
  ∃ A c, Blk wr q 37 #[.int .i64 (numTm m).kind, .int .i64 0, .int .i64 0, .slice none 0 0, .slice A (numTm m).args.length c] ∧
    IsTm (fun b => (w.heap.size ≤ b ∧ b ≠ w.heap.size ∧ b ≠ q) ∧ b < wr.heap.size) wr (numTm m) (.agg #[.int .i64 (numTm m).kind, .int .i64 0, .int .i64 0, .slice none 0 0, .slice A (numTm m).args.length c]) ∧
    Blk wr w.heap.size 37 #[.int .i64 0, .int .i64 0, .int .i64 0, .slice none 0 0, .slice none 0 0] ∧ Below w.heap.size w wr

theorem numV_step {w wr w2 : World} {q m : Nat} {g0 g1 g2 g3 g4 : Value} (hq : w.heap.size < q) (hb : Blk wr q 37 #[g0, g1, g2, g3, g4])
    (ht : IsTm (fun b => (w.heap.size ≤ b ∧ b ≠ w.heap.size ∧ b ≠ q) ∧ b < wr.heap.size) wr (numTm m) (.agg #[g0, g1, g2, g3, g4]))
    (k1 : Blk wr w.heap.size 37 #[.int .i64 0, .int .i64 0, .int .i64 0, .slice none 0 0, .slice none 0 0]) (hbel : Below w.heap.size w wr)
    (hb2 : Below (wr.alloc (.cells #[g0, g1, g2, g3, g4] 37)).heap.size (wr.alloc (.cells #[g0, g1, g2, g3, g4] 37)) w2) :
    NumRelV w q (m + 1) (((((w2.setCell ⟨q, 0, none⟩ (.int .i64 5)).setCell ⟨q, 1, none⟩ (.int .i64 0)).setCell ⟨q, 2, none⟩ (.int .i64 0)).setCell ⟨q, 3, none⟩ (.slice none 0 0)).setCell ⟨q, 4, none⟩ (.slice (some ⟨wr.heap.size, 0, none⟩) 1 1)) := by
  have hz := hbel.size
  have hz1 := hb.lt
  have g1' : wr.grownBy (wr.alloc (.cells #[g0, g1, g2, g3, g4] 37)) none := World.grownBy_alloc _ _ _
  have hsl := Rep.Sl.built (R := TmR) (Rep.Ch.one (R := TmR) (vs := [g0, g1, g2, g3, g4]) ht) (fun b hb => hb.2) (fun b => (w.heap.size ≤ b ∧ b ≠ w.heap.size ∧ b ≠ q) ∧ b < wr.heap.size + 1) (fun b hb => ⟨hb.1, by have := hb.2; omega⟩) (by omega)
  have s1 := World.size_alloc wr (.cells #[g0, g1, g2, g3, g4] 37)
  have hsl : TmR.Sl (fun b => (w.heap.size ≤ b ∧ b ≠ w.heap.size ∧ b ≠ q) ∧ b < wr.heap.size + 1) (wr.alloc (.cells #[g0, g1, g2, g3, g4] 37)) [numTm m] (.slice (some ⟨wr.heap.size, 0, none⟩) 1 1) := hsl
  generalize wr.alloc (.cells #[g0, g1, g2, g3, g4] 37) = W1 at s1 g1' hsl hb2 ⊢
  have g2' : wr.grownBy w2 none := only_trans g1' (only_of_below hb2 none)
  have s2 := hb2.size
  have hg := only_set5 w2 q (.int .i64 5) (.int .i64 0) (.int .i64 0) (.slice none 0 0) (.slice (some ⟨wr.heap.size, 0, none⟩) 1 1)
  have kx := (hb.grown g2' (by simp)).set5 (.int .i64 5) (.int .i64 0) (.int .i64 0) (.slice none 0 0) (.slice (some ⟨wr.heap.size, 0, none⟩) 1 1)
  have hs := hg.size
  refine ⟨some ⟨wr.heap.size, 0, none⟩, 1, kx, isTm_iff.2 ⟨rfl, rfl, IsTy.leaf _ _ _, ?_⟩, (k1.grown g2' (by simp)).grown hg (by simp; omega), (hbel.grown g2' hz (by simp)).grown hg (by omega) (fun k e => by cases e; omega)⟩
  exact hsl.keep (fun b hb => ⟨hb.1, by have := hb.2; omega⟩) (fun p hp => (World.cell?_of_block (hg.block p.block (by have := hp.2; omega) (by have := hp.1.2.2; simp; omega))).trans (hb2.cell (by have := hp.2; omega)))

set_option maxRecDepth 100000 in
set_option maxHeartbeats 1000000 in
theorem numberV_any (n : Nat) (w : World) (hn : n ≤ 4096) :
    Calls Try.prog 28 #[.int .i64 n] w (FreshT w (numTm n)) := by
  go_enter Try.func28, Try.ntmps28
  go_wp2_with fail
  have hk0 := Blk.new w 37 #[.int .i64 0, .int .i64 0, .int .i64 0, .slice none 0 0, .slice none 0 0]
  refine (node_any 4 none 0 0 _).mono ?_
  rintro e w1 ⟨rfl, hb1⟩
  have hz1 := hb1.size
  rw [World.size_alloc] at hz1
  have START : NumRelV w w1.heap.size 0 (w1.alloc (Obj.cells #[.int .i64 4, .int .i64 0, .int .i64 0, .slice none 0 0, .slice none 0 0] 37)) := by
    have hbw : Below w.heap.size w w1 := ((Below.refl _ _).alloc (Nat.le_refl _) _).trans (hb1.mono (by simp))
    exact ⟨none, 0, Blk.new _ _ _, isTm_iff.2 ⟨rfl, rfl, IsTy.leaf _ _ _, Rep.Sl.nil _ _⟩, ((hk0.below hb1 (by simp)).alloc _), hbw.alloc hbw.size _⟩
  have HS := Lib.hid START
  clear START hb1 hk0
  go_wp2_with fail
  go_loopw [6] (fun kx wq => ∃ k : Nat, k ≤ n ∧ kx = .int .i64 k ∧ NumRelV w w1.heap.size k wq) (fun kx _ => n - (intOf kx).toNat)
  case atStart => exact ⟨0, Nat.zero_le _, rfl, HS.out⟩
  case round =>
    obtain ⟨k, hk, rfl, A2, c2, kx, hx, ky, hBq⟩ := hrel
    have hqs := hBq.size
    have HX := Lib.hid hx
    clear hx
    by_cases h0 : k < n
    · obtain ⟨r0, r1, r2, r3, r4, _⟩ := kx.facts5
      have KX := Lib.hid kx
      have KY := Lib.hid ky
      have HQ := Lib.hid hBq
      clear ky hBq kx
      go_wp2_with fail
      refine (node_any 5 _ 1 1 _).mono ?_
      rintro e w2 ⟨rfl, hb2⟩
      have AFTER := Lib.hid (numV_step (by omega) KX.out HX.out KY.out HQ.out hb2)
      obtain ⟨_, _, _, _, _, f0, f1, f2, f3, f4⟩ := (KX.out.alloc (.cells #[.int .i64 (numTm k).kind, .int .i64 0, .int .i64 0, .slice none 0 0, .slice A2 (numTm k).args.length c2] 37)).below hb2 (by have := KX.out.lt; simp; omega) |>.facts5
      clear hb2
      go_wp2_with fail
      exact ⟨⟨k + 1, by omega, by go_num, AFTER.out⟩, by simp [intOf]; omega⟩
    · have hk0 : k = n := by omega
      subst hk0
      obtain ⟨r0, r1, r2, r3, r4, _, _, _, _, _⟩ := kx.facts5
      obtain ⟨_, _, _, _, _, f0, f1, f2, f3, f4⟩ := ky.facts5
      go_wp2_with fail
      obtain ⟨z0, z1, z2, z3, z4⟩ := (ky.set5 (.int .i64 (numTm k).kind) (.int .i64 0) (.int .i64 0) (.slice none 0 0) (.slice A2 (numTm k).args.length c2)).cells5
      have hg := only_set5 wr w.heap.size (.int .i64 (numTm k).kind) (.int .i64 0) (.int .i64 0) (.slice none 0 0) (.slice A2 (numTm k).args.length c2)
      refine bodyPost_ret (v := .agg #[.int .i64 (numTm k).kind, .int .i64 0, .int .i64 0, .slice none 0 0, .slice A2 (numTm k).args.length c2]) (by simp [results, Try.results28, go_sem, z0, z1, z2, z3, z4]) rfl ⟨_, rfl, ?_, hBq.grown hg hqs (fun k e => by cases e; omega)⟩
      exact IsTm.keep (fun b h => ⟨h.1.1, Nat.lt_of_lt_of_le h.2 hg.size⟩) (fun p hp => World.cell?_of_block (hg.block p.block hp.2 (by have := hp.1.2.1; simp; omega))) _ HX.out
end Go.Proofs.Ytieafbmabnohhaa
