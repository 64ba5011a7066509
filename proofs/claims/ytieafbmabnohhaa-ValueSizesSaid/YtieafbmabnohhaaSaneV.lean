/- The sanity check of the laws on values. -/
import Derived.Test.YtieafbmabnohhaaValTop
import Derived.Test.YtieafbmabnohhaaSameT
namespace Go.Proofs.Ytieafbmabnohhaa
open Go.RowKit

theorem tm_sl_one {w : World} {x : Tm} {a0 a1 a2 a3 a4 : Value} (h : IsTm (· < w.heap.size) w x (.agg #[a0, a1, a2, a3, a4])) :
    TmR.Sl (· < (w.alloc (.cells #[a0, a1, a2, a3, a4] 37)).heap.size) (w.alloc (.cells #[a0, a1, a2, a3, a4] 37)) [x] (.slice (some ⟨w.heap.size, 0, none⟩) 1 1) :=
  Rep.Sl.built (R := TmR) (Rep.Ch.one (R := TmR) (vs := [a0, a1, a2, a3, a4]) h) (fun _ h => h) _ (fun b hb => by have hb : b < w.heap.size := hb; simp; omega) (by simp)
theorem freshN {w w' : World} {T : Tm} {v : Value} (h : IsTm (fun b => w.heap.size ≤ b ∧ b < w'.heap.size) w' T v) : IsTm (· < w'.heap.size) w' T v := IsTm.keep (fun _ h => h.2) (fun _ _ => rfl) _ h
theorem num_two : numTm 2 = .mk 5 0 .zero [.mk 5 0 .zero [.mk 4 0 .zero []]] := rfl
theorem two_made : MadeV (.mk 1 []) (.mk 1 2 [] []) := .inl (.inl ⟨rfl, 2, by decide, rfl⟩)

set_option maxRecDepth 100000 in
set_option maxHeartbeats 4000000 in
theorem saneV_any (w : World) : Calls Try.prog 4 #[] w fun e w' => e = .returned (.bool true) ∧ Below w.heap.size w w' := by
  go_enter Try.func4, Try.ntmps4
  go_wp2_with fail
  refine (valueTerm_made two_made (.agg #[.int .i64 1, .int .i64 2, .slice none 0 0, .slice none 0 0]) w (isVa_iff.2 ⟨rfl, rfl, Rep.Sl.nil _ _, Rep.Sl.nil _ _⟩)).mono ?_
  rintro e w1 ⟨v, rfl, ht, hb1⟩
  rw [show (Va.mk 1 2 [] []).term = numTm 2 from rfl, num_two] at ht
  obtain ⟨B, d, A, c, rfl, _⟩ := ht.zero_parts
  obtain ⟨W, hW⟩ : ∃ W, W = w1.alloc (Obj.cells #[.int .i64 5, .int .i64 0, .int .i64 0, .slice B 0 d, .slice A 1 c] 37) := ⟨_, rfl⟩
  have k := Blk.new w1 37 #[.int .i64 5, .int .i64 0, .int .i64 0, .slice B 0 d, .slice A 1 c]
  have bW := (Below.refl w1.heap.size w1).alloc (Nat.le_refl _) (Obj.cells #[.int .i64 5, .int .i64 0, .int .i64 0, .slice B 0 d, .slice A 1 c] 37)
  rw [← hW] at k bW
  have htW := (freshN ht).boxed bW
  have HT := Lib.hid (show IsTm (· < W.heap.size) W (.mk 5 0 .zero [.mk 5 0 .zero [.mk 4 0 .zero []]]) (.agg #[.int .i64 5, .int .i64 0, .int .i64 0, .slice B 0 d, .slice A 1 c]) from htW)
  have HB := Lib.hid (hb1.trans (bW.mono hb1.size))
  have HSK := Lib.hid fun (w' : World) (h : Below W.heap.size W w') => (k.below h k.lt).cells5
  obtain ⟨p0, p1, p2, p3, p4⟩ := k.cells5
  clear ht hb1 bW k htW
  go_wp2_with fail
  rw [← hW]
  clear hW
  go_region_held3 (fun w' => w'.cell? ⟨w1.heap.size, 0, none⟩ = some (.int .i64 5) ∧ w'.cell? ⟨w1.heap.size, 1, none⟩ = some (.int .i64 0) ∧ w'.cell? ⟨w1.heap.size, 2, none⟩ = some (.int .i64 0) ∧ w'.cell? ⟨w1.heap.size, 3, none⟩ = some (.slice B 0 d) ∧ w'.cell? ⟨w1.heap.size, 4, none⟩ = some (.slice A 1 c))
    (first | with_reducible exact HSK.out _ (Below.refl _ _).drew | with_reducible exact HSK.out _ G2.out | with_reducible exact HSK.out _ G2A.out | with_reducible exact HSK.out _ G3.out | with_reducible exact HSK.out _ G3A.out | with_reducible exact HSK.out _ G4.out | with_reducible exact HSK.out _ G5.out | go_keep)
    (first
      | (go_at_call 12
         (with_reducible refine (sameT_refl 400000 _ _ _ w4 (by simp [Tm.bulk, bulkAll, Ty.zero, Ty.nodes, nodesAll]) (Nat.le_refl _) (HT.out.boxed G4.out) HT4.out).mono ?_)
         rintro e w5 ⟨rfl, hb5⟩
         have G5 := Lib.hid (G4.out.trans (hb5.mono G4.out.size))
         clear hb5)
      | (go_at_call 13
         (with_reducible refine (n_any 5 [.mk 5 0 .zero [.mk 4 0 .zero []]] _ _ (by simp [Tm.bulk, bulkAll, Ty.zero, Ty.nodes, nodesAll]) (tm_sl_one HT3.out)).mono ?_)
         rintro e w4 ⟨v4, rfl, t4, hb4⟩
         obtain ⟨B4, d4, A4, c4, rfl, _⟩ := t4.zero_parts
         have HT4 := Lib.hid (show IsTm (· < w4.heap.size) w4 (.mk 5 0 .zero [.mk 5 0 .zero [.mk 4 0 .zero []]]) (.agg #[.int .i64 5, .int .i64 0, .int .i64 0, .slice B4 0 d4, .slice A4 1 c4]) from freshN t4)
         have G4 := Lib.hid (G3A.out.trans (hb4.mono G3A.out.size))
         clear t4 hb4)
      | (go_at_call 13
         (with_reducible refine (n_any 5 [.mk 4 0 .zero []] _ _ (by simp [Tm.bulk, bulkAll, Ty.zero, Ty.nodes, nodesAll]) (tm_sl_one HT2.out)).mono ?_)
         rintro e w3 ⟨v3, rfl, t3, hb3⟩
         obtain ⟨B3, d3, A3, c3, rfl, _⟩ := t3.zero_parts
         have HT3 := Lib.hid (show IsTm (· < w3.heap.size) w3 (.mk 5 0 .zero [.mk 4 0 .zero []]) (.agg #[.int .i64 5, .int .i64 0, .int .i64 0, .slice B3 0 d3, .slice A3 1 c3]) from freshN t3)
         have G3 := Lib.hid (G2A.out.trans (hb3.mono G2A.out.size))
         have G3A := Lib.hid (G3.out.alloc G3.out.size (Obj.cells #[.int .i64 5, .int .i64 0, .int .i64 0, .slice B3 0 d3, .slice A3 1 c3] 37))
         clear t3 hb3)
      | (go_at_call 13
         (with_reducible refine (n_any 4 [] (.slice none 0 0) W.drew (by simp [bulkAll]) (Rep.Sl.nil _ _)).mono ?_)
         rintro e w2 ⟨v2, rfl, t2, hb2⟩
         obtain ⟨B2, d2, A2, c2, rfl, _⟩ := t2.zero_parts
         have HT2 := Lib.hid (show IsTm (· < w2.heap.size) w2 (.mk 4 0 .zero []) (.agg #[.int .i64 4, .int .i64 0, .int .i64 0, .slice B2 0 d2, .slice A2 0 c2]) from freshN t2)
         have G2 := Lib.hid (show Below W.heap.size W w2 from ((Below.refl _ W).drew).trans hb2)
         have G2A := Lib.hid (G2.out.alloc G2.out.size (Obj.cells #[.int .i64 4, .int .i64 0, .int .i64 0, .slice B2 0 d2, .slice A2 0 c2] 37))
         clear t2 hb2))
  go_wp2_with fail
  go_ret
  exact ⟨rfl, HB.out.trans (G5.out.mono HB.out.size)⟩
end Go.Proofs.Ytieafbmabnohhaa
