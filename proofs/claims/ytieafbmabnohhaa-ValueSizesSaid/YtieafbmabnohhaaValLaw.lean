/- The walk of the law on the sizes of values. -/
import Derived.Test.YtieafbmabnohhaaMkPair
import Derived.Test.YtieafbmabnohhaaSaneV
import Derived.Test.YtieafbmabnohhaaCountT
import Derived.Test.YtieafbmabnohhaaSizeOf
namespace Go.Proofs.Ytieafbmabnohhaa
open Go.RowKit

theorem numTm_bulk_le (n : Nat) (h : n ≤ 4) : (numTm n).bulk ≤ 10 := by rw [numTm_bulk]; omega
theorem listTm_bulk : ∀ m : List Int, (∀ x ∈ m, 0 ≤ x ∧ x ≤ 3) → (listTm m).bulk ≤ 2 + 10 * m.length
  | [], _ => by simp [listTm, Tm.bulk, bulkAll, Ty.zero, Ty.nodes, nodesAll]
  | x :: r, h => by
    have h0 := h x (by simp)
    have h1 := listTm_bulk r (fun y hy => h y (by simp [hy]))
    have h2 := numTm_bulk x.toNat
    simp only [listTm, Tm.bulk, bulkAll, Ty.zero, Ty.nodes, nodesAll, List.length_cons]
    omega
theorem leafV_bulk {T : Ty} {V : Va} (h : leafV T V) : V.term.bulk ≤ 40 := by
  rcases h with ⟨_, n, hn, rfl⟩ | ⟨_, m, hl, hm, rfl⟩ | ⟨_, rfl⟩
  · rw [show (Va.mk 1 n [] []).term = numTm n from by simp [Va.term]]
    have := numTm_bulk_le n hn; omega
  · rw [show (Va.mk 2 0 m []).term = listTm m from by simp [Va.term]]
    have := listTm_bulk m hm; omega
  · rw [show (Va.mk 4 0 [] []).term = .mk 13 0 .zero [] from by simp [Va.term]]
    simp [Tm.bulk, bulkAll, Ty.zero, Ty.nodes, nodesAll]
theorem madeV_bulk {T : Ty} {V : Va} (h : MadeV T V) : V.term.bulk ≤ 100 := by
  rcases h with h | ⟨A, B, a, b, _, ha, hb, rfl⟩
  · have := leafV_bulk h; omega
  · have h1 := leafV_bulk ha
    have h2 := leafV_bulk hb
    rw [show (Va.mk 3 0 [] [a, b]).term = .mk 10 0 .zero [a.term, b.term] from by simp [Va.term, termsV]]
    simp only [Tm.bulk, bulkAll, Ty.zero, Ty.nodes, nodesAll]
    omega

set_option maxRecDepth 100000 in
set_option maxHeartbeats 4000000 in
theorem valSizesLaw_small (A : Option Addr) (len cap : Nat) (w : World) (hlen : len ≤ 500) (hA : ∀ i, i < len → ∃ a x, A = some a ∧ a.block < w.heap.size ∧ w.cell? (a.add i) = some (.int .i64 x)) :
    Calls Try.prog 3 #[.slice A len cap] w fun e w' => e = .returned (.bool true) ∧ Below w.heap.size w w' := by
  have hA' := Lib.hid hA
  clear hA
  have e500 : decide ((len : Int) ≤ 500) = true := by simp; omega
  go_enter Try.func3, Try.ntmps3
  go_wp2_with fail
  refine (saneV_any w).mono ?_
  rintro e w1 ⟨rfl, hb1⟩
  go_wp2_with fail
  refine (few_any A len cap w1 (by simp only [maxLen]; omega)).mono ?_
  rintro e w1' ⟨rfl, rfl⟩
  rw [e500]
  go_wp2_with fail
  have hA1 : ∀ i, i < len → ∃ a x, A = some a ∧ a.block < w1.heap.size ∧ w1.cell? (a.add i) = some (.int .i64 x) := fun i hi => by
    obtain ⟨a, x, h1, h2, h3⟩ := hA'.out i hi
    exact ⟨a, x, h1, Nat.lt_of_lt_of_le h2 hb1.size, (hb1.cell (by rw [add_block]; exact h2)).trans h3⟩
  refine (new_any A len cap w1 hlen hA1).mono ?_
  rintro e w2 ⟨rfl, hw2⟩
  have hd2 := new_deck A len cap w1 hlen hA1
  rw [hw2] at hd2
  have b_w2 : Below w.heap.size w w2 := by rw [← hw2]; exact hb1.alloc hb1.size _
  have hgw : w.heap.size ≤ w1.heap.size := hb1.size
  clear hw2 hA1 hb1
  generalize w1.heap.size = gg at hd2 hgw ⊢
  go_wp2_with fail
  refine (plain_any gg w2 hd2).mono ?_
  rintro e w3 ⟨T, v3, rfl, hPT, hT3, hd3, hg3⟩
  have z_w2 := hd2.lt
  have b_w3 : Below w.heap.size w w3 := b_w2.grown hg3 b_w2.size (fun k e => by cases e; exact hgw)
  have HPT := Lib.hid hPT
  have hT3' : IsTy (fun b => b ≠ gg ∧ b < w3.heap.size) w3 T v3 := IsTy.keep (fun b h => ⟨by omega, h.2⟩) (fun _ _ => rfl) _ hT3
  clear hT3 hPT
  go_wp2_with fail
  refine (mkValue_any T HPT.out gg v3 w3 hd3 hT3').mono ?_
  rintro e w4 ⟨V, v4, rfl, hMV, hV4, hd4, hg4⟩
  have b_w4 : Below w.heap.size w w4 := b_w3.grown hg4 b_w3.size (fun k e => by cases e; exact hgw)
  obtain ⟨B, d, A4, c4, rfl⟩ := hV4.form
  have HMV := Lib.hid hMV
  have hVw : IsVa (· < w4.heap.size) w4 V (.agg #[.int .i64 V.kind, .int .i64 V.num, .slice B V.list.length d, .slice A4 V.args.length c4]) := IsVa.keep (fun _ h => h.2) (fun _ _ => rfl) _ hV4
  clear hd2 hd3 hd4 hg3 hg4 hT3' hV4 hMV b_w2 b_w3
  go_upto_region 7 with fail
  obtain ⟨W, hW⟩ : ∃ W, W = w4.alloc (Obj.cells #[.int .i64 V.kind, .int .i64 V.num, .slice B V.list.length d, .slice A4 V.args.length c4] 29) := ⟨_, rfl⟩
  have k4 := Blk.new w4 29 #[.int .i64 V.kind, .int .i64 V.num, .slice B V.list.length d, .slice A4 V.args.length c4]
  have bW := (Below.refl w4.heap.size w4).alloc (Nat.le_refl _) (Obj.cells #[.int .i64 V.kind, .int .i64 V.num, .slice B V.list.length d, .slice A4 V.args.length c4] 29)
  rw [← hW] at k4 bW ⊢
  have HV := Lib.hid fun (w' : World) (h : Below W.heap.size W w') => And.intro (show IsVa (· < w'.heap.size) w' V _ from IsVa.keep (fun b hb => by have h1 := h.size; have h2 := bW.size; have h3 : b < w4.heap.size := hb; omega) (fun p hp => (h.cell (by have h2 := bW.size; have h3 : p.block < w4.heap.size := hp; omega)).trans (bW.cell hp)) _ hVw) (k4.below h k4.lt).facts4
  have HBW := Lib.hid (b_w4.trans (bW.mono b_w4.size))
  obtain ⟨p0, p1, p2, p3, _⟩ := k4.facts4
  clear hW k4 bW hVw b_w4
  go_wp2_with fail
  refine (valueTerm_made HMV.out _ W (HV.out W (Below.refl _ _)).1).mono ?_
  rintro e w5 ⟨v5, rfl, ht5, hb5⟩
  obtain ⟨B5, d5, A5, c5, rfl, _⟩ := ht5.form
  go_upto_region 8 with fail
  obtain ⟨X, hX⟩ : ∃ X, X = w5.alloc (Obj.cells #[.int .i64 V.term.kind, .int .i64 V.term.index, .int .i64 V.term.type.kind, .slice B5 V.term.type.args.length d5, .slice A5 V.term.args.length c5] 37) := ⟨_, rfl⟩
  have k5 := Blk.new w5 37 #[.int .i64 V.term.kind, .int .i64 V.term.index, .int .i64 V.term.type.kind, .slice B5 V.term.type.args.length d5, .slice A5 V.term.args.length c5]
  have bX := (Below.refl w5.heap.size w5).alloc (Nat.le_refl _) (Obj.cells #[.int .i64 V.term.kind, .int .i64 V.term.index, .int .i64 V.term.type.kind, .slice B5 V.term.type.args.length d5, .slice A5 V.term.args.length c5] 37)
  rw [← hX] at k5 bX ⊢
  have bWX := hb5.trans (bX.mono hb5.size)
  have HSK := Lib.hid fun (w' : World) (h : Below X.heap.size X w') => And.intro (k5.below h k5.lt).cells5.1 (And.intro (k5.below h k5.lt).cells5.2.1 (And.intro (k5.below h k5.lt).cells5.2.2.1 (And.intro (k5.below h k5.lt).cells5.2.2.2.1 (And.intro (k5.below h k5.lt).cells5.2.2.2.2
    (And.intro (HV.out w' (bWX.trans (h.mono bWX.size))).2.1 (And.intro (HV.out w' (bWX.trans (h.mono bWX.size))).2.2.1 (And.intro (HV.out w' (bWX.trans (h.mono bWX.size))).2.2.2.1 (HV.out w' (bWX.trans (h.mono bWX.size))).2.2.2.2.1)))))))
  have HTX := Lib.hid ((freshN ht5).boxed bX)
  have HVX := Lib.hid (HV.out X bWX).1
  have HBX := Lib.hid (HBW.out.trans (bWX.mono HBW.out.size))
  have HSZ := Lib.hid (madeV_small HMV.out).size
  have hw0 := (madeV_small HMV.out).pos
  have hw1 := (madeV_small HMV.out).weight
  have HBK := Lib.hid (madeV_bulk HMV.out)
  obtain ⟨q0, q1, q2, q3, q4, q5, q6, q7, q8⟩ := HSK.out X (Below.refl _ _)
  clear hX k5 bX ht5 hb5 bWX p0 p1 p2 p3
  obtain ⟨z, hz⟩ : ∃ z, V.weight = z := ⟨_, rfl⟩
  rw [hz] at hw0 hw1
  have HZ := Lib.hid hz
  clear hz
  go_wp2_with fail
  go_region_held3 (fun w' => w'.cell? ⟨w5.heap.size, 0, none⟩ = some (.int .i64 V.term.kind) ∧ w'.cell? ⟨w5.heap.size, 1, none⟩ = some (.int .i64 V.term.index) ∧ w'.cell? ⟨w5.heap.size, 2, none⟩ = some (.int .i64 V.term.type.kind) ∧ w'.cell? ⟨w5.heap.size, 3, none⟩ = some (.slice B5 V.term.type.args.length d5) ∧ w'.cell? ⟨w5.heap.size, 4, none⟩ = some (.slice A5 V.term.args.length c5) ∧
      w'.cell? ⟨w4.heap.size, 0, none⟩ = some (.int .i64 V.kind) ∧ w'.cell? ⟨w4.heap.size, 1, none⟩ = some (.int .i64 V.num) ∧ w'.cell? ⟨w4.heap.size, 2, none⟩ = some (.slice B V.list.length d) ∧ w'.cell? ⟨w4.heap.size, 3, none⟩ = some (.slice A4 V.args.length c4))
    (first | with_reducible exact HSK.out _ (Below.refl _ _).drew | with_reducible exact HSK.out _ G1.out | with_reducible exact HSK.out _ G2.out | go_keep)
    (first
      | (go_at_call 11
         (with_reducible refine (sizeOf_made HMV.out _ w6 (HVX.out.keep (fun b h => Nat.lt_of_lt_of_le h G1.out.size) (fun p hp => G1.out.cell hp))).mono ?_)
         rintro e w7 ⟨rfl, hb7⟩
         rw [HZ.out]
         have G2 := Lib.hid (G1.out.trans (hb7.mono G1.out.size))
         clear hb7)
      | (go_at_call 10
         (with_reducible refine (countT_any 400000 V.term _ X.drew (by have := HBK.out; omega) (Nat.le_refl _) (HTX.out.boxed ((Below.refl X.heap.size X).drew))).mono ?_)
         rintro e w6 ⟨rfl, hb6⟩
         rw [HSZ.out, HZ.out]
         have G1 := Lib.hid (show Below X.heap.size X w6 from ((Below.refl _ X).drew).trans hb6)
         clear hb6))
  go_wp2_with fail
  go_ret
  exact ⟨rfl, HBX.out.trans (G2.out.mono HBX.out.size)⟩

theorem valSizesLaw_long (A : Option Addr) (len cap : Nat) (w : World) (hlen : 500 < len) (hmax : len ≤ maxLen) :
    Calls Try.prog 3 #[.slice A len cap] w fun e w' => e = .returned (.bool true) ∧ Below w.heap.size w w' := by
  have e500 : decide ((len : Int) ≤ 500) = false := by simp; omega
  go_enter Try.func3, Try.ntmps3
  go_wp2_with fail
  refine (saneV_any w).mono ?_
  rintro e w1 ⟨rfl, hb1⟩
  go_wp2_with fail
  refine (few_any A len cap w1 hmax).mono ?_
  rintro e w1' ⟨rfl, rfl⟩
  rw [e500]
  go_wp2_with fail
  go_ret
  exact ⟨rfl, hb1⟩
end Go.Proofs.Ytieafbmabnohhaa
