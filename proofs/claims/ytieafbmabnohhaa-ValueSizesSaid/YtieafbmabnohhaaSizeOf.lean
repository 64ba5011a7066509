/- The law's own count of a made value. -/
import Derived.Test.YtieafbmabnohhaaValSize
import Derived.Test.YtieafbmabnohhaaValPair
import Derived.Deep.RegionHeld3
namespace Go.Proofs.Ytieafbmabnohhaa
open Go.RowKit

theorem intsN_small (m : List Int) (hm : ∀ x ∈ m, 0 ≤ x ∧ x ≤ 3) (j : Nat) (h : j < m.length) : intsN (m.take (j + 1)) = intsN (m.take j) + (m[j] + 2) := by
  rw [intsN_take m j h]
  have := hm _ (List.getElem_mem h)
  omega

set_option maxRecDepth 100000 in
set_option maxHeartbeats 1000000 in
theorem sizeOf_leaf {T : Ty} {V : Va} (h : leafV T V) (v : Value) (w : World) (hv : IsVa (· < w.heap.size) w V v) :
    Calls Try.prog 11 #[v] w fun e w' => e = .returned (.int .i64 V.weight) ∧ Below w.heap.size w w' := by
  obtain ⟨B, d, A, c, rfl, hs, _⟩ := hv.parts
  rcases h with ⟨_, n, hn, rfl⟩ | ⟨_, m, hl, hm, rfl⟩ | ⟨_, rfl⟩
  · have e : (Va.mk 1 n [] []).weight = 1 + (n : Int) := by simp only [Va.weight, intsN, weightAll]; omega
    rw [e]
    simp only [Va.kind, Va.num, Va.list, Va.args, List.length_nil]
    clear hs hv e
    go_enter Try.func11, Try.ntmps11
    go_wp2_with fail
    go_ret
    exact ⟨rfl, (Below.refl _ _).alloc (Nat.le_refl _) _⟩
  · have e : (Va.mk 2 0 m []).weight = 1 + intsN m := by simp only [Va.weight, weightAll]; omega
    rw [e]
    simp only [Va.kind, Va.num, Va.list, Va.args, List.length_nil] at hs ⊢
    have HS := Lib.hid hs
    have HM := Lib.hid hm
    clear hs hv e hm
    have b1 := (Below.refl w.heap.size w).alloc (Nat.le_refl _) (Obj.cells #[.int .i64 2, .int .i64 0, .slice B m.length d, .slice A 0 c] 29)
    go_enter Try.func11, Try.ntmps11
    go_wp2_with fail
    generalize w.alloc (Obj.cells #[.int .i64 2, .int .i64 0, .slice B m.length d, .slice A 0 c] 29) = W at b1 ⊢
    go_loop [3, 19] (fun cnt i => ∃ j : Nat, j ≤ m.length ∧ i = .int .i64 j ∧ cnt = .int .i64 (1 + intsN (m.take j))) (fun _ i => m.length - (intOf i).toNat)
    case atStart => exact ⟨0, Nat.zero_le _, rfl, by simp [intsN]⟩
    case round =>
      obtain ⟨j, hj, rfl, rfl⟩ := hrel
      have hij := intsN_bound (m.take j) (fun x hx => HM.out x (List.mem_of_mem_take hx))
      have htl : (m.take j).length ≤ 3 := by simp; omega
      by_cases hlt : j < m.length
      · have hsl : ZR.Sl (· < w.heap.size) W m (.slice B m.length d) := HS.out.keep (fun _ h => h) (fun p hp => b1.cell hp)
        obtain ⟨a, rfl, ha, hat⟩ := hsl.get j hlt
        have q0 := at_z hat
        simp only [show ZR.n = 1 from rfl, Nat.mul_one] at q0
        have hx := HM.out _ (List.getElem_mem hlt)
        have HST := Lib.hid (intsN_small m HM.out j hlt)
        obtain ⟨x, hxx⟩ : ∃ x, m[j] = x := ⟨_, rfl⟩
        rw [hxx] at q0 hx HST
        obtain ⟨I, hI⟩ : ∃ I, intsN (m.take j) = I := ⟨_, rfl⟩
        rw [hI] at hij HST ⊢
        have hi2 : I ≤ 15 := by omega
        have hi1 := hij.1
        clear hsl ha hat hxx hI htl hij
        go_wp2_with fail
        go_round
        case rel => exact ⟨j + 1, by omega, by go_num, by rw [HST.out]; congr 1; omega⟩
        case measure => simp [intOf]; omega
      · have hjm : j = m.length := by omega
        subst hjm
        rw [List.take_length] at hij ⊢
        clear hij htl
        go_wp2_with fail
        go_ret
        exact ⟨rfl, b1⟩
  · have e : (Va.mk 4 0 [] []).weight = 1 := by simp only [Va.weight, intsN, weightAll]; omega
    rw [e]
    simp only [Va.kind, Va.num, Va.list, Va.args, List.length_nil]
    clear hs hv e
    go_enter Try.func11, Try.ntmps11
    go_wp2_with fail
    go_ret
    exact ⟨rfl, (Below.refl _ _).alloc (Nat.le_refl _) _⟩

set_option maxHeartbeats 4000000 in
theorem sizeOf_pair {TA TB : Ty} {a b : Va} (h1 : leafV TA a) (h2 : leafV TB b) (v : Value) (w : World) (hv : IsVa (· < w.heap.size) w (.mk 3 0 [] [a, b]) v) :
    Calls Try.prog 11 #[v] w fun e w' => e = .returned (.int .i64 (Va.mk 3 0 [] [a, b]).weight) ∧ Below w.heap.size w w' := by
  obtain ⟨B, d, A, c, rfl⟩ := hv.form
  simp only [Va.kind, Va.num, Va.list, Va.args, List.length_cons, List.length_nil, Nat.reduceAdd] at hv ⊢
  have sa := leafV_small h1
  have sb := leafV_small h2
  have ea : (Va.mk 3 0 [] [a, b]).weight = 1 + (a.weight + b.weight) := by simp only [Va.weight, intsN, weightAll]; omega
  rw [ea]
  have wa := And.intro sa.pos sa.weight
  have wb := And.intro sb.pos sb.weight
  have hbW := (Below.refl w.heap.size w).alloc (Nat.le_refl _) (Obj.cells #[.int .i64 3, .int .i64 0, .slice B 0 d, .slice A 2 c] 29)
  have b0 := Blk.new w 29 #[.int .i64 3, .int .i64 0, .slice B 0 d, .slice A 2 c]
  obtain ⟨W, hW⟩ : ∃ W, W = w.alloc (Obj.cells #[.int .i64 3, .int .i64 0, .slice B 0 d, .slice A 2 c] 29) := ⟨_, rfl⟩
  rw [← hW] at hbW b0
  have hvW := IsVa.keep (S' := (· < w.heap.size)) (fun _ h => h) (fun p hp => hbW.cell hp) _ hv
  obtain ⟨q, B1, d1, A1, c1, B2, d2, A2, c2, rfl, hq, ⟨r0, r1, r2, r3⟩, ⟨s0, s1, s2, s3⟩, hx, hy⟩ := hvW.two
  have hq' : q.block < w.heap.size := hq
  have hzW := hbW.size
  have HSK := Lib.hid fun (w1 : World) (h : Below W.heap.size W w1) => And.intro ((b0.below h b0.lt).facts4.2.2.2.1)
    (And.intro ((h.cell (p := q) (by omega)).trans r0) (And.intro ((h.cell (p := ⟨q.block, q.off + 1, none⟩) (by show q.block < _; omega)).trans r1) (And.intro ((h.cell (p := ⟨q.block, q.off + 2, none⟩) (by show q.block < _; omega)).trans r2)
      (And.intro ((h.cell (p := ⟨q.block, q.off + 3, none⟩) (by show q.block < _; omega)).trans r3) (And.intro ((h.cell (p := ⟨q.block, q.off + 4, none⟩) (by show q.block < _; omega)).trans s0)
        (And.intro ((h.cell (p := ⟨q.block, q.off + 4 + 1, none⟩) (by show q.block < _; omega)).trans s1) (And.intro ((h.cell (p := ⟨q.block, q.off + 4 + 2, none⟩) (by show q.block < _; omega)).trans s2) ((h.cell (p := ⟨q.block, q.off + 4 + 3, none⟩) (by show q.block < _; omega)).trans s3))))))))
  have H1 := Lib.hid (And.intro h1 hx)
  have H2 := Lib.hid (And.intro h2 hy)
  have HB := Lib.hid hbW
  have qk := b0.facts4.1
  obtain ⟨p0, p1, p2, p3, p4, p5, p6, p7, p8⟩ := HSK.out W (Below.refl _ _)
  have ha1 : 1 ≤ a.weight := wa.1
  have ha2 : a.weight ≤ 16 := wa.2
  have hb1' : 1 ≤ b.weight := wb.1
  have hb2' : b.weight ≤ 16 := wb.2
  have hs1 : IntKind.i64.wrap (a.weight + b.weight) = a.weight + b.weight := IntWalk.i64_in _ (by omega)
  have hs2 : IntKind.i64.wrap (1 + (a.weight + b.weight)) = 1 + (a.weight + b.weight) := IntWalk.i64_in _ (by omega)
  clear b0 hvW hv hx hy h1 h2 r0 r1 r2 r3 s0 s1 s2 s3 hq wa wb ea hbW sa sb
  go_enter Try.func11, Try.ntmps11
  go_wp2_with fail
  rw [← hW]
  clear hW qk
  go_region_held3 (fun w' => w'.cell? ⟨w.heap.size, 3, none⟩ = some (.slice (some q) 2 c) ∧ w'.cell? q = some (.int .i64 a.kind) ∧ w'.cell? ⟨q.block, q.off + 1, none⟩ = some (.int .i64 a.num) ∧ w'.cell? ⟨q.block, q.off + 2, none⟩ = some (.slice B1 a.list.length d1) ∧ w'.cell? ⟨q.block, q.off + 3, none⟩ = some (.slice A1 a.args.length c1) ∧
      w'.cell? ⟨q.block, q.off + 4, none⟩ = some (.int .i64 b.kind) ∧ w'.cell? ⟨q.block, q.off + 4 + 1, none⟩ = some (.int .i64 b.num) ∧ w'.cell? ⟨q.block, q.off + 4 + 2, none⟩ = some (.slice B2 b.list.length d2) ∧ w'.cell? ⟨q.block, q.off + 4 + 3, none⟩ = some (.slice A2 b.args.length c2))
    (first | with_reducible exact HSK.out _ (Below.refl _ _).drew | with_reducible exact HSK.out _ G1.out | with_reducible exact HSK.out _ G2.out | go_keep)
    (first
      | (go_at_call 11
         (with_reducible refine (sizeOf_leaf H2.out.1 _ w1 (H2.out.2.keep (fun b h => by have := G1.out.size; have h' : b < w.heap.size := h; omega) (fun p hp => G1.out.cell (by have hp' : p.block < w.heap.size := hp; omega)))).mono ?_)
         rintro e2 w2 ⟨rfl, hb2⟩
         have G2 := Lib.hid (G1.out.trans (hb2.mono G1.out.size))
         clear hb2)
      | (go_at_call 11
         (with_reducible refine (sizeOf_leaf H1.out.1 _ W.drew (H1.out.2.keep (fun b h => by have h' : b < w.heap.size := h; have e : W.drew.heap.size = W.heap.size := rfl; show b < W.drew.heap.size; omega) (fun p hp => World.cell?_drew W p))).mono ?_)
         rintro e1 w1 ⟨rfl, hb1⟩
         have G1 := Lib.hid (show Below W.heap.size W w1 from ((Below.refl _ W).drew).trans hb1)
         clear hb1))
  go_wp2_with fail
  go_ret
  exact ⟨rfl, HB.out.trans (G2.out.mono HB.out.size)⟩

theorem sizeOf_made {T : Ty} {V : Va} (h : MadeV T V) (v : Value) (w : World) (hv : IsVa (· < w.heap.size) w V v) :
    Calls Try.prog 11 #[v] w fun e w' => e = .returned (.int .i64 V.weight) ∧ Below w.heap.size w w' := by
  rcases h with h | ⟨A, B, a, b, _, ha, hb, rfl⟩
  · exact sizeOf_leaf h v w hv
  · exact sizeOf_pair ha hb v w hv
end Go.Proofs.Ytieafbmabnohhaa
