/- ref02.Count: the nodes of a term. -/
import Derived.Test.YtifijgihcincfaaDoorSizeDef
import Derived.Test.YtifijgihcincfaaDoorMakeT
namespace Go.Proofs.YtifijgihcincfaaDoor
open Go.RowKit

theorem sizeT_take (l : List Tm) (j : Nat) (h : j < l.length) : sizeAllT (l.take (j + 1)) = sizeAllT (l.take j) + l[j].size := by
  rw [List.take_succ_eq_append_getElem h, sizeAllT_append]
  simp only [sizeAllT]
  omega
theorem sizeT_take_le (l : List Tm) (j : Nat) : sizeAllT (l.take j) ≤ sizeAllT l := by
  have := sizeAllT_append (l.take j) (l.drop j)
  rw [List.take_append_drop] at this
  omega

set_option maxRecDepth 100000 in
set_option maxHeartbeats 2000000 in
theorem countT_any (n : Nat) : ∀ (t : Tm) (v : Value) (w : World), t.bulk ≤ n → n ≤ 400000 → IsTm (· < w.heap.size) w t v →
    Calls Tryd.prog 59 #[v] w fun e w' => e = .returned (.int .i64 (t.size : Int)) ∧ Below w.heap.size w w' := by
  induction n with
  | zero => intro t; have := bulk_pos t; omega
  | succ n ih =>
    rintro ⟨k, i, T, l⟩ v w hn hb ht
    obtain ⟨B, d, A, c, rfl, _, hl⟩ := ht.mk_parts
    have hsb := sizeAll_bulk l
    have hll := bulkAll_len l
    simp only [Tm.bulk] at hn
    have HL := Lib.hid hl
    have IH := Lib.hid ih
    clear ht hl ih
    obtain ⟨b1, z1, k1⟩ := new_blk (Below.refl w.heap.size w) (Nat.le_refl _) #[.int .i64 k, .int .i64 i, .int .i64 T.kind, .slice B T.args.length d, .slice A l.length c] 34
    have HB := Lib.hid (And.intro b1 k1)
    clear b1 z1 k1
    go_enter Tryd.func59, Tryd.ntmps59
    go_wp2_with fail
    have b1 := HB.out.1
    generalize w.alloc (Obj.cells #[.int .i64 k, .int .i64 i, .int .i64 T.kind, .slice B T.args.length d, .slice A l.length c] 34) = W at b1 HB ⊢
    go_loopw [3, 9] (fun cnt ix wr => ∃ j : Nat, j ≤ l.length ∧ ix = .int .i64 j ∧ cnt = .int .i64 ((1 + sizeAllT (l.take j) : Nat) : Int) ∧ Below W.heap.size W wr) (fun _ ix _ => l.length - (intOf ix).toNat)
    case atStart => exact ⟨0, by omega, rfl, by simp [sizeAllT], Below.refl _ _⟩
    case round =>
      obtain ⟨j, hj, rfl, rfl, hbr⟩ := hrel
      have hst := sizeT_take_le l j
      by_cases hlt : j < l.length
      · have hwr : Below w.heap.size w wr := b1.trans (hbr.mono b1.size)
        have hs : TmR.Sl (· < w.heap.size) wr l (.slice A l.length c) := HL.out.keep (fun _ h => h) (fun p hp => hwr.cell hp)
        obtain ⟨a, rfl, ha, hat⟩ := hs.get j hlt
        obtain ⟨B1, d1, A1, c1, q0, q1, q2, q3, q4, hx⟩ := at_tm hat
        simp only [show TmR.n = 5 from rfl] at q0 q1 q2 q3 q4
        have hnj := bulkAll_get l j hlt
        have hxs := size_bulk l[j]
        have HST := Lib.hid (sizeT_take l j hlt)
        have HX := Lib.hid hx
        have hws := hwr.size
        have HBR := Lib.hid hbr
        clear hs hat hx hbr hwr
        obtain ⟨u, hu⟩ : ∃ u, sizeAllT (l.take j) = u := ⟨_, rfl⟩
        rw [hu] at hst HST ⊢
        clear hu
        go_wp2_with fail
        have bb := (Below.refl wr.heap.size wr).alloc (Nat.le_refl _) (Obj.cells #[.int .i64 l[j].kind, .int .i64 l[j].index, .int .i64 l[j].type.kind, .slice B1 l[j].type.args.length d1, .slice A1 l[j].args.length c1] 34)
        refine (IH.out l[j] _ _ (by omega) (by omega) (HX.out.keep (fun b hb => by have h3 : b < w.heap.size := hb; simp; omega) (fun p hp => World.cell?_alloc_lt _ _ _ (by have h3 : p.block < w.heap.size := hp; omega)))).mono ?_
        rintro e w2 ⟨rfl, hb2⟩
        have HB2 := Lib.hid (HBR.out.trans ((bb.trans (hb2.mono (by simp))).mono HBR.out.size))
        clear bb hb2
        obtain ⟨y, hy⟩ : ∃ y, l[j].size = y := ⟨_, rfl⟩
        rw [hy] at hxs HST ⊢
        clear hy
        go_wp2_with fail
        exact ⟨⟨j + 1, by omega, by go_num, by rw [HST.out]; congr 1; omega, HB2.out⟩, by simp [intOf]; omega⟩
      · have hjl : j = l.length := by omega
        subst hjl
        rw [List.take_length] at hst ⊢
        obtain ⟨u, hu⟩ : ∃ u, sizeAllT l = u := ⟨_, rfl⟩
        rw [hu] at hst ⊢
        have HU := Lib.hid hu
        have HBR := Lib.hid hbr
        clear hbr hu
        go_wp2_with fail
        go_ret
        exact ⟨ret_num (by simp only [Tm.size]; rw [HU.out]), b1.trans (HBR.out.mono b1.size)⟩
end Go.Proofs.YtifijgihcincfaaDoor
