/- ref02.Shape and ref02.Check of a term that is ok. -/
import Derived.Test.YtifijgihcincfaaDoorPackInfer
import Derived.Test.YtifijgihcincfaaDoorCountT
import Derived.Test.YtifijgihcincfaaDoorTypeSpec
import Derived.Deep.RegionHeld3
import Derived.Deep.QuietTactic
import Derived.BigQuiet
namespace Go.Proofs.YtifijgihcincfaaDoor
open Go.RowKit

theorem args_any (k : Int) (n : Nat) (h1 : 1 ≤ k) (h13 : k ≤ 13) (hn : n = arities.getD k.toNat 0) (w : World) :
    Calls Tryd.prog 101 #[.int .i64 k] w fun e w' => e = .returned (.int .i64 (n : Int)) ∧ w' = w := by
  have hk : k = 1 ∨ k = 2 ∨ k = 3 ∨ k = 4 ∨ k = 5 ∨ k = 6 ∨ k = 7 ∨ k = 8 ∨ k = 9 ∨ k = 10 ∨ k = 11 ∨ k = 12 ∨ k = 13 := by omega
  rcases hk with rfl | rfl | rfl | rfl | rfl | rfl | rfl | rfl | rfl | rfl | rfl | rfl | rfl <;>
  · have hn' : n = _ := hn.trans (by rfl)
    subst hn'
    go_enter Tryd.func101, Tryd.ntmps101
    go_wp2_with fail
    go_ret
    exact ⟨rfl, rfl⟩

theorem zero_any (i : Int) (n : Nat) (A : Option Addr) (c : Nat) (w : World) (hi : i = 0) (hn : n = 0) :
    Calls Tryd.prog 102 #[.agg #[.int .i64 i, .slice A n c]] w fun e w' => e = .returned (.bool true) ∧ Below w.heap.size w w' := by
  subst hi
  subst hn
  obtain ⟨b1, z1, k1⟩ := new_blk (Below.refl w.heap.size w) (Nat.le_refl _) #[.int .i64 0, .slice A 0 c] 30
  obtain ⟨p0, p1, _, _⟩ := k1.facts2
  have HB := Lib.hid b1
  clear b1 k1
  go_enter Tryd.func102, Tryd.ntmps102
  go_wp2_with fail
  go_ret
  exact ⟨rfl, HB.out⟩


def ShapeR' (w : World) (e : Ending) (w' : World) : Prop := e = .returned (.bool true) ∧ Below w.heap.size w w'
def ShapeIH (n : Nat) : Prop := ∀ (t : Tm) (v : Value) (w : World), t.bulk ≤ n → n ≤ 400000 → t.ok = true → IsTm (· < w.heap.size) w t v → Calls Tryd.prog 83 #[v] w (ShapeR' w)


set_option maxRecDepth 100000 in
set_option maxHeartbeats 4000000 in
theorem shape_one (n : Nat) (ih : ShapeIH n) (i : Int) (T : Ty) (l : List Tm) (v : Value) (w : World) (hn : (Tm.mk 1 i T l).bulk ≤ n + 1) (hb : n + 1 ≤ 400000) (hok : (Tm.mk 1 i T l).ok = true) (ht : IsTm (· < w.heap.size) w (.mk 1 i T l) v) :
    Calls Tryd.prog 83 #[v] w (ShapeR' w) := by
  obtain ⟨B, d, A, c, rfl, hTT, hl⟩ := ht.mk_parts
  have hll := bulkAll_len l
  rw [okT_eq, Bool.and_eq_true] at hok
  have hfk := formed_kind hok.1
  simp only [Tm.kind, Tm.index, Tm.type, Tm.args] at hfk hok
  simp only [Tm.bulk] at hn
  have harg := hfk.2.2.1
  have hi0 := hfk.2.2.2.1
  have HZ := Lib.hid (hfk.2.2.2.2.2.2 (by omega))
  have hneg : decide (i < 0) = false := by simp; omega
  have HL := Lib.hid hl
  have IH := Lib.hid ih
  have HO := Lib.hid hok.2
  obtain ⟨W, hW⟩ : ∃ W, W = w.alloc (Obj.cells #[.int .i64 1, .int .i64 i, .int .i64 T.kind, .slice B T.args.length d, .slice A l.length c] 34) := ⟨_, rfl⟩
  obtain ⟨b1, z1, k1⟩ := new_blk (Below.refl w.heap.size w) (Nat.le_refl _) #[.int .i64 1, .int .i64 i, .int .i64 T.kind, .slice B T.args.length d, .slice A l.length c] 34
  rw [← hW] at b1 z1 k1
  obtain ⟨p0, p1, p2, p3, p4, _⟩ := k1.facts5
  have HK := Lib.hid k1
  have HB := Lib.hid b1
  have HT := Lib.hid (hTT.boxed' b1)
  have HAR := Lib.hid harg
  have HSK := Lib.hid fun (w' : World) (h : Below W.heap.size W w') => And.intro (h.cell (p := ⟨w.heap.size, 0, none⟩) k1.lt |>.trans p0) (And.intro (h.cell (p := ⟨w.heap.size, 1, none⟩) k1.lt |>.trans p1) (h.cell (p := ⟨w.heap.size, 4, none⟩) k1.lt |>.trans p4))
  clear hl ih hok ht hTT b1 z1 k1 hfk harg
  go_enter Tryd.func83, Tryd.ntmps83
  go_upto_region 1 with fail
  rw [← hW]
  clear hW
  go_quiet ((go_at_call 101; exact Calls.quiet_of_same (args_any 1 l.length (by omega) (by omega) HAR.out _)))
  rename_i nq
  have D0 := Lib.hid (below_drewN (Below.refl W.heap.size W) nq)
  obtain ⟨p2', p3'⟩ : (W.drewN nq).cell? ⟨w.heap.size, 2, none⟩ = some (.int .i64 T.kind) ∧ (W.drewN nq).cell? ⟨w.heap.size, 3, none⟩ = some (.slice B T.args.length d) := ⟨p2, p3⟩
  have HTD := Lib.hid (HT.out.boxed' D0.out)
  go_wp2_with fail
  refine (zero_any T.kind T.args.length B d _ HZ.out.1 HZ.out.2).mono ?_
  rintro e w3 ⟨rfl, hb3⟩

  have HB3 := Lib.hid (D0.out.trans (hb3.mono D0.out.size))
  obtain ⟨_, _, p4⟩ := HSK.out _ HB3.out
  clear hb3
  go_wp2_with fail
  go_loopw [44] (fun ix wr => ∃ j : Nat, j ≤ l.length ∧ ix = .int .i64 j ∧ Below W.heap.size W wr) (fun ix _ => l.length - (intOf ix).toNat)
  case atStart => exact ⟨0, by omega, rfl, HB3.out⟩
  case round =>
    obtain ⟨j, hj, rfl, hbr⟩ := hrel
    have hsz := HB.out.size
    by_cases hlt : j < l.length
    · have hwr : Below w.heap.size w wr := HB.out.trans (hbr.mono HB.out.size)
      have hs : TmR.Sl (· < w.heap.size) wr l (.slice A l.length c) := HL.out.keep (fun _ h => h) (fun p hp => hwr.cell hp)
      obtain ⟨a, rfl, ha, hat⟩ := hs.get j hlt
      obtain ⟨B1, d1, A1, c1, q0, q1, q2, q3, q4, hx⟩ := at_tm hat
      simp only [show TmR.n = 5 from rfl] at q0 q1 q2 q3 q4
      have hnj := bulkAll_get l j hlt
      have hxo := okAllT_get HO.out j hlt
      have HX := Lib.hid (And.intro hx hxo)
      have hws := hwr.size
      have HBR := Lib.hid hbr
      clear hs hat hx hxo hbr hwr
      go_wp2_with fail
      have bb := (Below.refl wr.heap.size wr).alloc (Nat.le_refl _) (Obj.cells #[.int .i64 l[j].kind, .int .i64 l[j].index, .int .i64 l[j].type.kind, .slice B1 l[j].type.args.length d1, .slice A1 l[j].args.length c1] 34)
      refine (IH.out l[j] _ _ (by omega) (by omega) HX.out.2 (HX.out.1.keep (fun b hb => by have h3 : b < w.heap.size := hb; simp; omega) (fun p hp => World.cell?_alloc_lt _ _ _ (by have h3 : p.block < w.heap.size := hp; omega)))).mono ?_
      rintro e w2 ⟨rfl, hb2⟩
      have HB2 := Lib.hid (HBR.out.trans ((bb.trans (hb2.mono (by simp))).mono HBR.out.size))
      clear bb hb2
      go_wp2_with fail
      exact ⟨⟨j + 1, by omega, by go_num, HB2.out⟩, by simp [intOf]; omega⟩
    · have hjl : j = l.length := by omega
      subst hjl
      have HBR := Lib.hid hbr
      clear hbr
      go_wp2_with fail
      go_ret
      exact ⟨rfl, HB.out.trans (HBR.out.mono HB.out.size)⟩


set_option maxRecDepth 100000 in
set_option maxHeartbeats 4000000 in
theorem shape_k2 (n : Nat) (ih : ShapeIH n) (i : Int) (T : Ty) (l : List Tm) (v : Value) (w : World) (hn : (Tm.mk 2 i T l).bulk ≤ n + 1) (hb : n + 1 ≤ 400000) (hok : (Tm.mk 2 i T l).ok = true) (ht : IsTm (· < w.heap.size) w (.mk 2 i T l) v) :
    Calls Tryd.prog 83 #[v] w (ShapeR' w) := by
  obtain ⟨B, d, A, c, rfl, hTT, hl⟩ := ht.mk_parts
  have hll := bulkAll_len l
  rw [okT_eq, Bool.and_eq_true] at hok
  have hfk := formed_kind hok.1
  simp only [Tm.kind, Tm.index, Tm.type, Tm.args] at hfk hok
  simp only [Tm.bulk] at hn
  have harg := hfk.2.2.1
  have hi0 := hfk.2.2.2.1
  have hTe := hfk.2.2.2.2.2.1 (by simp)
  have hTn := err_small hTe
  have HTE := Lib.hid hTe
  clear hTe
  have hi1 : i = 0 := by rcases hfk.2.2.2.2.1 with h | h; omega; exact h
  subst hi1
  have HL := Lib.hid hl
  have IH := Lib.hid ih
  have HO := Lib.hid hok.2
  obtain ⟨W, hW⟩ : ∃ W, W = w.alloc (Obj.cells #[.int .i64 2, .int .i64 0, .int .i64 T.kind, .slice B T.args.length d, .slice A l.length c] 34) := ⟨_, rfl⟩
  obtain ⟨b1, z1, k1⟩ := new_blk (Below.refl w.heap.size w) (Nat.le_refl _) #[.int .i64 2, .int .i64 0, .int .i64 T.kind, .slice B T.args.length d, .slice A l.length c] 34
  rw [← hW] at b1 z1 k1
  obtain ⟨p0, p1, p2, p3, p4, _⟩ := k1.facts5
  have HK := Lib.hid k1
  have HB := Lib.hid b1
  have HT := Lib.hid (hTT.boxed' b1)
  have HAR := Lib.hid harg
  have D0 := Lib.hid ((Below.refl W.heap.size W).drew)
  have HSK := Lib.hid fun (w' : World) (h : Below W.heap.size W w') => And.intro (h.cell (p := ⟨w.heap.size, 0, none⟩) k1.lt |>.trans p0) (And.intro (h.cell (p := ⟨w.heap.size, 1, none⟩) k1.lt |>.trans p1) (h.cell (p := ⟨w.heap.size, 4, none⟩) k1.lt |>.trans p4))
  clear hl ih hok ht hTT b1 z1 k1 hfk harg
  go_enter Tryd.func83, Tryd.ntmps83
  go_upto_region 1 with fail
  rw [← hW]
  clear hW
  go_region_held3 (fun w' => w'.cell? ⟨w.heap.size, 0, none⟩ = some (.int .i64 2) ∧ w'.cell? ⟨w.heap.size, 1, none⟩ = some (.int .i64 0) ∧ w'.cell? ⟨w.heap.size, 4, none⟩ = some (.slice A l.length c))
    (first | with_reducible exact HSK.out _ D0.out | go_keep)
    (first
      | (go_at_call 101
         (with_reducible refine (args_any 2 l.length (by omega) (by omega) HAR.out _).mono ?_)
         rintro e w2 ⟨rfl, rfl⟩))
  obtain ⟨p2', p3'⟩ : W.drew.cell? ⟨w.heap.size, 2, none⟩ = some (.int .i64 T.kind) ∧ W.drew.cell? ⟨w.heap.size, 3, none⟩ = some (.slice B T.args.length d) := ⟨p2, p3⟩
  have HTD := Lib.hid (HT.out.boxed' D0.out)
  go_wp2_with fail
  refine (refCheck_any T _ _ (by omega) HTD.out).mono ?_
  rintro e w3 ⟨rfl, hb3⟩
  rw [HTE.out]
  have HB3 := Lib.hid (D0.out.trans (hb3.mono D0.out.size))
  obtain ⟨_, _, p4⟩ := HSK.out _ HB3.out
  clear hb3
  go_wp2_with fail
  go_loopw [44] (fun ix wr => ∃ j : Nat, j ≤ l.length ∧ ix = .int .i64 j ∧ Below W.heap.size W wr) (fun ix _ => l.length - (intOf ix).toNat)
  case atStart => exact ⟨0, by omega, rfl, HB3.out⟩
  case round =>
    obtain ⟨j, hj, rfl, hbr⟩ := hrel
    have hsz := HB.out.size
    by_cases hlt : j < l.length
    · have hwr : Below w.heap.size w wr := HB.out.trans (hbr.mono HB.out.size)
      have hs : TmR.Sl (· < w.heap.size) wr l (.slice A l.length c) := HL.out.keep (fun _ h => h) (fun p hp => hwr.cell hp)
      obtain ⟨a, rfl, ha, hat⟩ := hs.get j hlt
      obtain ⟨B1, d1, A1, c1, q0, q1, q2, q3, q4, hx⟩ := at_tm hat
      simp only [show TmR.n = 5 from rfl] at q0 q1 q2 q3 q4
      have hnj := bulkAll_get l j hlt
      have hxo := okAllT_get HO.out j hlt
      have HX := Lib.hid (And.intro hx hxo)
      have hws := hwr.size
      have HBR := Lib.hid hbr
      clear hs hat hx hxo hbr hwr
      go_wp2_with fail
      have bb := (Below.refl wr.heap.size wr).alloc (Nat.le_refl _) (Obj.cells #[.int .i64 l[j].kind, .int .i64 l[j].index, .int .i64 l[j].type.kind, .slice B1 l[j].type.args.length d1, .slice A1 l[j].args.length c1] 34)
      refine (IH.out l[j] _ _ (by omega) (by omega) HX.out.2 (HX.out.1.keep (fun b hb => by have h3 : b < w.heap.size := hb; simp; omega) (fun p hp => World.cell?_alloc_lt _ _ _ (by have h3 : p.block < w.heap.size := hp; omega)))).mono ?_
      rintro e w2 ⟨rfl, hb2⟩
      have HB2 := Lib.hid (HBR.out.trans ((bb.trans (hb2.mono (by simp))).mono HBR.out.size))
      clear bb hb2
      go_wp2_with fail
      exact ⟨⟨j + 1, by omega, by go_num, HB2.out⟩, by simp [intOf]; omega⟩
    · have hjl : j = l.length := by omega
      subst hjl
      have HBR := Lib.hid hbr
      clear hbr
      go_wp2_with fail
      go_ret
      exact ⟨rfl, HB.out.trans (HBR.out.mono HB.out.size)⟩


set_option maxRecDepth 100000 in
set_option maxHeartbeats 4000000 in
theorem shape_k6 (n : Nat) (ih : ShapeIH n) (i : Int) (T : Ty) (l : List Tm) (v : Value) (w : World) (hn : (Tm.mk 6 i T l).bulk ≤ n + 1) (hb : n + 1 ≤ 400000) (hok : (Tm.mk 6 i T l).ok = true) (ht : IsTm (· < w.heap.size) w (.mk 6 i T l) v) :
    Calls Tryd.prog 83 #[v] w (ShapeR' w) := by
  obtain ⟨B, d, A, c, rfl, hTT, hl⟩ := ht.mk_parts
  have hll := bulkAll_len l
  rw [okT_eq, Bool.and_eq_true] at hok
  have hfk := formed_kind hok.1
  simp only [Tm.kind, Tm.index, Tm.type, Tm.args] at hfk hok
  simp only [Tm.bulk] at hn
  have harg := hfk.2.2.1
  have hi0 := hfk.2.2.2.1
  have hTe := hfk.2.2.2.2.2.1 (by simp)
  have hTn := err_small hTe
  have HTE := Lib.hid hTe
  clear hTe
  have hi1 : i = 0 := by rcases hfk.2.2.2.2.1 with h | h; omega; exact h
  subst hi1
  have HL := Lib.hid hl
  have IH := Lib.hid ih
  have HO := Lib.hid hok.2
  obtain ⟨W, hW⟩ : ∃ W, W = w.alloc (Obj.cells #[.int .i64 6, .int .i64 0, .int .i64 T.kind, .slice B T.args.length d, .slice A l.length c] 34) := ⟨_, rfl⟩
  obtain ⟨b1, z1, k1⟩ := new_blk (Below.refl w.heap.size w) (Nat.le_refl _) #[.int .i64 6, .int .i64 0, .int .i64 T.kind, .slice B T.args.length d, .slice A l.length c] 34
  rw [← hW] at b1 z1 k1
  obtain ⟨p0, p1, p2, p3, p4, _⟩ := k1.facts5
  have HK := Lib.hid k1
  have HB := Lib.hid b1
  have HT := Lib.hid (hTT.boxed' b1)
  have HAR := Lib.hid harg
  have D0 := Lib.hid ((Below.refl W.heap.size W).drew)
  have HSK := Lib.hid fun (w' : World) (h : Below W.heap.size W w') => And.intro (h.cell (p := ⟨w.heap.size, 0, none⟩) k1.lt |>.trans p0) (And.intro (h.cell (p := ⟨w.heap.size, 1, none⟩) k1.lt |>.trans p1) (h.cell (p := ⟨w.heap.size, 4, none⟩) k1.lt |>.trans p4))
  clear hl ih hok ht hTT b1 z1 k1 hfk harg
  go_enter Tryd.func83, Tryd.ntmps83
  go_upto_region 1 with fail
  rw [← hW]
  clear hW
  go_region_held3 (fun w' => w'.cell? ⟨w.heap.size, 0, none⟩ = some (.int .i64 6) ∧ w'.cell? ⟨w.heap.size, 1, none⟩ = some (.int .i64 0) ∧ w'.cell? ⟨w.heap.size, 4, none⟩ = some (.slice A l.length c))
    (first | with_reducible exact HSK.out _ D0.out | go_keep)
    (first
      | (go_at_call 101
         (with_reducible refine (args_any 6 l.length (by omega) (by omega) HAR.out _).mono ?_)
         rintro e w2 ⟨rfl, rfl⟩))
  obtain ⟨p2', p3'⟩ : W.drew.cell? ⟨w.heap.size, 2, none⟩ = some (.int .i64 T.kind) ∧ W.drew.cell? ⟨w.heap.size, 3, none⟩ = some (.slice B T.args.length d) := ⟨p2, p3⟩
  have HTD := Lib.hid (HT.out.boxed' D0.out)
  go_wp2_with fail
  refine (refCheck_any T _ _ (by omega) HTD.out).mono ?_
  rintro e w3 ⟨rfl, hb3⟩
  rw [HTE.out]
  have HB3 := Lib.hid (D0.out.trans (hb3.mono D0.out.size))
  obtain ⟨_, _, p4⟩ := HSK.out _ HB3.out
  clear hb3
  go_wp2_with fail
  go_loopw [44] (fun ix wr => ∃ j : Nat, j ≤ l.length ∧ ix = .int .i64 j ∧ Below W.heap.size W wr) (fun ix _ => l.length - (intOf ix).toNat)
  case atStart => exact ⟨0, by omega, rfl, HB3.out⟩
  case round =>
    obtain ⟨j, hj, rfl, hbr⟩ := hrel
    have hsz := HB.out.size
    by_cases hlt : j < l.length
    · have hwr : Below w.heap.size w wr := HB.out.trans (hbr.mono HB.out.size)
      have hs : TmR.Sl (· < w.heap.size) wr l (.slice A l.length c) := HL.out.keep (fun _ h => h) (fun p hp => hwr.cell hp)
      obtain ⟨a, rfl, ha, hat⟩ := hs.get j hlt
      obtain ⟨B1, d1, A1, c1, q0, q1, q2, q3, q4, hx⟩ := at_tm hat
      simp only [show TmR.n = 5 from rfl] at q0 q1 q2 q3 q4
      have hnj := bulkAll_get l j hlt
      have hxo := okAllT_get HO.out j hlt
      have HX := Lib.hid (And.intro hx hxo)
      have hws := hwr.size
      have HBR := Lib.hid hbr
      clear hs hat hx hxo hbr hwr
      go_wp2_with fail
      have bb := (Below.refl wr.heap.size wr).alloc (Nat.le_refl _) (Obj.cells #[.int .i64 l[j].kind, .int .i64 l[j].index, .int .i64 l[j].type.kind, .slice B1 l[j].type.args.length d1, .slice A1 l[j].args.length c1] 34)
      refine (IH.out l[j] _ _ (by omega) (by omega) HX.out.2 (HX.out.1.keep (fun b hb => by have h3 : b < w.heap.size := hb; simp; omega) (fun p hp => World.cell?_alloc_lt _ _ _ (by have h3 : p.block < w.heap.size := hp; omega)))).mono ?_
      rintro e w2 ⟨rfl, hb2⟩
      have HB2 := Lib.hid (HBR.out.trans ((bb.trans (hb2.mono (by simp))).mono HBR.out.size))
      clear bb hb2
      go_wp2_with fail
      exact ⟨⟨j + 1, by omega, by go_num, HB2.out⟩, by simp [intOf]; omega⟩
    · have hjl : j = l.length := by omega
      subst hjl
      have HBR := Lib.hid hbr
      clear hbr
      go_wp2_with fail
      go_ret
      exact ⟨rfl, HB.out.trans (HBR.out.mono HB.out.size)⟩


set_option maxRecDepth 100000 in
set_option maxHeartbeats 4000000 in
theorem shape_k9 (n : Nat) (ih : ShapeIH n) (i : Int) (T : Ty) (l : List Tm) (v : Value) (w : World) (hn : (Tm.mk 9 i T l).bulk ≤ n + 1) (hb : n + 1 ≤ 400000) (hok : (Tm.mk 9 i T l).ok = true) (ht : IsTm (· < w.heap.size) w (.mk 9 i T l) v) :
    Calls Tryd.prog 83 #[v] w (ShapeR' w) := by
  obtain ⟨B, d, A, c, rfl, hTT, hl⟩ := ht.mk_parts
  have hll := bulkAll_len l
  rw [okT_eq, Bool.and_eq_true] at hok
  have hfk := formed_kind hok.1
  simp only [Tm.kind, Tm.index, Tm.type, Tm.args] at hfk hok
  simp only [Tm.bulk] at hn
  have harg := hfk.2.2.1
  have hi0 := hfk.2.2.2.1
  have hTe := hfk.2.2.2.2.2.1 (by simp)
  have hTn := err_small hTe
  have HTE := Lib.hid hTe
  clear hTe
  have hi1 : i = 0 := by rcases hfk.2.2.2.2.1 with h | h; omega; exact h
  subst hi1
  have HL := Lib.hid hl
  have IH := Lib.hid ih
  have HO := Lib.hid hok.2
  obtain ⟨W, hW⟩ : ∃ W, W = w.alloc (Obj.cells #[.int .i64 9, .int .i64 0, .int .i64 T.kind, .slice B T.args.length d, .slice A l.length c] 34) := ⟨_, rfl⟩
  obtain ⟨b1, z1, k1⟩ := new_blk (Below.refl w.heap.size w) (Nat.le_refl _) #[.int .i64 9, .int .i64 0, .int .i64 T.kind, .slice B T.args.length d, .slice A l.length c] 34
  rw [← hW] at b1 z1 k1
  obtain ⟨p0, p1, p2, p3, p4, _⟩ := k1.facts5
  have HK := Lib.hid k1
  have HB := Lib.hid b1
  have HT := Lib.hid (hTT.boxed' b1)
  have HAR := Lib.hid harg
  have D0 := Lib.hid ((Below.refl W.heap.size W).drew)
  have HSK := Lib.hid fun (w' : World) (h : Below W.heap.size W w') => And.intro (h.cell (p := ⟨w.heap.size, 0, none⟩) k1.lt |>.trans p0) (And.intro (h.cell (p := ⟨w.heap.size, 1, none⟩) k1.lt |>.trans p1) (h.cell (p := ⟨w.heap.size, 4, none⟩) k1.lt |>.trans p4))
  clear hl ih hok ht hTT b1 z1 k1 hfk harg
  go_enter Tryd.func83, Tryd.ntmps83
  go_upto_region 1 with fail
  rw [← hW]
  clear hW
  go_region_held3 (fun w' => w'.cell? ⟨w.heap.size, 0, none⟩ = some (.int .i64 9) ∧ w'.cell? ⟨w.heap.size, 1, none⟩ = some (.int .i64 0) ∧ w'.cell? ⟨w.heap.size, 4, none⟩ = some (.slice A l.length c))
    (first | with_reducible exact HSK.out _ D0.out | go_keep)
    (first
      | (go_at_call 101
         (with_reducible refine (args_any 9 l.length (by omega) (by omega) HAR.out _).mono ?_)
         rintro e w2 ⟨rfl, rfl⟩))
  obtain ⟨p2', p3'⟩ : W.drew.cell? ⟨w.heap.size, 2, none⟩ = some (.int .i64 T.kind) ∧ W.drew.cell? ⟨w.heap.size, 3, none⟩ = some (.slice B T.args.length d) := ⟨p2, p3⟩
  have HTD := Lib.hid (HT.out.boxed' D0.out)
  go_wp2_with fail
  refine (refCheck_any T _ _ (by omega) HTD.out).mono ?_
  rintro e w3 ⟨rfl, hb3⟩
  rw [HTE.out]
  have HB3 := Lib.hid (D0.out.trans (hb3.mono D0.out.size))
  obtain ⟨_, _, p4⟩ := HSK.out _ HB3.out
  clear hb3
  go_wp2_with fail
  go_loopw [44] (fun ix wr => ∃ j : Nat, j ≤ l.length ∧ ix = .int .i64 j ∧ Below W.heap.size W wr) (fun ix _ => l.length - (intOf ix).toNat)
  case atStart => exact ⟨0, by omega, rfl, HB3.out⟩
  case round =>
    obtain ⟨j, hj, rfl, hbr⟩ := hrel
    have hsz := HB.out.size
    by_cases hlt : j < l.length
    · have hwr : Below w.heap.size w wr := HB.out.trans (hbr.mono HB.out.size)
      have hs : TmR.Sl (· < w.heap.size) wr l (.slice A l.length c) := HL.out.keep (fun _ h => h) (fun p hp => hwr.cell hp)
      obtain ⟨a, rfl, ha, hat⟩ := hs.get j hlt
      obtain ⟨B1, d1, A1, c1, q0, q1, q2, q3, q4, hx⟩ := at_tm hat
      simp only [show TmR.n = 5 from rfl] at q0 q1 q2 q3 q4
      have hnj := bulkAll_get l j hlt
      have hxo := okAllT_get HO.out j hlt
      have HX := Lib.hid (And.intro hx hxo)
      have hws := hwr.size
      have HBR := Lib.hid hbr
      clear hs hat hx hxo hbr hwr
      go_wp2_with fail
      have bb := (Below.refl wr.heap.size wr).alloc (Nat.le_refl _) (Obj.cells #[.int .i64 l[j].kind, .int .i64 l[j].index, .int .i64 l[j].type.kind, .slice B1 l[j].type.args.length d1, .slice A1 l[j].args.length c1] 34)
      refine (IH.out l[j] _ _ (by omega) (by omega) HX.out.2 (HX.out.1.keep (fun b hb => by have h3 : b < w.heap.size := hb; simp; omega) (fun p hp => World.cell?_alloc_lt _ _ _ (by have h3 : p.block < w.heap.size := hp; omega)))).mono ?_
      rintro e w2 ⟨rfl, hb2⟩
      have HB2 := Lib.hid (HBR.out.trans ((bb.trans (hb2.mono (by simp))).mono HBR.out.size))
      clear bb hb2
      go_wp2_with fail
      exact ⟨⟨j + 1, by omega, by go_num, HB2.out⟩, by simp [intOf]; omega⟩
    · have hjl : j = l.length := by omega
      subst hjl
      have HBR := Lib.hid hbr
      clear hbr
      go_wp2_with fail
      go_ret
      exact ⟨rfl, HB.out.trans (HBR.out.mono HB.out.size)⟩


set_option maxRecDepth 100000 in
set_option maxHeartbeats 4000000 in
theorem shape_other (n : Nat) (ih : ShapeIH n) (k : Int) (i : Int) (T : Ty) (l : List Tm) (v : Value) (w : World) (hk1 : ¬ k = 1) (hk2 : ¬ k = 2) (hk6 : ¬ k = 6) (hk9 : ¬ k = 9) (hn : (Tm.mk k i T l).bulk ≤ n + 1) (hb : n + 1 ≤ 400000) (hok : (Tm.mk k i T l).ok = true) (ht : IsTm (· < w.heap.size) w (.mk k i T l) v) :
    Calls Tryd.prog 83 #[v] w (ShapeR' w) := by
  obtain ⟨B, d, A, c, rfl, hTT, hl⟩ := ht.mk_parts
  have hll := bulkAll_len l
  rw [okT_eq, Bool.and_eq_true] at hok
  have hfk := formed_kind hok.1
  simp only [Tm.kind, Tm.index, Tm.type, Tm.args] at hfk hok
  simp only [Tm.bulk] at hn
  have harg := hfk.2.2.1
  have hi0 := hfk.2.2.2.1
  have HZ := Lib.hid (hfk.2.2.2.2.2.2 (by omega))
  have hi1 : i = 0 := by rcases hfk.2.2.2.2.1 with h | h; omega; exact h
  subst hi1
  have hka := hfk.1
  have hb1 : (k != 1) = true := by simp [hk1]
  have hb2 : (k == 2) = false := by simp [hk2]
  have hb6 : (k == 6) = false := by simp [hk6]
  have hb9 : (k == 9) = false := by simp [hk9]
  have hd1 : decide (k = 1) = false := by simp [hk1]
  have hd1' : (!decide (k = 1)) = true := by simp [hk1]
  have hd2 : decide (k = 2) = false := by simp [hk2]
  have hd6 : decide (k = 6) = false := by simp [hk6]
  have hd9 : decide (k = 9) = false := by simp [hk9]
  have hkb := hfk.2.1
  have HL := Lib.hid hl
  have IH := Lib.hid ih
  have HO := Lib.hid hok.2
  obtain ⟨W, hW⟩ : ∃ W, W = w.alloc (Obj.cells #[.int .i64 k, .int .i64 0, .int .i64 T.kind, .slice B T.args.length d, .slice A l.length c] 34) := ⟨_, rfl⟩
  obtain ⟨b1, z1, k1⟩ := new_blk (Below.refl w.heap.size w) (Nat.le_refl _) #[.int .i64 k, .int .i64 0, .int .i64 T.kind, .slice B T.args.length d, .slice A l.length c] 34
  rw [← hW] at b1 z1 k1
  obtain ⟨p0, p1, p2, p3, p4, _⟩ := k1.facts5
  have HK := Lib.hid k1
  have HB := Lib.hid b1
  have HT := Lib.hid (hTT.boxed' b1)
  have HAR := Lib.hid harg
  have D0 := Lib.hid ((Below.refl W.heap.size W).drew)
  have HSK := Lib.hid fun (w' : World) (h : Below W.heap.size W w') => And.intro (h.cell (p := ⟨w.heap.size, 0, none⟩) k1.lt |>.trans p0) (And.intro (h.cell (p := ⟨w.heap.size, 1, none⟩) k1.lt |>.trans p1) (h.cell (p := ⟨w.heap.size, 4, none⟩) k1.lt |>.trans p4))
  clear hl ih hok ht hTT b1 z1 k1 hfk harg
  go_enter Tryd.func83, Tryd.ntmps83
  go_upto_region 1 with fail
  rw [← hW]
  clear hW
  go_region_held3 (fun w' => w'.cell? ⟨w.heap.size, 0, none⟩ = some (.int .i64 k) ∧ w'.cell? ⟨w.heap.size, 1, none⟩ = some (.int .i64 0) ∧ w'.cell? ⟨w.heap.size, 4, none⟩ = some (.slice A l.length c))
    (first | with_reducible exact HSK.out _ D0.out | go_keep)
    (first
      | (go_at_call 101
         (with_reducible refine (args_any k l.length (by omega) (by omega) HAR.out _).mono ?_)
         rintro e w2 ⟨rfl, rfl⟩))
  obtain ⟨p2', p3'⟩ : W.drew.cell? ⟨w.heap.size, 2, none⟩ = some (.int .i64 T.kind) ∧ W.drew.cell? ⟨w.heap.size, 3, none⟩ = some (.slice B T.args.length d) := ⟨p2, p3⟩
  have HTD := Lib.hid (HT.out.boxed' D0.out)
  go_wp2_with fail
  refine (zero_any T.kind T.args.length B d _ HZ.out.1 HZ.out.2).mono ?_
  rintro e w3 ⟨rfl, hb3⟩

  have HB3 := Lib.hid (D0.out.trans (hb3.mono D0.out.size))
  obtain ⟨_, _, p4⟩ := HSK.out _ HB3.out
  clear hb3
  go_wp2_with fail
  go_loopw [44] (fun ix wr => ∃ j : Nat, j ≤ l.length ∧ ix = .int .i64 j ∧ Below W.heap.size W wr) (fun ix _ => l.length - (intOf ix).toNat)
  case atStart => exact ⟨0, by omega, rfl, HB3.out⟩
  case round =>
    obtain ⟨j, hj, rfl, hbr⟩ := hrel
    have hsz := HB.out.size
    by_cases hlt : j < l.length
    · have hwr : Below w.heap.size w wr := HB.out.trans (hbr.mono HB.out.size)
      have hs : TmR.Sl (· < w.heap.size) wr l (.slice A l.length c) := HL.out.keep (fun _ h => h) (fun p hp => hwr.cell hp)
      obtain ⟨a, rfl, ha, hat⟩ := hs.get j hlt
      obtain ⟨B1, d1, A1, c1, q0, q1, q2, q3, q4, hx⟩ := at_tm hat
      simp only [show TmR.n = 5 from rfl] at q0 q1 q2 q3 q4
      have hnj := bulkAll_get l j hlt
      have hxo := okAllT_get HO.out j hlt
      have HX := Lib.hid (And.intro hx hxo)
      have hws := hwr.size
      have HBR := Lib.hid hbr
      clear hs hat hx hxo hbr hwr
      go_wp2_with fail
      have bb := (Below.refl wr.heap.size wr).alloc (Nat.le_refl _) (Obj.cells #[.int .i64 l[j].kind, .int .i64 l[j].index, .int .i64 l[j].type.kind, .slice B1 l[j].type.args.length d1, .slice A1 l[j].args.length c1] 34)
      refine (IH.out l[j] _ _ (by omega) (by omega) HX.out.2 (HX.out.1.keep (fun b hb => by have h3 : b < w.heap.size := hb; simp; omega) (fun p hp => World.cell?_alloc_lt _ _ _ (by have h3 : p.block < w.heap.size := hp; omega)))).mono ?_
      rintro e w2 ⟨rfl, hb2⟩
      have HB2 := Lib.hid (HBR.out.trans ((bb.trans (hb2.mono (by simp))).mono HBR.out.size))
      clear bb hb2
      go_wp2_with fail
      exact ⟨⟨j + 1, by omega, by go_num, HB2.out⟩, by simp [intOf]; omega⟩
    · have hjl : j = l.length := by omega
      subst hjl
      have HBR := Lib.hid hbr
      clear hbr
      go_wp2_with fail
      go_ret
      exact ⟨rfl, HB.out.trans (HBR.out.mono HB.out.size)⟩


theorem shape_any : ∀ n : Nat, ShapeIH n
  | 0 => fun t v w hn => by have := bulk_pos t; omega
  | n + 1 => fun t v w hn hb hok ht => by
    obtain ⟨k, i, T, l⟩ := t
    have ih := shape_any n
    by_cases h1 : k = 1
    · subst h1; exact shape_one n ih i T l v w hn hb hok ht
    · by_cases h2 : k = 2
      · subst h2; exact shape_k2 n ih i T l v w hn hb hok ht
      · by_cases h6 : k = 6
        · subst h6; exact shape_k6 n ih i T l v w hn hb hok ht
        · by_cases h9 : k = 9
          · subst h9; exact shape_k9 n ih i T l v w hn hb hok ht
          · exact shape_other n ih k i T l v w h1 h2 h6 h9 hn hb hok ht

end Go.Proofs.YtifijgihcincfaaDoor
namespace Go.Proofs.YtifijgihcincfaaDoor
open Go.RowKit

theorem refContext_any (G : List Ty) (s : Value) (w : World) (hG : ∀ T ∈ G, T.err = 0) (hn : G.length ≤ 16) (hs : TyR.Sl (· < w.heap.size) w G s) :
    Calls Tryd.prog 54 #[s] w fun e w' => e = .returned (.int .i64 0) ∧ Below w.heap.size w w' := by
  obtain ⟨A, c, rfl⟩ := hs.form
  have HS := Lib.hid hs
  have HG := Lib.hid hG
  clear hs hG
  go_enter Tryd.func54, Tryd.ntmps54
  go_wp2_with fail
  go_loopw [11] (fun ix wr => ∃ j : Nat, j ≤ G.length ∧ ix = .int .i64 j ∧ Below w.heap.size w wr) (fun ix _ => G.length - (intOf ix).toNat)
  case atStart => exact ⟨0, by omega, rfl, Below.refl _ _⟩
  case round =>
    obtain ⟨j, hj, rfl, hbr⟩ := hrel
    by_cases hlt : j < G.length
    · have hsr : TyR.Sl (· < w.heap.size) wr G (.slice A G.length c) := HS.out.keep (fun _ h => h) (fun p hp => hbr.cell hp)
      obtain ⟨a, rfl, ha, hat⟩ := hsr.get j hlt
      obtain ⟨A1, c1, q0, q1, hx⟩ := at_ty hat
      simp only [show TyR.n = 2 from rfl] at q0 q1
      have hjE := HG.out _ (List.getElem_mem hlt)
      have hjn := err_small hjE
      have HE := Lib.hid hjE
      have HX := Lib.hid hx
      have hws := hbr.size
      have HBR := Lib.hid hbr
      clear hsr hat hx hbr hjE
      go_wp2_with fail
      have bb := (Below.refl wr.heap.size wr).alloc (Nat.le_refl _) (Obj.cells #[.int .i64 G[j].kind, .slice A1 G[j].args.length c1] 30)
      refine (refCheck_any G[j] _ _ (by omega) (HX.out.keep (fun b hb => by have h3 : b < w.heap.size := hb; simp; omega) (fun p hp => World.cell?_alloc_lt _ _ _ (by have h3 : p.block < w.heap.size := hp; omega)))).mono ?_
      rintro e w2 ⟨rfl, hb2⟩
      rw [HE.out]
      have HB2 := Lib.hid (HBR.out.trans ((bb.trans (hb2.mono (by simp))).mono HBR.out.size))
      clear bb hb2
      go_wp2_with fail
      exact ⟨⟨j + 1, by omega, by go_num, HB2.out⟩, by simp [intOf]; omega⟩
    · have hjl : j = G.length := by omega
      subst hjl
      have HBR := Lib.hid hbr
      clear hbr
      go_wp2_with fail
      go_ret
      exact ⟨rfl, HBR.out⟩

theorem refCheckT_any (t : Tm) (v : Value) (w : World) (hok : t.ok = true) (hn : t.bulk ≤ 400000) (hsz : t.size ≤ 4096) (hT : IsTm (· < w.heap.size) w t v) :
    Calls Tryd.prog 56 #[v] w fun e w' => e = .returned (.int .i64 0) ∧ Below w.heap.size w w' := by
  obtain ⟨k, i, T, l⟩ := t
  obtain ⟨B, d, A, c, rfl, _, _⟩ := hT.mk_parts
  obtain ⟨W, hW⟩ : ∃ W, W = w.alloc (Obj.cells #[.int .i64 k, .int .i64 i, .int .i64 T.kind, .slice B T.args.length d, .slice A l.length c] 34) := ⟨_, rfl⟩
  obtain ⟨b1, z1, k1⟩ := new_blk (Below.refl w.heap.size w) (Nat.le_refl _) #[.int .i64 k, .int .i64 i, .int .i64 T.kind, .slice B T.args.length d, .slice A l.length c] 34
  rw [← hW] at b1 z1 k1
  obtain ⟨p0, p1, p2, p3, p4, _⟩ := k1.facts5
  have HB := Lib.hid (And.intro b1 k1)
  have HT := Lib.hid (show IsTm (· < W.heap.size) W (.mk k i T l) _ from hT.keep (fun b h => Nat.lt_of_lt_of_le h b1.size) (fun p hp => b1.cell hp))
  have HO := Lib.hid hok
  clear b1 z1 k1 hT hok
  go_enter Tryd.func56, Tryd.ntmps56
  go_wp2_with fail
  rw [← hW]
  clear hW
  refine (shape_any _ (.mk k i T l) _ W (Nat.le_refl _) hn HO.out HT.out).mono ?_
  rintro e w1 ⟨rfl, hb1⟩
  obtain ⟨p0, p1, p2, p3, p4, _⟩ := (HB.out.2.below hb1 HB.out.2.lt).facts5
  have HB1 := Lib.hid hb1
  have HT1 := Lib.hid (show IsTm (· < w1.heap.size) w1 (.mk k i T l) _ from HT.out.keep (fun b h => Nat.lt_of_lt_of_le h hb1.size) (fun p hp => hb1.cell hp))
  clear hb1
  go_wp2_with fail
  refine (countT_any _ (.mk k i T l) _ w1 (Nat.le_refl _) hn HT1.out).mono ?_
  rintro e w2 ⟨rfl, hb2⟩
  have HB2 := Lib.hid (HB.out.1.trans ((HB1.out.trans (hb2.mono HB1.out.size)).mono HB.out.1.size))
  clear hb2
  obtain ⟨u, hu⟩ : ∃ u, (Tm.mk k i T l).size = u := ⟨_, rfl⟩
  rw [hu] at hsz ⊢
  clear hu
  go_wp2_with fail
  go_ret
  exact ⟨rfl, HB2.out⟩

theorem typed_any (t : Tm) (G : List Ty) (s v : Value) (U : Ty) (w : World) (hok : t.ok = true) (hsz : t.size ≤ 4096) (hG : ∀ T ∈ G, T.err = 0) (hGn : G.length + t.bulk ≤ 400000) (htyp : t.typ G = .ok U) (hs : TyR.Sl (· < w.heap.size) w G s) (hfs : Roomy s) (hT : IsTm (· < w.heap.size) w t v) :
    Calls Tryd.prog 55 #[s, v] w (InferR U w) := by
  obtain ⟨k, i, T, l⟩ := t
  obtain ⟨B, d, A, c, rfl, _, _⟩ := hT.mk_parts
  obtain ⟨W, hW, hbW, hz, k0, k1⟩ := box52_facts w (.int .i64 k) (.int .i64 i) (.int .i64 T.kind) (.slice B T.args.length d) (.slice A l.length c)
  obtain ⟨p0, p1, p2, p3, p4, _⟩ := k0.facts5
  have HK := Lib.hid (And.intro k0 (And.intro k1 (And.intro hbW hz)))
  have HT := Lib.hid (show IsTm (· < W.heap.size) W (.mk k i T l) _ from hT.keep (fun b h => Nat.lt_of_lt_of_le h hbW.size) (fun p hp => hbW.cell hp))
  have HS := Lib.hid (show TyR.Sl (· < W.heap.size) W G s from hs.keep (fun b h => Nat.lt_of_lt_of_le h hbW.size) (fun p hp => hbW.cell hp))
  have HO := Lib.hid (And.intro hok (And.intro hG (And.intro htyp hfs)))
  clear hT hs hok hG htyp k0 k1 hbW hz hfs
  go_enter Tryd.func55, Tryd.ntmps55
  go_wp2_with fail
  rw [← hW]
  clear hW
  refine (refCheckT_any (.mk k i T l) _ W HO.out.1 (by omega) hsz HT.out).mono ?_
  rintro e w1 ⟨rfl, hb1⟩
  obtain ⟨p0, p1, p2, p3, p4, _⟩ := (HK.out.1.below hb1 HK.out.1.lt).facts5
  have HB1 := Lib.hid hb1
  clear hb1
  go_wp2_with fail
  refine (infer_any (.mk k i T l) G s _ U w1 HO.out.1 HO.out.2.1 hGn HO.out.2.2.1 (HS.out.keep (fun b h => Nat.lt_of_lt_of_le h HB1.out.size) (fun p hp => HB1.out.cell hp)) HO.out.2.2.2 (HT.out.keep (fun b h => Nat.lt_of_lt_of_le h HB1.out.size) (fun p hp => HB1.out.cell hp))).mono ?_
  rintro e w2 ⟨hb2, v2, rfl, hv2⟩
  obtain ⟨E, g, rfl⟩ := hv2.form
  have HV := Lib.hid (And.intro hv2 hb2)
  have HB2 := Lib.hid (HB1.out.trans (hb2.mono HB1.out.size))
  clear hb2 hv2
  obtain ⟨_, _, f0, f1⟩ := (HK.out.2.1.below HB2.out HK.out.2.1.lt).facts2
  go_wp2_with fail
  obtain ⟨z0, z1, _, _⟩ := ((HK.out.2.1.below HB2.out HK.out.2.1.lt).set2 (.int .i64 U.kind) (.slice E U.args.length g)).facts2
  refine bodyPost_ret (v := .tuple #[.agg #[.int .i64 U.kind, .slice E U.args.length g], .int .i64 0]) (by simp [results, Tryd.results55, go_sem, z0, z1]) rfl ?_
  have hz := HK.out.2.2.2
  have hs1 := HB1.out.size
  have hs2 := HV.out.2.size
  exact infer_end (HK.out.2.2.1.trans (HB2.out.mono HK.out.2.2.1.size)) (by omega) (HV.out.1.keep (fun b h => ⟨by rcases h.1 with h' | h'; exact h'.elim; omega, h.2⟩) (fun _ _ => rfl))

/-- ref02.TypeOf at a term that has a type. -/
theorem refTypeOf_any (t : Tm) (G : List Ty) (s v : Value) (U : Ty) (w : World) (hok : t.ok = true) (hsz : t.size ≤ 4096) (hG : ∀ T ∈ G, T.err = 0) (hG16 : G.length ≤ 16) (hGn : t.bulk ≤ 399000) (htyp : t.typ G = .ok U) (hs : TyR.Sl (· < w.heap.size) w G s) (hfs : Roomy s) (hT : IsTm (· < w.heap.size) w t v) :
    Calls Tryd.prog 22 #[s, v] w (InferR U w) := by
  obtain ⟨k, i, T, l⟩ := t
  obtain ⟨B, d, A, c, rfl, _, _⟩ := hT.mk_parts
  obtain ⟨W, hW, hbW, hz, k0, k1⟩ := box52_facts w (.int .i64 k) (.int .i64 i) (.int .i64 T.kind) (.slice B T.args.length d) (.slice A l.length c)
  obtain ⟨p0, p1, p2, p3, p4, _⟩ := k0.facts5
  have HK := Lib.hid (And.intro k0 (And.intro k1 (And.intro hbW hz)))
  have HT := Lib.hid (show IsTm (· < W.heap.size) W (.mk k i T l) _ from hT.keep (fun b h => Nat.lt_of_lt_of_le h hbW.size) (fun p hp => hbW.cell hp))
  have HS := Lib.hid (show TyR.Sl (· < W.heap.size) W G s from hs.keep (fun b h => Nat.lt_of_lt_of_le h hbW.size) (fun p hp => hbW.cell hp))
  have HO := Lib.hid (And.intro hok (And.intro hG (And.intro htyp hfs)))
  clear hT hs hok hG htyp k0 k1 hbW hz hfs
  go_enter Tryd.func22, Tryd.ntmps22
  go_wp2_with fail
  rw [← hW]
  clear hW
  refine (refContext_any G s W HO.out.2.1 hG16 HS.out).mono ?_
  rintro e w1 ⟨rfl, hb1⟩
  obtain ⟨p0, p1, p2, p3, p4, _⟩ := (HK.out.1.below hb1 HK.out.1.lt).facts5
  have HB1 := Lib.hid hb1
  clear hb1
  go_wp2_with fail
  refine (typed_any (.mk k i T l) G s _ U w1 HO.out.1 hsz HO.out.2.1 (by omega) HO.out.2.2.1 (HS.out.keep (fun b h => Nat.lt_of_lt_of_le h HB1.out.size) (fun p hp => HB1.out.cell hp)) HO.out.2.2.2 (HT.out.keep (fun b h => Nat.lt_of_lt_of_le h HB1.out.size) (fun p hp => HB1.out.cell hp))).mono ?_
  rintro e w2 ⟨hb2, v2, rfl, hv2⟩
  obtain ⟨E, g, rfl⟩ := hv2.form
  have HV := Lib.hid (And.intro hv2 hb2)
  have HB2 := Lib.hid (HB1.out.trans (hb2.mono HB1.out.size))
  clear hb2 hv2
  obtain ⟨_, _, f0, f1⟩ := (HK.out.2.1.below HB2.out HK.out.2.1.lt).facts2
  go_wp2_with fail
  obtain ⟨z0, z1, _, _⟩ := ((HK.out.2.1.below HB2.out HK.out.2.1.lt).set2 (.int .i64 U.kind) (.slice E U.args.length g)).facts2
  refine bodyPost_ret (v := .tuple #[.agg #[.int .i64 U.kind, .slice E U.args.length g], .int .i64 0]) (by simp [results, Tryd.results22, go_sem, z0, z1]) rfl ?_
  have hz := HK.out.2.2.2
  have hs1 := HB1.out.size
  have hs2 := HV.out.2.size
  exact infer_end (HK.out.2.2.1.trans (HB2.out.mono HK.out.2.2.1.size)) (by omega) (HV.out.1.keep (fun b h => ⟨by rcases h.1 with h' | h'; exact h'.elim; omega, h.2⟩) (fun _ _ => rfl))
end Go.Proofs.YtifijgihcincfaaDoor
