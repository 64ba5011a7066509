/- ref02.infer: kind by kind. -/
import Derived.Test.YtdbkphgamkeboaaDoorPackInfer
import Derived.Deep.RegionLawGrows
namespace Go.Proofs.YtdbkphgamkeboaaDoor
open Go.RowKit

set_option maxRecDepth 100000 in
set_option maxHeartbeats 4000000 in
theorem infer_6 (n : Nat) (hih : InferIH n) (i : Int) (T : Ty) (l : List Tm) (G : List Ty) (s v : Value) (U : Ty) (w : World) (hn : (Tm.mk 6 i T l).bulk ≤ n + 1) (hok : (Tm.mk 6 i T l).ok = true) (hG : ∀ T ∈ G, T.err = 0) (hGn : G.length + n + 1 ≤ 400000)
    (htyp : (Tm.mk 6 i T l).typ G = .ok U) (hs : TyR.Sl (· < w.heap.size) w G s) (hfs : Roomy s) (hT : IsTm (· < w.heap.size) w (.mk 6 i T l) v) : Calls Tryd.prog 107 #[s, v] w (InferR U w) := by
  obtain ⟨ps, hps, hnode⟩ := typ_parts (by decide) (by decide) htyp
  obtain ⟨B, d, A, c, rfl, hTT, hl⟩ := hT.mk_parts
  obtain ⟨As, cs, rfl⟩ := hs.form
  have hplen := typAll_len hps
  have hll := bulkAll_len l
  rw [okT_eq, Bool.and_eq_true] at hok
  have hfk := formed_kind hok.1
  simp only [Tm.kind, Tm.index, Tm.type, Tm.args] at hfk hok
  simp only [Tm.bulk] at hn
  have hpe := typAll_err l G hok.2 hG hps
  obtain ⟨W, hW, hbW, hz, k0, k1⟩ := box52_facts w (.int .i64 6) (.int .i64 i) (.int .i64 T.kind) (.slice B T.args.length d) (.slice A l.length c)
  have hTW : IsTy (· < w.heap.size) W T (.agg #[.int .i64 T.kind, .slice B T.args.length d]) := IsTy.keep (fun _ h => h) (fun p hp => hbW.cell hp) _ hTT
  obtain ⟨p0, p1, p2, p3, p4, _⟩ := k0.facts5
  have HI0 := Lib.hid (show InferI 6 i T l B A d c w (.slice none 0 0) [] W from ⟨Rep.Own.nil _ _ _, hbW, k0, k1⟩)
  have HIH := Lib.hid hih
  have HG := Lib.hid hG
  have HFS := Lib.hid hfs
  have HS := Lib.hid hs
  have HL := Lib.hid hl
  have HP := Lib.hid (And.intro hps (And.intro hnode (And.intro hpe hplen)))
  have HF := Lib.hid (And.intro hok hfk)
  have HT := Lib.hid hTT
  have HN := Lib.hid (show bulkAll l ≤ n by omega)
  clear hfs hih hG hs hl hps hnode hpe hplen hok hfk hT htyp k0 k1 hbW hTT hTW
  go_enter Tryd.func107, Tryd.ntmps107
  go_wp2_with fail
  rw [← hW]
  clear hW hz
  go_loopw [8, 69] (fun ls ix wr => ∃ j : Nat, j ≤ l.length ∧ ix = .int .i64 j ∧ InferI 6 i T l B A d c w ls (ps.take j) wr) (fun _ ix _ => l.length - (intOf ix).toNat)
  case atStart => exact ⟨0, Nat.zero_le _, rfl, HI0.out⟩
  case round =>
    obtain ⟨j, hj, rfl, hown, hbel, hb0, hb1⟩ := hrel
    clear p0 p1 p2 p3 p4
    by_cases hlt : j < l.length
    · have hlr : TmR.Sl (· < w.heap.size) wr l (.slice A l.length c) := HL.out.keep (fun _ h => h) (fun p hp => hbel.cell hp)
      obtain ⟨a, rfl, ha, hat⟩ := hlr.get j hlt
      obtain ⟨B1, d1, A1, c1, q0, q1, q2, q3, q4, hx⟩ := at_tm hat
      simp only [show TmR.n = 5 from rfl] at q0 q1 q2 q3 q4
      have hjp : j < ps.length := by have := HP.out.2.2.2; omega
      have hxt := typAll_get HP.out.1 j hlt hjp
      have hnj : l[j].bulk ≤ n := by have := bulkAll_get l j hlt; have := HN.out; omega
      have hxo := okAllT_get HF.out.1.2 j hlt
      have hlen : (ps.take j).length = j := by simp; omega
      have hwz := hbel.size
      have hGs : TyR.Sl (· < w.heap.size) wr G (.slice As G.length cs) := HS.out.keep (fun _ h => h) (fun p hp => hbel.cell hp)
      obtain ⟨i0, hi, hz0, hz1, hz2⟩ := info_parts info_type
      obtain ⟨xs, hox, hxs⟩ := hown
      have HX := Lib.hid (And.intro hx (And.intro hxt (And.intro hnj (And.intro hxo hGs))))
      have HLE := Lib.hid hlen
      have HO := Lib.hid (And.intro hox (And.intro hxs (And.intro hbel (And.intro hb0 hb1))))
      clear hlr hat hx hxt hnj hxo hGs hlen hox hxs hbel hb0 hb1
      go_wp2_with fail
      have bo := (Below.refl wr.heap.size wr).alloc (Nat.le_refl _) (Obj.cells #[.int .i64 l[j].kind, .int .i64 l[j].index, .int .i64 l[j].type.kind, .slice B1 l[j].type.args.length d1, .slice A1 l[j].args.length c1] 34)
      refine (HIH.out l[j] G (.slice As G.length cs) _ ps[j] _ HX.out.2.2.1 HX.out.2.2.2.1 HG.out (by omega) HX.out.2.1 (HX.out.2.2.2.2.keep (fun b h => by have h' : b < w.heap.size := h; simp; omega) (fun p hp => World.cell?_alloc_lt _ _ _ (by have h' : p.block < w.heap.size := hp; omega))) HFS.out
        (HX.out.1.keep (fun b h => by have h' : b < w.heap.size := h; simp; omega) (fun p hp => World.cell?_alloc_lt _ _ _ (by have h' : p.block < w.heap.size := hp; omega)))).mono ?_
      rintro e w1 ⟨hb2, v1, rfl, ht1⟩
      obtain ⟨A2, c2, rfl⟩ := ht1.form
      have hbw : Below wr.heap.size wr w1 := bo.trans (hb2.mono (by simp))
      have ht1' : IsTy (fun b => wr.heap.size ≤ b ∧ b < w1.heap.size) w1 ps[j] (.agg #[.int .i64 ps[j].kind, .slice A2 ps[j].args.length c2]) := IsTy.keep (fun b h => ⟨by have := h.1; simp at this; omega, h.2⟩) (fun _ _ => rfl) _ ht1
      have HT1 := Lib.hid ht1'
      have hg2w := only_of_below hbw none
      have hown1 := ((HO.out.1.kept hg2w (by cases u8.ownBlock <;> simp)).alloc (Obj.cells #[.int .i64 ps[j].kind, .slice A2 ps[j].args.length c2] 30)).alloc (Obj.cells #[.int .i64 ps[j].kind, .slice A2 ps[j].args.length c2] 30)
      have kY : Blk ((w1.alloc (Obj.cells #[.int .i64 ps[j].kind, .slice A2 ps[j].args.length c2] 30)).alloc (Obj.cells #[.int .i64 ps[j].kind, .slice A2 ps[j].args.length c2] 30)) (w1.heap.size + 1) 30 #[.int .i64 ps[j].kind, .slice A2 ps[j].args.length c2] := by
        have := Blk.new (w1.alloc (Obj.cells #[.int .i64 ps[j].kind, .slice A2 ps[j].args.length c2] 30)) 30 #[.int .i64 ps[j].kind, .slice A2 ps[j].args.length c2]
        rwa [World.size_alloc] at this
      have HKY := Lib.hid kY
      have HBW := Lib.hid hbw
      clear kY hb2 ht1 ht1' bo hg2w hbw
      go_wp2_with (at_builtin; go_loud (refine wpList_append_own_at _ rfl _ _ 27 rfl (w.heap.size + 2) 30 i0 _ 2 32 Tryd.underlying27 hi hz0 hz1 hz2 rfl (by decide) u8 (ps.take j).length xs rfl hown1 ⟨w1.heap.size + 1, 0, none⟩ 1 1 [_, _] rfl rfl (World.news_of_block HKY.out) (by simp [Value.oneCell']) (by have := HLE.out; simp only [maxLen]; omega) (by have := HLE.out; omega) (by have := HO.out.2.2.2.2.lt; have := HBW.out.size; simp; omega) ?_); intro v2 w2 hown2 hg2 hnil2 hat2)
      have HST := Lib.hid (infer_step HO.out.2.2.1 HO.out.2.2.2.1 HO.out.2.2.2.2 HBW.out hown1 (HO.out.2.1) HO.out.1.lt HT1.out hown2 hg2 hat2)
      exact ⟨⟨j + 1, by omega, by go_num, by rw [List.take_succ_eq_append_getElem hjp]; exact HST.out⟩, by simp [intOf]; omega⟩
    · have hjl : j = l.length := by omega
      have hI : InferI 6 i T l B A d c w u8 ps wr := by
        rw [List.take_of_length_le (by have := HP.out.2.2.2; omega)] at hown
        exact ⟨hown, hbel, hb0, hb1⟩
      obtain ⟨A3, c3, e3⟩ := hI.1.form
      subst e3
      have HI := Lib.hid hI
      subst hjl
      clear hown hbel hb0 hb1 hI
      go_wp2_with fail
      refine (nat_any _).mono ?_
      rintro e w2 ⟨rfl, hb2⟩
      go_wp2_with fail
      refine (list_any _).mono ?_
      rintro e w3 ⟨rfl, hb3⟩
      obtain ⟨X, hX, hIX, kn, kl, hz3, hzX⟩ := infer_mid HI.out hb2 hb3
      clear hb2 hb3
      go_upto_region 20 with fail
      rw [← hX]
      clear hX
      have HIX := Lib.hid hIX
      have hpsu : ps = [T, tyFun tyNat (tyFun T T), tyNat] ∧ U = T := by
        have h := HP.out.2.1
        simp only [nodeTy, argTys, ownTy] at h
        simp at h
        split at h
        · rename_i h1
          exact ⟨sameAll_eq h1, by cases h; rfl⟩
        · cases h
      obtain ⟨hps1, hU1⟩ := hpsu
      have HU := Lib.hid hU1
      subst hps1
      clear hU1
      have hTe : T.err = 0 := HF.out.2.2.2.2.2.2.1 (by simp)
      have HTn := Lib.hid (err_small hTe)
      have HNO := Lib.hid (fun_nodes HTn.out)
      clear hTe
      obtain ⟨hown, hbel, hb0, hb1⟩ := hIX
      obtain ⟨a, A0, A1, A2, c0, c1, c2, ca, ea, ha, q0, q1, q2, q3, q4, q5, hx, hy, hz⟩ := sl_three hown.sl
      rw [ea]
      obtain ⟨m0, _, m2, m3, _⟩ := hb0.facts5
      have haX : a.block < X.heap.size := ha.2
      have HK1 := Lib.hid hb1
      have HTX := Lib.hid (show IsTy (· < X.heap.size) X T (.agg #[.int .i64 T.kind, .slice B T.args.length d]) from HT.out.boxed' hbel)
      have HSK := Lib.hid fun (w' : World) (h : Below X.heap.size X w') => And.intro ((h.cell (p := a) haX).trans q0) (And.intro ((h.cell (p := ⟨a.block, a.off + 1, none⟩) haX).trans q1) (And.intro ((h.cell (p := ⟨a.block, a.off + 2, none⟩) haX).trans q2) (And.intro ((h.cell (p := ⟨a.block, a.off + 2 + 1, none⟩) haX).trans q3) (And.intro ((h.cell (p := ⟨a.block, a.off + 4, none⟩) haX).trans q4) (And.intro ((h.cell (p := ⟨a.block, a.off + 4 + 1, none⟩) haX).trans q5) (And.intro ((hb0.below h hb0.lt).facts5.2.2.1) (And.intro ((hb0.below h hb0.lt).facts5.2.2.2.1) (And.intro ((kn.below h kn.lt).facts2.1) ((kn.below h kn.lt).facts2.2.1)))))))))
      have HX := Lib.hid (And.intro (show IsTy (· < X.heap.size) X T _ from IsTy.keep (fun b h => h.2) (fun _ _ => rfl) _ hx) (And.intro (show IsTy (· < X.heap.size) X (tyFun tyNat (tyFun T T)) _ from IsTy.keep (fun b h => h.2) (fun _ _ => rfl) _ hy)
        (show IsTy (· < X.heap.size) X tyNat _ from IsTy.keep (fun b h => h.2) (fun _ _ => rfl) _ hz)))
      clear hown hbel hb0 hb1 hx hy hz kn kl q0 q1 q2 q3 q4 q5 m2 m3
      obtain ⟨q0, q1, _⟩ := HSK.out X (Below.refl _ _)
      go_wp2_with fail
      go_region_held3 (fun w' => w'.cell? a = some (.int .i64 T.kind) ∧ w'.cell? ⟨a.block, a.off + 1, none⟩ = some (.slice A0 T.args.length c0) ∧ w'.cell? ⟨a.block, a.off + 2, none⟩ = some (.int .i64 (tyFun tyNat (tyFun T T)).kind) ∧ w'.cell? ⟨a.block, a.off + 2 + 1, none⟩ = some (.slice A1 (tyFun tyNat (tyFun T T)).args.length c1) ∧ w'.cell? ⟨a.block, a.off + 4, none⟩ = some (.int .i64 tyNat.kind) ∧ w'.cell? ⟨a.block, a.off + 4 + 1, none⟩ = some (.slice A2 tyNat.args.length c2) ∧ w'.cell? ⟨w.heap.size, 2, none⟩ = some (.int .i64 T.kind) ∧ w'.cell? ⟨w.heap.size, 3, none⟩ = some (.slice B T.args.length d) ∧ w'.cell? ⟨w3.heap.size, 0, none⟩ = some (.int .i64 1) ∧ w'.cell? ⟨w3.heap.size, 1, none⟩ = some (.slice none 0 0))
        (first | with_reducible exact HSK.out _ (Below.refl _ _).drew | with_reducible exact HSK.out _ G1.out | with_reducible exact HSK.out _ G2.out | with_reducible exact HSK.out _ G3.out | with_reducible exact HSK.out _ G4.out | with_reducible exact HSK.out _ G5.out | go_keep)
        (first
          | (go_at_call 24
             (with_reducible refine (refSame_is (S := tyNat) (T := tyNat) (w := w7) true (eqb_self _) (by first | decide | (have := HNO.out; omega) | (have := HTn.out; omega)) (by first | decide | (have := HNO.out; omega) | (have := HTn.out; omega)) (HX.out.2.2.boxed' G4.out) (IsTy.leaf _ _ _)).mono ?_)
             rintro e w8 ⟨rfl, hbb⟩
             have G5 := Lib.hid (show Below X.heap.size X w8 from G4.out.trans (hbb.mono G4.out.size))
             clear hbb)
          | (go_at_call 24
             (with_reducible refine (refSame_is (S := (tyFun tyNat (tyFun T T))) (T := (tyFun tyNat (tyFun T T))) (w := w6) true (eqb_self _) (by first | decide | (have := HNO.out; omega) | (have := HTn.out; omega)) (by first | decide | (have := HNO.out; omega) | (have := HTn.out; omega)) (HX.out.2.1.boxed' G3.out) Hv6.out).mono ?_)
             rintro e w7 ⟨rfl, hbb⟩
             have G4 := Lib.hid (show Below X.heap.size X w7 from G3.out.trans (hbb.mono G3.out.size))
             clear hbb)
          | (go_at_call 48
             (with_reducible refine (fun_any tyNat (tyFun T T) _ _ w5 (by first | decide | (have := HNO.out; omega) | (have := HTn.out; omega)) (by first | decide | (have := HNO.out; omega) | (have := HTn.out; omega)) (IsTy.leaf _ _ _) Hv5.out).mono ?_)
             rintro e w6 ⟨v6, rfl, hv6, hbb⟩
             obtain ⟨E6, g6, rfl⟩ := hv6.form
             have G3 := Lib.hid (G2.out.trans (hbb.mono G2.out.size))
             have Hv6 := Lib.hid (show IsTy (· < w6.heap.size) w6 (tyFun tyNat (tyFun T T)) _ from IsTy.keep (fun b h => h.2) (fun _ _ => rfl) _ hv6)
             clear hbb hv6)
          | (go_at_call 48
             (with_reducible refine (fun_any T T _ _ w4 (by first | decide | (have := HNO.out; omega) | (have := HTn.out; omega)) (by first | decide | (have := HNO.out; omega) | (have := HTn.out; omega)) (HTX.out.boxed' G1.out) (HTX.out.boxed' G1.out)).mono ?_)
             rintro e w5 ⟨v5, rfl, hv5, hbb⟩
             obtain ⟨E5, g5, rfl⟩ := hv5.form
             have G2 := Lib.hid (G1.out.trans (hbb.mono G1.out.size))
             have Hv5 := Lib.hid (show IsTy (· < w5.heap.size) w5 (tyFun T T) _ from IsTy.keep (fun b h => h.2) (fun _ _ => rfl) _ hv5)
             clear hbb hv5)
          | (go_at_call 24
             (with_reducible refine (refSame_is (S := T) (T := T) (w := X.drew) true (eqb_self _) (by first | decide | (have := HNO.out; omega) | (have := HTn.out; omega)) (by first | decide | (have := HNO.out; omega) | (have := HTn.out; omega)) (HX.out.1.boxed' ((Below.refl X.heap.size X).drew)) (HTX.out.boxed' ((Below.refl X.heap.size X).drew))).mono ?_)
             rintro e w4 ⟨rfl, hbb⟩
             have G1 := Lib.hid (show Below X.heap.size X w4 from ((Below.refl _ X).drew).trans hbb)
             clear hbb))
      clear q0 q1
      obtain ⟨_, _, _, _, _, _, q6, q7, _⟩ := HSK.out _ G5.out
      go_wp2_with fail
      refine (copy_any 400000 T (.agg #[.int .i64 T.kind, .slice B T.args.length d]) _ (by have := HTn.out; omega) (by omega) (HTX.out.boxed' G5.out)).mono ?_
      rintro e wc ⟨vc, rfl, hvc, hbc⟩
      obtain ⟨Ec, gc, rfl⟩ := hvc.form
      have GC := Lib.hid (G5.out.trans (hbc.mono G5.out.size))
      have HVC := Lib.hid hvc
      obtain ⟨_, _, f0, f1⟩ := (HK1.out.below GC.out HK1.out.lt).facts2
      have hzc := G5.out.size
      clear hbc hvc
      go_wp2_with fail
      obtain ⟨z0, z1, _, _⟩ := ((HK1.out.below GC.out HK1.out.lt).set2 (.int .i64 T.kind) (.slice Ec T.args.length gc)).facts2
      refine bodyPost_ret (v := .tuple #[.agg #[.int .i64 T.kind, .slice Ec T.args.length gc], .int .i64 0]) (by simp [results, Tryd.results107, go_sem, z0, z1]) rfl ?_
      rw [HU.out]
      exact infer_end (HIX.out.2.1.trans (GC.out.mono HIX.out.2.1.size)) (by have := GC.out.size; omega) (HVC.out.keep (fun b h => ⟨by omega, h.2⟩) (fun _ _ => rfl))
end Go.Proofs.YtdbkphgamkeboaaDoor
namespace Go.Proofs.YtdbkphgamkeboaaDoor
open Go.RowKit

set_option maxRecDepth 100000 in
set_option maxHeartbeats 4000000 in
theorem infer_9 (n : Nat) (hih : InferIH n) (i : Int) (T : Ty) (l : List Tm) (G : List Ty) (s v : Value) (U : Ty) (w : World) (hn : (Tm.mk 9 i T l).bulk ≤ n + 1) (hok : (Tm.mk 9 i T l).ok = true) (hG : ∀ T ∈ G, T.err = 0) (hGn : G.length + n + 1 ≤ 400000)
    (htyp : (Tm.mk 9 i T l).typ G = .ok U) (hs : TyR.Sl (· < w.heap.size) w G s) (hfs : Roomy s) (hT : IsTm (· < w.heap.size) w (.mk 9 i T l) v) : Calls Tryd.prog 107 #[s, v] w (InferR U w) := by
  obtain ⟨ps, hps, hnode⟩ := typ_parts (by decide) (by decide) htyp
  obtain ⟨B, d, A, c, rfl, hTT, hl⟩ := hT.mk_parts
  obtain ⟨As, cs, rfl⟩ := hs.form
  have hplen := typAll_len hps
  have hll := bulkAll_len l
  rw [okT_eq, Bool.and_eq_true] at hok
  have hfk := formed_kind hok.1
  simp only [Tm.kind, Tm.index, Tm.type, Tm.args] at hfk hok
  simp only [Tm.bulk] at hn
  have hpe := typAll_err l G hok.2 hG hps
  obtain ⟨W, hW, hbW, hz, k0, k1⟩ := box52_facts w (.int .i64 9) (.int .i64 i) (.int .i64 T.kind) (.slice B T.args.length d) (.slice A l.length c)
  have hTW : IsTy (· < w.heap.size) W T (.agg #[.int .i64 T.kind, .slice B T.args.length d]) := IsTy.keep (fun _ h => h) (fun p hp => hbW.cell hp) _ hTT
  obtain ⟨p0, p1, p2, p3, p4, _⟩ := k0.facts5
  have HI0 := Lib.hid (show InferI 9 i T l B A d c w (.slice none 0 0) [] W from ⟨Rep.Own.nil _ _ _, hbW, k0, k1⟩)
  have HIH := Lib.hid hih
  have HG := Lib.hid hG
  have HFS := Lib.hid hfs
  have HS := Lib.hid hs
  have HL := Lib.hid hl
  have HP := Lib.hid (And.intro hps (And.intro hnode (And.intro hpe hplen)))
  have HF := Lib.hid (And.intro hok hfk)
  have HT := Lib.hid hTT
  have HN := Lib.hid (show bulkAll l ≤ n by omega)
  clear hfs hih hG hs hl hps hnode hpe hplen hok hfk hT htyp k0 k1 hbW hTT hTW
  go_enter Tryd.func107, Tryd.ntmps107
  go_wp2_with fail
  rw [← hW]
  clear hW hz
  go_loopw [8, 69] (fun ls ix wr => ∃ j : Nat, j ≤ l.length ∧ ix = .int .i64 j ∧ InferI 9 i T l B A d c w ls (ps.take j) wr) (fun _ ix _ => l.length - (intOf ix).toNat)
  case atStart => exact ⟨0, Nat.zero_le _, rfl, HI0.out⟩
  case round =>
    obtain ⟨j, hj, rfl, hown, hbel, hb0, hb1⟩ := hrel
    clear p0 p1 p2 p3 p4
    by_cases hlt : j < l.length
    · have hlr : TmR.Sl (· < w.heap.size) wr l (.slice A l.length c) := HL.out.keep (fun _ h => h) (fun p hp => hbel.cell hp)
      obtain ⟨a, rfl, ha, hat⟩ := hlr.get j hlt
      obtain ⟨B1, d1, A1, c1, q0, q1, q2, q3, q4, hx⟩ := at_tm hat
      simp only [show TmR.n = 5 from rfl] at q0 q1 q2 q3 q4
      have hjp : j < ps.length := by have := HP.out.2.2.2; omega
      have hxt := typAll_get HP.out.1 j hlt hjp
      have hnj : l[j].bulk ≤ n := by have := bulkAll_get l j hlt; have := HN.out; omega
      have hxo := okAllT_get HF.out.1.2 j hlt
      have hlen : (ps.take j).length = j := by simp; omega
      have hwz := hbel.size
      have hGs : TyR.Sl (· < w.heap.size) wr G (.slice As G.length cs) := HS.out.keep (fun _ h => h) (fun p hp => hbel.cell hp)
      obtain ⟨i0, hi, hz0, hz1, hz2⟩ := info_parts info_type
      obtain ⟨xs, hox, hxs⟩ := hown
      have HX := Lib.hid (And.intro hx (And.intro hxt (And.intro hnj (And.intro hxo hGs))))
      have HLE := Lib.hid hlen
      have HO := Lib.hid (And.intro hox (And.intro hxs (And.intro hbel (And.intro hb0 hb1))))
      clear hlr hat hx hxt hnj hxo hGs hlen hox hxs hbel hb0 hb1
      go_wp2_with fail
      have bo := (Below.refl wr.heap.size wr).alloc (Nat.le_refl _) (Obj.cells #[.int .i64 l[j].kind, .int .i64 l[j].index, .int .i64 l[j].type.kind, .slice B1 l[j].type.args.length d1, .slice A1 l[j].args.length c1] 34)
      refine (HIH.out l[j] G (.slice As G.length cs) _ ps[j] _ HX.out.2.2.1 HX.out.2.2.2.1 HG.out (by omega) HX.out.2.1 (HX.out.2.2.2.2.keep (fun b h => by have h' : b < w.heap.size := h; simp; omega) (fun p hp => World.cell?_alloc_lt _ _ _ (by have h' : p.block < w.heap.size := hp; omega))) HFS.out
        (HX.out.1.keep (fun b h => by have h' : b < w.heap.size := h; simp; omega) (fun p hp => World.cell?_alloc_lt _ _ _ (by have h' : p.block < w.heap.size := hp; omega)))).mono ?_
      rintro e w1 ⟨hb2, v1, rfl, ht1⟩
      obtain ⟨A2, c2, rfl⟩ := ht1.form
      have hbw : Below wr.heap.size wr w1 := bo.trans (hb2.mono (by simp))
      have ht1' : IsTy (fun b => wr.heap.size ≤ b ∧ b < w1.heap.size) w1 ps[j] (.agg #[.int .i64 ps[j].kind, .slice A2 ps[j].args.length c2]) := IsTy.keep (fun b h => ⟨by have := h.1; simp at this; omega, h.2⟩) (fun _ _ => rfl) _ ht1
      have HT1 := Lib.hid ht1'
      have hg2w := only_of_below hbw none
      have hown1 := ((HO.out.1.kept hg2w (by cases u8.ownBlock <;> simp)).alloc (Obj.cells #[.int .i64 ps[j].kind, .slice A2 ps[j].args.length c2] 30)).alloc (Obj.cells #[.int .i64 ps[j].kind, .slice A2 ps[j].args.length c2] 30)
      have kY : Blk ((w1.alloc (Obj.cells #[.int .i64 ps[j].kind, .slice A2 ps[j].args.length c2] 30)).alloc (Obj.cells #[.int .i64 ps[j].kind, .slice A2 ps[j].args.length c2] 30)) (w1.heap.size + 1) 30 #[.int .i64 ps[j].kind, .slice A2 ps[j].args.length c2] := by
        have := Blk.new (w1.alloc (Obj.cells #[.int .i64 ps[j].kind, .slice A2 ps[j].args.length c2] 30)) 30 #[.int .i64 ps[j].kind, .slice A2 ps[j].args.length c2]
        rwa [World.size_alloc] at this
      have HKY := Lib.hid kY
      have HBW := Lib.hid hbw
      clear kY hb2 ht1 ht1' bo hg2w hbw
      go_wp2_with (at_builtin; go_loud (refine wpList_append_own_at _ rfl _ _ 27 rfl (w.heap.size + 2) 30 i0 _ 2 32 Tryd.underlying27 hi hz0 hz1 hz2 rfl (by decide) u8 (ps.take j).length xs rfl hown1 ⟨w1.heap.size + 1, 0, none⟩ 1 1 [_, _] rfl rfl (World.news_of_block HKY.out) (by simp [Value.oneCell']) (by have := HLE.out; simp only [maxLen]; omega) (by have := HLE.out; omega) (by have := HO.out.2.2.2.2.lt; have := HBW.out.size; simp; omega) ?_); intro v2 w2 hown2 hg2 hnil2 hat2)
      have HST := Lib.hid (infer_step HO.out.2.2.1 HO.out.2.2.2.1 HO.out.2.2.2.2 HBW.out hown1 (HO.out.2.1) HO.out.1.lt HT1.out hown2 hg2 hat2)
      exact ⟨⟨j + 1, by omega, by go_num, by rw [List.take_succ_eq_append_getElem hjp]; exact HST.out⟩, by simp [intOf]; omega⟩
    · have hjl : j = l.length := by omega
      have hI : InferI 9 i T l B A d c w u8 ps wr := by
        rw [List.take_of_length_le (by have := HP.out.2.2.2; omega)] at hown
        exact ⟨hown, hbel, hb0, hb1⟩
      obtain ⟨A3, c3, e3⟩ := hI.1.form
      subst e3
      have HI := Lib.hid hI
      subst hjl
      clear hown hbel hb0 hb1 hI
      go_wp2_with fail
      refine (nat_any _).mono ?_
      rintro e w2 ⟨rfl, hb2⟩
      go_wp2_with fail
      refine (list_any _).mono ?_
      rintro e w3 ⟨rfl, hb3⟩
      obtain ⟨X, hX, hIX, kn, kl, hz3, hzX⟩ := infer_mid HI.out hb2 hb3
      clear hb2 hb3
      go_upto_region 20 with fail
      rw [← hX]
      clear hX
      have HIX := Lib.hid hIX
      have hpsu : ps = [T, tyFun tyNat (tyFun tyList (tyFun T T)), tyList] ∧ U = T := by
        have h := HP.out.2.1
        simp only [nodeTy, argTys, ownTy] at h
        simp at h
        split at h
        · rename_i h1
          exact ⟨sameAll_eq h1, by cases h; rfl⟩
        · cases h
      obtain ⟨hps1, hU1⟩ := hpsu
      have HU := Lib.hid hU1
      subst hps1
      clear hU1
      have hTe : T.err = 0 := HF.out.2.2.2.2.2.2.1 (by simp)
      have HTn := Lib.hid (err_small hTe)
      have HNO := Lib.hid (fun_nodes HTn.out)
      clear hTe
      obtain ⟨hown, hbel, hb0, hb1⟩ := hIX
      obtain ⟨a, A0, A1, A2, c0, c1, c2, ca, ea, ha, q0, q1, q2, q3, q4, q5, hx, hy, hz⟩ := sl_three hown.sl
      rw [ea]
      obtain ⟨m0, _, m2, m3, _⟩ := hb0.facts5
      have haX : a.block < X.heap.size := ha.2
      have HK1 := Lib.hid hb1
      have HTX := Lib.hid (show IsTy (· < X.heap.size) X T (.agg #[.int .i64 T.kind, .slice B T.args.length d]) from HT.out.boxed' hbel)
      have HSK := Lib.hid fun (w' : World) (h : Below X.heap.size X w') => And.intro ((h.cell (p := a) haX).trans q0) (And.intro ((h.cell (p := ⟨a.block, a.off + 1, none⟩) haX).trans q1) (And.intro ((h.cell (p := ⟨a.block, a.off + 2, none⟩) haX).trans q2) (And.intro ((h.cell (p := ⟨a.block, a.off + 2 + 1, none⟩) haX).trans q3) (And.intro ((h.cell (p := ⟨a.block, a.off + 4, none⟩) haX).trans q4) (And.intro ((h.cell (p := ⟨a.block, a.off + 4 + 1, none⟩) haX).trans q5) (And.intro ((hb0.below h hb0.lt).facts5.2.2.1) (And.intro ((hb0.below h hb0.lt).facts5.2.2.2.1) (And.intro ((kn.below h kn.lt).facts2.1) (And.intro ((kn.below h kn.lt).facts2.2.1) (And.intro ((kl.below h kl.lt).facts2.1) ((kl.below h kl.lt).facts2.2.1)))))))))))
      have HX := Lib.hid (And.intro (show IsTy (· < X.heap.size) X T _ from IsTy.keep (fun b h => h.2) (fun _ _ => rfl) _ hx) (And.intro (show IsTy (· < X.heap.size) X (tyFun tyNat (tyFun tyList (tyFun T T))) _ from IsTy.keep (fun b h => h.2) (fun _ _ => rfl) _ hy)
        (show IsTy (· < X.heap.size) X tyList _ from IsTy.keep (fun b h => h.2) (fun _ _ => rfl) _ hz)))
      clear hown hbel hb0 hb1 hx hy hz kn kl q0 q1 q2 q3 q4 q5 m2 m3
      obtain ⟨q0, q1, _⟩ := HSK.out X (Below.refl _ _)
      go_wp2_with fail
      go_region_held3 (fun w' => w'.cell? a = some (.int .i64 T.kind) ∧ w'.cell? ⟨a.block, a.off + 1, none⟩ = some (.slice A0 T.args.length c0) ∧ w'.cell? ⟨a.block, a.off + 2, none⟩ = some (.int .i64 (tyFun tyNat (tyFun tyList (tyFun T T))).kind) ∧ w'.cell? ⟨a.block, a.off + 2 + 1, none⟩ = some (.slice A1 (tyFun tyNat (tyFun tyList (tyFun T T))).args.length c1) ∧ w'.cell? ⟨a.block, a.off + 4, none⟩ = some (.int .i64 tyList.kind) ∧ w'.cell? ⟨a.block, a.off + 4 + 1, none⟩ = some (.slice A2 tyList.args.length c2) ∧ w'.cell? ⟨w.heap.size, 2, none⟩ = some (.int .i64 T.kind) ∧ w'.cell? ⟨w.heap.size, 3, none⟩ = some (.slice B T.args.length d) ∧ w'.cell? ⟨w3.heap.size, 0, none⟩ = some (.int .i64 1) ∧ w'.cell? ⟨w3.heap.size, 1, none⟩ = some (.slice none 0 0) ∧ w'.cell? ⟨w3.heap.size + 1, 0, none⟩ = some (.int .i64 2) ∧ w'.cell? ⟨w3.heap.size + 1, 1, none⟩ = some (.slice none 0 0))
        (first | with_reducible exact HSK.out _ (Below.refl _ _).drew | with_reducible exact HSK.out _ G1.out | with_reducible exact HSK.out _ G2.out | with_reducible exact HSK.out _ G3.out | with_reducible exact HSK.out _ G4.out | with_reducible exact HSK.out _ G5.out | with_reducible exact HSK.out _ G6.out | go_keep)
        (first
          | (go_at_call 24
             (with_reducible refine (refSame_is (S := tyList) (T := tyList) (w := w8) true (eqb_self _) (by first | decide | (have := HNO.out; omega) | (have := HTn.out; omega)) (by first | decide | (have := HNO.out; omega) | (have := HTn.out; omega)) (HX.out.2.2.boxed' G5.out) (IsTy.leaf _ _ _)).mono ?_)
             rintro e w9 ⟨rfl, hbb⟩
             have G6 := Lib.hid (show Below X.heap.size X w9 from G5.out.trans (hbb.mono G5.out.size))
             clear hbb)
          | (go_at_call 24
             (with_reducible refine (refSame_is (S := (tyFun tyNat (tyFun tyList (tyFun T T)))) (T := (tyFun tyNat (tyFun tyList (tyFun T T)))) (w := w7) true (eqb_self _) (by first | decide | (have := HNO.out; omega) | (have := HTn.out; omega)) (by first | decide | (have := HNO.out; omega) | (have := HTn.out; omega)) (HX.out.2.1.boxed' G4.out) Hv7.out).mono ?_)
             rintro e w8 ⟨rfl, hbb⟩
             have G5 := Lib.hid (show Below X.heap.size X w8 from G4.out.trans (hbb.mono G4.out.size))
             clear hbb)
          | (go_at_call 48
             (with_reducible refine (fun_any tyNat (tyFun tyList (tyFun T T)) _ _ w6 (by first | decide | (have := HNO.out; omega) | (have := HTn.out; omega)) (by first | decide | (have := HNO.out; omega) | (have := HTn.out; omega)) (IsTy.leaf _ _ _) Hv6.out).mono ?_)
             rintro e w7 ⟨v7, rfl, hv7, hbb⟩
             obtain ⟨E7, g7, rfl⟩ := hv7.form
             have G4 := Lib.hid (G3.out.trans (hbb.mono G3.out.size))
             have Hv7 := Lib.hid (show IsTy (· < w7.heap.size) w7 (tyFun tyNat (tyFun tyList (tyFun T T))) _ from IsTy.keep (fun b h => h.2) (fun _ _ => rfl) _ hv7)
             clear hbb hv7)
          | (go_at_call 48
             (with_reducible refine (fun_any tyList (tyFun T T) _ _ w5 (by first | decide | (have := HNO.out; omega) | (have := HTn.out; omega)) (by first | decide | (have := HNO.out; omega) | (have := HTn.out; omega)) (IsTy.leaf _ _ _) Hv5.out).mono ?_)
             rintro e w6 ⟨v6, rfl, hv6, hbb⟩
             obtain ⟨E6, g6, rfl⟩ := hv6.form
             have G3 := Lib.hid (G2.out.trans (hbb.mono G2.out.size))
             have Hv6 := Lib.hid (show IsTy (· < w6.heap.size) w6 (tyFun tyList (tyFun T T)) _ from IsTy.keep (fun b h => h.2) (fun _ _ => rfl) _ hv6)
             clear hbb hv6)
          | (go_at_call 48
             (with_reducible refine (fun_any T T _ _ w4 (by first | decide | (have := HNO.out; omega) | (have := HTn.out; omega)) (by first | decide | (have := HNO.out; omega) | (have := HTn.out; omega)) (HTX.out.boxed' G1.out) (HTX.out.boxed' G1.out)).mono ?_)
             rintro e w5 ⟨v5, rfl, hv5, hbb⟩
             obtain ⟨E5, g5, rfl⟩ := hv5.form
             have G2 := Lib.hid (G1.out.trans (hbb.mono G1.out.size))
             have Hv5 := Lib.hid (show IsTy (· < w5.heap.size) w5 (tyFun T T) _ from IsTy.keep (fun b h => h.2) (fun _ _ => rfl) _ hv5)
             clear hbb hv5)
          | (go_at_call 24
             (with_reducible refine (refSame_is (S := T) (T := T) (w := X.drew) true (eqb_self _) (by first | decide | (have := HNO.out; omega) | (have := HTn.out; omega)) (by first | decide | (have := HNO.out; omega) | (have := HTn.out; omega)) (HX.out.1.boxed' ((Below.refl X.heap.size X).drew)) (HTX.out.boxed' ((Below.refl X.heap.size X).drew))).mono ?_)
             rintro e w4 ⟨rfl, hbb⟩
             have G1 := Lib.hid (show Below X.heap.size X w4 from ((Below.refl _ X).drew).trans hbb)
             clear hbb))
      clear q0 q1
      obtain ⟨_, _, _, _, _, _, q6, q7, _⟩ := HSK.out _ G6.out
      go_wp2_with fail
      refine (copy_any 400000 T (.agg #[.int .i64 T.kind, .slice B T.args.length d]) _ (by have := HTn.out; omega) (by omega) (HTX.out.boxed' G6.out)).mono ?_
      rintro e wc ⟨vc, rfl, hvc, hbc⟩
      obtain ⟨Ec, gc, rfl⟩ := hvc.form
      have GC := Lib.hid (G6.out.trans (hbc.mono G6.out.size))
      have HVC := Lib.hid hvc
      obtain ⟨_, _, f0, f1⟩ := (HK1.out.below GC.out HK1.out.lt).facts2
      have hzc := G6.out.size
      clear hbc hvc
      go_wp2_with fail
      obtain ⟨z0, z1, _, _⟩ := ((HK1.out.below GC.out HK1.out.lt).set2 (.int .i64 T.kind) (.slice Ec T.args.length gc)).facts2
      refine bodyPost_ret (v := .tuple #[.agg #[.int .i64 T.kind, .slice Ec T.args.length gc], .int .i64 0]) (by simp [results, Tryd.results107, go_sem, z0, z1]) rfl ?_
      rw [HU.out]
      exact infer_end (HIX.out.2.1.trans (GC.out.mono HIX.out.2.1.size)) (by have := GC.out.size; omega) (HVC.out.keep (fun b h => ⟨by omega, h.2⟩) (fun _ _ => rfl))
end Go.Proofs.YtdbkphgamkeboaaDoor
namespace Go.Proofs.YtdbkphgamkeboaaDoor
open Go.RowKit

set_option maxRecDepth 100000 in
set_option maxHeartbeats 1000000 in
theorem infer_1 (n : Nat) (i : Int) (T : Ty) (l : List Tm) (G : List Ty) (s v : Value) (U : Ty) (w : World) (hok : (Tm.mk 1 i T l).ok = true) (hG : ∀ T ∈ G, T.err = 0) (hGn : G.length + n + 1 ≤ 400000)
    (htyp : (Tm.mk 1 i T l).typ G = .ok U) (hs : TyR.Sl (· < w.heap.size) w G s) (hT : IsTm (· < w.heap.size) w (.mk 1 i T l) v) : Calls Tryd.prog 107 #[s, v] w (InferR U w) := by
  obtain ⟨B, d, A, c, rfl, hTT, hl⟩ := hT.mk_parts
  obtain ⟨As, cs, rfl⟩ := hs.form
  rw [okT_eq, Bool.and_eq_true] at hok
  have hfk := formed_kind hok.1
  simp only [Tm.kind, Tm.index, Tm.type, Tm.args] at hfk
  obtain ⟨j, rfl⟩ : ∃ j : Nat, i = (j : Int) := ⟨i.toNat, by have := hfk.2.2.2.1; omega⟩
  unfold Tm.typ at htyp
  rw [if_pos rfl] at htyp
  by_cases hj : j < G.length
  · rw [dif_pos (by simpa using hj)] at htyp
    simp only [Int.toNat_natCast] at htyp
    have hj2 : G.length - 1 - j < G.length := by omega
    have hU : G[G.length - 1 - j] = U := by simpa using htyp
    obtain ⟨W, hW, hbW, hz, k0, k1⟩ := box52_facts w (.int .i64 1) (.int .i64 j) (.int .i64 T.kind) (.slice B T.args.length d) (.slice A l.length c)
    obtain ⟨a, rfl, ha, hat⟩ := hs.get (G.length - 1 - j) hj2
    rw [hU] at hat
    obtain ⟨A8, c8, q0, q1, hx⟩ := at_ty hat
    simp only [show TyR.n = 2 from rfl] at q0 q1
    have hUe : U.err = 0 := hG U (by rw [← hU]; exact List.getElem_mem hj2)
    have ha' : a.block < w.heap.size := ha
    have q0' := (hbW.cell (p := a.add ((G.length - 1 - j) * 2)) (by rw [add_block]; exact ha')).trans q0
    have q1' := (hbW.cell (p := ⟨(a.add ((G.length - 1 - j) * 2)).block, (a.add ((G.length - 1 - j) * 2)).off + 1, none⟩) (by show (a.add ((G.length - 1 - j) * 2)).block < _; rw [add_block]; exact ha')).trans q1
    obtain ⟨p0, p1, _⟩ := k0.facts5
    have HX := Lib.hid (hx.boxed' hbW)
    have HK := Lib.hid (And.intro k1 (And.intro hbW hz))
    have HUn := Lib.hid (err_small hUe)
    have hw1 : IntKind.i64.wrap ((G.length : Int) - 1) = (G.length : Int) - 1 := IntWalk.i64_in _ (by omega)
    have hw2 : IntKind.i64.wrap ((G.length : Int) - 1 - (j : Int)) = ((G.length - 1 - j : Nat) : Int) := by rw [IntWalk.i64_in _ (by omega)]; omega
    have e14 : decide (G.length ≤ j) = false := by simp; omega
    clear hs hT hTT hl hok hfk htyp hU hG hat q0 q1 hx k0 k1 hbW hz hUe ha
    go_enter Tryd.func107, Tryd.ntmps107
    go_upto_region 4 with fail
    rw [← hW]
    clear hW
    go_wp2_with fail
    refine (copy_any 400000 U _ W (by have := HUn.out; omega) (by omega) HX.out).mono ?_
    rintro e w2 ⟨v2, rfl, hv2, hb2⟩
    obtain ⟨E, g, rfl⟩ := hv2.form
    obtain ⟨_, _, f0, f1⟩ := (HK.out.1.below hb2 HK.out.1.lt).facts2
    have HB := Lib.hid (HK.out.2.1.trans (hb2.mono HK.out.2.1.size))
    have HV := Lib.hid (And.intro hv2 hb2)
    clear hb2 hv2
    go_wp2_with fail
    obtain ⟨z0, z1, _, _⟩ := ((HK.out.1.below HV.out.2 HK.out.1.lt).set2 (.int .i64 U.kind) (.slice E U.args.length g)).facts2
    refine bodyPost_ret (v := .tuple #[.agg #[.int .i64 U.kind, .slice E U.args.length g], .int .i64 0]) (by simp [results, Tryd.results107, go_sem, z0, z1]) rfl ?_
    have hz2 := HV.out.2.size
    have hz := HK.out.2.2
    exact infer_end HB.out (by omega) (HV.out.1.keep (fun b h => ⟨by omega, h.2⟩) (fun _ _ => rfl))
  · rw [dif_neg (by simpa using hj)] at htyp
    cases htyp
end Go.Proofs.YtdbkphgamkeboaaDoor
namespace Go.Proofs.YtdbkphgamkeboaaDoor
open Go.RowKit

theorem ctx_grow {X Vw w5 : World} {G : List Ty} {T : Ty} {olds : List Value} {g5 cap5 n : Nat} {x y : Value} (hn : G.length = n) (hc : TyR.Ch (· < X.heap.size) X G olds) (hT : IsTy (· < X.heap.size) X T (.agg #[x, y])) (hV : Below X.heap.size X Vw)
    (hown : w5.ownsRow Vw.heap.size 30 2 (.slice (some ⟨g5, 0, none⟩) (n + 1) cap5) (n + 1) (olds ++ [x, y])) (hg : Vw.grownBy w5 none) : TyR.Sl (· < w5.heap.size) w5 (G ++ [T]) (.slice (some ⟨g5, 0, none⟩) (n + 1) cap5) ∧ Roomy (.slice (some ⟨g5, 0, none⟩) (n + 1) cap5) := by
  subst hn
  have hlt := hown.lt g5 rfl
  have hs := hV.size
  have hc5 : ∀ p : Addr, p.block < X.heap.size → w5.cell? p = X.cell? p := fun p hp => (World.cell?_of_block (hg.block p.block (by omega) (by simp))).trans (hV.cell hp)
  have h1 : TyR.Ch (fun b => (b < X.heap.size) ∧ b < w5.heap.size ∧ (Value.slice (some ⟨g5, 0, none⟩) (G.length + 1) cap5).ownBlock ≠ some b) w5 (G ++ [T]) (olds ++ [x, y]) :=
    (Rep.Ch.append (R := TyR) hc (Rep.Ch.one (R := TyR) (vs := [x, y]) hT)).keep (fun b h => by have h' : b < X.heap.size := h; refine ⟨h', by omega, fun e => ?_⟩; simp [Value.ownBlock] at e; omega) (fun p hp => hc5 p hp)
  have h2 : TyR.Own (· < X.heap.size) Vw.heap.size (.slice (some ⟨g5, 0, none⟩) (G.length + 1) cap5) (G ++ [T]) w5 := ⟨olds ++ [x, y], (show (G ++ [T]).length = G.length + 1 from by simp) ▸ hown, h1⟩
  refine ⟨h2.sl.keep (fun b h => h.2) (fun _ _ => rfl), .inr ⟨_, _, _, rfl, ?_⟩⟩
  rcases hown.2 with ⟨e, _⟩ | ⟨g, cap, cur, e, _, _, hle, _⟩
  · cases e
  · cases e; exact hle

/-- The type below a function's variable, in a block of its own. -/
def LamStep (X : World) (U : Ty) (x y : Value) (wx : World) : Prop :=
  ∃ q A c, x = .pointer (some ⟨q, 0, none⟩) ∧ y = .int .i64 0 ∧ Blk wx q 30 #[.int .i64 U.kind, .slice A U.args.length c] ∧ X.heap.size ≤ q ∧ IsTy (fun b => X.heap.size ≤ b ∧ b < wx.heap.size) wx U (.agg #[.int .i64 U.kind, .slice A U.args.length c]) ∧ Below X.heap.size X wx
theorem lam_set {X V w6 : World} {q c6 : Nat} {U : Ty} {A6 : Option Addr} (hk : Blk w6 q 30 #[.int .i64 0, .slice none 0 0]) (hq : X.heap.size ≤ q) (hqV : q < V.heap.size) (hb : Below X.heap.size X w6)
    (ht : IsTy (fun b => (False ∨ V.heap.size ≤ b) ∧ b < w6.heap.size) w6 U (.agg #[.int .i64 U.kind, .slice A6 U.args.length c6])) :
    LamStep X U (.pointer (some ⟨q, 0, none⟩)) (.int .i64 0) ((w6.setCell ⟨q, 0, none⟩ (.int .i64 U.kind)).setCell ⟨q, 1, none⟩ (.slice A6 U.args.length c6)) ∧ True ∧
      Below X.heap.size X ((w6.setCell ⟨q, 0, none⟩ (.int .i64 U.kind)).setCell ⟨q, 1, none⟩ (.slice A6 U.args.length c6)) := by
  have hg := only_set2 w6 q (.int .i64 U.kind) (.slice A6 U.args.length c6)
  have hB : Below X.heap.size X ((w6.setCell ⟨q, 0, none⟩ (.int .i64 U.kind)).setCell ⟨q, 1, none⟩ (.slice A6 U.args.length c6)) := hb.grown hg hb.size (fun k e => by cases e; exact hq)
  exact ⟨⟨q, A6, c6, rfl, rfl, hk.set2 _ _, hq, IsTy.keep (fun b h => ⟨by rcases h.1 with h | h; exact h.elim; omega, Nat.lt_of_lt_of_le h.2 hg.size⟩) (fun p hp => World.cell?_of_block (hg.block p.block hp.2 (by rcases hp.1 with h | h; exact h.elim; simp; omega))) _ ht, hB⟩, trivial, hB⟩
theorem lam_new {X V w6 : World} {c6 : Nat} {U : Ty} {A6 : Option Addr} (hb : Below X.heap.size X w6) (hV : X.heap.size ≤ V.heap.size) (ht : IsTy (fun b => (False ∨ V.heap.size ≤ b) ∧ b < w6.heap.size) w6 U (.agg #[.int .i64 U.kind, .slice A6 U.args.length c6])) :
    LamStep X U (.pointer (some ⟨w6.heap.size, 0, none⟩)) (.int .i64 0) (w6.alloc (Obj.cells #[.int .i64 U.kind, .slice A6 U.args.length c6] 30)) :=
  ⟨_, A6, c6, rfl, rfl, Blk.new _ _ _, hb.size, IsTy.keep (fun b h => ⟨by rcases h.1 with h | h; exact h.elim; omega, by have := h.2; simp; omega⟩) (fun p hp => World.cell?_alloc_lt _ _ _ hp.2) _ ht, hb.alloc hb.size _⟩

theorem typ_lam {i : Int} {T : Ty} {x : Tm} {G : List Ty} {U : Ty} (h : (Tm.mk 2 i T [x]).typ G = .ok U) : ∃ b, x.typ (G ++ [T]) = .ok b ∧ U = tyFun T b ∧ (tyFun T b).nodes ≤ 64 := by
  unfold Tm.typ at h
  rw [if_neg (by decide), if_pos rfl] at h
  simp only [typAll] at h
  cases hx : x.typ (G ++ [T]) with
  | error e => rw [hx] at h; cases h
  | ok b =>
    rw [hx] at h
    simp only [nodeTy, if_pos] at h
    split at h
    · rename_i h1
      cases h
      exact ⟨b, rfl, rfl, h1⟩
    · cases h

set_option maxRecDepth 100000 in
set_option maxHeartbeats 8000000 in
theorem infer_2 (n : Nat) (hih : InferIH n) (i : Int) (T : Ty) (x : Tm) (G : List Ty) (s v : Value) (U : Ty) (w : World) (hn : (Tm.mk 2 i T [x]).bulk ≤ n + 1) (hok : (Tm.mk 2 i T [x]).ok = true) (hG : ∀ T ∈ G, T.err = 0) (hGn : G.length + n + 1 ≤ 400000)
    (htyp : (Tm.mk 2 i T [x]).typ G = .ok U) (hs : TyR.Sl (· < w.heap.size) w G s) (hfs : Roomy s) (hT : IsTm (· < w.heap.size) w (.mk 2 i T [x]) v) : Calls Tryd.prog 107 #[s, v] w (InferR U w) := by
  obtain ⟨b, htx, hUb, hb64⟩ := typ_lam htyp
  obtain ⟨B, d, A, c, rfl, hTT, hl⟩ := hT.mk_parts
  rw [okT_eq, Bool.and_eq_true] at hok
  have hfk := formed_kind hok.1
  simp only [Tm.kind, Tm.index, Tm.type, Tm.args] at hfk hok
  have hTe : T.err = 0 := hfk.2.2.2.2.2.1 (.inl trivial)
  have hxo : x.ok = true := by have := hok.2; simp only [okAllT, Bool.and_true] at this; exact this
  simp only [Tm.bulk, bulkAll] at hn
  have hGT : ∀ S ∈ G ++ [T], S.err = 0 := fun S hS => by rcases List.mem_append.1 hS with h | h; exact hG S h; rw [List.mem_singleton.1 h]; exact hTe
  have hbe := typ_err x (G ++ [T]) hxo hGT htx
  obtain ⟨X, hX, hbX, hz, hb0, hb1⟩ := box52_facts w (.int .i64 2) (.int .i64 i) (.int .i64 T.kind) (.slice B T.args.length d) (.slice A 1 c)
  have hsX : TyR.Sl (· < X.heap.size) X G s := hs.keep (fun b h => Nat.lt_of_lt_of_le h hbX.size) (fun p hp => hbX.cell hp)
  have hlX : TmR.Sl (· < X.heap.size) X [x] (.slice A 1 c) := hl.keep (fun b h => Nat.lt_of_lt_of_le h hbX.size) (fun p hp => hbX.cell hp)
  obtain ⟨a, rfl, ha, hat⟩ := hlX.get 0 (by simp)
  obtain ⟨B1, d1, A1, c1, q0, q1, q2, q3, q4, hx⟩ := at_tm hat
  rw [Nat.zero_mul, add_zero'] at q0 q1 q2 q3 q4
  simp only [List.getElem_cons_zero] at q0 q1 q2 q3 q4 hx
  have haX : a.block < X.heap.size := ha
  obtain ⟨olds, hol, hom⟩ : ∃ olds : List Value, TyR.Ch (· < X.heap.size) X G olds ∧ ∀ n c b, s = .slice (some b) n c → ∀ j u, olds[j]? = some u → b.block < X.heap.size ∧ X.cell? (b.add j) = some u := by
    by_cases hg0 : G = []
    · subst hg0
      exact ⟨[], Rep.Ch.nil _ _, fun _ _ b _ j u h => by simp at h⟩
    · obtain ⟨A', c', rfl, h⟩ := hsX
      obtain ⟨b, rfl, hbb, har⟩ := h hg0
      obtain ⟨olds, h1, h2⟩ := har.cells
      exact ⟨olds, h1, fun _ _ b' e j u hu => by cases e; exact ⟨hbb, h2 j u hu⟩⟩
  have hTX := hTT.boxed' hbX
  obtain ⟨i0, hi, hz0, hz1, hz2⟩ := info_parts info_type
  have hxb : x.bulk ≤ n := by omega
  have HGC := Lib.hid (And.intro hol hTX)
  have holn : olds.length = G.length * 2 := hol.1
  have hsl := hsX.form
  have HX := Lib.hid (And.intro hxb (And.intro hxo (And.intro hGT (And.intro (show (G ++ [T]).length + n ≤ 400000 by simp; omega) (And.intro htx hx)))))
  have HU := Lib.hid (And.intro hUb (And.intro hb64 (And.intro hbe hTe)))
  unfold InferIH at hih
  have HIH := Lib.hid hih
  have HTX := Lib.hid hTX
  have HK1 := Lib.hid hb1
  have HBX := Lib.hid (And.intro hbX hz)
  have HSK := Lib.hid fun (w' : World) (h : Below X.heap.size X w') => And.intro ((hb0.below h hb0.lt).facts5.2.2.1) (And.intro ((hb0.below h hb0.lt).facts5.2.2.2.1) (And.intro ((hb0.below h hb0.lt).facts5.2.2.2.2.1) (And.intro ((h.cell (p := a) haX).trans q0) (And.intro ((h.cell (p := ⟨a.block, a.off + 1, none⟩) haX).trans q1) (And.intro ((h.cell (p := ⟨a.block, a.off + 2, none⟩) haX).trans q2) (And.intro ((h.cell (p := ⟨a.block, a.off + 3, none⟩) haX).trans q3) ((h.cell (p := ⟨a.block, a.off + 4, none⟩) haX).trans q4)))))))
  have V0 := Lib.hid ((Below.refl X.heap.size X).drew)
  have VL := Lib.hid (((Below.refl X.heap.size X).alloc (Nat.le_refl _) (Obj.cells #[.int .i64 0, .slice none 0 0] 30)).drew)
  have VB := Lib.hid ((Below.refl X.heap.size X).alloc (Nat.le_refl _) (Obj.cells #[.int .i64 T.kind, .slice B T.args.length d] 30))
  have VZ := Lib.hid ((Below.refl X.heap.size X).alloc (Nat.le_refl _) (Obj.cells #[.int .i64 0, .slice none 0 0] 30))
  have V1 := Lib.hid (VB.out.drew)
  have V2 := Lib.hid ((VZ.out.alloc VZ.out.size (Obj.cells #[.int .i64 T.kind, .slice B T.args.length d] 30)).drew)
  have V3 := Lib.hid ((VB.out.alloc VB.out.size (Obj.cells #[.int .i64 0, .slice none 0 0] 30)).drew)
  have KB1 := Lib.hid ((Blk.new X 30 #[.int .i64 T.kind, .slice B T.args.length d]).drew)
  have KB2 := Lib.hid (show Blk ((X.alloc (Obj.cells #[.int .i64 0, .slice none 0 0] 30)).alloc (Obj.cells #[.int .i64 T.kind, .slice B T.args.length d] 30)).drew (X.heap.size + 1) 30 #[.int .i64 T.kind, .slice B T.args.length d] from by have := (Blk.new (X.alloc (Obj.cells #[.int .i64 0, .slice none 0 0] 30)) 30 #[.int .i64 T.kind, .slice B T.args.length d]).drew; rwa [World.size_alloc] at this)
  have KB3 := Lib.hid (((Blk.new X 30 #[.int .i64 T.kind, .slice B T.args.length d]).alloc (Obj.cells #[.int .i64 0, .slice none 0 0] 30)).drew)
  have KL2 := Lib.hid (((Blk.new X 30 #[.int .i64 0, .slice none 0 0]).alloc (Obj.cells #[.int .i64 T.kind, .slice B T.args.length d] 30)).drew)
  have KL3 := Lib.hid (show Blk ((X.alloc (Obj.cells #[.int .i64 T.kind, .slice B T.args.length d] 30)).alloc (Obj.cells #[.int .i64 0, .slice none 0 0] 30)).drew (X.heap.size + 1) 30 #[.int .i64 0, .slice none 0 0] from by have := (Blk.new (X.alloc (Obj.cells #[.int .i64 T.kind, .slice B T.args.length d] 30)) 30 #[.int .i64 0, .slice none 0 0]).drew; rwa [World.size_alloc] at this)
  obtain ⟨As, cG, rfl, hle, hno⟩ : ∃ (As : Option Addr) (cG : Nat), s = .slice As G.length cG ∧ G.length ≤ cG ∧ (As = none → G.length = 0 ∧ G.length = 0) := by
    obtain ⟨As', cs', e⟩ := hsl
    rcases hfs with rfl | ⟨aG, nG, cG, rfl, hle⟩
    · simp at e
      exact ⟨none, 0, by rw [← e.2.1], by omega, fun _ => by omega⟩
    · simp at e
      obtain ⟨_, e, _⟩ := e
      subst e
      exact ⟨_, _, rfl, hle, fun h => by cases h⟩
  have HOL := Lib.hid (And.intro hno (And.intro (show olds.length = G.length * 2 from holn) (fun (b : Addr) (e : As = some b) (j : Nat) (u : Value) (hu : olds[j]? = some u) => (show b.block < X.heap.size ∧ X.cell? (b.add j) = some u from hom G.length cG b (by rw [e]) j u hu))))
  obtain ⟨m0, _, m2, m3, m4, _⟩ := hb0.facts5
  clear hih hG htyp hs hT hTT hl hok hfk hTe hxo hGT hbe hUb hb64 htx hbX hz hb0 hb1 hsX hlX ha hat hx hol hom hTX hn m2 m3 hsl holn
  go_enter Tryd.func107, Tryd.ntmps107
  go_wp2_with fail
  rw [← hX]
  clear hX
  go_cut [6, 7] from 37 to 54 (fun x y wx => LamStep X b x y wx)
  case first =>
    go_region_held3 (fun w' => w'.cell? ⟨w.heap.size, 2, none⟩ = some (.int .i64 T.kind) ∧ w'.cell? ⟨w.heap.size, 3, none⟩ = some (.slice B T.args.length d) ∧ w'.cell? ⟨w.heap.size, 4, none⟩ = some (.slice (some a) 1 c) ∧ w'.cell? a = some (.int .i64 x.kind) ∧ w'.cell? ⟨a.block, a.off + 1, none⟩ = some (.int .i64 x.index) ∧ w'.cell? ⟨a.block, a.off + 2, none⟩ = some (.int .i64 x.type.kind) ∧ w'.cell? ⟨a.block, a.off + 3, none⟩ = some (.slice B1 x.type.args.length d1) ∧ w'.cell? ⟨a.block, a.off + 4, none⟩ = some (.slice A1 x.args.length c1))
      (first | with_reducible exact HSK.out _ V0.out | with_reducible exact HSK.out _ VL.out | with_reducible exact HSK.out _ V1.out | with_reducible exact HSK.out _ V2.out | with_reducible exact HSK.out _ V3.out | with_reducible exact HSK.out _ GA.out | with_reducible exact HSK.out _ GAL.out | with_reducible exact HSK.out _ GC.out | with_reducible exact HSK.out _ GN.out | with_reducible exact HSK.out _ GZ.out | with_reducible exact HSK.out _ GS.out | go_keep)
      (first
          | (go_at_call 107
             (with_reducible refine (HIH.out x (G ++ [T]) (.slice (some ⟨g5, 0, none⟩) (G.length + 1) cap5) _ b (w5.alloc (Obj.cells #[.int .i64 0, .slice none 0 0] 30)) HX.out.1 HX.out.2.1 HX.out.2.2.1 HX.out.2.2.2.1 HX.out.2.2.2.2.1 (HC5.out.1.keep (fun b h => by have h' : b < w5.heap.size := h; simp; omega) (fun p hp => World.cell?_alloc_lt _ _ _ hp)) HC5.out.2 (HX.out.2.2.2.2.2.boxed GAL.out)).mono ?_)
             rintro e w6 ⟨hb6, v6, rfl, ht6⟩
             obtain ⟨A6, c6, rfl⟩ := ht6.form
             have GC := Lib.hid (GAL.out.trans (hb6.mono GAL.out.size))
             have KL6 := Lib.hid (show Blk w6 w5.heap.size 30 #[.int .i64 0, .slice none 0 0] ∧ X.heap.size ≤ w5.heap.size from ⟨(Blk.new w5 30 _).below hb6 (by simp), GA.out.size⟩)
             have END := Lib.hid (lam_set KL6.out.1 KL6.out.2 (by simp : w5.heap.size < (w5.alloc (Obj.cells #[.int .i64 0, .slice none 0 0] 30)).heap.size) GC.out ht6)
             obtain ⟨_, _, f0, f1⟩ := KL6.out.1.facts2
             have GS := Lib.hid (show Below X.heap.size X _ from END.out.2.2)
             clear hb6 ht6)
          | (revert KL5; intro KL5; go_at_call 107
             (with_reducible refine (HIH.out x (G ++ [T]) (.slice (some ⟨g5, 0, none⟩) (G.length + 1) cap5) _ b w5 HX.out.1 HX.out.2.1 HX.out.2.2.1 HX.out.2.2.2.1 HX.out.2.2.2.2.1 HC5.out.1 HC5.out.2 (HX.out.2.2.2.2.2.boxed GA.out)).mono ?_)
             rintro e w6 ⟨hb6, v6, rfl, ht6⟩
             obtain ⟨A6, c6, rfl⟩ := ht6.form
             have GC := Lib.hid (GA.out.trans (hb6.mono GA.out.size))
             have KL6 := Lib.hid (show Blk w6 _ 30 #[.int .i64 0, .slice none 0 0] ∧ X.heap.size ≤ _ from ⟨KL5.out.1.below hb6 KL5.out.1.lt, KL5.out.2⟩)
             have END := Lib.hid (lam_set KL6.out.1 KL6.out.2 (KL5.out.1.lt) GC.out ht6)
             obtain ⟨_, _, f0, f1⟩ := KL6.out.1.facts2
             have GS := Lib.hid (show Below X.heap.size X _ from END.out.2.2)
             clear hb6 ht6)
          | (go_at_call 107
             (with_reducible refine (HIH.out x (G ++ [T]) (.slice (some ⟨g5, 0, none⟩) (G.length + 1) cap5) _ b w5 HX.out.1 HX.out.2.1 HX.out.2.2.1 HX.out.2.2.2.1 HX.out.2.2.2.2.1 HC5.out.1 HC5.out.2 (HX.out.2.2.2.2.2.boxed GA.out)).mono ?_)
             rintro e w6 ⟨hb6, v6, rfl, ht6⟩
             obtain ⟨A6, c6, rfl⟩ := ht6.form
             have GC := Lib.hid (GA.out.trans (hb6.mono GA.out.size))
             have ENDN := Lib.hid (lam_new GC.out GA.out.size ht6)
             have GN := Lib.hid (GC.out.alloc GC.out.size (Obj.cells #[.int .i64 b.kind, .slice A6 b.args.length c6] 30))
             have GZ := Lib.hid (GC.out.alloc GC.out.size (Obj.cells #[.int .i64 0, .slice none 0 0] 30))
             clear hb6 ht6)
          | (refine step_append_grows (w := (X.alloc (Obj.cells #[.int .i64 T.kind, .slice B T.args.length d] 30)).drew) (by rfl) (.tmp 43) (.tmp 46) 27 (by rfl) 30 i0 _ 2 32 Tryd.underlying27 hi hz0 hz1 hz2 rfl (by decide) As G.length G.length olds (by rfl) HOL.out.1 HOL.out.2.1 (fun b e j u hu => (V1.out.cell (p := b.add j) (by rw [add_block]; exact (HOL.out.2.2 b e j u hu).1)).trans (HOL.out.2.2 b e j u hu).2) _ 1 1 [.int .i64 T.kind, .slice B T.args.length d] (by rfl) rfl (World.news_of_block KB1.out) (by simp [Value.oneCell']) (by omega) (by simp only [maxLen]; omega) (by omega) ?_
             intro v5 w5 hown5 hgr5
             obtain ⟨g5, cap5, rfl⟩ := ownsRow_succ hown5
             have HC5 := Lib.hid (ctx_grow (rfl : G.length = G.length) HGC.out.1 HGC.out.2 V1.out hown5 hgr5)
             have GA := Lib.hid (V1.out.grown hgr5 V1.out.size (by simp))
             have GAL := Lib.hid (GA.out.alloc GA.out.size (Obj.cells #[.int .i64 0, .slice none 0 0] 30))
             clear hown5 hgr5)
          | (refine step_append_grows (w := ((X.alloc (Obj.cells #[.int .i64 0, .slice none 0 0] 30)).alloc (Obj.cells #[.int .i64 T.kind, .slice B T.args.length d] 30)).drew) (by rfl) (.tmp 43) (.tmp 46) 27 (by rfl) 30 i0 _ 2 32 Tryd.underlying27 hi hz0 hz1 hz2 rfl (by decide) As G.length G.length olds (by rfl) HOL.out.1 HOL.out.2.1 (fun b e j u hu => (V2.out.cell (p := b.add j) (by rw [add_block]; exact (HOL.out.2.2 b e j u hu).1)).trans (HOL.out.2.2 b e j u hu).2) _ 1 1 [.int .i64 T.kind, .slice B T.args.length d] (by rfl) rfl (World.news_of_block KB2.out) (by simp [Value.oneCell']) (by omega) (by simp only [maxLen]; omega) (by omega) ?_
             intro v5 w5 hown5 hgr5
             obtain ⟨g5, cap5, rfl⟩ := ownsRow_succ hown5
             have HC5 := Lib.hid (ctx_grow (rfl : G.length = G.length) HGC.out.1 HGC.out.2 V2.out hown5 hgr5)
             have GA := Lib.hid (V2.out.grown hgr5 V2.out.size (by simp))
             have GAL := Lib.hid (GA.out.alloc GA.out.size (Obj.cells #[.int .i64 0, .slice none 0 0] 30))
             have KL5 := Lib.hid (show Blk w5 X.heap.size 30 #[.int .i64 0, .slice none 0 0] ∧ X.heap.size ≤ X.heap.size from ⟨KL2.out.grown hgr5 (by simp), by omega⟩)
             clear hown5 hgr5)
          | (refine step_append_grows (w := ((X.alloc (Obj.cells #[.int .i64 T.kind, .slice B T.args.length d] 30)).alloc (Obj.cells #[.int .i64 0, .slice none 0 0] 30)).drew) (by rfl) (.tmp 43) (.tmp 46) 27 (by rfl) 30 i0 _ 2 32 Tryd.underlying27 hi hz0 hz1 hz2 rfl (by decide) As G.length G.length olds (by rfl) HOL.out.1 HOL.out.2.1 (fun b e j u hu => (V3.out.cell (p := b.add j) (by rw [add_block]; exact (HOL.out.2.2 b e j u hu).1)).trans (HOL.out.2.2 b e j u hu).2) _ 1 1 [.int .i64 T.kind, .slice B T.args.length d] (by rfl) rfl (World.news_of_block KB3.out) (by simp [Value.oneCell']) (by omega) (by simp only [maxLen]; omega) (by omega) ?_
             intro v5 w5 hown5 hgr5
             obtain ⟨g5, cap5, rfl⟩ := ownsRow_succ hown5
             have HC5 := Lib.hid (ctx_grow (rfl : G.length = G.length) HGC.out.1 HGC.out.2 V3.out hown5 hgr5)
             have GA := Lib.hid (V3.out.grown hgr5 V3.out.size (by simp))
             have GAL := Lib.hid (GA.out.alloc GA.out.size (Obj.cells #[.int .i64 0, .slice none 0 0] 30))
             have KL5 := Lib.hid (show Blk w5 (X.heap.size + 1) 30 #[.int .i64 0, .slice none 0 0] ∧ X.heap.size ≤ (X.heap.size + 1) from ⟨KL3.out.grown hgr5 (by simp), by omega⟩)
             clear hown5 hgr5))
    all_goals (go_wp2_with fail; go_meet; first | exact END.out.1 | exact ENDN.out)
  case rest =>
    obtain ⟨q, A7, c7, rfl, rfl, hkq, hq, hbT, hbl⟩ := hcut
    obtain ⟨n2, n3, _⟩ := HSK.out _ hbl
    obtain ⟨r0, r1, _, _⟩ := hkq.facts2
    have hTn := err_small HU.out.2.2.2
    have hbn := err_small HU.out.2.2.1
    have hFe : (Ty.mk 4 [T, b]).err = 0 := err_zero.2 ⟨by simp [Ty.ok, okAll, (err_zero.1 HU.out.2.2.2).1, (err_zero.1 HU.out.2.2.1).1], HU.out.2.1⟩
    have HFE := Lib.hid hFe
    have HTw := Lib.hid (HTX.out.boxed' hbl)
    have HBw := Lib.hid (show IsTy (· < wc.heap.size) wc b _ from IsTy.keep (fun b h => h.2) (fun _ _ => rfl) _ hbT)
    have HBL := Lib.hid hbl
    clear hbl hbT hkq hFe HSK V0 VL VB VZ V1 V2 V3 KB1 KB2 KB3 KL2 KL3 HOL HGC HX HIH hfs hno hi hz0 hz1 hz2 q0 q1 q2 q3 q4
    go_wp2_with fail
    refine (fun_any T b _ _ wc (by omega) (by omega) HTw.out HBw.out).mono ?_
    rintro e w8 ⟨v8, rfl, hv8, hb8⟩
    obtain ⟨A8, c8, rfl⟩ := hv8.form
    have HV8 := Lib.hid (show IsTy (fun b => wc.heap.size ≤ b ∧ b < w8.heap.size) w8 (.mk 4 [T, b]) _ from hv8)
    have HB8 := Lib.hid hb8
    clear hv8 hb8
    go_wp2_with fail
    refine (ok2_any (.mk 4 [T, b]) A8 c8 w8 HFE.out (show IsTy (· < w8.heap.size) w8 (.mk 4 [T, b]) _ from IsTy.keep (fun b h => h.2) (fun _ _ => rfl) _ HV8.out)).mono ?_
    rintro e w9 ⟨rfl, hb9⟩
    have HB9 := Lib.hid ((HBL.out.trans (HB8.out.mono HBL.out.size)).trans (hb9.mono (Nat.le_trans HBL.out.size HB8.out.size)))
    have HV9 := Lib.hid (show IsTy (fun b => wc.heap.size ≤ b ∧ b < w9.heap.size) w9 (.mk 4 [T, b]) _ from IsTy.keep (fun b h => ⟨h.1, Nat.lt_of_lt_of_le h.2 hb9.size⟩) (fun x hx => hb9.cell hx.2) _ HV8.out)
    obtain ⟨_, _, f0, f1⟩ := (HK1.out.below HB9.out HK1.out.lt).facts2
    clear hb9
    go_wp2_with fail
    obtain ⟨z0, z1, _, _⟩ := ((HK1.out.below HB9.out HK1.out.lt).set2 (.int .i64 (Ty.mk 4 [T, b]).kind) (.slice A8 (Ty.mk 4 [T, b]).args.length c8)).facts2
    refine bodyPost_ret (v := .tuple #[.agg #[.int .i64 (Ty.mk 4 [T, b]).kind, .slice A8 (Ty.mk 4 [T, b]).args.length c8], .int .i64 0]) (by simp [results, Tryd.results107, go_sem, z0, z1]) rfl ?_
    rw [HU.out.1]
    have hz := HBX.out.2
    have hs9 := HB9.out.size
    have hsc := HBL.out.size
    exact infer_end (U := tyFun T b) (HBX.out.1.trans (HB9.out.mono HBX.out.1.size)) (by omega) (HV9.out.keep (fun b h => ⟨by omega, h.2⟩) (fun _ _ => rfl))
end Go.Proofs.YtdbkphgamkeboaaDoor
namespace Go.Proofs.YtdbkphgamkeboaaDoor
open Go.RowKit

theorem infer_all : ∀ n : Nat, InferIH n
  | 0 => fun t G s v U w hn => by
    obtain ⟨k, i, T, l⟩ := t
    simp only [Tm.bulk] at hn
    omega
  | n + 1 => fun t G s v U w hn hok hG hGn htyp hs hfs hT => by
    have ih := infer_all n
    obtain ⟨k, i, T, l⟩ := t
    have hok' := hok
    rw [okT_eq, Bool.and_eq_true] at hok'
    have hfk := formed_kind hok'.1
    simp only [Tm.kind, Tm.index, Tm.type, Tm.args] at hfk
    obtain ⟨h1, h2, h3⟩ := hfk
    have hk : k = 1 ∨ k = 2 ∨ k = 3 ∨ k = 4 ∨ k = 5 ∨ k = 6 ∨ k = 7 ∨ k = 8 ∨ k = 9 ∨ k = 10 ∨ k = 11 ∨ k = 12 ∨ k = 13 := by omega
    rcases hk with rfl | rfl | rfl | rfl | rfl | rfl | rfl | rfl | rfl | rfl | rfl | rfl | rfl
    · exact infer_1 n i T l G s v U w hok hG (by omega) htyp hs hT
    · have hl : l.length = 1 := by have := h3.1; simpa [arities] using this
      match l, hl with
      | [x], _ => exact infer_2 n ih i T x G s v U w hn hok hG (by omega) htyp hs hfs hT
    · exact infer_3 n ih i T l G s v U w hn hok hG (by omega) htyp hs hfs hT
    · exact infer_4 n ih i T l G s v U w hn hok hG (by omega) htyp hs hfs hT
    · exact infer_5 n ih i T l G s v U w hn hok hG (by omega) htyp hs hfs hT
    · exact infer_6 n ih i T l G s v U w hn hok hG (by omega) htyp hs hfs hT
    · exact infer_7 n ih i T l G s v U w hn hok hG (by omega) htyp hs hfs hT
    · exact infer_8 n ih i T l G s v U w hn hok hG (by omega) htyp hs hfs hT
    · exact infer_9 n ih i T l G s v U w hn hok hG (by omega) htyp hs hfs hT
    · exact infer_10 n ih i T l G s v U w hn hok hG (by omega) htyp hs hfs hT
    · exact infer_11 n ih i T l G s v U w hn hok hG (by omega) htyp hs hfs hT
    · exact infer_12 n ih i T l G s v U w hn hok hG (by omega) htyp hs hfs hT
    · exact infer_13 n ih i T l G s v U w hn hok hG (by omega) htyp hs hfs hT

/-- ref02.infer at a term that has a type. -/
theorem infer_any (t : Tm) (G : List Ty) (s v : Value) (U : Ty) (w : World) (hok : t.ok = true) (hG : ∀ T ∈ G, T.err = 0) (hGn : G.length + t.bulk ≤ 400000) (htyp : t.typ G = .ok U) (hs : TyR.Sl (· < w.heap.size) w G s) (hfs : Roomy s) (hT : IsTm (· < w.heap.size) w t v) :
    Calls Tryd.prog 107 #[s, v] w (InferR U w) := infer_all t.bulk t G s v U w (Nat.le_refl _) hok hG hGn htyp hs hfs hT
end Go.Proofs.YtdbkphgamkeboaaDoor
