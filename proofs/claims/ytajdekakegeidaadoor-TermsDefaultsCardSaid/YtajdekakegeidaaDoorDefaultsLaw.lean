/- The walk of the law on defaults. -/
import Derived.Test.YtajdekakegeidaaDoorSaneT
namespace Go.Proofs.YtajdekakegeidaaDoor
open Go.RowKit

theorem default_is {S : Nat → Prop} {T : Ty} {v : Value} {w : World} (hS : ∀ b, S b → b < w.heap.size) (he : T.err = 0) (hT : IsTy S w T v) :
    Calls Tryd.prog 28 #[v] w fun e w' => ∃ v', e = .returned (.tuple #[v', .int .i64 0]) ∧ IsTm (fun b => (S b ∨ w.heap.size ≤ b) ∧ b < w'.heap.size) w' T.dflt v' ∧ Below w.heap.size w w' := by
  refine (default_any S T v w hS (by have := err_small he; omega) hT).mono ?_
  rintro e w' ⟨h1, h2⟩
  rw [if_pos he] at h2
  obtain ⟨v', h3, h4⟩ := h2
  exact ⟨v', h3, h4, h1⟩
theorem apply_is {f : Tm} {l : List Tm} {v s : Value} {w : World} (he : appErr f l = 0) (htab : Tab w) (hfz : f.bulk ≤ 100000) (hlz : bulkAll l ≤ 100000) (hT : IsTm (· < w.heap.size) w f v) (hl : TmR.Sl (· < w.heap.size) w l s) :
    Calls Tryd.prog 26 #[v, s] w fun e w' => ∃ v', e = .returned (.tuple #[v', .int .i64 0]) ∧ IsTm (· < w'.heap.size) w' (appTm f l) v' ∧ Below w.heap.size w w' := by
  refine (apply_any f l v s w htab hfz hlz hT hl).mono ?_
  rintro e w' ⟨h1, h2⟩
  rw [if_pos he] at h2
  obtain ⟨v', h3, h4⟩ := h2
  exact ⟨v', h3, h4, h1⟩

/-- All that the law needs of the type that is made. -/
theorem law_facts {T : Ty} (hok : T.ok = true) (hn : T.nodes + 1 ≤ 16) : T.err = 0 ∧ T.dflt.typeOf [] = .ok T ∧ T.dflt.bulk ≤ 1000 ∧ (∀ U ∈ T.argsOf, U.err = 0) ∧ T.argsOf.length ≤ 16 ∧ appErr T.dflt (T.argsOf.map Ty.dflt) = 0 ∧
    bulkAll (T.argsOf.map Ty.dflt) ≤ 1000 ∧ (appTm T.dflt (T.argsOf.map Ty.dflt)).typeOf [] = .ok T.res ∧ (appTm T.dflt (T.argsOf.map Ty.dflt)).bulk ≤ 1000 ∧ T.res.nodes ≤ 1000 := by
  have he : T.err = 0 := err_zero.2 ⟨hok, by omega⟩
  obtain ⟨a1, a2, a3, a4⟩ := dflt_facts _ T (Nat.le_refl _) he
  obtain ⟨b1, b2, b3⟩ := args_facts _ T (Nat.le_refl _) he
  obtain ⟨c1, c2, c3, c4⟩ := app_facts _ T T.dflt [] (Nat.le_refl _) he a1 (a4 [])
  obtain ⟨d1, d2, d3⟩ := dfltAll_facts T.argsOf b1
  have e1 : T.dflt.err = 0 := errT_zero.2 ⟨a1, by omega⟩
  have hc : ctxErr [] = 0 := rfl
  refine ⟨he, ?_, by omega, b1, by omega, ?_, by omega, ?_, by omega, by have := err_small b3; omega⟩
  · unfold Tm.typeOf
    rw [if_pos hc, if_pos e1, a4]
  · unfold appErr
    rw [if_pos e1, if_pos (errsT_all d3), if_pos (by rw [List.length_map]; omega)]
  · unfold Tm.typeOf
    rw [if_pos hc, if_pos (errT_zero.2 ⟨c1, by omega⟩), c2]

set_option maxRecDepth 100000 in
set_option maxHeartbeats 1600000 in
theorem defaultsLaw_small (A : Option Addr) (len cap : Nat) (w : World) (htab : Tab w) (hlen : len ≤ 500) (hA : ∀ i, i < len → ∃ a x, A = some a ∧ a.block < w.heap.size ∧ w.cell? (a.add i) = some (.int .i64 x)) :
    Calls Tryd.prog 5 #[.slice A len cap] w fun e w' => e = .returned (.bool true) ∧ Below w.heap.size w w' := by
  have hA' := Lib.hid hA
  have HTab := Lib.hid htab
  clear hA htab
  have e500 : decide ((len : Int) ≤ 500) = true := by simp; omega
  go_enter Tryd.func5, Tryd.ntmps5
  go_wp2_with fail
  refine (saneT_any w HTab.out).mono ?_
  rintro e w1 ⟨rfl, hb1⟩
  go_wp2_with fail
  refine (few_any A len cap w1 (by simp only [maxLen]; omega)).mono ?_
  rintro e w1' ⟨rfl, rfl⟩
  rw [e500]
  go_wp2_with fail
  have hA1 : ∀ i, i < len → ∃ a x, A = some a ∧ a.block < w1.heap.size ∧ w1.cell? (a.add i) = some (.int .i64 x) := fun i hi => by
    obtain ⟨a, x, h1, h2, h3⟩ := hA'.out i hi
    exact ⟨a, x, h1, Nat.lt_of_lt_of_le h2 hb1.size, (hb1.cell (by rw [add_block]; exact h2)).trans h3⟩
  refine (new_any A len cap w1 hlen hA1).mono ?_
  rintro e w2 ⟨rfl, hw2⟩
  have hd2 := new_deck A len cap w1 hlen hA1
  rw [hw2] at hd2
  have hb2 : Below w.heap.size w w2 := by rw [← hw2]; exact hb1.alloc hb1.size _
  have hz2 : w1.heap.size < w2.heap.size := hd2.lt
  clear hw2 hA1
  go_wp2_with fail
  refine (type_any 3 3 w1.heap.size w2 (by omega) (by omega) (by omega) hd2).mono ?_
  rintro e w3 ⟨T, x, rfl, okT, szT, tyT, _, hg3⟩
  have hT3 : IsTy (· < w3.heap.size) w3 T x := IsTy.keep (fun b h => h.2) (fun _ _ => rfl) _ tyT
  have m_w_w3 : Below w.heap.size w w3 := hb2.grown hg3 hb2.size (fun k e => by cases e; exact hb1.size)
  obtain ⟨f1, f2, f3, f4, f5, f6, f7, f8, f9, f10⟩ := law_facts okT szT
  have HF1 := Lib.hid f1
  have HF2 := Lib.hid f2
  have HF4 := Lib.hid f4
  have HF6 := Lib.hid f6
  have HF8 := Lib.hid f8
  obtain ⟨A3, c3, rfl⟩ := hT3.form
  have HT3 := Lib.hid hT3
  clear hd2 hz2 hb1 hb2 hg3 tyT okT szT f1 f2 f4 f6 f8 hT3
  go_wp2_with fail
  obtain ⟨a_W4, z_W4, k_W4⟩ := new_blk (Below.refl w3.heap.size w3) (Nat.le_refl _) #[.int .i64 T.kind, .slice A3 T.args.length c3] 25
  generalize w3.alloc (Obj.cells #[.int .i64 T.kind, .slice A3 T.args.length c3] 25) = W4 at a_W4 z_W4 k_W4 ⊢
  have m_w_W4 : Below w.heap.size w W4 := m_w_w3.trans (a_W4.mono m_w_w3.size)
  clear m_w_w3
  have m_W4_W4 : Below W4.heap.size W4 W4 := Below.refl _ _
  have HT4 := Lib.hid (HT3.out.boxed a_W4)
  refine (default_is (S := (· < W4.heap.size)) (fun _ h => h) HF1.out HT4.out).mono ?_
  rintro e w5 ⟨v5, rfl, ht5, hb5⟩
  obtain ⟨B5, d5, A5, c5, rfl, _⟩ := ht5.form
  have m_w_w5 : Below w.heap.size w w5 := m_w_W4.trans (hb5.mono m_w_W4.size)
  have m_W4_w5 : Below W4.heap.size W4 w5 := m_W4_W4.trans (hb5.mono m_W4_W4.size)
  clear m_w_W4 m_W4_W4
  have HX5 := Lib.hid (IsTm.keep (S' := (· < w5.heap.size)) (fun b h => h.2) (fun _ _ => rfl) _ ht5)
  clear ht5 hb5
  go_wp2_with fail
  obtain ⟨a_W6, z_W6, k_W6⟩ := new_blk (Below.refl w5.heap.size w5) (Nat.le_refl _) #[.int .i64 T.dflt.kind, .int .i64 T.dflt.index, .int .i64 T.dflt.type.kind, .slice B5 T.dflt.type.args.length d5, .slice A5 T.dflt.args.length c5] 28
  generalize w5.alloc (Obj.cells #[.int .i64 T.dflt.kind, .int .i64 T.dflt.index, .int .i64 T.dflt.type.kind, .slice B5 T.dflt.type.args.length d5, .slice A5 T.dflt.args.length c5] 28) = W6 at a_W6 z_W6 k_W6 ⊢
  have m_w_W6 : Below w.heap.size w W6 := m_w_w5.trans (a_W6.mono m_w_w5.size)
  have m_W4_W6 : Below W4.heap.size W4 W6 := m_W4_w5.trans (a_W6.mono m_W4_w5.size)
  clear m_w_w5 m_W4_w5
  have m_W6_W6 : Below W6.heap.size W6 W6 := Below.refl _ _
  have HX6 := Lib.hid (HX5.out.boxed a_W6)
  refine (typeTop_is (t := T.dflt) (g := []) HF2.out (HTab.out.after m_w_W6) (by omega) (by simp [nodesAll]) (by simp) (fun _ => rfl) (Rep.Sl.nil _ _) HX6.out).mono ?_
  rintro e w7 ⟨v7, rfl, ht7, hb7⟩
  obtain ⟨A7, c7, rfl⟩ := ht7.form
  have m_w_w7 : Below w.heap.size w w7 := m_w_W6.trans (hb7.mono m_w_W6.size)
  have m_W4_w7 : Below W4.heap.size W4 w7 := m_W4_W6.trans (hb7.mono m_W4_W6.size)
  have m_W6_w7 : Below W6.heap.size W6 w7 := m_W6_W6.trans (hb7.mono m_W6_W6.size)
  clear m_w_W6 m_W4_W6 m_W6_W6
  have HX7 := Lib.hid ht7
  have a0 := fun o => ((k_W4.below m_W4_w7 k_W4.lt).alloc o).facts2.1
  have a1 := fun o => ((k_W4.below m_W4_w7 k_W4.lt).alloc o).facts2.2.1
  clear ht7 hb7
  go_wp2_with fail
  clear a0 a1
  obtain ⟨a_W8, z_W8, k_W8⟩ := new_blk (Below.refl w7.heap.size w7) (Nat.le_refl _) #[.int .i64 T.kind, .slice A7 T.args.length c7] 25
  generalize w7.alloc (Obj.cells #[.int .i64 T.kind, .slice A7 T.args.length c7] 25) = W8 at a_W8 z_W8 k_W8 ⊢
  have m_w_W8 : Below w.heap.size w W8 := m_w_w7.trans (a_W8.mono m_w_w7.size)
  have m_W4_W8 : Below W4.heap.size W4 W8 := m_W4_w7.trans (a_W8.mono m_W4_w7.size)
  have m_W6_W8 : Below W6.heap.size W6 W8 := m_W6_w7.trans (a_W8.mono m_W6_w7.size)
  clear m_w_w7 m_W4_w7 m_W6_w7
  have m_W8_W8 : Below W8.heap.size W8 W8 := Below.refl _ _
  have HX8 := Lib.hid (HX7.out.boxed a_W8)
  refine (refResult_any T _ W8 HF1.out (HT4.out.boxed m_W4_W8)).mono ?_
  rintro e w9 ⟨hb9, s9, v9, rfl, hs9, hv9⟩
  obtain ⟨A9, c9, rfl⟩ := hs9.form
  obtain ⟨A10, c10, rfl⟩ := hv9.form
  have m_w_w9 : Below w.heap.size w w9 := m_w_W8.trans (hb9.mono m_w_W8.size)
  have m_W4_w9 : Below W4.heap.size W4 w9 := m_W4_W8.trans (hb9.mono m_W4_W8.size)
  have m_W6_w9 : Below W6.heap.size W6 w9 := m_W6_W8.trans (hb9.mono m_W6_W8.size)
  have m_W8_w9 : Below W8.heap.size W8 w9 := m_W8_W8.trans (hb9.mono m_W8_W8.size)
  clear m_w_W8 m_W4_W8 m_W6_W8 m_W8_W8
  have HS9 := Lib.hid hs9
  have HV9 := Lib.hid hv9
  clear hs9 hv9 hb9
  go_wp2_with fail
  obtain ⟨a_W10, z_W10, k_W10⟩ := new_blk (Below.refl w9.heap.size w9) (Nat.le_refl _) #[.int .i64 T.res.kind, .slice A10 T.res.args.length c10] 25
  generalize w9.alloc (Obj.cells #[.int .i64 T.res.kind, .slice A10 T.res.args.length c10] 25) = W10 at a_W10 z_W10 k_W10 ⊢
  have m_w_W10 : Below w.heap.size w W10 := m_w_w9.trans (a_W10.mono m_w_w9.size)
  have m_W4_W10 : Below W4.heap.size W4 W10 := m_W4_w9.trans (a_W10.mono m_W4_w9.size)
  have m_W6_W10 : Below W6.heap.size W6 W10 := m_W6_w9.trans (a_W10.mono m_W6_w9.size)
  have m_W8_W10 : Below W8.heap.size W8 W10 := m_W8_w9.trans (a_W10.mono m_W8_w9.size)
  clear m_w_w9 m_W4_w9 m_W6_w9 m_W8_w9
  have m_W10_W10 : Below W10.heap.size W10 W10 := Below.refl _ _
  have HS10 := Lib.hid (HS9.out.keep (S' := (· < W10.heap.size)) (fun b h => Nat.lt_of_lt_of_le h a_W10.size) (fun p hp => a_W10.cell hp))
  have HV10 := Lib.hid (HV9.out.boxed a_W10)
  have k5u := k_W10
  have HF5 := Lib.hid f5
  go_loopw [12, 48] (fun s ix wr => ∃ j : Nat, j ≤ T.argsOf.length ∧ ix = .int .i64 j ∧ TmR.Own (fun _ => True) W10.heap.size s ((T.argsOf.take j).map Ty.dflt) wr ∧ Below W10.heap.size W10 wr) (fun _ ix _ => T.argsOf.length - (intOf ix).toNat)
  case atStart => exact ⟨0, by omega, rfl, Rep.Own.nil _ _ _, Below.refl _ _⟩
  case round =>
    obtain ⟨j, hj, rfl, hown, hbr⟩ := hrel
    have hrs := hbr.size
    have HO := Lib.hid hown
    clear hown
    by_cases hlt : j < T.argsOf.length
    · have hl1 : TyR.Sl (· < W10.heap.size) wr T.argsOf (.slice A9 T.argsOf.length c9) := HS10.out.keep (fun _ h => h) (fun p hp => hbr.cell hp)
      obtain ⟨a, rfl, ha, hat⟩ := hl1.get j hlt
      obtain ⟨A1, c1, q0, q1, hx⟩ := at_ty hat
      simp only [show TyR.n = 2 from rfl] at q0 q1
      have hUe := HF4.out T.argsOf[j] (List.getElem_mem _)
      have hbx := below_box wr (Obj.cells #[.int .i64 T.argsOf[j].kind, .slice A1 T.argsOf[j].args.length c1] 25)
      have hx1 : IsTy (· < W10.heap.size) _ T.argsOf[j] _ := IsTy.keep (fun _ h => h) (fun p hp => hbx.cell (Nat.lt_of_lt_of_le hp hrs)) _ hx
      have hlen : ((T.argsOf.take j).map Ty.dflt).length = j := by simp; omega
      have HX := Lib.hid (And.intro hx1 (And.intro hbx (And.intro hUe hlen)))
      obtain ⟨i0, hi, hz0, hz1, hz2⟩ := info_parts info_term
      clear hl1 hat hx hx1 hbx hUe hlen
      go_wp2_with fail
      refine (default_is (S := (· < W10.heap.size)) (fun b h => by have := HX.out.2.1.size; have h : b < W10.heap.size := h; omega) HX.out.2.2.1 HX.out.1).mono ?_
      rintro e wb ⟨vb, rfl, htb, hbb⟩
      obtain ⟨Bb, db, Ab, cb, rfl, _⟩ := htb.form
      have hbwb : Below wr.heap.size wr wb := HX.out.2.1.trans (hbb.mono HX.out.2.1.size)
      have hwb := hbwb.size
      have HTB := Lib.hid htb
      obtain ⟨a_c, z_c, k_c⟩ := new_blk hbwb hwb #[.int .i64 T.argsOf[j].dflt.kind, .int .i64 T.argsOf[j].dflt.index, .int .i64 T.argsOf[j].dflt.type.kind, .slice Bb T.argsOf[j].dflt.type.args.length db, .slice Ab T.argsOf[j].dflt.args.length cb] 28
      have htc : IsTm (fun b => (b < W10.heap.size ∨ wr.heap.size ≤ b) ∧ b < (wb.alloc (Obj.cells #[.int .i64 T.argsOf[j].dflt.kind, .int .i64 T.argsOf[j].dflt.index, .int .i64 T.argsOf[j].dflt.type.kind, .slice Bb T.argsOf[j].dflt.type.args.length db, .slice Ab T.argsOf[j].dflt.args.length cb] 28)).heap.size) (wb.alloc (Obj.cells #[.int .i64 T.argsOf[j].dflt.kind, .int .i64 T.argsOf[j].dflt.index, .int .i64 T.argsOf[j].dflt.type.kind, .slice Bb T.argsOf[j].dflt.type.args.length db, .slice Ab T.argsOf[j].dflt.args.length cb] 28)) T.argsOf[j].dflt (.agg #[.int .i64 T.argsOf[j].dflt.kind, .int .i64 T.argsOf[j].dflt.index, .int .i64 T.argsOf[j].dflt.type.kind, .slice Bb T.argsOf[j].dflt.type.args.length db, .slice Ab T.argsOf[j].dflt.args.length cb]) :=
        IsTm.keep (fun b h => ⟨h.1.imp id (fun h => Nat.le_trans HX.out.2.1.size h), by have := h.2; omega⟩) (fun p hp => World.cell?_alloc_lt _ _ _ hp.2) _ htb
      obtain ⟨xs, hxo, hxc⟩ := HO.out.below a_c
      have hxo1 := hxo.alloc (Obj.cells #[.int .i64 T.argsOf[j].dflt.kind, .int .i64 T.argsOf[j].dflt.index, .int .i64 T.argsOf[j].dflt.type.kind, .slice Bb T.argsOf[j].dflt.type.args.length db, .slice Ab T.argsOf[j].dflt.args.length cb] 28)
      have hzo : (wb.alloc (Obj.cells #[.int .i64 T.argsOf[j].dflt.kind, .int .i64 T.argsOf[j].dflt.index, .int .i64 T.argsOf[j].dflt.type.kind, .slice Bb T.argsOf[j].dflt.type.args.length db, .slice Ab T.argsOf[j].dflt.args.length cb] 28)).heap.size = wb.heap.size + 1 := z_c
      have hnews := cells_new (wb.alloc (Obj.cells #[.int .i64 T.argsOf[j].dflt.kind, .int .i64 T.argsOf[j].dflt.index, .int .i64 T.argsOf[j].dflt.type.kind, .slice Bb T.argsOf[j].dflt.type.args.length db, .slice Ab T.argsOf[j].dflt.args.length cb] 28)) #[.int .i64 T.argsOf[j].dflt.kind, .int .i64 T.argsOf[j].dflt.index, .int .i64 T.argsOf[j].dflt.type.kind, .slice Bb T.argsOf[j].dflt.type.args.length db, .slice Ab T.argsOf[j].dflt.args.length cb] 28
      rw [hzo] at hnews
      have HXC := Lib.hid (And.intro hxc (And.intro a_c (And.intro z_c (And.intro htc hnews))))
      clear htb hxc a_c z_c k_c htc hnews hzo
      go_wp2_with (at_builtin; go_loud (refine wpList_append_own_at _ rfl _ _ 26 rfl W10.heap.size 28 i0 _ 5 72 Tryd.underlying26 hi hz0 hz1 hz2 rfl (by decide) u12 ((T.argsOf.take j).map Ty.dflt).length xs rfl hxo1 ⟨wb.heap.size + 1, 0, none⟩ 1 1 [_, _, _, _, _] rfl rfl HXC.out.2.2.2.2 (by simp [Value.oneCell']) (by have h1 := HX.out.2.2.2; have h2 := HF5.out; simp only [maxLen]; omega) (by have h1 := HX.out.2.2.2; have h2 := HF5.out; omega) (by simp; omega) ?_); intro v2 w2 hown2 hg2 hnil2 hat2)
      obtain ⟨hxc, a_c, z_c, htc, _⟩ := HXC.out
      have hlt12 := HO.out.lt
      refine ⟨⟨j + 1, by omega, by go_num, ?_, ?_⟩, by simp [intOf]; omega⟩
      · rw [List.take_succ_eq_append_getElem hlt, List.map_append]
        refine Rep.Own.more (R := TmR) (m := [T.argsOf[j].dflt]) hxo1 (hxc.keep (fun b hb => ⟨trivial, by have := hb.2.1; simp; omega, hb.2.2⟩) (fun p hp => World.cell?_alloc_lt _ _ _ hp.2.1))
          (tm_one (IsTm.keep (fun b hb => ⟨trivial, by have := hb.2; simp; omega, fun e => by have h1 := hlt12 _ e; have h2 := hb.1; omega⟩) (fun p hp => World.cell?_alloc_lt _ _ _ hp.2) _ htc)) hown2 hg2 hat2
      · have h1 : Below W10.heap.size W10 (wb.alloc (Obj.cells #[.int .i64 T.argsOf[j].dflt.kind, .int .i64 T.argsOf[j].dflt.index, .int .i64 T.argsOf[j].dflt.type.kind, .slice Bb T.argsOf[j].dflt.type.args.length db, .slice Ab T.argsOf[j].dflt.args.length cb] 28)) := hbr.trans (a_c.mono hrs)
        exact (h1.alloc h1.size _).grown hg2 (by have := h1.size; simp; omega) (fun k e => (hlt12 k e).1)
    · have hjl : j = T.argsOf.length := by omega
      subst hjl
      rw [List.take_length] at HO
      have m_w_wr : Below w.heap.size w wr := m_w_W10.trans (hbr.mono m_w_W10.size)
      have m_W4_wr : Below W4.heap.size W4 wr := m_W4_W10.trans (hbr.mono m_W4_W10.size)
      have m_W6_wr : Below W6.heap.size W6 wr := m_W6_W10.trans (hbr.mono m_W6_W10.size)
      have m_W8_wr : Below W8.heap.size W8 wr := m_W8_W10.trans (hbr.mono m_W8_W10.size)
      have m_W10_wr : Below W10.heap.size W10 wr := m_W10_W10.trans (hbr.mono m_W10_W10.size)
      clear m_w_W10 m_W4_W10 m_W6_W10 m_W8_W10 m_W10_W10
      have hsl := HO.out.sl.keep (S' := (· < wr.heap.size)) (fun b h => h.2) (fun _ _ => rfl)
      obtain ⟨A12, c12, e12⟩ := hsl.form
      rw [List.length_map] at e12
      subst e12
      have HSL := Lib.hid hsl
      obtain ⟨q0, q1, q2, q3, q4⟩ := (k_W6.below m_W6_wr k_W6.lt).cells5
      clear hsl
      go_wp2_with fail
      clear q0 q1 q2 q3 q4
      refine (apply_is HF6.out (HTab.out.after m_w_wr) (by omega) (by omega) (HX6.out.boxed m_W6_wr) HSL.out).mono ?_
      rintro e w11 ⟨v11, rfl, ht11, hb11⟩
      obtain ⟨B11, d11, A11, c11, rfl, _⟩ := ht11.form
      have m_w_w11 : Below w.heap.size w w11 := m_w_wr.trans (hb11.mono m_w_wr.size)
      have m_W4_w11 : Below W4.heap.size W4 w11 := m_W4_wr.trans (hb11.mono m_W4_wr.size)
      have m_W6_w11 : Below W6.heap.size W6 w11 := m_W6_wr.trans (hb11.mono m_W6_wr.size)
      have m_W8_w11 : Below W8.heap.size W8 w11 := m_W8_wr.trans (hb11.mono m_W8_wr.size)
      have m_W10_w11 : Below W10.heap.size W10 w11 := m_W10_wr.trans (hb11.mono m_W10_wr.size)
      clear m_w_wr m_W4_wr m_W6_wr m_W8_wr m_W10_wr
      have HX11 := Lib.hid ht11
      clear ht11 hb11
      go_wp2_with fail
      obtain ⟨a_W12, z_W12, k_W12⟩ := new_blk (Below.refl w11.heap.size w11) (Nat.le_refl _) #[.int .i64 (appTm T.dflt (T.argsOf.map Ty.dflt)).kind, .int .i64 (appTm T.dflt (T.argsOf.map Ty.dflt)).index, .int .i64 (appTm T.dflt (T.argsOf.map Ty.dflt)).type.kind, .slice B11 (appTm T.dflt (T.argsOf.map Ty.dflt)).type.args.length d11, .slice A11 (appTm T.dflt (T.argsOf.map Ty.dflt)).args.length c11] 28
      generalize w11.alloc (Obj.cells #[.int .i64 (appTm T.dflt (T.argsOf.map Ty.dflt)).kind, .int .i64 (appTm T.dflt (T.argsOf.map Ty.dflt)).index, .int .i64 (appTm T.dflt (T.argsOf.map Ty.dflt)).type.kind, .slice B11 (appTm T.dflt (T.argsOf.map Ty.dflt)).type.args.length d11, .slice A11 (appTm T.dflt (T.argsOf.map Ty.dflt)).args.length c11] 28) = W12 at a_W12 z_W12 k_W12 ⊢
      have m_w_W12 : Below w.heap.size w W12 := m_w_w11.trans (a_W12.mono m_w_w11.size)
      have m_W4_W12 : Below W4.heap.size W4 W12 := m_W4_w11.trans (a_W12.mono m_W4_w11.size)
      have m_W6_W12 : Below W6.heap.size W6 W12 := m_W6_w11.trans (a_W12.mono m_W6_w11.size)
      have m_W8_W12 : Below W8.heap.size W8 W12 := m_W8_w11.trans (a_W12.mono m_W8_w11.size)
      have m_W10_W12 : Below W10.heap.size W10 W12 := m_W10_w11.trans (a_W12.mono m_W10_w11.size)
      clear m_w_w11 m_W4_w11 m_W6_w11 m_W8_w11 m_W10_w11
      have m_W12_W12 : Below W12.heap.size W12 W12 := Below.refl _ _
      have HX12 := Lib.hid (HX11.out.boxed a_W12)
      refine (typeTop_is (t := appTm T.dflt (T.argsOf.map Ty.dflt)) (g := []) HF8.out (HTab.out.after m_w_W12) (by omega) (by simp [nodesAll]) (by simp) (fun _ => rfl) (Rep.Sl.nil _ _) HX12.out).mono ?_
      rintro e w13 ⟨v13, rfl, ht13, hb13⟩
      obtain ⟨A13, c13, rfl⟩ := ht13.form
      have m_w_w13 : Below w.heap.size w w13 := m_w_W12.trans (hb13.mono m_w_W12.size)
      have m_W4_w13 : Below W4.heap.size W4 w13 := m_W4_W12.trans (hb13.mono m_W4_W12.size)
      have m_W6_w13 : Below W6.heap.size W6 w13 := m_W6_W12.trans (hb13.mono m_W6_W12.size)
      have m_W8_w13 : Below W8.heap.size W8 w13 := m_W8_W12.trans (hb13.mono m_W8_W12.size)
      have m_W10_w13 : Below W10.heap.size W10 w13 := m_W10_W12.trans (hb13.mono m_W10_W12.size)
      have m_W12_w13 : Below W12.heap.size W12 w13 := m_W12_W12.trans (hb13.mono m_W12_W12.size)
      clear m_w_W12 m_W4_W12 m_W6_W12 m_W8_W12 m_W10_W12 m_W12_W12
      have HX13 := Lib.hid ht13
      have a0 := fun o => ((k_W8.below m_W8_w13 k_W8.lt).alloc o).facts2.1
      have a1 := fun o => ((k_W8.below m_W8_w13 k_W8.lt).alloc o).facts2.2.1
      have b0 := fun o => ((k_W4.below m_W4_w13 k_W4.lt).alloc o).facts2.1
      have b1 := fun o => ((k_W4.below m_W4_w13 k_W4.lt).alloc o).facts2.2.1
      clear ht13 hb13
      go_wp2_with fail
      clear a0 a1 b0 b1
      obtain ⟨a_W14, z_W14, k_W14⟩ := new_blk (Below.refl w13.heap.size w13) (Nat.le_refl _) #[.int .i64 T.res.kind, .slice A13 T.res.args.length c13] 25
      generalize w13.alloc (Obj.cells #[.int .i64 T.res.kind, .slice A13 T.res.args.length c13] 25) = W14 at a_W14 z_W14 k_W14 ⊢
      have m_w_W14 : Below w.heap.size w W14 := m_w_w13.trans (a_W14.mono m_w_w13.size)
      have m_W4_W14 : Below W4.heap.size W4 W14 := m_W4_w13.trans (a_W14.mono m_W4_w13.size)
      have m_W6_W14 : Below W6.heap.size W6 W14 := m_W6_w13.trans (a_W14.mono m_W6_w13.size)
      have m_W8_W14 : Below W8.heap.size W8 W14 := m_W8_w13.trans (a_W14.mono m_W8_w13.size)
      have m_W10_W14 : Below W10.heap.size W10 W14 := m_W10_w13.trans (a_W14.mono m_W10_w13.size)
      have m_W12_W14 : Below W12.heap.size W12 W14 := m_W12_w13.trans (a_W14.mono m_W12_w13.size)
      clear m_w_w13 m_W4_w13 m_W6_w13 m_W8_w13 m_W10_w13 m_W12_w13
      have m_W14_W14 : Below W14.heap.size W14 W14 := Below.refl _ _
      have HX14 := Lib.hid (HX13.out.boxed a_W14)
      refine (refSame_is true (eqb_self T) (by have := err_small HF1.out; omega) (by have := err_small HF1.out; omega) (HX8.out.boxed m_W8_W14) (HT4.out.boxed m_W4_W14)).mono ?_
      rintro e w15 ⟨rfl, hb15⟩
      have m_w_w15 : Below w.heap.size w w15 := m_w_W14.trans (hb15.mono m_w_W14.size)
      have m_W4_w15 : Below W4.heap.size W4 w15 := m_W4_W14.trans (hb15.mono m_W4_W14.size)
      have m_W6_w15 : Below W6.heap.size W6 w15 := m_W6_W14.trans (hb15.mono m_W6_W14.size)
      have m_W8_w15 : Below W8.heap.size W8 w15 := m_W8_W14.trans (hb15.mono m_W8_W14.size)
      have m_W10_w15 : Below W10.heap.size W10 w15 := m_W10_W14.trans (hb15.mono m_W10_W14.size)
      have m_W12_w15 : Below W12.heap.size W12 w15 := m_W12_W14.trans (hb15.mono m_W12_W14.size)
      have m_W14_w15 : Below W14.heap.size W14 w15 := m_W14_W14.trans (hb15.mono m_W14_W14.size)
      clear m_w_W14 m_W4_W14 m_W6_W14 m_W8_W14 m_W10_W14 m_W12_W14 m_W14_W14
      obtain ⟨a0, a1, _, _⟩ := (k_W14.below m_W14_w15 k_W14.lt).facts2
      obtain ⟨b0, b1, _, _⟩ := (k_W10.below m_W10_w15 k_W10.lt).facts2
      go_wp2_with fail
      refine (refSame_is true (eqb_self T.res) (by omega) (by omega) (HX14.out.boxed m_W14_w15) (HV10.out.boxed m_W10_w15)).mono ?_
      rintro e w16 ⟨rfl, hb16⟩
      go_wp2_with fail
      go_ret
      exact ⟨rfl, m_w_w15.trans (hb16.mono m_w_w15.size)⟩
end Go.Proofs.YtajdekakegeidaaDoor
