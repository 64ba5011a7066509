/- mk.App: a function applied to arguments. -/
import Derived.Test.YtieafbmabnohhaaDoorMakeT
namespace Go.Proofs.YtieafbmabnohhaaDoor
open Go.RowKit

/-- A function applied to arguments. -/
def appMk (f : Tm) (l : List Tm) : Tm := l.foldl (fun f a => .mk 3 0 .zero [f, a]) f
theorem appMk_take {f : Tm} {l : List Tm} {j : Nat} (hj : j < l.length) : appMk f (l.take (j + 1)) = .mk 3 0 .zero [appMk f (l.take j), l[j]] := by
  unfold appMk
  rw [List.take_succ_eq_append_getElem hj, List.foldl_append]
  rfl
theorem appMk_bulk (f : Tm) (l : List Tm) : (appMk f l).bulk = f.bulk + bulkAll l + 2 * l.length := by
  induction l generalizing f with
  | nil => simp [appMk, bulkAll]
  | cons x r ih =>
    have := ih (.mk 3 0 .zero [f, x])
    simp only [appMk, List.foldl_cons] at this ⊢
    rw [this]
    simp only [Tm.bulk, bulkAll, Ty.zero, Ty.nodes, nodesAll, List.length_cons]
    omega

/-- What lies in the two blocks of App, after j arguments. -/
def AppMkRel (w : World) (f : Tm) (l : List Tm) (j : Nat) (wr : World) : Prop :=
  ∃ B d A c, Blk wr w.heap.size 34 #[.int .i64 (appMk f (l.take j)).kind, .int .i64 (appMk f (l.take j)).index, .int .i64 (appMk f (l.take j)).type.kind, .slice B (appMk f (l.take j)).type.args.length d, .slice A (appMk f (l.take j)).args.length c] ∧
    IsTm (fun b => ((j = 0 ∧ b < w.heap.size) ∨ w.heap.size + 2 ≤ b) ∧ b < wr.heap.size) wr (appMk f (l.take j)) (.agg #[.int .i64 (appMk f (l.take j)).kind, .int .i64 (appMk f (l.take j)).index, .int .i64 (appMk f (l.take j)).type.kind, .slice B (appMk f (l.take j)).type.args.length d, .slice A (appMk f (l.take j)).args.length c]) ∧
    Blk wr (w.heap.size + 1) 34 #[.int .i64 0, .int .i64 0, .int .i64 0, .slice none 0 0, .slice none 0 0] ∧ Below w.heap.size w wr

/-- The slice that N is called with. -/
theorem appMk_arg {S : Nat → Prop} {wr : World} {F X : Tm} {g0 g1 g2 g3 g4 a0 a1 a2 a3 a4 : Value} (hS : ∀ b, S b → b < wr.heap.size)
    (hf : IsTm S wr F (.agg #[g0, g1, g2, g3, g4])) (ha : IsTm S wr X (.agg #[a0, a1, a2, a3, a4])) (m : Nat) (hm : m = wr.heap.size + 1) :
    TmR.Sl (· < ((wr.alloc (.cells #[a0, a1, a2, a3, a4] 34)).alloc (.cells #[g0, g1, g2, g3, g4, a0, a1, a2, a3, a4] 34)).heap.size)
      ((wr.alloc (.cells #[a0, a1, a2, a3, a4] 34)).alloc (.cells #[g0, g1, g2, g3, g4, a0, a1, a2, a3, a4] 34)) [F, X] (.slice (some ⟨m, 0, none⟩) 2 2) ∧
    Below wr.heap.size wr ((wr.alloc (.cells #[a0, a1, a2, a3, a4] 34)).alloc (.cells #[g0, g1, g2, g3, g4, a0, a1, a2, a3, a4] 34)) := by
  subst hm
  have s1 := World.size_alloc wr (.cells #[a0, a1, a2, a3, a4] 34)
  have b1 : Below wr.heap.size wr (wr.alloc (.cells #[a0, a1, a2, a3, a4] 34)) := (Below.refl _ _).alloc (Nat.le_refl _) _
  have k1 : ∀ {Y : Tm} {v : Value}, IsTm S wr Y v → IsTm S (wr.alloc (.cells #[a0, a1, a2, a3, a4] 34)) Y v := fun h => IsTm.keep (fun _ h => h) (fun p hp => World.cell?_alloc_lt _ _ _ (hS _ hp)) _ h
  have hf1 := k1 hf
  have ha1 := k1 ha
  clear k1
  generalize wr.alloc (.cells #[a0, a1, a2, a3, a4] 34) = W1 at s1 b1 hf1 ha1 ⊢
  have hc : TmR.Ch S W1 [F, X] ([g0, g1, g2, g3, g4] ++ [a0, a1, a2, a3, a4]) := Rep.Ch.append (R := TmR) (l := [F]) (Rep.Ch.one (R := TmR) (vs := [g0, g1, g2, g3, g4]) hf1) (Rep.Ch.one (R := TmR) (vs := [a0, a1, a2, a3, a4]) ha1)
  have hsl := Rep.Sl.built (R := TmR) hc (fun b hb => by have := hS b hb; omega) (· < (W1.alloc (.cells #[g0, g1, g2, g3, g4, a0, a1, a2, a3, a4] 34)).heap.size) (fun b hb => by have := hS b hb; simp; omega) (by simp)
  rw [s1] at hsl
  exact ⟨hsl, b1.alloc b1.size _⟩

theorem appMk_after {w wr W w3 : World} {f : Tm} {l : List Tm} {j : Nat} {g0 g1 g2 g3 g4 : Value} {B A : Option Addr} {d c nb na : Nat} (hj : j < l.length) (hb : Blk wr w.heap.size 34 #[g0, g1, g2, g3, g4])
    (k1 : Blk wr (w.heap.size + 1) 34 #[.int .i64 0, .int .i64 0, .int .i64 0, .slice none 0 0, .slice none 0 0]) (hbel : Below w.heap.size w wr) (hW : Below wr.heap.size wr W) (h3 : Below W.heap.size W w3)
    (ht : IsTm (fun b => W.heap.size ≤ b ∧ b < w3.heap.size) w3 (.mk 3 0 .zero [appMk f (l.take j), l[j]]) (.agg #[.int .i64 3, .int .i64 0, .int .i64 0, .slice B nb d, .slice A na c])) (hnb : nb = 0) (hna : na = 2) :
    AppMkRel w f l (j + 1) (((((w3.setCell ⟨w.heap.size, 0, none⟩ (.int .i64 3)).setCell ⟨w.heap.size, 1, none⟩ (.int .i64 0)).setCell ⟨w.heap.size, 2, none⟩ (.int .i64 0)).setCell ⟨w.heap.size, 3, none⟩ (.slice B nb d)).setCell ⟨w.heap.size, 4, none⟩ (.slice A na c)) := by
  subst hnb hna
  have hz := hbel.size
  have hz1 := k1.lt
  have hz2 := hW.size
  have hz3 := h3.size
  have hb3 : Below wr.heap.size wr w3 := hW.trans (h3.mono hz2)
  have hg := only_set5 w3 w.heap.size (.int .i64 3) (.int .i64 0) (.int .i64 0) (.slice B 0 d) (.slice A 2 c)
  have kx := (hb.below hb3 hb.lt).set5 (.int .i64 3) (.int .i64 0) (.int .i64 0) (.slice B 0 d) (.slice A 2 c)
  have hs := hg.size
  unfold AppMkRel
  rw [appMk_take hj]
  refine ⟨B, d, A, c, kx, IsTm.keep (fun b h => by omega) (fun p hp => World.cell?_of_block (hg.block p.block (by omega) (by simp; omega))) _ ht, (k1.below hb3 hz1).grown hg (by simp),
    (hbel.trans (hb3.mono hz)).grown hg (by omega) (fun k e => by cases e; exact Nat.le_refl _)⟩

set_option maxRecDepth 100000 in
set_option maxHeartbeats 1000000 in
theorem app_mk (f : Tm) (l : List Tm) (v s : Value) (w : World) (hb : f.bulk + bulkAll l + 2 * l.length ≤ 400000) (hf : IsTm (· < w.heap.size) w f v) (hl : TmR.Sl (· < w.heap.size) w l s) :
    Calls Tryd.prog 59 #[v, s] w fun e w' => ∃ x, e = .returned x ∧ IsTm (fun b => ((l.length = 0 ∧ b < w.heap.size) ∨ w.heap.size + 2 ≤ b) ∧ b < w'.heap.size) w' (appMk f l) x ∧ Below w.heap.size w w' := by
  obtain ⟨A, c, rfl⟩ := hl.form
  obtain ⟨B, d, A1, c1, rfl, _⟩ := hf.form
  have HL := Lib.hid hl
  have HF := Lib.hid hf
  clear hl hf
  go_enter Tryd.func59, Tryd.ntmps59
  go_wp2_with fail
  go_loopw [9] (fun ix wq => ∃ j : Nat, j ≤ l.length ∧ ix = .int .i64 j ∧ AppMkRel w f l j wq) (fun ix _ => l.length - (intOf ix).toNat)
  case atStart =>
    have b2 := ((Below.refl w.heap.size w).alloc (Nat.le_refl _) (Obj.cells #[.int .i64 f.kind, .int .i64 f.index, .int .i64 f.type.kind, .slice B f.type.args.length d, .slice A1 f.args.length c1] 34)).alloc (by simp) (Obj.cells #[.int .i64 0, .int .i64 0, .int .i64 0, .slice none 0 0, .slice none 0 0] 34)
    have k1 := Blk.new (w.alloc (Obj.cells #[.int .i64 f.kind, .int .i64 f.index, .int .i64 f.type.kind, .slice B f.type.args.length d, .slice A1 f.args.length c1] 34)) 34 #[.int .i64 0, .int .i64 0, .int .i64 0, .slice none 0 0, .slice none 0 0]
    rw [World.size_alloc] at k1
    exact ⟨0, by omega, rfl, B, d, A1, c1, (Blk.new w _ _).alloc _, IsTm.keep (fun b h => ⟨.inl ⟨rfl, h⟩, by have h : b < w.heap.size := h; simp; omega⟩) (fun p hp => b2.cell hp) _ HF.out, k1, b2⟩
  case round =>
    obtain ⟨j, hj, rfl, B2, d2, A2, c2, kx, hx, ky, hBq⟩ := hrel
    have hqs := hBq.size
    have hql := ky.lt
    have HX := Lib.hid hx
    clear hx
    by_cases hlt : j < l.length
    · have hl1 : TmR.Sl (· < w.heap.size) wr l (.slice A l.length c) := HL.out.keep (fun _ h => h) (fun p hp => hBq.cell hp)
      obtain ⟨a, rfl, ha, hat⟩ := hl1.get j hlt
      obtain ⟨B3, d3, A3, c3, q0, q1, q2, q3, q4, hy⟩ := at_tm hat
      simp only [show TmR.n = 5 from rfl] at q0 q1 q2 q3 q4
      have a0 := fun o => (kx.alloc o).facts5.1
      have a1 := fun o => (kx.alloc o).facts5.2.1
      have a2 := fun o => (kx.alloc o).facts5.2.2.1
      have a3 := fun o => (kx.alloc o).facts5.2.2.2.1
      have a4 := fun o => (kx.alloc o).facts5.2.2.2.2.1
      have HY := Lib.hid hy
      clear hl1 hat hy
      go_wp2_with fail
      clear a0 a1 a2 a3 a4
      obtain ⟨harg, hbw⟩ := appMk_arg (S := fun b => (b < w.heap.size ∨ w.heap.size + 2 ≤ b) ∧ b < wr.heap.size) (fun b h => h.2) (IsTm.keep (fun b h => ⟨h.1.imp And.right id, h.2⟩) (fun _ _ => rfl) _ HX.out) (IsTm.keep (fun b h => by have h : b < w.heap.size := h; omega) (fun _ _ => rfl) _ HY.out) (wr.heap.size + 1) rfl
      have hbk : bulkAll [appMk f (l.take j), l[j]] ≤ 400000 := by
        have h1 := appMk_bulk f (l.take (j + 1))
        rw [appMk_take hlt] at h1
        have h2 := bulkAll_append (l.take (j + 1)) (l.drop (j + 1))
        rw [List.take_append_drop] at h2
        have h3 : (l.take (j + 1)).length ≤ l.length := by simp; omega
        simp only [Tm.bulk, Ty.zero, Ty.nodes, nodesAll] at h1
        omega
      refine (n_any 3 [appMk f (l.take j), l[j]] _ _ hbk harg).mono ?_
      rintro e w3 ⟨v', rfl, ht3, hb3⟩
      obtain ⟨B4, d4, A4, c4, rfl, _⟩ := ht3.zero_parts
      have AFTER := Lib.hid (appMk_after hlt kx ky hBq hbw hb3 ht3 rfl rfl)
      have hb13 : Below wr.heap.size wr w3 := hbw.trans (hb3.mono hbw.size)
      obtain ⟨r0, r1, r2, r3, r4, f0, f1, f2, f3, f4⟩ := (kx.below hb13 kx.lt).facts5
      clear harg hbw ht3 hb3
      go_wp2_with fail
      exact ⟨⟨j + 1, by omega, by go_num, AFTER.out⟩, by simp [intOf]; omega⟩
    · have hjl : j = l.length := by omega
      subst hjl
      rw [List.take_length] at HX kx
      obtain ⟨r0, r1, r2, r3, r4, _, _, _, _, _⟩ := kx.facts5
      obtain ⟨_, _, _, _, _, f0, f1, f2, f3, f4⟩ := ky.facts5
      go_wp2_with fail
      obtain ⟨z0, z1, z2, z3, z4⟩ := (ky.set5 (.int .i64 (appMk f l).kind) (.int .i64 (appMk f l).index) (.int .i64 (appMk f l).type.kind) (.slice B2 (appMk f l).type.args.length d2) (.slice A2 (appMk f l).args.length c2)).cells5
      have hg := only_set5 wr (w.heap.size + 1) (.int .i64 (appMk f l).kind) (.int .i64 (appMk f l).index) (.int .i64 (appMk f l).type.kind) (.slice B2 (appMk f l).type.args.length d2) (.slice A2 (appMk f l).args.length c2)
      refine bodyPost_ret (v := .agg #[.int .i64 (appMk f l).kind, .int .i64 (appMk f l).index, .int .i64 (appMk f l).type.kind, .slice B2 (appMk f l).type.args.length d2, .slice A2 (appMk f l).args.length c2]) (by simp [results, Tryd.results59, go_sem, z0, z1, z2, z3, z4]) rfl ⟨_, rfl, ?_, hBq.grown hg hqs (fun k e => by cases e; omega)⟩
      exact IsTm.keep (fun b h => ⟨h.1, Nat.lt_of_lt_of_le h.2 hg.size⟩) (fun p hp => World.cell?_of_block (hg.block p.block hp.2 (by simp; omega))) _ HX.out
end Go.Proofs.YtieafbmabnohhaaDoor
