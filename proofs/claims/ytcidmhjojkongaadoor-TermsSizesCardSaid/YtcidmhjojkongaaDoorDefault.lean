/- Default. -/
import Derived.Test.YtcidmhjojkongaaDoorTypeTop
import Derived.Test.YtcidmhjojkongaaDoorRefSame
namespace Go.Proofs.YtcidmhjojkongaaDoor
open Go.RowKit

/-- The default of a type. -/
def Ty.dflt : Ty → Tm
  | .mk k [a, b] => if k = 3 then .mk 10 0 .zero [a.dflt, b.dflt] else if k = 4 then .mk 2 0 a [b.dflt] else .mk 13 0 .zero []
  | .mk k _ => if k = 1 then .mk 4 0 .zero [] else if k = 2 then .mk 7 0 .zero [] else .mk 13 0 .zero []

/-- The term t, in blocks of S or new ones. -/
def InTm (S : Nat → Prop) (w : World) (t : Tm) (e : Ending) (w' : World) : Prop :=
  ∃ v, e = .returned v ∧ IsTm (fun b => (S b ∨ w.heap.size ≤ b) ∧ b < w'.heap.size) w' t v ∧ Below w.heap.size w w'

theorem box25_facts (w : World) (x0 x1 : Value) : ∃ W, W = (w.alloc (Obj.cells #[x0, x1] 25)).alloc (Obj.cells #[.int .i64 0, .int .i64 0, .int .i64 0, .slice none 0 0, .slice none 0 0] 28) ∧
    Below w.heap.size w W ∧ W.heap.size = w.heap.size + 2 ∧ Blk W w.heap.size 25 #[x0, x1] ∧ Blk W (w.heap.size + 1) 28 #[.int .i64 0, .int .i64 0, .int .i64 0, .slice none 0 0, .slice none 0 0] := by
  obtain ⟨b1, z1, k1⟩ := new_blk (Below.refl w.heap.size w) (Nat.le_refl _) #[x0, x1] 25
  generalize w.alloc (Obj.cells #[x0, x1] 25) = W1 at b1 z1 k1 ⊢
  obtain ⟨b2, z2, k2⟩ := new_blk b1 b1.size #[.int .i64 0, .int .i64 0, .int .i64 0, .slice none 0 0, .slice none 0 0] 28
  have k1 := k1.alloc (Obj.cells #[.int .i64 0, .int .i64 0, .int .i64 0, .slice none 0 0, .slice none 0 0] 28)
  rw [z1] at k2
  exact ⟨_, rfl, b2, by omega, k1, k2⟩

theorem dflt_leaf (S : Nat → Prop) (k : Int) (w W : World) (hb : Below w.heap.size w W) : InTm S w (.mk k 0 .zero []) (.returned (.agg #[.int .i64 k, .int .i64 0, .int .i64 0, .slice none 0 0, .slice none 0 0])) W :=
  ⟨_, rfl, isTm_iff.2 ⟨rfl, rfl, IsTy.leaf _ _ _, Rep.Sl.nil _ _⟩, hb⟩

/-- The result is stored: a node over a list that was just built. -/
theorem dflt_close {S : Nat → Prop} {w w2 : World} {k : Int} {T : Ty} {l : List Tm} {xs : List Value} {x2 x3 : Value} {n : Nat} (hS : ∀ b, S b → b < w.heap.size) (hb : Below w.heap.size w w2) (hz : w.heap.size + 2 ≤ w2.heap.size)
    (hT : IsTy (fun b => (S b ∨ w.heap.size + 2 ≤ b) ∧ b < w2.heap.size) w2 T (.agg #[x2, x3])) (hc : TmR.Ch (fun b => (S b ∨ w.heap.size + 2 ≤ b) ∧ b < w2.heap.size) w2 l xs) (hn : l.length = n) :
    InTm S w (.mk k 0 T l) (.returned (.agg #[.int .i64 k, .int .i64 0, x2, x3, .slice (some ⟨w2.heap.size, 0, none⟩) n n]))
      ((((((w2.alloc (.cells xs.toArray 28)).setCell ⟨w.heap.size + 1, 0, none⟩ (.int .i64 k)).setCell ⟨w.heap.size + 1, 1, none⟩ (.int .i64 0)).setCell ⟨w.heap.size + 1, 2, none⟩ x2).setCell ⟨w.heap.size + 1, 3, none⟩ x3).setCell ⟨w.heap.size + 1, 4, none⟩ (.slice (some ⟨w2.heap.size, 0, none⟩) n n)) := by
  have hg := only_set5 (w2.alloc (.cells xs.toArray 28)) (w.heap.size + 1) (.int .i64 k) (.int .i64 0) x2 x3 (.slice (some ⟨w2.heap.size, 0, none⟩) n n)
  have hs := hg.size
  rw [World.size_alloc] at hs
  have hg2 : w2.grownBy _ (some (w.heap.size + 1)) := only_trans (World.grownBy_alloc w2 (.cells xs.toArray 28) _) hg
  have hset : ∀ b, (S b ∨ w.heap.size + 2 ≤ b) → b ≠ w.heap.size + 1 := fun b h => by
    rcases h with h | h
    · have := hS b h; omega
    · omega
  have hkeep : ∀ p : Addr, ((S p.block ∨ w.heap.size + 2 ≤ p.block) ∧ p.block < w2.heap.size) → World.cell? _ p = w2.cell? p := fun p hp => World.cell?_of_block (hg2.block p.block hp.2 (fun e => hset _ hp.1 (by simpa using e)))
  have hblk := (Blk.new w2 28 xs.toArray).grown hg (by simp; omega)
  refine ⟨_, rfl, isTm_iff.2 ⟨rfl, rfl, IsTy.keep (fun b h => ⟨h.1.imp id (fun h => by omega), by omega⟩) hkeep _ hT, ?_⟩, hb.grown hg2 hb.size (fun k e => by cases e; omega)⟩
  exact Rep.Sl.of_blk (R := TmR) hblk (hc.keep (S' := fun b => (S b ∨ w.heap.size + 2 ≤ b) ∧ b < w2.heap.size) (fun _ h => h) hkeep) (fun b h => ⟨h.1.imp id (fun h => by omega), by omega⟩) ⟨.inr (by omega), by omega⟩ hn

set_option maxRecDepth 100000 in
set_option maxHeartbeats 8000000 in
theorem defaultOf_in (n : Nat) : ∀ (S : Nat → Prop) (T : Ty) (v : Value) (w : World), T.nodes ≤ n → n ≤ 100000 → T.ok = true → (∀ b, S b → b < w.heap.size) → IsTy S w T v →
    Calls Tryd.prog 66 #[v] w (InTm S w T.dflt) := by
  induction n with
  | zero => intro S T; have := nodes_pos T; omega
  | succ n ih =>
    intro S T v w hn hb hok hS hT
    have IH := Lib.hid ih
    have HS := Lib.hid hS
    clear ih
    obtain ⟨A, c, rfl⟩ := hT.form
    rcases Ty.ok_cases hok with ⟨k, hk, rfl⟩ | ⟨k, X, Y, hk, rfl, hX, hY⟩
    · rcases hk with rfl | rfl | rfl
      · rw [show (Ty.mk 1 []).dflt = .mk 4 0 .zero [] from by simp [Ty.dflt]]
        simp only [kind_mk_, args_mk_, List.length_nil] at *
        go_enter Tryd.func66, Tryd.ntmps66
        go_wp2_with fail
        exact bodyPost_ret (v := .agg #[.int .i64 4, .int .i64 0, .int .i64 0, .slice none 0 0, .slice none 0 0]) (by simp [results, Tryd.results66, go_sem]) rfl (dflt_leaf S 4 _ _ (((Below.refl _ _).alloc (Nat.le_refl _) _).alloc (by simp) _))
      · rw [show (Ty.mk 2 []).dflt = .mk 7 0 .zero [] from by simp [Ty.dflt]]
        simp only [kind_mk_, args_mk_, List.length_nil] at *
        go_enter Tryd.func66, Tryd.ntmps66
        go_wp2_with fail
        exact bodyPost_ret (v := .agg #[.int .i64 7, .int .i64 0, .int .i64 0, .slice none 0 0, .slice none 0 0]) (by simp [results, Tryd.results66, go_sem]) rfl (dflt_leaf S 7 _ _ (((Below.refl _ _).alloc (Nat.le_refl _) _).alloc (by simp) _))
      · rw [show (Ty.mk 5 []).dflt = .mk 13 0 .zero [] from by simp [Ty.dflt]]
        simp only [kind_mk_, args_mk_, List.length_nil] at *
        go_enter Tryd.func66, Tryd.ntmps66
        go_wp2_with fail
        exact bodyPost_ret (v := .agg #[.int .i64 13, .int .i64 0, .int .i64 0, .slice none 0 0, .slice none 0 0]) (by simp [results, Tryd.results66, go_sem]) rfl (dflt_leaf S 13 _ _ (((Below.refl _ _).alloc (Nat.le_refl _) _).alloc (by simp) _))
    · simp only [Ty.nodes, nodesAll] at hn
      simp only [kind_mk_, args_mk_, List.length_cons, List.length_nil, Nat.reduceAdd] at hT ⊢
      obtain ⟨W, hW, hbW, hz, k0, k1⟩ := box25_facts w (.int .i64 k) (.slice A 2 c)
      have hTW := IsTy.keep (S' := S) (fun _ h => h) (fun p hp => hbW.cell (hS _ hp)) _ hT
      obtain ⟨a, D, d, E, e, rfl, ha, r0, r1, s0, s1, gX, gY⟩ := hTW.two
      have ha' : a.block < w.heap.size := hS _ ha
      have HX := Lib.hid gX
      have HY := Lib.hid gY
      have HB := Lib.hid (And.intro hbW hz)
      have HK1 := Lib.hid k1
      have HSK := Lib.hid fun (w1 : World) (h : Below (w.heap.size + 1) W w1) => And.intro h (And.intro (k0.below h (Nat.lt_succ_self _)).facts2.2.1
        (And.intro ((h.cell (p := a) (by omega)).trans r0) (And.intro ((h.cell (p := ⟨a.block, a.off + 1, none⟩) (by show a.block < _; omega)).trans r1)
          (And.intro ((h.cell (p := ⟨a.block, a.off + 2, none⟩) (by show a.block < _; omega)).trans s0) ((h.cell (p := ⟨a.block, a.off + 2 + 1, none⟩) (by show a.block < _; omega)).trans s1)))))
      have qk := k0.facts2.1
      obtain ⟨_, q1, q2, q3, q4, q5⟩ := HSK.out W (Below.refl _ _)
      have call : ∀ (U : Ty) (x y : Value) (w1 w0 : World), U.nodes ≤ n → U.ok = true → IsTy S W U (.agg #[x, y]) → Below W.heap.size W w1 → (w0 = w1 ∨ w0 = w1.drew) → Calls Tryd.prog 66 #[.agg #[x, y]] w0
          fun e w' => ∃ v', e = .returned v' ∧ IsTm (fun b => (S b ∨ w.heap.size + 2 ≤ b) ∧ b < w'.heap.size) w' U.dflt v' ∧ Below w1.heap.size w1 w' := by
        intro U x y w1 w0 hUn hUok hU hb1 hw0
        have hz1 : w0.heap.size = w1.heap.size := by rcases hw0 with rfl | rfl <;> rfl
        have hs1 := hb1.size
        have hsW := HB.out.2
        have hc : ∀ p : Addr, w0.cell? p = w1.cell? p := fun p => by rcases hw0 with rfl | rfl <;> first | rfl | exact World.cell?_drew _ p
        refine (IH.out S U _ w0 hUn (by omega) hUok (fun b h => by have := HS.out b h; omega) (IsTy.keep (fun _ h => h) (fun p hp => (hc p).trans (hb1.cell (by have := HS.out _ hp; omega))) _ hU)).mono ?_
        rintro e w' ⟨v', h1, h2, h3⟩
        rw [hz1] at h2 h3
        refine ⟨v', h1, IsTm.keep (fun b h => ⟨h.1.imp id (fun h => by omega), h.2⟩) (fun _ _ => rfl) _ h2, ?_⟩
        rcases hw0 with rfl | rfl
        · exact h3
        · exact ((Below.refl _ w1).drew).trans h3
      have CALL := Lib.hid call
      clear call hT hTW gX gY k0 k1 hbW hz r0 r1 s0 s1 hS
      rcases hk with rfl | rfl
      · rw [show (Ty.mk 3 [X, Y]).dflt = .mk 10 0 .zero [X.dflt, Y.dflt] from by simp [Ty.dflt]]
        go_enter Tryd.func66, Tryd.ntmps66
        go_wp2_with fail
        rw [← hW]
        clear hW qk
        go_region_held3 (fun w' => Below (w.heap.size + 1) W w' ∧ w'.cell? ⟨w.heap.size, 1, none⟩ = some (.slice (some a) 2 c) ∧ w'.cell? a = some (.int .i64 X.kind) ∧ w'.cell? ⟨a.block, a.off + 1, none⟩ = some (.slice D X.args.length d) ∧
            w'.cell? ⟨a.block, a.off + 2, none⟩ = some (.int .i64 Y.kind) ∧ w'.cell? ⟨a.block, a.off + 2 + 1, none⟩ = some (.slice E Y.args.length e))
          (first | with_reducible exact HSK.out _ (Below.refl _ _).drew | with_reducible exact HSK.out _ hb1' | with_reducible exact HSK.out _ hb2' | with_reducible exact HSK.out _ (hb2'.alloc hz1 _) | with_reducible exact HSK.out _ (below_set5 (hb2'.alloc hz1 _) _ _ _ _ _) | go_keep)
          (first
            | (go_at_call 66
               (with_reducible refine (CALL.out Y _ _ w1 w1 (by omega) hY HY.out hb1 (.inl rfl)).mono ?_)
               rintro e2 w2 ⟨v2, rfl, ht2, hb2⟩
               obtain ⟨B2, d2, A2, c2, rfl, _⟩ := ht2.form
               have hb02 : Below W.heap.size W w2 := hb1.trans (hb2.mono hb1.size)
               have hb2' : Below (w.heap.size + 1) W w2 := hb02.mono (by have := HB.out.2; omega)
               have hz2 : w.heap.size + 2 ≤ w2.heap.size := by have := HB.out.2; have := hb02.size; omega
               have hz1 : w.heap.size + 1 ≤ w2.heap.size := by omega
               have k1 := HK1.out.below hb02 HK1.out.lt
               have u0 := fun o => (k1.alloc o).facts5.1
               have u1 := fun o => (k1.alloc o).facts5.2.1
               have u2 := fun o => (k1.alloc o).facts5.2.2.1
               have u3 := fun o => (k1.alloc o).facts5.2.2.2.1
               have u4 := fun o => (k1.alloc o).facts5.2.2.2.2.1
               have f0 := fun o => (k1.alloc o).facts5.2.2.2.2.2.1
               have f1 := fun o => (k1.alloc o).facts5.2.2.2.2.2.2.1
               have f2 := fun o => (k1.alloc o).facts5.2.2.2.2.2.2.2.1
               have f3 := fun o => (k1.alloc o).facts5.2.2.2.2.2.2.2.2.1
               have f4 := fun o => (k1.alloc o).facts5.2.2.2.2.2.2.2.2.2)
            | (go_at_call 66
               (with_reducible refine (CALL.out X _ _ W W.drew (by omega) hX HX.out (Below.refl _ _) (.inr rfl)).mono ?_)
               rintro e1 w1 ⟨v1, rfl, ht1, hb1⟩
               obtain ⟨B1, d1, A1, c1, rfl, _⟩ := ht1.form
               have hb1' : Below (w.heap.size + 1) W w1 := hb1.mono (by have := HB.out.2; omega)))
        go_wp2_with fail
        have hbF : Below w.heap.size w w2 := HB.out.1.trans (hb02.mono HB.out.1.size)
        have ht12 : IsTm (fun b => (S b ∨ w.heap.size + 2 ≤ b) ∧ b < w2.heap.size) w2 X.dflt _ := IsTm.keep (fun b h => ⟨h.1, Nat.lt_of_lt_of_le h.2 hb2.size⟩) (fun p hp => hb2.cell hp.2) _ ht1
        have k1 := HK1.out.below hb02 HK1.out.lt
        have k2 := (k1.alloc (Obj.cells #[.int .i64 X.dflt.kind, .int .i64 X.dflt.index, .int .i64 X.dflt.type.kind, .slice B1 X.dflt.type.args.length d1, .slice A1 X.dflt.args.length c1, .int .i64 Y.dflt.kind, .int .i64 Y.dflt.index, .int .i64 Y.dflt.type.kind, .slice B2 Y.dflt.type.args.length d2, .slice A2 Y.dflt.args.length c2] 28)).set5 (.int .i64 10) (.int .i64 0) (.int .i64 0) (.slice none 0 0) (.slice (some ⟨w2.heap.size, 0, none⟩) 2 2)
        obtain ⟨z0, z1, z2, z3, z4⟩ := k2.cells5
        refine bodyPost_ret (v := .agg #[.int .i64 10, .int .i64 0, .int .i64 0, .slice none 0 0, .slice (some ⟨w2.heap.size, 0, none⟩) 2 2]) (by simp [results, Tryd.results66, go_sem, z0, z1, z2, z3, z4]) rfl ?_
        exact dflt_close HS.out hbF hz2 (IsTy.leaf _ _ 0) (tm_cons ht12 (tm_one ht2)) rfl
      · rw [show (Ty.mk 4 [X, Y]).dflt = .mk 2 0 X [Y.dflt] from by simp [Ty.dflt]]
        go_enter Tryd.func66, Tryd.ntmps66
        go_wp2_with fail
        rw [← hW]
        clear hW qk
        go_region_held3 (fun w' => Below (w.heap.size + 1) W w' ∧ w'.cell? ⟨w.heap.size, 1, none⟩ = some (.slice (some a) 2 c) ∧ w'.cell? a = some (.int .i64 X.kind) ∧ w'.cell? ⟨a.block, a.off + 1, none⟩ = some (.slice D X.args.length d) ∧
            w'.cell? ⟨a.block, a.off + 2, none⟩ = some (.int .i64 Y.kind) ∧ w'.cell? ⟨a.block, a.off + 2 + 1, none⟩ = some (.slice E Y.args.length e))
          (first | with_reducible exact HSK.out _ (Below.refl _ _).drew | with_reducible exact HSK.out _ hb2' | with_reducible exact HSK.out _ (hb2'.alloc hz1 _) | with_reducible exact HSK.out _ (below_set5 (hb2'.alloc hz1 _) _ _ _ _ _) | go_keep)
          (first
            | (go_at_call 66
               (with_reducible refine (CALL.out Y _ _ W W.drew (by omega) hY HY.out (Below.refl _ _) (.inr rfl)).mono ?_)
               rintro e2 w2 ⟨v2, rfl, ht2, hb02⟩
               obtain ⟨B2, d2, A2, c2, rfl, _⟩ := ht2.form
               have hb2' : Below (w.heap.size + 1) W w2 := hb02.mono (by have := HB.out.2; omega)
               have hz2 : w.heap.size + 2 ≤ w2.heap.size := by have := HB.out.2; have := hb02.size; omega
               have hz1 : w.heap.size + 1 ≤ w2.heap.size := by omega
               have k1 := HK1.out.below hb02 HK1.out.lt
               have u0 := fun o => (k1.alloc o).facts5.1
               have u1 := fun o => (k1.alloc o).facts5.2.1
               have u2 := fun o => (k1.alloc o).facts5.2.2.1
               have u3 := fun o => (k1.alloc o).facts5.2.2.2.1
               have u4 := fun o => (k1.alloc o).facts5.2.2.2.2.1
               have f0 := fun o => (k1.alloc o).facts5.2.2.2.2.2.1
               have f1 := fun o => (k1.alloc o).facts5.2.2.2.2.2.2.1
               have f2 := fun o => (k1.alloc o).facts5.2.2.2.2.2.2.2.1
               have f3 := fun o => (k1.alloc o).facts5.2.2.2.2.2.2.2.2.1
               have f4 := fun o => (k1.alloc o).facts5.2.2.2.2.2.2.2.2.2))
        go_wp2_with fail
        have hbF : Below w.heap.size w w2 := HB.out.1.trans (hb02.mono HB.out.1.size)
        have hX2 : IsTy (fun b => (S b ∨ w.heap.size + 2 ≤ b) ∧ b < w2.heap.size) w2 X (.agg #[.int .i64 X.kind, .slice D X.args.length d]) := IsTy.keep (fun b h => ⟨.inl h, by have := HS.out b h; omega⟩) (fun p hp => hb02.cell (by have := HS.out _ hp; have := HB.out.2; omega)) _ HX.out
        have k1 := HK1.out.below hb02 HK1.out.lt
        have k2 := (k1.alloc (Obj.cells #[.int .i64 Y.dflt.kind, .int .i64 Y.dflt.index, .int .i64 Y.dflt.type.kind, .slice B2 Y.dflt.type.args.length d2, .slice A2 Y.dflt.args.length c2] 28)).set5 (.int .i64 2) (.int .i64 0) (.int .i64 X.kind) (.slice D X.args.length d) (.slice (some ⟨w2.heap.size, 0, none⟩) 1 1)
        obtain ⟨z0, z1, z2, z3, z4⟩ := k2.cells5
        refine bodyPost_ret (v := .agg #[.int .i64 2, .int .i64 0, .int .i64 X.kind, .slice D X.args.length d, .slice (some ⟨w2.heap.size, 0, none⟩) 1 1]) (by simp [results, Tryd.results66, go_sem, z0, z1, z2, z3, z4]) rfl ?_
        exact dflt_close HS.out hbF hz2 hX2 (tm_one ht2) rfl
end Go.Proofs.YtcidmhjojkongaaDoor
