/- mk.Plain and mk.Value: plain types, and plain values of them. -/
import Derived.Test.YtieafbmabnohhaaValMath
import Derived.Test.YtieafbmabnohhaaStepCall
namespace Go.Proofs.Ytieafbmabnohhaa
open Go.RowKit

def PlainT (T : Ty) : Prop := T = .mk 1 [] ∨ T = .mk 2 [] ∨ T = .mk 5 [] ∨ T = .mk 3 [.mk 1 [], .mk 2 []] ∨ T = .mk 3 [.mk 1 [], .mk 1 []]
/-- What Plain makes. -/
def PlainR (g : Nat) (w : World) (e : Ending) (w' : World) : Prop :=
  ∃ T v, e = .returned v ∧ PlainT T ∧ IsTy (fun b => w.heap.size ≤ b ∧ b < w'.heap.size) w' T v ∧ Deck w' g ∧ w.grownBy w' (some g)

set_option maxHeartbeats 4000000 in
theorem plain_any (g : Nat) (w : World) (hd : Deck w g) :
    Calls Try.prog 8 #[.pointer (some ⟨g, 0, none⟩)] w (PlainR g w) := by
  have hgw := hd.lt
  go_enter Try.func8, Try.ntmps8
  go_wp2_with fail
  refine (next_any g 6 _ (by omega) (by omega) (hd.grown (World.grownBy_alloc w _ none) (by simp))).mono ?_
  rintro e w1 ⟨r, rfl, hr0, hr7, hd1, hg1⟩
  have hb1 : Blk w1 w.heap.size 33 #[.int .i64 0, .slice none 0 0] := (Blk.new w _ _).grown hg1 (by simp; omega)
  have hgw1 : w.grownBy w1 (some g) := only_trans (World.grownBy_alloc w _ (some g)) hg1
  have hs1 := hgw1.size
  have hr : r = 0 ∨ r = 1 ∨ r = 2 ∨ r = 3 ∨ r = 4 ∨ r = 5 := by omega
  rcases hr with rfl | rfl | rfl | rfl | rfl | rfl
  · go_wp2_with (go_at_call 15; refine (nat_any _).mono ?_; rintro e w2 ⟨rfl, hb2⟩; obtain ⟨k0, k1, f0, f1⟩ := (hb1.below hb2 hb1.lt).facts2)
    obtain ⟨q0, q1, _, _⟩ := ((hb1.below hb2 hb1.lt).set2 (.int .i64 1) (.slice none 0 0)).facts2
    exact bodyPost_ret (v := .agg #[.int .i64 1, .slice none 0 0]) (by simp [results, Try.results8, go_sem, q0, q1]) rfl
      ⟨.mk 1 [], _, rfl, .inl rfl, type_end hgw (hd1.grown (only_of_below hb2 none) (by simp)) (only_trans hgw1 (only_of_below hb2 _)) (Nat.le_refl _) (IsTy.leaf _ _ _)⟩
  · go_wp2_with (go_at_call 15; refine (nat_any _).mono ?_; rintro e w2 ⟨rfl, hb2⟩; obtain ⟨k0, k1, f0, f1⟩ := (hb1.below hb2 hb1.lt).facts2)
    obtain ⟨q0, q1, _, _⟩ := ((hb1.below hb2 hb1.lt).set2 (.int .i64 1) (.slice none 0 0)).facts2
    exact bodyPost_ret (v := .agg #[.int .i64 1, .slice none 0 0]) (by simp [results, Try.results8, go_sem, q0, q1]) rfl
      ⟨.mk 1 [], _, rfl, .inl rfl, type_end hgw (hd1.grown (only_of_below hb2 none) (by simp)) (only_trans hgw1 (only_of_below hb2 _)) (Nat.le_refl _) (IsTy.leaf _ _ _)⟩
  · go_wp2_with (go_at_call 16; refine (list_any _).mono ?_; rintro e w2 ⟨rfl, hb2⟩; obtain ⟨k0, k1, f0, f1⟩ := (hb1.below hb2 hb1.lt).facts2)
    obtain ⟨q0, q1, _, _⟩ := ((hb1.below hb2 hb1.lt).set2 (.int .i64 2) (.slice none 0 0)).facts2
    exact bodyPost_ret (v := .agg #[.int .i64 2, .slice none 0 0]) (by simp [results, Try.results8, go_sem, q0, q1]) rfl
      ⟨.mk 2 [], _, rfl, .inr (.inl rfl), type_end hgw (hd1.grown (only_of_below hb2 none) (by simp)) (only_trans hgw1 (only_of_below hb2 _)) (Nat.le_refl _) (IsTy.leaf _ _ _)⟩
  · go_wp2_with (go_at_call 17; refine (unit_any _).mono ?_; rintro e w2 ⟨rfl, hb2⟩; obtain ⟨k0, k1, f0, f1⟩ := (hb1.below hb2 hb1.lt).facts2)
    obtain ⟨q0, q1, _, _⟩ := ((hb1.below hb2 hb1.lt).set2 (.int .i64 5) (.slice none 0 0)).facts2
    exact bodyPost_ret (v := .agg #[.int .i64 5, .slice none 0 0]) (by simp [results, Try.results8, go_sem, q0, q1]) rfl
      ⟨.mk 5 [], _, rfl, .inr (.inr (.inl rfl)), type_end hgw (hd1.grown (only_of_below hb2 none) (by simp)) (only_trans hgw1 (only_of_below hb2 _)) (Nat.le_refl _) (IsTy.leaf _ _ _)⟩
  · go_wp2_with fail
    refine (nat_any _).mono ?_
    rintro e w2 ⟨rfl, hb2⟩
    go_wp2_with fail
    refine (list_any _).mono ?_
    rintro e w3 ⟨rfl, hb3⟩
    have hb13 := hb2.trans (hb3.mono hb2.size)
    have hs3 := hb13.size
    go_wp2_with fail
    refine (two_any (.mk 1 []) (.mk 2 []) _ _ w3 (by simp [Ty.nodes, nodesAll]) (by simp [Ty.nodes, nodesAll]) (IsTy.leaf _ _ _) (IsTy.leaf _ _ _)).mono ?_
    rintro e w4 ⟨v, rfl, tyv, hb4⟩
    obtain ⟨A, c, rfl⟩ := tyv.form
    have hk3 : Blk w3 w.heap.size 33 #[.int .i64 0, .slice none 0 0] := hb1.below hb13 hb1.lt
    obtain ⟨k0, k1, f0, f1⟩ := (hk3.below hb4 hk3.lt).facts2
    go_wp2_with fail
    obtain ⟨q0, q1, _, _⟩ := ((hk3.below hb4 hk3.lt).set2 (.int .i64 (Ty.mk 3 [.mk 1 [], .mk 2 []]).kind) (.slice A (Ty.mk 3 [.mk 1 [], .mk 2 []]).args.length c)).facts2
    exact bodyPost_ret (v := .agg #[.int .i64 (Ty.mk 3 [.mk 1 [], .mk 2 []]).kind, .slice A (Ty.mk 3 [.mk 1 [], .mk 2 []]).args.length c]) (by simp [results, Try.results8, go_sem, q0, q1]) rfl
      ⟨.mk 3 [.mk 1 [], .mk 2 []], _, rfl, .inr (.inr (.inr (.inl rfl))), type_end hgw ((hd1.grown (only_of_below hb13 none) (by simp)).grown (only_of_below hb4 none) (by simp)) (only_trans (only_trans hgw1 (only_of_below hb13 _)) (only_of_below hb4 _)) (by have := hb1.lt; omega) tyv⟩
  · go_wp2_with fail
    refine (nat_any _).mono ?_
    rintro e w2 ⟨rfl, hb2⟩
    go_wp2_with fail
    refine (nat_any _).mono ?_
    rintro e w3 ⟨rfl, hb3⟩
    have hb13 := hb2.trans (hb3.mono hb2.size)
    have hs3 := hb13.size
    go_wp2_with fail
    refine (two_any (.mk 1 []) (.mk 1 []) _ _ w3 (by simp [Ty.nodes, nodesAll]) (by simp [Ty.nodes, nodesAll]) (IsTy.leaf _ _ _) (IsTy.leaf _ _ _)).mono ?_
    rintro e w4 ⟨v, rfl, tyv, hb4⟩
    obtain ⟨A, c, rfl⟩ := tyv.form
    have hk3 : Blk w3 w.heap.size 33 #[.int .i64 0, .slice none 0 0] := hb1.below hb13 hb1.lt
    obtain ⟨k0, k1, f0, f1⟩ := (hk3.below hb4 hk3.lt).facts2
    go_wp2_with fail
    obtain ⟨q0, q1, _, _⟩ := ((hk3.below hb4 hk3.lt).set2 (.int .i64 (Ty.mk 3 [.mk 1 [], .mk 1 []]).kind) (.slice A (Ty.mk 3 [.mk 1 [], .mk 1 []]).args.length c)).facts2
    exact bodyPost_ret (v := .agg #[.int .i64 (Ty.mk 3 [.mk 1 [], .mk 1 []]).kind, .slice A (Ty.mk 3 [.mk 1 [], .mk 1 []]).args.length c]) (by simp [results, Try.results8, go_sem, q0, q1]) rfl
      ⟨.mk 3 [.mk 1 [], .mk 1 []], _, rfl, .inr (.inr (.inr (.inr rfl))), type_end hgw ((hd1.grown (only_of_below hb13 none) (by simp)).grown (only_of_below hb4 none) (by simp)) (only_trans (only_trans hgw1 (only_of_below hb13 _)) (only_of_below hb4 _)) (by have := hb1.lt; omega) tyv⟩

/-- What Value makes. -/
def ValR (g : Nat) (P : Va → Prop) (w : World) (e : Ending) (w' : World) : Prop :=
  ∃ V v, e = .returned v ∧ P V ∧ IsVa (fun b => w.heap.size ≤ b ∧ b < w'.heap.size) w' V v ∧ Deck w' g ∧ w.grownBy w' (some g)

/-- The result is stored. -/
theorem val_end {g : Nat} {w w2 : World} {V : Va} {x0 x1 x2 x3 : Value} {P : Va → Prop} (hgw : g < w.heap.size) (hd : Deck w2 g) (hg : w.grownBy w2 (some g)) (_hz : w.heap.size + 2 ≤ w2.heap.size) (hP : P V)
    (hV : IsVa (fun b => w.heap.size + 2 ≤ b ∧ b < w2.heap.size) w2 V (.agg #[x0, x1, x2, x3])) :
    ValR g P w (.returned (.agg #[x0, x1, x2, x3])) ((((w2.setCell ⟨w.heap.size + 1, 0, none⟩ x0).setCell ⟨w.heap.size + 1, 1, none⟩ x1).setCell ⟨w.heap.size + 1, 2, none⟩ x2).setCell ⟨w.heap.size + 1, 3, none⟩ x3) := by
  have h2 := only_set4 w2 (w.heap.size + 1) x0 x1 x2 x3
  refine ⟨V, _, rfl, hP, IsVa.keep (fun b hb => ⟨by omega, Nat.lt_of_lt_of_le hb.2 h2.size⟩) (fun p hp => World.cell?_of_block (h2.block p.block hp.2 (by simp; omega))) _ hV,
    hd.grown h2 (fun k e => by cases e; omega), ?_⟩
  exact only_setCell (only_setCell (only_setCell (only_setCell hg (p := ⟨w.heap.size + 1, 0, none⟩) (.inr (by simp)) x0) (p := ⟨w.heap.size + 1, 1, none⟩) (.inr (by simp)) x1) (p := ⟨w.heap.size + 1, 2, none⟩) (.inr (by simp)) x2) (p := ⟨w.heap.size + 1, 3, none⟩) (.inr (by simp)) x3

set_option maxHeartbeats 1000000 in
theorem value_nat (g : Nat) (A : Option Addr) (c : Nat) (w : World) (hd : Deck w g) :
    Calls Try.prog 7 #[.pointer (some ⟨g, 0, none⟩), .agg #[.int .i64 1, .slice A 0 c]] w (ValR g num5 w) := by
  have hgw := hd.lt
  obtain ⟨W, hW, hbW, hz, k0, k1⟩ := box_tv w (.int .i64 1) (.slice A 0 c) (.int .i64 0) (.int .i64 0) (.slice none 0 0) (.slice none 0 0)
  have hdW := hd.grown (only_of_below hbW none) (by simp)
  have HK1 := Lib.hid k1
  have HB := Lib.hid (And.intro hbW hz)
  obtain ⟨q0, _, _, _⟩ := k0.facts2
  clear k1 k0 hz
  go_enter Try.func7, Try.ntmps7
  go_wp2_with fail
  rw [← hW]
  clear hW
  refine (next_any g 5 W (by omega) (by omega) hdW).mono ?_
  rintro e w1 ⟨r, rfl, hr0, hr5, hd1, hg1⟩
  have k1 := HK1.out.grown hg1 (by have := HB.out.2; simp; omega)
  obtain ⟨_, _, _, _, f0, f1, f2, f3⟩ := k1.facts4
  go_wp2_with fail
  obtain ⟨z0, z1, z2, z3, _⟩ := (k1.set4 (.int .i64 1) (.int .i64 r) (.slice none 0 0) (.slice none 0 0)).facts4
  refine bodyPost_ret (v := .agg #[.int .i64 1, .int .i64 r, .slice none 0 0, .slice none 0 0]) (by simp [results, Try.results7, go_sem, z0, z1, z2, z3]) rfl ?_
  refine val_end (V := .mk 1 r [] []) hgw hd1 (only_trans (only_of_below HB.out.1 _) hg1) (by have := hg1.size; have := HB.out.2; omega) ⟨r.toNat, by omega, by rw [Int.toNat_of_nonneg hr0]⟩ (isVa_iff.2 ⟨rfl, rfl, Rep.Sl.nil _ _, Rep.Sl.nil _ _⟩)

set_option maxHeartbeats 1000000 in
theorem value_unit (g : Nat) (A : Option Addr) (c : Nat) (w : World) (hd : Deck w g) :
    Calls Try.prog 7 #[.pointer (some ⟨g, 0, none⟩), .agg #[.int .i64 5, .slice A 0 c]] w (ValR g (· = .mk 4 0 [] []) w) := by
  have hgw := hd.lt
  obtain ⟨W, hW, hbW, hz, k0, k1⟩ := box_tv w (.int .i64 5) (.slice A 0 c) (.int .i64 4) (.int .i64 0) (.slice none 0 0) (.slice none 0 0)
  have hdW := hd.grown (only_of_below hbW none) (by simp)
  have HB := Lib.hid (And.intro hbW hz)
  have HK1 := Lib.hid k1
  clear k1 k0 hz
  go_enter Try.func7, Try.ntmps7
  go_wp2_with fail
  rw [← hW]
  clear hW
  obtain ⟨z0, z1, z2, z3, _⟩ := HK1.out.facts4
  refine bodyPost_ret (v := .agg #[.int .i64 4, .int .i64 0, .slice none 0 0, .slice none 0 0]) (by simp [results, Try.results7, go_sem, z0, z1, z2, z3]) rfl ?_
  exact ⟨.mk 4 0 [] [], _, rfl, rfl, isVa_iff.2 ⟨rfl, rfl, Rep.Sl.nil _ _, Rep.Sl.nil _ _⟩, hdW, only_of_below HB.out.1 _⟩

theorem info_z : (Try.prog.info? 3).map (fun i => (i.zero, i.size, i.bytes)) = some (some (.int .i64 0), 1, 8) := by kernel_rfl

/-- Numbers that were appended to a list of the call's own. -/
def ListRel (w : World) (g : Nat) (k : Nat) (wr : World) : Prop := ∃ (m : List Int) (s : Value), m.length + k ≤ 3 ∧ (∀ x ∈ m, 0 ≤ x ∧ x ≤ 3) ∧ ZR.Own (fun _ => False) (w.heap.size + 3) s m wr ∧
  Blk wr (w.heap.size + 1 + 1) 29 #[.int .i64 2, .int .i64 0, s, .slice none 0 0] ∧ Blk wr (w.heap.size + 1) 29 #[.int .i64 0, .int .i64 0, .slice none 0 0, .slice none 0 0] ∧
  Deck wr g ∧ w.grownBy wr (some g) ∧ w.heap.size + 3 ≤ wr.heap.size

/-- One more number behind the list. -/
theorem list_step {w wr w2 w5 : World} {g n : Nat} {m : List Int} {A3 : Option Addr} {d3 g5 cap5 : Nat} {xs : List Value} {r : Int} (hm : (∀ x ∈ m, 0 ≤ x ∧ x ≤ 3) ∧ m.length + n ≤ 3 ∧ w.grownBy wr (some g))
    (hxo : w2.ownsRow (w.heap.size + 3) 3 1 (.slice A3 m.length d3) m.length xs) (hxc : ZR.Ch (fun b => False ∧ b < w2.heap.size ∧ (Value.slice A3 m.length d3).ownBlock ≠ some b) w2 m xs) (hr : 0 ≤ r ∧ r < 4)
    (hg : wr.grownBy w2 (some g)) (hd : Deck w2 g) (kV : Blk w2 (w.heap.size + 1 + 1) 29 #[.int .i64 2, .int .i64 0, .slice A3 m.length d3, .slice none 0 0])
    (kR : Blk w2 (w.heap.size + 1) 29 #[.int .i64 0, .int .i64 0, .slice none 0 0, .slice none 0 0]) (hgw : g < w.heap.size) (hsz : w.heap.size + 3 ≤ w2.heap.size)
    (hown5 : w5.ownsRow (w.heap.size + 3) 3 1 (.slice (some ⟨g5, 0, none⟩) (m.length + 1) cap5) (m.length + 1) (xs ++ [.int .i64 r]))
    (hgr5 : (w2.alloc (.cells #[.int .i64 r] 3)).grownBy w5 (Value.slice A3 m.length d3).ownBlock)
    (hat5 : (Value.slice A3 m.length d3).ownBlock = some g5 ∨ g5 = (w2.alloc (.cells #[.int .i64 r] 3)).heap.size) :
    w5.frozen? ⟨w.heap.size + 1 + 1, 2, none⟩ = false ∧ w5.cell? ⟨w.heap.size + 1 + 1, 2, none⟩ = some (.slice A3 m.length d3) ∧ (0 < n → ListRel w g (n - 1) (w5.setCell ⟨w.heap.size + 1 + 1, 2, none⟩ (.slice (some ⟨g5, 0, none⟩) (m.length + 1) cap5))) := by
  have hlt := hxo.lt
  have hne : ∀ q, q < w.heap.size + 3 → (Value.slice A3 m.length d3).ownBlock ≠ some q := fun q hq e => by have := (hlt q e).1; omega
  have g25 : w2.grownBy w5 (Value.slice A3 m.length d3).ownBlock := only_trans (World.grownBy_alloc w2 _ _) hgr5
  have kV5 := kV.grown g25 (fun e => hne _ (by omega) e.symm)
  have kR5 := kR.grown g25 (fun e => hne _ (by omega) e.symm)
  have s5 := g25.size
  have hv : w5.grownBy (w5.setCell ⟨w.heap.size + 1 + 1, 2, none⟩ (.slice (some ⟨g5, 0, none⟩) (m.length + 1) cap5)) (some (w.heap.size + 1 + 1)) := only_setCell (only_refl _ _) (.inl rfl) _
  refine ⟨kV5.facts4.2.2.2.2.2.2.1, kV5.facts4.2.2.1, fun hn => ⟨m ++ [r], _, by simp; omega, ?_, ?_, by simpa using kV5.set_ 2 _, kR5.grown hv (by simp), ?_, ?_, ?_⟩⟩
  · intro x hx
    rcases List.mem_append.1 hx with h | h
    · exact hm.1 x h
    · rw [List.mem_singleton.1 h]; omega
  · have h1 := Rep.Own.more (R := ZR) (S := fun _ => False) (base := w.heap.size + 3) (m := [r]) (hxo.alloc _) (hxc.keep (fun b hb => hb.1.elim) (fun p hp => hp.1.elim)) (Rep.Ch.one (R := ZR) (vs := [.int .i64 r]) rfl) hown5 hgr5 (by
      rcases hat5 with h | h
      · left; rw [h]; rfl
      · right; rw [h]; rfl)
    have h2 : ZR.Own (fun _ => False) (w.heap.size + 3) (.slice (some ⟨g5, 0, none⟩) (m.length + 1) cap5) (m ++ [r]) w5 := h1
    exact h2.far hv (by omega) (fun h => h)
  · refine (hd.grown g25 (fun k e => by have := (hlt k e).1; omega)).grown hv (fun k e => by cases e; omega)
  · have : w.grownBy w2 (some g) := only_trans hm.2.2 hg
    refine ⟨g25.os.trans this.os, g25.tape.trans this.tape, g25.output.trans this.output, by simp; omega, fun k hk hx => ?_⟩
    rw [hv.block k (by omega) (by simp; omega), g25.block k (by have := this.size; omega) (fun e => hne k (by omega) e.symm), this.block k hk hx]
  · simp; omega

set_option maxHeartbeats 4000000 in
theorem value_list (g : Nat) (A : Option Addr) (c : Nat) (w : World) (hd : Deck w g) :
    Calls Try.prog 7 #[.pointer (some ⟨g, 0, none⟩), .agg #[.int .i64 2, .slice A 0 c]] w (ValR g list4 w) := by
  have hgw := hd.lt
  obtain ⟨W, hW, hbW, hz, k0, k1⟩ := box_tv w (.int .i64 2) (.slice A 0 c) (.int .i64 0) (.int .i64 0) (.slice none 0 0) (.slice none 0 0)
  have hdW := hd.grown (only_of_below hbW none) (by simp)
  have HB := Lib.hid (And.intro hbW hz)
  have HK1 := Lib.hid k1
  obtain ⟨q0, _, _, _⟩ := k0.facts2
  clear k1 k0 hz
  go_enter Try.func7, Try.ntmps7
  go_wp2_with fail
  rw [← hW]
  clear hW
  have kV := Blk.new W 29 #[.int .i64 2, .int .i64 0, .slice none 0 0, .slice none 0 0]
  have dV := hdW.grown (World.grownBy_alloc W (Obj.cells #[.int .i64 2, .int .i64 0, .slice none 0 0, .slice none 0 0] 29) none) (by simp)
  rw [show W.heap.size = w.heap.size + 1 + 1 from HB.out.2] at kV
  refine (next_any g 4 _ (by omega) (by omega) dV).mono ?_
  rintro e w1 ⟨r, rfl, hr0, hr4, hd1, hg1⟩
  have hgV : w.grownBy w1 (some g) := only_trans (only_alloc (only_of_below HB.out.1 _) _) hg1
  have kV1 := kV.grown hg1 (by simp; omega)
  have kR1 := (HK1.out.alloc (Obj.cells #[.int .i64 2, .int .i64 0, .slice none 0 0, .slice none 0 0] 29)).grown hg1 (by simp; omega)
  have hz1 : w.heap.size + 3 ≤ w1.heap.size := kV1.lt
  have H0 := Lib.hid (show ListRel w g r.toNat w1 from ⟨[], .slice none 0 0, by simp; omega, by simp, Rep.Own.nil _ _ _, kV1, kR1, hd1, hgV, hz1⟩)
  obtain ⟨n0, rfl⟩ : ∃ n0 : Nat, r = (n0 : Int) := ⟨r.toNat, (Int.toNat_of_nonneg hr0).symm⟩
  clear hd1 hg1 hgV kV1 kR1 kV dV hdW q0 hd
  go_wp2_with fail
  go_loopw [6] (fun k wr => ∃ n : Nat, k = .int .i64 n ∧ ListRel w g n wr) (fun k _ => (intOf k).toNat)
  case atStart => exact ⟨n0, rfl, by simpa using H0.out⟩
  case round =>
    obtain ⟨n, rfl, m, s, hmn, hm, hown, kV, kR, hdk, hgw2, hsz⟩ := hrel
    by_cases hn : 0 < n
    · obtain ⟨c0, c1, c2, c3, _, _, f2, _⟩ := kV.facts4
      obtain ⟨A3, d3, rfl⟩ := hown.form
      obtain ⟨i0, hi, hz0, hz1, hz2⟩ := info_parts info_z
      have HO := Lib.hid hown
      have HKV := Lib.hid kV
      have HKR := Lib.hid kR
      have HD := Lib.hid hdk
      have HM := Lib.hid (And.intro hm (And.intro hmn hgw2))
      have hn3 : n ≤ 3 := by omega
      clear hown kV kR hdk hm hmn hgw2 c0 c1 c3
      go_wp2_with fail
      go_region_law (first
        | (refine step_next (by rfl) (.tmp 25) 4 _ g (by rfl) (by rfl) (by omega) (by omega) (HD.out.grown (w' := wr.drew) (row := none) ⟨rfl, rfl, rfl, Nat.le_refl _, fun _ _ _ => rfl⟩ (by simp)) ?_
           intro r w2 hr0 hr4 hd2 hg2
           have hg3 : wr.grownBy w2 (some g) := ⟨hg2.os, hg2.tape, hg2.output, hg2.size, hg2.block⟩
           have KV2 := Lib.hid (HKV.out.grown hg3 (by simp; omega))
           have KR2 := Lib.hid (HKR.out.grown hg3 (by simp; omega))
           have c2' := KV2.out.facts4.2.2.1
           have c2'' := (KV2.out.alloc (Obj.cells #[.int .i64 r] 3)).facts4.2.2.1
           have HG3 := Lib.hid hg3
           have HD2 := Lib.hid hd2
           obtain ⟨xs, hxo, hxc⟩ := HO.out.far hg3 (by omega) (fun h => h)
           have HXO := Lib.hid hxo
           have HXC := Lib.hid hxc
           have HR := Lib.hid (And.intro hr0 hr4)
           have hsz2 : w.heap.size + 3 ≤ w2.heap.size := Nat.le_trans hsz hg3.size
           clear hg2 hd2 hg3 hxo hxc hr0 hr4)
        | (refine step_append_lies _ (by rfl) (.tmp 24) (.tmp 27) 22 (by rfl) (w.heap.size + 3) 3 i0 _ 1 8 Try.underlying22 hi hz0 hz1 hz2 rfl (by decide) (.slice A3 m.length d3) m.length xs (by rfl) (HXO.out.alloc _) _ 1 1 [.int .i64 r] (by rfl) rfl (World.news_of_block (Blk.new w2 3 #[.int .i64 r])) (by simp [Value.oneCell']) (by decide) (by simp only [maxLen]; have := HM.out.2.1; omega) (by have := HM.out.2.1; omega) (by simp; omega) _ rfl ?_
           intro g5 cap5 w5 hown5 hgr5 hat5 hlt5
           have HST := Lib.hid (list_step HM.out HXO.out HXC.out HR.out HG3.out HD2.out KV2.out KR2.out hgw hsz2 hown5 hgr5 hat5)
           have f2' := HST.out.1
           have c5' := HST.out.2.1
           clear hown5 hgr5 hat5))
      all_goals go_wp2_with fail
      all_goals exact ⟨⟨n - 1, by congr 1; omega, HST.out.2.2 hn⟩, by simp [intOf]; omega⟩
    · have hn0 : n = 0 := by omega
      subst hn0
      obtain ⟨c0, c1, c2, c3, _⟩ := kV.facts4
      obtain ⟨_, _, _, _, f0, f1, f2, f3⟩ := kR.facts4
      obtain ⟨A3, d3, rfl⟩ := hown.form
      have HO := Lib.hid hown
      have HM := Lib.hid (And.intro hm hmn)
      clear hown hm hmn
      go_wp2_with fail
      obtain ⟨z0, z1, z2, z3, _⟩ := (kR.set4 (.int .i64 2) (.int .i64 0) (.slice A3 m.length d3) (.slice none 0 0)).facts4
      refine bodyPost_ret (v := .agg #[.int .i64 2, .int .i64 0, .slice A3 m.length d3, .slice none 0 0]) (by simp [results, Try.results7, go_sem, z0, z1, z2, z3]) rfl ?_
      refine val_end (V := .mk 2 0 m []) hgw hdk hgw2 (by omega) ⟨m, by have := HM.out.2; omega, HM.out.1, rfl⟩ (isVa_iff.2 ⟨rfl, rfl, ?_, Rep.Sl.nil _ _⟩)
      exact HO.out.sl.keep (fun b hb => by rcases hb with ⟨h | h, h2⟩; exact h.elim; omega) (fun _ _ => rfl)
end Go.Proofs.Ytieafbmabnohhaa
