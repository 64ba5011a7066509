/- mk.longer: a context with more types behind it. -/
import Derived.Test.YtieafbmabnohhaaDoorMkContext
import Derived.Laws.AppendOwnNone
namespace Go.Proofs.YtieafbmabnohhaaDoor
open Go.RowKit

set_option maxRecDepth 100000 in
set_option maxHeartbeats 1000000 in
theorem longer_any (S : Nat → Prop) (G L : List Ty) (s t : Value) (w : World) (hS : ∀ b, S b → b < w.heap.size) (hG : G.length ≤ 1000) (hL : L.length ≤ 1000) (hs : TyR.Sl S w G s) (ht : TyR.Sl S w L t) (hf : Formed s) (hne : L ≠ []) :
    Calls Tryd.prog 57 #[s, t] w fun e w' =>
      ∃ x, e = .returned x ∧ TyR.Sl (fun b => (S b ∨ w.heap.size ≤ b) ∧ b < w'.heap.size) w' (G ++ L) x ∧ Formed x ∧ Below w.heap.size w w' := by
  obtain ⟨B', d, rfl, hB⟩ := ht
  obtain ⟨b, rfl, hSb, hab⟩ := hB hne
  obtain ⟨ys, hyc, hyl⟩ := hab.cells
  obtain ⟨i0, hi, hz0, hz1, hz2⟩ := info_parts info_type
  have HYL := Lib.hid hyl
  have hyn : ys.length = L.length * 2 := hyc.1
  have HYC := Lib.hid hyc
  clear hB hab hyl hyc
  rcases hf with rfl | ⟨a, n, c, rfl⟩
  · have hG0 : G = [] := by
      obtain ⟨A, c, e, h⟩ := hs
      simp only [Value.slice.injEq] at e
      exact List.eq_nil_of_length_eq_zero (by omega)
    subst hG0
    clear hs
    go_enter Tryd.func57, Tryd.ntmps57
    have hown0 : w.ownsRow w.heap.size 30 2 (.slice none 0 0) 0 [] := World.ownsRow_nil w _ _ _
    go_wp2_with (first | (at_builtin; (refine wpList_append_own_none rfl _ _ 27 rfl w.heap.size 30 i0 2 Tryd.underlying27 hi (.slice none 0 0) 0 [] rfl hown0 rfl ?_)) | (at_builtin; (refine wpList_append_own_at _ rfl _ _ 27 rfl w.heap.size 30 i0 _ 2 32 Tryd.underlying27 hi hz0 hz1 hz2 rfl (by decide) (.slice none 0 0) 0 [] rfl hown0 b L.length d ys rfl hyn HYL.out HYC.out.oneCells (by simp only [maxLen]; omega) (by omega) (Nat.le_refl _) ?_); intro v2 w2 hown2 hg2 hnil2 hat2))
    have hg2' : Below w.heap.size w w2 := ⟨hg2.os, hg2.tape, hg2.output, hg2.size, fun i hi => hg2.block i hi (by simp [Value.ownBlock])⟩
    have ho : TyR.Own S w.heap.size v2 ([] ++ L) w2 := Rep.Own.more (R := TyR) (xs := []) hown0 (Rep.Ch.nil _ _) (HYC.out.keep (fun b hb => ⟨hb, hS b hb, by simp [Value.ownBlock]⟩) (fun _ _ => rfl)) hown2 hg2 hat2
    exact bodyPost_ret (v := v2) (by simp [results, Tryd.results57, go_sem]) rfl ⟨_, rfl, ho.sl, own_formed ho, hg2'⟩
  · obtain ⟨A, c', e, h⟩ := hs
    simp only [Value.slice.injEq] at e
    obtain ⟨rfl, rfl, rfl⟩ := e
    have hg : ∃ xs : List Value, TyR.Ch S w G xs ∧ ∀ j u, xs[j]? = some u → w.cell? (a.add j) = some u := by
      by_cases hn : G = []
      · subst hn; exact ⟨[], Rep.Ch.nil _ _, fun j u h => by simp at h⟩
      · obtain ⟨a', e, _, ha⟩ := h hn
        cases e
        exact ha.cells
    obtain ⟨xs, hxc, hxl⟩ := hg
    have hxn : xs.length = G.length * 2 := hxc.1
    have HXL := Lib.hid hxl
    have HXC := Lib.hid hxc
    clear h hxl hxc
    go_enter Tryd.func57, Tryd.ntmps57
    have hown0 : w.ownsRow w.heap.size 30 2 (.slice none 0 0) 0 [] := World.ownsRow_nil w _ _ _
    go_wp2_with (first | (at_builtin; (refine wpList_append_own_at _ rfl _ _ 27 rfl w.heap.size 30 i0 _ 2 32 Tryd.underlying27 hi hz0 hz1 hz2 rfl (by decide) (.slice none 0 0) 0 [] rfl hown0 a G.length _ xs rfl hxn HXL.out HXC.out.oneCells (by simp only [maxLen]; omega) (by omega) (Nat.le_refl _) ?_); intro v2 w2 hown2 hg2 hnil2 hat2
                          have hg2' : Below w.heap.size w w2 := ⟨hg2.os, hg2.tape, hg2.output, hg2.size, fun i hi => hg2.block i hi (by simp [Value.ownBlock])⟩
                          have HO := Lib.hid (Rep.Own.more (R := TyR) (S := S) (base := w.heap.size) (xs := []) (l := []) (m := G) hown0 (Rep.Ch.nil _ _) (HXC.out.keep (fun b hb => ⟨hb, hS b hb, by simp [Value.ownBlock]⟩) (fun _ _ => rfl)) hown2 hg2 hat2)
                          clear hown2 hg2 hnil2 hat2
                          have hoo := HO.out
                          rw [List.nil_append] at hoo
                          obtain ⟨zs, hzo, hzc⟩ := hoo
                          have HZC := Lib.hid hzc
                          have HYL2 := Lib.hid (show ∀ j u, ys[j]? = some u → w2.cell? (b.add j) = some u from fun j u hu => (hg2'.cell (by rw [add_block]; exact hS _ hSb)).trans (HYL.out j u hu)))
                       | (at_builtin; go_loud (refine wpList_append_own_at _ rfl _ _ 27 rfl w.heap.size 30 i0 _ 2 32 Tryd.underlying27 hi hz0 hz1 hz2 rfl (by decide) v2 G.length zs rfl hzo b L.length d ys rfl hyn HYL2.out HYC.out.oneCells (by simp only [maxLen]; omega) (by omega) hg2'.size ?_); intro v3 w3 hown3 hg3 hnil3 hat3))
    have hlt := HO.out.lt
    have hg3' : Below w.heap.size w w3 := hg2'.grown hg3 hg2'.size (fun k e => (hlt k e).1)
    have ho : TyR.Own S w.heap.size v3 (G ++ L) w3 := Rep.Own.more (R := TyR) hzo HZC.out
      (HYC.out.keep (fun b hb => ⟨hb, Nat.lt_of_lt_of_le (hS b hb) hg2'.size, fun e => by have h1 := hlt _ e; have h2 := hS b hb; omega⟩) (fun p hp => hg2'.cell (hS _ hp))) hown3 hg3 hat3
    exact bodyPost_ret (v := v3) (by simp [results, Tryd.results57, go_sem]) rfl ⟨_, rfl, ho.sl, own_formed ho, hg3'⟩
end Go.Proofs.YtieafbmabnohhaaDoor
