/- The second form of Check on types. -/
import Derived.Test.YtdbkphgamkeboaaDoorRefSame
namespace Go.Proofs.YtdbkphgamkeboaaDoor
open Go.RowKit

theorem ok_mk (k : Int) (l : List Ty) : (Ty.mk k l).ok = ((Ty.mk k l).formed && okAll l) := by rw [Ty.ok, formed_eq]
theorem okAll_at {l : List Ty} (h : okAll l = true) (i : Nat) (hi : i < l.length) : l[i].ok = true := by
  induction l generalizing i with
  | nil => simp at hi
  | cons t r ih =>
    simp only [okAll, Bool.and_eq_true] at h
    cases i with
    | zero => exact h.1
    | succ i => exact ih h.2 i (by simpa using hi)
theorem okAll_of {l : List Ty} (h : ∀ i (hi : i < l.length), l[i].ok = true) : okAll l = true := by
  induction l with
  | nil => rfl
  | cons t r ih =>
    simp only [okAll, Bool.and_eq_true]
    exact ⟨h 0 (by simp), ih fun i hi => h (i + 1) (by simpa using hi)⟩

set_option maxRecDepth 100000 in
set_option maxHeartbeats 4000000 in
theorem refSize_any (n : Nat) : ∀ (T : Ty) (v : Value) (w : World), T.nodes ≤ n → n ≤ 400000 → IsTy (· < w.heap.size) w T v →
    Calls Tryd.prog 146 #[v] w fun e w' => e = .returned (.int .i64 (T.nodes : Int)) ∧ Below w.heap.size w w' := by
  induction n with
  | zero => intro T; have := nodes_pos T; omega
  | succ n ih =>
    intro T v w hn hb hT
    obtain ⟨A, c, rfl⟩ := hT.form
    obtain ⟨k, l⟩ := T
    simp only [kind_mk_, args_mk_] at *
    obtain ⟨_, hl⟩ := hT.sl
    simp only [args_mk_] at hl
    simp only [Ty.nodes] at hn ⊢
    have hll := nodesAll_len l
    have IH := Lib.hid ih
    have HL := Lib.hid hl
    have hbW := below_box w (Obj.cells #[.int .i64 k, .slice A l.length c] 30)
    clear hT hl ih
    go_enter Tryd.func146, Tryd.ntmps146
    go_wp2_with fail
    generalize w.alloc (Obj.cells #[.int .i64 k, .slice A l.length c] 30) = W at hbW ⊢
    go_loopw [3, 9] (fun cnt ix wr => ∃ j : Nat, j ≤ l.length ∧ ix = .int .i64 j ∧ cnt = .int .i64 ((1 + nodesAll (l.take j) : Nat) : Int) ∧ Below w.heap.size w wr) (fun _ ix _ => l.length - (intOf ix).toNat)
    case atStart => exact ⟨0, by omega, rfl, by simp [nodesAll], hbW⟩
    case round =>
      obtain ⟨j, hj, rfl, rfl, hbel⟩ := hrel
      by_cases hlt : j < l.length
      · have hl1 : TyR.Sl (· < w.heap.size) wr l (.slice A l.length c) := HL.out.keep (fun _ h => h) (fun p hp => hbel.cell hp)
        obtain ⟨a, rfl, ha, hat⟩ := hl1.get j hlt
        obtain ⟨A1, c1, q0, q1, hx⟩ := at_ty hat
        simp only [show TyR.n = 2 from rfl] at q0 q1
        have hnj := nodesAll_get l j hlt
        have htk := nodesAll_take l j hlt
        have htl := nodesAll_take_le l (j + 1)
        have hx1 := (IsTy.keep (S' := (· < wr.heap.size)) (fun b h => Nat.lt_of_lt_of_le h hbel.size) (fun _ _ => rfl) _ hx).boxed (below_box wr (Obj.cells #[.int .i64 l[j].kind, .slice A1 l[j].args.length c1] 30))
        have HX := Lib.hid (And.intro hx1 htk)
        clear hl1 hat hx hx1 htk
        go_wp2_with fail
        refine (IH.out l[j] _ _ (by omega) (by omega) HX.out.1).mono ?_
        rintro e w1 ⟨rfl, hb1⟩
        have hsum : 1 + nodesAll (l.take j) + l[j].nodes ≤ 400001 := by have := HX.out.2; omega
        go_wp2_with fail
        refine ⟨⟨j + 1, by omega, by go_num, by rw [HX.out.2]; go_num, hbel.trans (((below_box wr _).trans (hb1.mono (by simp))).mono hbel.size)⟩, by simp [intOf]; omega⟩
      · have hjl : j = l.length := by omega
        subst hjl
        rw [List.take_length]
        go_wp2_with fail
        go_ret
        exact ⟨rfl, hbel⟩

set_option maxRecDepth 100000 in
set_option maxHeartbeats 8000000 in
theorem refShape_any (n : Nat) : ∀ (T : Ty) (v : Value) (w : World), T.nodes ≤ n → n ≤ 400000 → IsTy (· < w.heap.size) w T v →
    Calls Tryd.prog 145 #[v] w fun e w' => e = .returned (.bool T.ok) ∧ Below w.heap.size w w' := by
  induction n with
  | zero => intro T; have := nodes_pos T; omega
  | succ n ih =>
    intro T v w hn hb hT
    obtain ⟨A, c, rfl⟩ := hT.form
    obtain ⟨k, l⟩ := T
    simp only [kind_mk_, args_mk_] at *
    obtain ⟨_, hl⟩ := hT.sl
    simp only [args_mk_] at hl
    simp only [Ty.nodes] at hn
    have hll := nodesAll_len l
    have IH := Lib.hid ih
    have HL := Lib.hid hl
    have hbW := below_box w (Obj.cells #[.int .i64 k, .slice A l.length c] 30)
    clear hT hl ih
    by_cases hks : k = 1 ∨ k = 2 ∨ k = 5 ∨ k = 3 ∨ k = 4
    · rcases hks with hk | hk | hk | hk | hk
      · subst hk
        by_cases hlen : l.length = 0
        · have e1 : ((l.length : Int) != (0 : Int)) = false := by simp [hlen]
          have hfo : (Ty.mk 1 l).formed = true := by simp [Ty.formed, kind_mk_, args_mk_, hlen]
          have HFO := Lib.hid hfo
          clear hfo hlen
          go_enter Tryd.func145, Tryd.ntmps145
          go_wp2_with fail
          generalize w.alloc (Obj.cells #[.int .i64 1, .slice A l.length c] 30) = W at hbW ⊢
          go_loopw [23] (fun ix wr => ∃ j : Nat, j ≤ l.length ∧ ix = .int .i64 j ∧ (∀ i (hi : i < l.length), i < j → l[i].ok = true) ∧ Below w.heap.size w wr) (fun ix _ => l.length - (intOf ix).toNat)
          case atStart => exact ⟨0, by omega, rfl, fun i _ h => by omega, hbW⟩
          case round =>
            obtain ⟨j, hj, rfl, hso, hbel⟩ := hrel
            have HSO := Lib.hid hso
            clear hso
            by_cases hlt : j < l.length
            · have hl1 : TyR.Sl (· < w.heap.size) wr l (.slice A l.length c) := HL.out.keep (fun _ h => h) (fun p hp => hbel.cell hp)
              obtain ⟨a, rfl, ha, hat⟩ := hl1.get j hlt
              obtain ⟨A1, c1, q0, q1, hx⟩ := at_ty hat
              simp only [show TyR.n = 2 from rfl] at q0 q1
              have hnj := nodesAll_get l j hlt
              have hx1 := (IsTy.keep (S' := (· < wr.heap.size)) (fun b h => Nat.lt_of_lt_of_le h hbel.size) (fun _ _ => rfl) _ hx).boxed (below_box wr (Obj.cells #[.int .i64 l[j].kind, .slice A1 l[j].args.length c1] 30))
              have HX := Lib.hid hx1
              clear hl1 hat hx hx1
              by_cases hok : l[j].ok = true
              · have HOK := Lib.hid hok
                clear hok
                go_wp2_with fail
                refine (IH.out l[j] _ _ (by omega) (by omega) HX.out).mono ?_
                rintro e w1 ⟨rfl, hb1⟩
                rw [HOK.out]
                go_wp2_with fail
                refine ⟨⟨j + 1, by omega, by go_num, ?_, hbel.trans (((below_box wr _).trans (hb1.mono (by simp))).mono hbel.size)⟩, by simp [intOf]; omega⟩
                intro i hi hij
                by_cases e : i = j
                · subst e; exact HOK.out
                · exact HSO.out i hi (by omega)
              · have hok' : l[j].ok = false := by simpa using hok
                have HOK := Lib.hid hok'
                have hf : okAll l = false := by
                  cases h : okAll l with
                  | false => rfl
                  | true => exact absurd (okAll_at h j hlt) hok
                have HF := Lib.hid hf
                clear hok hok' hf
                go_wp2_with fail
                refine (IH.out l[j] _ _ (by omega) (by omega) HX.out).mono ?_
                rintro e w1 ⟨rfl, hb1⟩
                rw [HOK.out]
                go_wp2_with fail
                go_ret
                exact ⟨by rw [ok_mk, HF.out, Bool.and_false]; rfl, hbel.trans (((below_box wr _).trans (hb1.mono (by simp))).mono hbel.size)⟩
            · have hjl : j = l.length := by omega
              subst hjl
              go_wp2_with fail
              go_ret
              exact ⟨by rw [ok_mk, okAll_of (fun i hi => HSO.out i hi hi), HFO.out]; rfl, hbel⟩
        · have e1 : ((l.length : Int) != (0 : Int)) = true := by rw [bne_iff_ne]; omega
          have hfo : (Ty.mk 1 l).ok = false := by
            rw [ok_mk]
            simp [Ty.formed, kind_mk_, args_mk_, hlen]
          have HFO := Lib.hid hfo
          clear hfo hlen
          go_enter Tryd.func145, Tryd.ntmps145
          go_wp2_with fail
          go_ret
          exact ⟨by rw [HFO.out]; rfl, hbW⟩

      · subst hk
        by_cases hlen : l.length = 0
        · have e1 : ((l.length : Int) != (0 : Int)) = false := by simp [hlen]
          have hfo : (Ty.mk 2 l).formed = true := by simp [Ty.formed, kind_mk_, args_mk_, hlen]
          have HFO := Lib.hid hfo
          clear hfo hlen
          go_enter Tryd.func145, Tryd.ntmps145
          go_wp2_with fail
          generalize w.alloc (Obj.cells #[.int .i64 2, .slice A l.length c] 30) = W at hbW ⊢
          go_loopw [23] (fun ix wr => ∃ j : Nat, j ≤ l.length ∧ ix = .int .i64 j ∧ (∀ i (hi : i < l.length), i < j → l[i].ok = true) ∧ Below w.heap.size w wr) (fun ix _ => l.length - (intOf ix).toNat)
          case atStart => exact ⟨0, by omega, rfl, fun i _ h => by omega, hbW⟩
          case round =>
            obtain ⟨j, hj, rfl, hso, hbel⟩ := hrel
            have HSO := Lib.hid hso
            clear hso
            by_cases hlt : j < l.length
            · have hl1 : TyR.Sl (· < w.heap.size) wr l (.slice A l.length c) := HL.out.keep (fun _ h => h) (fun p hp => hbel.cell hp)
              obtain ⟨a, rfl, ha, hat⟩ := hl1.get j hlt
              obtain ⟨A1, c1, q0, q1, hx⟩ := at_ty hat
              simp only [show TyR.n = 2 from rfl] at q0 q1
              have hnj := nodesAll_get l j hlt
              have hx1 := (IsTy.keep (S' := (· < wr.heap.size)) (fun b h => Nat.lt_of_lt_of_le h hbel.size) (fun _ _ => rfl) _ hx).boxed (below_box wr (Obj.cells #[.int .i64 l[j].kind, .slice A1 l[j].args.length c1] 30))
              have HX := Lib.hid hx1
              clear hl1 hat hx hx1
              by_cases hok : l[j].ok = true
              · have HOK := Lib.hid hok
                clear hok
                go_wp2_with fail
                refine (IH.out l[j] _ _ (by omega) (by omega) HX.out).mono ?_
                rintro e w1 ⟨rfl, hb1⟩
                rw [HOK.out]
                go_wp2_with fail
                refine ⟨⟨j + 1, by omega, by go_num, ?_, hbel.trans (((below_box wr _).trans (hb1.mono (by simp))).mono hbel.size)⟩, by simp [intOf]; omega⟩
                intro i hi hij
                by_cases e : i = j
                · subst e; exact HOK.out
                · exact HSO.out i hi (by omega)
              · have hok' : l[j].ok = false := by simpa using hok
                have HOK := Lib.hid hok'
                have hf : okAll l = false := by
                  cases h : okAll l with
                  | false => rfl
                  | true => exact absurd (okAll_at h j hlt) hok
                have HF := Lib.hid hf
                clear hok hok' hf
                go_wp2_with fail
                refine (IH.out l[j] _ _ (by omega) (by omega) HX.out).mono ?_
                rintro e w1 ⟨rfl, hb1⟩
                rw [HOK.out]
                go_wp2_with fail
                go_ret
                exact ⟨by rw [ok_mk, HF.out, Bool.and_false]; rfl, hbel.trans (((below_box wr _).trans (hb1.mono (by simp))).mono hbel.size)⟩
            · have hjl : j = l.length := by omega
              subst hjl
              go_wp2_with fail
              go_ret
              exact ⟨by rw [ok_mk, okAll_of (fun i hi => HSO.out i hi hi), HFO.out]; rfl, hbel⟩
        · have e1 : ((l.length : Int) != (0 : Int)) = true := by rw [bne_iff_ne]; omega
          have hfo : (Ty.mk 2 l).ok = false := by
            rw [ok_mk]
            simp [Ty.formed, kind_mk_, args_mk_, hlen]
          have HFO := Lib.hid hfo
          clear hfo hlen
          go_enter Tryd.func145, Tryd.ntmps145
          go_wp2_with fail
          go_ret
          exact ⟨by rw [HFO.out]; rfl, hbW⟩

      · subst hk
        by_cases hlen : l.length = 0
        · have e1 : ((l.length : Int) != (0 : Int)) = false := by simp [hlen]
          have hfo : (Ty.mk 5 l).formed = true := by simp [Ty.formed, kind_mk_, args_mk_, hlen]
          have HFO := Lib.hid hfo
          clear hfo hlen
          go_enter Tryd.func145, Tryd.ntmps145
          go_wp2_with fail
          generalize w.alloc (Obj.cells #[.int .i64 5, .slice A l.length c] 30) = W at hbW ⊢
          go_loopw [23] (fun ix wr => ∃ j : Nat, j ≤ l.length ∧ ix = .int .i64 j ∧ (∀ i (hi : i < l.length), i < j → l[i].ok = true) ∧ Below w.heap.size w wr) (fun ix _ => l.length - (intOf ix).toNat)
          case atStart => exact ⟨0, by omega, rfl, fun i _ h => by omega, hbW⟩
          case round =>
            obtain ⟨j, hj, rfl, hso, hbel⟩ := hrel
            have HSO := Lib.hid hso
            clear hso
            by_cases hlt : j < l.length
            · have hl1 : TyR.Sl (· < w.heap.size) wr l (.slice A l.length c) := HL.out.keep (fun _ h => h) (fun p hp => hbel.cell hp)
              obtain ⟨a, rfl, ha, hat⟩ := hl1.get j hlt
              obtain ⟨A1, c1, q0, q1, hx⟩ := at_ty hat
              simp only [show TyR.n = 2 from rfl] at q0 q1
              have hnj := nodesAll_get l j hlt
              have hx1 := (IsTy.keep (S' := (· < wr.heap.size)) (fun b h => Nat.lt_of_lt_of_le h hbel.size) (fun _ _ => rfl) _ hx).boxed (below_box wr (Obj.cells #[.int .i64 l[j].kind, .slice A1 l[j].args.length c1] 30))
              have HX := Lib.hid hx1
              clear hl1 hat hx hx1
              by_cases hok : l[j].ok = true
              · have HOK := Lib.hid hok
                clear hok
                go_wp2_with fail
                refine (IH.out l[j] _ _ (by omega) (by omega) HX.out).mono ?_
                rintro e w1 ⟨rfl, hb1⟩
                rw [HOK.out]
                go_wp2_with fail
                refine ⟨⟨j + 1, by omega, by go_num, ?_, hbel.trans (((below_box wr _).trans (hb1.mono (by simp))).mono hbel.size)⟩, by simp [intOf]; omega⟩
                intro i hi hij
                by_cases e : i = j
                · subst e; exact HOK.out
                · exact HSO.out i hi (by omega)
              · have hok' : l[j].ok = false := by simpa using hok
                have HOK := Lib.hid hok'
                have hf : okAll l = false := by
                  cases h : okAll l with
                  | false => rfl
                  | true => exact absurd (okAll_at h j hlt) hok
                have HF := Lib.hid hf
                clear hok hok' hf
                go_wp2_with fail
                refine (IH.out l[j] _ _ (by omega) (by omega) HX.out).mono ?_
                rintro e w1 ⟨rfl, hb1⟩
                rw [HOK.out]
                go_wp2_with fail
                go_ret
                exact ⟨by rw [ok_mk, HF.out, Bool.and_false]; rfl, hbel.trans (((below_box wr _).trans (hb1.mono (by simp))).mono hbel.size)⟩
            · have hjl : j = l.length := by omega
              subst hjl
              go_wp2_with fail
              go_ret
              exact ⟨by rw [ok_mk, okAll_of (fun i hi => HSO.out i hi hi), HFO.out]; rfl, hbel⟩
        · have e1 : ((l.length : Int) != (0 : Int)) = true := by rw [bne_iff_ne]; omega
          have hfo : (Ty.mk 5 l).ok = false := by
            rw [ok_mk]
            simp [Ty.formed, kind_mk_, args_mk_, hlen]
          have HFO := Lib.hid hfo
          clear hfo hlen
          go_enter Tryd.func145, Tryd.ntmps145
          go_wp2_with fail
          go_ret
          exact ⟨by rw [HFO.out]; rfl, hbW⟩

      · subst hk
        by_cases hlen : l.length = 2
        · have e1 : ((l.length : Int) != (2 : Int)) = false := by simp [hlen]
          have hfo : (Ty.mk 3 l).formed = true := by simp [Ty.formed, kind_mk_, args_mk_, hlen]
          have HFO := Lib.hid hfo
          clear hfo hlen
          go_enter Tryd.func145, Tryd.ntmps145
          go_wp2_with fail
          generalize w.alloc (Obj.cells #[.int .i64 3, .slice A l.length c] 30) = W at hbW ⊢
          go_loopw [23] (fun ix wr => ∃ j : Nat, j ≤ l.length ∧ ix = .int .i64 j ∧ (∀ i (hi : i < l.length), i < j → l[i].ok = true) ∧ Below w.heap.size w wr) (fun ix _ => l.length - (intOf ix).toNat)
          case atStart => exact ⟨0, by omega, rfl, fun i _ h => by omega, hbW⟩
          case round =>
            obtain ⟨j, hj, rfl, hso, hbel⟩ := hrel
            have HSO := Lib.hid hso
            clear hso
            by_cases hlt : j < l.length
            · have hl1 : TyR.Sl (· < w.heap.size) wr l (.slice A l.length c) := HL.out.keep (fun _ h => h) (fun p hp => hbel.cell hp)
              obtain ⟨a, rfl, ha, hat⟩ := hl1.get j hlt
              obtain ⟨A1, c1, q0, q1, hx⟩ := at_ty hat
              simp only [show TyR.n = 2 from rfl] at q0 q1
              have hnj := nodesAll_get l j hlt
              have hx1 := (IsTy.keep (S' := (· < wr.heap.size)) (fun b h => Nat.lt_of_lt_of_le h hbel.size) (fun _ _ => rfl) _ hx).boxed (below_box wr (Obj.cells #[.int .i64 l[j].kind, .slice A1 l[j].args.length c1] 30))
              have HX := Lib.hid hx1
              clear hl1 hat hx hx1
              by_cases hok : l[j].ok = true
              · have HOK := Lib.hid hok
                clear hok
                go_wp2_with fail
                refine (IH.out l[j] _ _ (by omega) (by omega) HX.out).mono ?_
                rintro e w1 ⟨rfl, hb1⟩
                rw [HOK.out]
                go_wp2_with fail
                refine ⟨⟨j + 1, by omega, by go_num, ?_, hbel.trans (((below_box wr _).trans (hb1.mono (by simp))).mono hbel.size)⟩, by simp [intOf]; omega⟩
                intro i hi hij
                by_cases e : i = j
                · subst e; exact HOK.out
                · exact HSO.out i hi (by omega)
              · have hok' : l[j].ok = false := by simpa using hok
                have HOK := Lib.hid hok'
                have hf : okAll l = false := by
                  cases h : okAll l with
                  | false => rfl
                  | true => exact absurd (okAll_at h j hlt) hok
                have HF := Lib.hid hf
                clear hok hok' hf
                go_wp2_with fail
                refine (IH.out l[j] _ _ (by omega) (by omega) HX.out).mono ?_
                rintro e w1 ⟨rfl, hb1⟩
                rw [HOK.out]
                go_wp2_with fail
                go_ret
                exact ⟨by rw [ok_mk, HF.out, Bool.and_false]; rfl, hbel.trans (((below_box wr _).trans (hb1.mono (by simp))).mono hbel.size)⟩
            · have hjl : j = l.length := by omega
              subst hjl
              go_wp2_with fail
              go_ret
              exact ⟨by rw [ok_mk, okAll_of (fun i hi => HSO.out i hi hi), HFO.out]; rfl, hbel⟩
        · have e1 : ((l.length : Int) != (2 : Int)) = true := by rw [bne_iff_ne]; omega
          have hfo : (Ty.mk 3 l).ok = false := by
            rw [ok_mk]
            simp [Ty.formed, kind_mk_, args_mk_, hlen]
          have HFO := Lib.hid hfo
          clear hfo hlen
          go_enter Tryd.func145, Tryd.ntmps145
          go_wp2_with fail
          go_ret
          exact ⟨by rw [HFO.out]; rfl, hbW⟩

      · subst hk
        by_cases hlen : l.length = 2
        · have e1 : ((l.length : Int) != (2 : Int)) = false := by simp [hlen]
          have hfo : (Ty.mk 4 l).formed = true := by simp [Ty.formed, kind_mk_, args_mk_, hlen]
          have HFO := Lib.hid hfo
          clear hfo hlen
          go_enter Tryd.func145, Tryd.ntmps145
          go_wp2_with fail
          generalize w.alloc (Obj.cells #[.int .i64 4, .slice A l.length c] 30) = W at hbW ⊢
          go_loopw [23] (fun ix wr => ∃ j : Nat, j ≤ l.length ∧ ix = .int .i64 j ∧ (∀ i (hi : i < l.length), i < j → l[i].ok = true) ∧ Below w.heap.size w wr) (fun ix _ => l.length - (intOf ix).toNat)
          case atStart => exact ⟨0, by omega, rfl, fun i _ h => by omega, hbW⟩
          case round =>
            obtain ⟨j, hj, rfl, hso, hbel⟩ := hrel
            have HSO := Lib.hid hso
            clear hso
            by_cases hlt : j < l.length
            · have hl1 : TyR.Sl (· < w.heap.size) wr l (.slice A l.length c) := HL.out.keep (fun _ h => h) (fun p hp => hbel.cell hp)
              obtain ⟨a, rfl, ha, hat⟩ := hl1.get j hlt
              obtain ⟨A1, c1, q0, q1, hx⟩ := at_ty hat
              simp only [show TyR.n = 2 from rfl] at q0 q1
              have hnj := nodesAll_get l j hlt
              have hx1 := (IsTy.keep (S' := (· < wr.heap.size)) (fun b h => Nat.lt_of_lt_of_le h hbel.size) (fun _ _ => rfl) _ hx).boxed (below_box wr (Obj.cells #[.int .i64 l[j].kind, .slice A1 l[j].args.length c1] 30))
              have HX := Lib.hid hx1
              clear hl1 hat hx hx1
              by_cases hok : l[j].ok = true
              · have HOK := Lib.hid hok
                clear hok
                go_wp2_with fail
                refine (IH.out l[j] _ _ (by omega) (by omega) HX.out).mono ?_
                rintro e w1 ⟨rfl, hb1⟩
                rw [HOK.out]
                go_wp2_with fail
                refine ⟨⟨j + 1, by omega, by go_num, ?_, hbel.trans (((below_box wr _).trans (hb1.mono (by simp))).mono hbel.size)⟩, by simp [intOf]; omega⟩
                intro i hi hij
                by_cases e : i = j
                · subst e; exact HOK.out
                · exact HSO.out i hi (by omega)
              · have hok' : l[j].ok = false := by simpa using hok
                have HOK := Lib.hid hok'
                have hf : okAll l = false := by
                  cases h : okAll l with
                  | false => rfl
                  | true => exact absurd (okAll_at h j hlt) hok
                have HF := Lib.hid hf
                clear hok hok' hf
                go_wp2_with fail
                refine (IH.out l[j] _ _ (by omega) (by omega) HX.out).mono ?_
                rintro e w1 ⟨rfl, hb1⟩
                rw [HOK.out]
                go_wp2_with fail
                go_ret
                exact ⟨by rw [ok_mk, HF.out, Bool.and_false]; rfl, hbel.trans (((below_box wr _).trans (hb1.mono (by simp))).mono hbel.size)⟩
            · have hjl : j = l.length := by omega
              subst hjl
              go_wp2_with fail
              go_ret
              exact ⟨by rw [ok_mk, okAll_of (fun i hi => HSO.out i hi hi), HFO.out]; rfl, hbel⟩
        · have e1 : ((l.length : Int) != (2 : Int)) = true := by rw [bne_iff_ne]; omega
          have hfo : (Ty.mk 4 l).ok = false := by
            rw [ok_mk]
            simp [Ty.formed, kind_mk_, args_mk_, hlen]
          have HFO := Lib.hid hfo
          clear hfo hlen
          go_enter Tryd.func145, Tryd.ntmps145
          go_wp2_with fail
          go_ret
          exact ⟨by rw [HFO.out]; rfl, hbW⟩

    · have e1 : (k == 1) = false := by rw [beq_eq_false_iff_ne]; omega
      have e2 : (k == 2) = false := by rw [beq_eq_false_iff_ne]; omega
      have e5 : (k == 5) = false := by rw [beq_eq_false_iff_ne]; omega
      have e3 : (k == 3) = false := by rw [beq_eq_false_iff_ne]; omega
      have e4 : (k == 4) = false := by rw [beq_eq_false_iff_ne]; omega
      have hfo : (Ty.mk k l).ok = false := by
        rw [ok_mk]
        have h1 : ¬ (k = 1 ∨ k = 2 ∨ k = 5) := by omega
        have h2 : ¬ (k = 3 ∨ k = 4) := by omega
        simp [Ty.formed, kind_mk_, h1, h2]
      have HFO := Lib.hid hfo
      clear hfo hks
      go_enter Tryd.func145, Tryd.ntmps145
      go_wp2_with fail
      go_ret
      exact ⟨by rw [HFO.out]; rfl, hbW⟩

set_option maxHeartbeats 1000000 in
theorem refCheck_any (T : Ty) (v : Value) (w : World) (hsz : T.nodes ≤ 400000) (hT : IsTy (· < w.heap.size) w T v) :
    Calls Tryd.prog 106 #[v] w fun e w' => e = .returned (.int .i64 T.err) ∧ Below w.heap.size w w' := by
  obtain ⟨A, c, rfl⟩ := hT.form
  obtain ⟨b1, z1, k1⟩ := new_blk (Below.refl w.heap.size w) (Nat.le_refl _) #[.int .i64 T.kind, .slice A T.args.length c] 30
  have hT1 := hT.boxed b1
  go_enter Tryd.func106, Tryd.ntmps106
  go_wp2_with fail
  generalize w.alloc (Obj.cells #[.int .i64 T.kind, .slice A T.args.length c] 30) = W at b1 z1 k1 hT1 ⊢
  refine (refShape_any 400000 T _ W hsz (Nat.le_refl _) hT1).mono ?_
  rintro e w1 ⟨rfl, hb1⟩
  have hb01 : Below w.heap.size w w1 := b1.trans (hb1.mono b1.size)
  by_cases hok : T.ok = true
  · rw [hok]
    obtain ⟨q0, q1, _, _⟩ := (k1.below hb1 (by omega)).facts2
    have HT := Lib.hid (hT1.boxed hb1)
    have HOK := Lib.hid hok
    clear hT hT1 hok
    go_wp2_with fail
    refine (refSize_any 400000 T _ w1 hsz (Nat.le_refl _) HT.out).mono ?_
    rintro e w2 ⟨rfl, hb2⟩
    have hb02 : Below w.heap.size w w2 := hb01.trans (hb2.mono hb01.size)
    by_cases h64 : T.nodes ≤ 64
    · have e4 : decide ((64 : Int) < (T.nodes : Int)) = false := by simp; omega
      go_wp2_with fail
      go_ret
      exact ⟨by rw [show T.err = 0 from err_zero.2 ⟨HOK.out, h64⟩]; rfl, hb02⟩
    · have e4 : decide ((64 : Int) < (T.nodes : Int)) = true := by simp; omega
      have he : T.err = 4 := by unfold Ty.err; rw [if_pos HOK.out, if_neg h64]
      go_wp2_with fail
      go_ret
      exact ⟨by rw [he]; rfl, hb02⟩
  · have hok' : T.ok = false := by simpa using hok
    have he : T.err = 2 := by unfold Ty.err; rw [if_neg hok]
    rw [hok']
    go_wp2_with fail
    go_ret
    exact ⟨by rw [he]; rfl, hb01⟩
end Go.Proofs.YtdbkphgamkeboaaDoor
