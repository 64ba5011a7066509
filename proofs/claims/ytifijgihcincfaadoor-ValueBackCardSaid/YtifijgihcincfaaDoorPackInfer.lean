/- The sanity check of the second chapter. -/
import Derived.Test.YtifijgihcincfaaDoorTypeTop
import Derived.Test.YtifijgihcincfaaDoorRefSame
import Derived.Test.YtifijgihcincfaaDoorSameEq
import Derived.Deep.RegionHeld3
import Derived.Deep.AppendLies
import Derived.Deep.RegionLawGrows
namespace Go.Proofs.YtifijgihcincfaaDoor
open Go.RowKit

def identT : Tm := .mk 2 0 tyNat [.mk 1 0 .zero []]
theorem ident_typ : identT.typeOf [] = .ok (tyFun tyNat tyNat) := by
  have h1 : ctxErr [] = 0 := rfl
  have h2 : identT.err = 0 := by decide
  unfold Tm.typeOf
  rw [if_pos h1, if_pos h2]
  rfl

theorem refSame_is {S T : Ty} {u v : Value} {w : World} (b : Bool) (hb : S.eqb T = b) (hS0 : S.nodes ≤ 400000) (hT0 : T.nodes ≤ 400000) (hS : IsTy (· < w.heap.size) w S u) (hT : IsTy (· < w.heap.size) w T v) :
    Calls Tryd.prog 25 #[u, v] w fun e w' => e = .returned (.bool b) ∧ Below w.heap.size w w' := by
  subst hb
  exact refSame_any 400000 S T u v w hS0 (Nat.le_refl _) hS hT hT0

end Go.Proofs.YtifijgihcincfaaDoor
namespace Go.Proofs.YtifijgihcincfaaDoor
open Go.RowKit

theorem ok_mk (k : Int) (l : List Ty) : (Ty.mk k l).ok = ((Ty.mk k l).formed && okAll l) := by rw [Ty.ok, formed_eq]
theorem okAll_at {l : List Ty} (h : okAll l = true) (i : Nat) (hi : i < l.length) : l[i].ok = true := by
  induction l generalizing i with
  | nil => simp at hi
  | cons t r ih =>
    simp only [okAll, Bool.and_eq_true] at h
    cases i with
    | zero => exact h.1
    | succ i => exact ih h.2 i (by simpa using hi)
theorem okAll_of {l : List Ty} (h : ∀ i (hi : i < l.length), l[i].ok = true) : okAll l = true := by
  induction l with
  | nil => rfl
  | cons t r ih =>
    simp only [okAll, Bool.and_eq_true]
    exact ⟨h 0 (by simp), ih fun i hi => h (i + 1) (by simpa using hi)⟩

set_option maxRecDepth 100000 in
set_option maxHeartbeats 4000000 in
theorem refSize_any (n : Nat) : ∀ (T : Ty) (v : Value) (w : World), T.nodes ≤ n → n ≤ 400000 → IsTy (· < w.heap.size) w T v →
    Calls Tryd.prog 99 #[v] w fun e w' => e = .returned (.int .i64 (T.nodes : Int)) ∧ Below w.heap.size w w' := by
  induction n with
  | zero => intro T; have := nodes_pos T; omega
  | succ n ih =>
    intro T v w hn hb hT
    obtain ⟨A, c, rfl⟩ := hT.form
    obtain ⟨k, l⟩ := T
    simp only [kind_mk_, args_mk_] at *
    obtain ⟨_, hl⟩ := hT.sl
    simp only [args_mk_] at hl
    simp only [Ty.nodes] at hn ⊢
    have hll := nodesAll_len l
    have IH := Lib.hid ih
    have HL := Lib.hid hl
    have hbW := below_box w (Obj.cells #[.int .i64 k, .slice A l.length c] 30)
    clear hT hl ih
    go_enter Tryd.func99, Tryd.ntmps99
    go_wp2_with fail
    generalize w.alloc (Obj.cells #[.int .i64 k, .slice A l.length c] 30) = W at hbW ⊢
    go_loopw [3, 9] (fun cnt ix wr => ∃ j : Nat, j ≤ l.length ∧ ix = .int .i64 j ∧ cnt = .int .i64 ((1 + nodesAll (l.take j) : Nat) : Int) ∧ Below w.heap.size w wr) (fun _ ix _ => l.length - (intOf ix).toNat)
    case atStart => exact ⟨0, by omega, rfl, by simp [nodesAll], hbW⟩
    case round =>
      obtain ⟨j, hj, rfl, rfl, hbel⟩ := hrel
      by_cases hlt : j < l.length
      · have hl1 : TyR.Sl (· < w.heap.size) wr l (.slice A l.length c) := HL.out.keep (fun _ h => h) (fun p hp => hbel.cell hp)
        obtain ⟨a, rfl, ha, hat⟩ := hl1.get j hlt
        obtain ⟨A1, c1, q0, q1, hx⟩ := at_ty hat
        simp only [show TyR.n = 2 from rfl] at q0 q1
        have hnj := nodesAll_get l j hlt
        have htk := nodesAll_take l j hlt
        have htl := nodesAll_take_le l (j + 1)
        have hx1 := (IsTy.keep (S' := (· < wr.heap.size)) (fun b h => Nat.lt_of_lt_of_le h hbel.size) (fun _ _ => rfl) _ hx).boxed (below_box wr (Obj.cells #[.int .i64 l[j].kind, .slice A1 l[j].args.length c1] 30))
        have HX := Lib.hid (And.intro hx1 htk)
        clear hl1 hat hx hx1 htk
        go_wp2_with fail
        refine (IH.out l[j] _ _ (by omega) (by omega) HX.out.1).mono ?_
        rintro e w1 ⟨rfl, hb1⟩
        have hsum : 1 + nodesAll (l.take j) + l[j].nodes ≤ 400001 := by have := HX.out.2; omega
        go_wp2_with fail
        refine ⟨⟨j + 1, by omega, by go_num, by rw [HX.out.2]; go_num, hbel.trans (((below_box wr _).trans (hb1.mono (by simp))).mono hbel.size)⟩, by simp [intOf]; omega⟩
      · have hjl : j = l.length := by omega
        subst hjl
        rw [List.take_length]
        go_wp2_with fail
        go_ret
        exact ⟨rfl, hbel⟩

set_option maxRecDepth 100000 in
set_option maxHeartbeats 8000000 in
theorem refShape_any (n : Nat) : ∀ (T : Ty) (v : Value) (w : World), T.nodes ≤ n → n ≤ 400000 → IsTy (· < w.heap.size) w T v →
    Calls Tryd.prog 98 #[v] w fun e w' => e = .returned (.bool T.ok) ∧ Below w.heap.size w w' := by
  induction n with
  | zero => intro T; have := nodes_pos T; omega
  | succ n ih =>
    intro T v w hn hb hT
    obtain ⟨A, c, rfl⟩ := hT.form
    obtain ⟨k, l⟩ := T
    simp only [kind_mk_, args_mk_] at *
    obtain ⟨_, hl⟩ := hT.sl
    simp only [args_mk_] at hl
    simp only [Ty.nodes] at hn
    have hll := nodesAll_len l
    have IH := Lib.hid ih
    have HL := Lib.hid hl
    have hbW := below_box w (Obj.cells #[.int .i64 k, .slice A l.length c] 30)
    clear hT hl ih
    by_cases hks : k = 1 ∨ k = 2 ∨ k = 5 ∨ k = 3 ∨ k = 4
    · rcases hks with hk | hk | hk | hk | hk
      · subst hk
        by_cases hlen : l.length = 0
        · have e1 : ((l.length : Int) != (0 : Int)) = false := by simp [hlen]
          have hfo : (Ty.mk 1 l).formed = true := by simp [Ty.formed, kind_mk_, args_mk_, hlen]
          have HFO := Lib.hid hfo
          clear hfo hlen
          go_enter Tryd.func98, Tryd.ntmps98
          go_wp2_with fail
          generalize w.alloc (Obj.cells #[.int .i64 1, .slice A l.length c] 30) = W at hbW ⊢
          go_loopw [23] (fun ix wr => ∃ j : Nat, j ≤ l.length ∧ ix = .int .i64 j ∧ (∀ i (hi : i < l.length), i < j → l[i].ok = true) ∧ Below w.heap.size w wr) (fun ix _ => l.length - (intOf ix).toNat)
          case atStart => exact ⟨0, by omega, rfl, fun i _ h => by omega, hbW⟩
          case round =>
            obtain ⟨j, hj, rfl, hso, hbel⟩ := hrel
            have HSO := Lib.hid hso
            clear hso
            by_cases hlt : j < l.length
            · have hl1 : TyR.Sl (· < w.heap.size) wr l (.slice A l.length c) := HL.out.keep (fun _ h => h) (fun p hp => hbel.cell hp)
              obtain ⟨a, rfl, ha, hat⟩ := hl1.get j hlt
              obtain ⟨A1, c1, q0, q1, hx⟩ := at_ty hat
              simp only [show TyR.n = 2 from rfl] at q0 q1
              have hnj := nodesAll_get l j hlt
              have hx1 := (IsTy.keep (S' := (· < wr.heap.size)) (fun b h => Nat.lt_of_lt_of_le h hbel.size) (fun _ _ => rfl) _ hx).boxed (below_box wr (Obj.cells #[.int .i64 l[j].kind, .slice A1 l[j].args.length c1] 30))
              have HX := Lib.hid hx1
              clear hl1 hat hx hx1
              by_cases hok : l[j].ok = true
              · have HOK := Lib.hid hok
                clear hok
                go_wp2_with fail
                refine (IH.out l[j] _ _ (by omega) (by omega) HX.out).mono ?_
                rintro e w1 ⟨rfl, hb1⟩
                rw [HOK.out]
                go_wp2_with fail
                refine ⟨⟨j + 1, by omega, by go_num, ?_, hbel.trans (((below_box wr _).trans (hb1.mono (by simp))).mono hbel.size)⟩, by simp [intOf]; omega⟩
                intro i hi hij
                by_cases e : i = j
                · subst e; exact HOK.out
                · exact HSO.out i hi (by omega)
              · have hok' : l[j].ok = false := by simpa using hok
                have HOK := Lib.hid hok'
                have hf : okAll l = false := by
                  cases h : okAll l with
                  | false => rfl
                  | true => exact absurd (okAll_at h j hlt) hok
                have HF := Lib.hid hf
                clear hok hok' hf
                go_wp2_with fail
                refine (IH.out l[j] _ _ (by omega) (by omega) HX.out).mono ?_
                rintro e w1 ⟨rfl, hb1⟩
                rw [HOK.out]
                go_wp2_with fail
                go_ret
                exact ⟨by rw [ok_mk, HF.out, Bool.and_false]; rfl, hbel.trans (((below_box wr _).trans (hb1.mono (by simp))).mono hbel.size)⟩
            · have hjl : j = l.length := by omega
              subst hjl
              go_wp2_with fail
              go_ret
              exact ⟨by rw [ok_mk, okAll_of (fun i hi => HSO.out i hi hi), HFO.out]; rfl, hbel⟩
        · have e1 : ((l.length : Int) != (0 : Int)) = true := by rw [bne_iff_ne]; omega
          have hfo : (Ty.mk 1 l).ok = false := by
            rw [ok_mk]
            simp [Ty.formed, kind_mk_, args_mk_, hlen]
          have HFO := Lib.hid hfo
          clear hfo hlen
          go_enter Tryd.func98, Tryd.ntmps98
          go_wp2_with fail
          go_ret
          exact ⟨by rw [HFO.out]; rfl, hbW⟩

      · subst hk
        by_cases hlen : l.length = 0
        · have e1 : ((l.length : Int) != (0 : Int)) = false := by simp [hlen]
          have hfo : (Ty.mk 2 l).formed = true := by simp [Ty.formed, kind_mk_, args_mk_, hlen]
          have HFO := Lib.hid hfo
          clear hfo hlen
          go_enter Tryd.func98, Tryd.ntmps98
          go_wp2_with fail
          generalize w.alloc (Obj.cells #[.int .i64 2, .slice A l.length c] 30) = W at hbW ⊢
          go_loopw [23] (fun ix wr => ∃ j : Nat, j ≤ l.length ∧ ix = .int .i64 j ∧ (∀ i (hi : i < l.length), i < j → l[i].ok = true) ∧ Below w.heap.size w wr) (fun ix _ => l.length - (intOf ix).toNat)
          case atStart => exact ⟨0, by omega, rfl, fun i _ h => by omega, hbW⟩
          case round =>
            obtain ⟨j, hj, rfl, hso, hbel⟩ := hrel
            have HSO := Lib.hid hso
            clear hso
            by_cases hlt : j < l.length
            · have hl1 : TyR.Sl (· < w.heap.size) wr l (.slice A l.length c) := HL.out.keep (fun _ h => h) (fun p hp => hbel.cell hp)
              obtain ⟨a, rfl, ha, hat⟩ := hl1.get j hlt
              obtain ⟨A1, c1, q0, q1, hx⟩ := at_ty hat
              simp only [show TyR.n = 2 from rfl] at q0 q1
              have hnj := nodesAll_get l j hlt
              have hx1 := (IsTy.keep (S' := (· < wr.heap.size)) (fun b h => Nat.lt_of_lt_of_le h hbel.size) (fun _ _ => rfl) _ hx).boxed (below_box wr (Obj.cells #[.int .i64 l[j].kind, .slice A1 l[j].args.length c1] 30))
              have HX := Lib.hid hx1
              clear hl1 hat hx hx1
              by_cases hok : l[j].ok = true
              · have HOK := Lib.hid hok
                clear hok
                go_wp2_with fail
                refine (IH.out l[j] _ _ (by omega) (by omega) HX.out).mono ?_
                rintro e w1 ⟨rfl, hb1⟩
                rw [HOK.out]
                go_wp2_with fail
                refine ⟨⟨j + 1, by omega, by go_num, ?_, hbel.trans (((below_box wr _).trans (hb1.mono (by simp))).mono hbel.size)⟩, by simp [intOf]; omega⟩
                intro i hi hij
                by_cases e : i = j
                · subst e; exact HOK.out
                · exact HSO.out i hi (by omega)
              · have hok' : l[j].ok = false := by simpa using hok
                have HOK := Lib.hid hok'
                have hf : okAll l = false := by
                  cases h : okAll l with
                  | false => rfl
                  | true => exact absurd (okAll_at h j hlt) hok
                have HF := Lib.hid hf
                clear hok hok' hf
                go_wp2_with fail
                refine (IH.out l[j] _ _ (by omega) (by omega) HX.out).mono ?_
                rintro e w1 ⟨rfl, hb1⟩
                rw [HOK.out]
                go_wp2_with fail
                go_ret
                exact ⟨by rw [ok_mk, HF.out, Bool.and_false]; rfl, hbel.trans (((below_box wr _).trans (hb1.mono (by simp))).mono hbel.size)⟩
            · have hjl : j = l.length := by omega
              subst hjl
              go_wp2_with fail
              go_ret
              exact ⟨by rw [ok_mk, okAll_of (fun i hi => HSO.out i hi hi), HFO.out]; rfl, hbel⟩
        · have e1 : ((l.length : Int) != (0 : Int)) = true := by rw [bne_iff_ne]; omega
          have hfo : (Ty.mk 2 l).ok = false := by
            rw [ok_mk]
            simp [Ty.formed, kind_mk_, args_mk_, hlen]
          have HFO := Lib.hid hfo
          clear hfo hlen
          go_enter Tryd.func98, Tryd.ntmps98
          go_wp2_with fail
          go_ret
          exact ⟨by rw [HFO.out]; rfl, hbW⟩

      · subst hk
        by_cases hlen : l.length = 0
        · have e1 : ((l.length : Int) != (0 : Int)) = false := by simp [hlen]
          have hfo : (Ty.mk 5 l).formed = true := by simp [Ty.formed, kind_mk_, args_mk_, hlen]
          have HFO := Lib.hid hfo
          clear hfo hlen
          go_enter Tryd.func98, Tryd.ntmps98
          go_wp2_with fail
          generalize w.alloc (Obj.cells #[.int .i64 5, .slice A l.length c] 30) = W at hbW ⊢
          go_loopw [23] (fun ix wr => ∃ j : Nat, j ≤ l.length ∧ ix = .int .i64 j ∧ (∀ i (hi : i < l.length), i < j → l[i].ok = true) ∧ Below w.heap.size w wr) (fun ix _ => l.length - (intOf ix).toNat)
          case atStart => exact ⟨0, by omega, rfl, fun i _ h => by omega, hbW⟩
          case round =>
            obtain ⟨j, hj, rfl, hso, hbel⟩ := hrel
            have HSO := Lib.hid hso
            clear hso
            by_cases hlt : j < l.length
            · have hl1 : TyR.Sl (· < w.heap.size) wr l (.slice A l.length c) := HL.out.keep (fun _ h => h) (fun p hp => hbel.cell hp)
              obtain ⟨a, rfl, ha, hat⟩ := hl1.get j hlt
              obtain ⟨A1, c1, q0, q1, hx⟩ := at_ty hat
              simp only [show TyR.n = 2 from rfl] at q0 q1
              have hnj := nodesAll_get l j hlt
              have hx1 := (IsTy.keep (S' := (· < wr.heap.size)) (fun b h => Nat.lt_of_lt_of_le h hbel.size) (fun _ _ => rfl) _ hx).boxed (below_box wr (Obj.cells #[.int .i64 l[j].kind, .slice A1 l[j].args.length c1] 30))
              have HX := Lib.hid hx1
              clear hl1 hat hx hx1
              by_cases hok : l[j].ok = true
              · have HOK := Lib.hid hok
                clear hok
                go_wp2_with fail
                refine (IH.out l[j] _ _ (by omega) (by omega) HX.out).mono ?_
                rintro e w1 ⟨rfl, hb1⟩
                rw [HOK.out]
                go_wp2_with fail
                refine ⟨⟨j + 1, by omega, by go_num, ?_, hbel.trans (((below_box wr _).trans (hb1.mono (by simp))).mono hbel.size)⟩, by simp [intOf]; omega⟩
                intro i hi hij
                by_cases e : i = j
                · subst e; exact HOK.out
                · exact HSO.out i hi (by omega)
              · have hok' : l[j].ok = false := by simpa using hok
                have HOK := Lib.hid hok'
                have hf : okAll l = false := by
                  cases h : okAll l with
                  | false => rfl
                  | true => exact absurd (okAll_at h j hlt) hok
                have HF := Lib.hid hf
                clear hok hok' hf
                go_wp2_with fail
                refine (IH.out l[j] _ _ (by omega) (by omega) HX.out).mono ?_
                rintro e w1 ⟨rfl, hb1⟩
                rw [HOK.out]
                go_wp2_with fail
                go_ret
                exact ⟨by rw [ok_mk, HF.out, Bool.and_false]; rfl, hbel.trans (((below_box wr _).trans (hb1.mono (by simp))).mono hbel.size)⟩
            · have hjl : j = l.length := by omega
              subst hjl
              go_wp2_with fail
              go_ret
              exact ⟨by rw [ok_mk, okAll_of (fun i hi => HSO.out i hi hi), HFO.out]; rfl, hbel⟩
        · have e1 : ((l.length : Int) != (0 : Int)) = true := by rw [bne_iff_ne]; omega
          have hfo : (Ty.mk 5 l).ok = false := by
            rw [ok_mk]
            simp [Ty.formed, kind_mk_, args_mk_, hlen]
          have HFO := Lib.hid hfo
          clear hfo hlen
          go_enter Tryd.func98, Tryd.ntmps98
          go_wp2_with fail
          go_ret
          exact ⟨by rw [HFO.out]; rfl, hbW⟩

      · subst hk
        by_cases hlen : l.length = 2
        · have e1 : ((l.length : Int) != (2 : Int)) = false := by simp [hlen]
          have hfo : (Ty.mk 3 l).formed = true := by simp [Ty.formed, kind_mk_, args_mk_, hlen]
          have HFO := Lib.hid hfo
          clear hfo hlen
          go_enter Tryd.func98, Tryd.ntmps98
          go_wp2_with fail
          generalize w.alloc (Obj.cells #[.int .i64 3, .slice A l.length c] 30) = W at hbW ⊢
          go_loopw [23] (fun ix wr => ∃ j : Nat, j ≤ l.length ∧ ix = .int .i64 j ∧ (∀ i (hi : i < l.length), i < j → l[i].ok = true) ∧ Below w.heap.size w wr) (fun ix _ => l.length - (intOf ix).toNat)
          case atStart => exact ⟨0, by omega, rfl, fun i _ h => by omega, hbW⟩
          case round =>
            obtain ⟨j, hj, rfl, hso, hbel⟩ := hrel
            have HSO := Lib.hid hso
            clear hso
            by_cases hlt : j < l.length
            · have hl1 : TyR.Sl (· < w.heap.size) wr l (.slice A l.length c) := HL.out.keep (fun _ h => h) (fun p hp => hbel.cell hp)
              obtain ⟨a, rfl, ha, hat⟩ := hl1.get j hlt
              obtain ⟨A1, c1, q0, q1, hx⟩ := at_ty hat
              simp only [show TyR.n = 2 from rfl] at q0 q1
              have hnj := nodesAll_get l j hlt
              have hx1 := (IsTy.keep (S' := (· < wr.heap.size)) (fun b h => Nat.lt_of_lt_of_le h hbel.size) (fun _ _ => rfl) _ hx).boxed (below_box wr (Obj.cells #[.int .i64 l[j].kind, .slice A1 l[j].args.length c1] 30))
              have HX := Lib.hid hx1
              clear hl1 hat hx hx1
              by_cases hok : l[j].ok = true
              · have HOK := Lib.hid hok
                clear hok
                go_wp2_with fail
                refine (IH.out l[j] _ _ (by omega) (by omega) HX.out).mono ?_
                rintro e w1 ⟨rfl, hb1⟩
                rw [HOK.out]
                go_wp2_with fail
                refine ⟨⟨j + 1, by omega, by go_num, ?_, hbel.trans (((below_box wr _).trans (hb1.mono (by simp))).mono hbel.size)⟩, by simp [intOf]; omega⟩
                intro i hi hij
                by_cases e : i = j
                · subst e; exact HOK.out
                · exact HSO.out i hi (by omega)
              · have hok' : l[j].ok = false := by simpa using hok
                have HOK := Lib.hid hok'
                have hf : okAll l = false := by
                  cases h : okAll l with
                  | false => rfl
                  | true => exact absurd (okAll_at h j hlt) hok
                have HF := Lib.hid hf
                clear hok hok' hf
                go_wp2_with fail
                refine (IH.out l[j] _ _ (by omega) (by omega) HX.out).mono ?_
                rintro e w1 ⟨rfl, hb1⟩
                rw [HOK.out]
                go_wp2_with fail
                go_ret
                exact ⟨by rw [ok_mk, HF.out, Bool.and_false]; rfl, hbel.trans (((below_box wr _).trans (hb1.mono (by simp))).mono hbel.size)⟩
            · have hjl : j = l.length := by omega
              subst hjl
              go_wp2_with fail
              go_ret
              exact ⟨by rw [ok_mk, okAll_of (fun i hi => HSO.out i hi hi), HFO.out]; rfl, hbel⟩
        · have e1 : ((l.length : Int) != (2 : Int)) = true := by rw [bne_iff_ne]; omega
          have hfo : (Ty.mk 3 l).ok = false := by
            rw [ok_mk]
            simp [Ty.formed, kind_mk_, args_mk_, hlen]
          have HFO := Lib.hid hfo
          clear hfo hlen
          go_enter Tryd.func98, Tryd.ntmps98
          go_wp2_with fail
          go_ret
          exact ⟨by rw [HFO.out]; rfl, hbW⟩

      · subst hk
        by_cases hlen : l.length = 2
        · have e1 : ((l.length : Int) != (2 : Int)) = false := by simp [hlen]
          have hfo : (Ty.mk 4 l).formed = true := by simp [Ty.formed, kind_mk_, args_mk_, hlen]
          have HFO := Lib.hid hfo
          clear hfo hlen
          go_enter Tryd.func98, Tryd.ntmps98
          go_wp2_with fail
          generalize w.alloc (Obj.cells #[.int .i64 4, .slice A l.length c] 30) = W at hbW ⊢
          go_loopw [23] (fun ix wr => ∃ j : Nat, j ≤ l.length ∧ ix = .int .i64 j ∧ (∀ i (hi : i < l.length), i < j → l[i].ok = true) ∧ Below w.heap.size w wr) (fun ix _ => l.length - (intOf ix).toNat)
          case atStart => exact ⟨0, by omega, rfl, fun i _ h => by omega, hbW⟩
          case round =>
            obtain ⟨j, hj, rfl, hso, hbel⟩ := hrel
            have HSO := Lib.hid hso
            clear hso
            by_cases hlt : j < l.length
            · have hl1 : TyR.Sl (· < w.heap.size) wr l (.slice A l.length c) := HL.out.keep (fun _ h => h) (fun p hp => hbel.cell hp)
              obtain ⟨a, rfl, ha, hat⟩ := hl1.get j hlt
              obtain ⟨A1, c1, q0, q1, hx⟩ := at_ty hat
              simp only [show TyR.n = 2 from rfl] at q0 q1
              have hnj := nodesAll_get l j hlt
              have hx1 := (IsTy.keep (S' := (· < wr.heap.size)) (fun b h => Nat.lt_of_lt_of_le h hbel.size) (fun _ _ => rfl) _ hx).boxed (below_box wr (Obj.cells #[.int .i64 l[j].kind, .slice A1 l[j].args.length c1] 30))
              have HX := Lib.hid hx1
              clear hl1 hat hx hx1
              by_cases hok : l[j].ok = true
              · have HOK := Lib.hid hok
                clear hok
                go_wp2_with fail
                refine (IH.out l[j] _ _ (by omega) (by omega) HX.out).mono ?_
                rintro e w1 ⟨rfl, hb1⟩
                rw [HOK.out]
                go_wp2_with fail
                refine ⟨⟨j + 1, by omega, by go_num, ?_, hbel.trans (((below_box wr _).trans (hb1.mono (by simp))).mono hbel.size)⟩, by simp [intOf]; omega⟩
                intro i hi hij
                by_cases e : i = j
                · subst e; exact HOK.out
                · exact HSO.out i hi (by omega)
              · have hok' : l[j].ok = false := by simpa using hok
                have HOK := Lib.hid hok'
                have hf : okAll l = false := by
                  cases h : okAll l with
                  | false => rfl
                  | true => exact absurd (okAll_at h j hlt) hok
                have HF := Lib.hid hf
                clear hok hok' hf
                go_wp2_with fail
                refine (IH.out l[j] _ _ (by omega) (by omega) HX.out).mono ?_
                rintro e w1 ⟨rfl, hb1⟩
                rw [HOK.out]
                go_wp2_with fail
                go_ret
                exact ⟨by rw [ok_mk, HF.out, Bool.and_false]; rfl, hbel.trans (((below_box wr _).trans (hb1.mono (by simp))).mono hbel.size)⟩
            · have hjl : j = l.length := by omega
              subst hjl
              go_wp2_with fail
              go_ret
              exact ⟨by rw [ok_mk, okAll_of (fun i hi => HSO.out i hi hi), HFO.out]; rfl, hbel⟩
        · have e1 : ((l.length : Int) != (2 : Int)) = true := by rw [bne_iff_ne]; omega
          have hfo : (Ty.mk 4 l).ok = false := by
            rw [ok_mk]
            simp [Ty.formed, kind_mk_, args_mk_, hlen]
          have HFO := Lib.hid hfo
          clear hfo hlen
          go_enter Tryd.func98, Tryd.ntmps98
          go_wp2_with fail
          go_ret
          exact ⟨by rw [HFO.out]; rfl, hbW⟩

    · have e1 : (k == 1) = false := by rw [beq_eq_false_iff_ne]; omega
      have e2 : (k == 2) = false := by rw [beq_eq_false_iff_ne]; omega
      have e5 : (k == 5) = false := by rw [beq_eq_false_iff_ne]; omega
      have e3 : (k == 3) = false := by rw [beq_eq_false_iff_ne]; omega
      have e4 : (k == 4) = false := by rw [beq_eq_false_iff_ne]; omega
      have hfo : (Ty.mk k l).ok = false := by
        rw [ok_mk]
        have h1 : ¬ (k = 1 ∨ k = 2 ∨ k = 5) := by omega
        have h2 : ¬ (k = 3 ∨ k = 4) := by omega
        simp [Ty.formed, kind_mk_, h1, h2]
      have HFO := Lib.hid hfo
      clear hfo hks
      go_enter Tryd.func98, Tryd.ntmps98
      go_wp2_with fail
      go_ret
      exact ⟨by rw [HFO.out]; rfl, hbW⟩

set_option maxHeartbeats 1000000 in
theorem refCheck_any (T : Ty) (v : Value) (w : World) (hsz : T.nodes ≤ 400000) (hT : IsTy (· < w.heap.size) w T v) :
    Calls Tryd.prog 81 #[v] w fun e w' => e = .returned (.int .i64 T.err) ∧ Below w.heap.size w w' := by
  obtain ⟨A, c, rfl⟩ := hT.form
  obtain ⟨b1, z1, k1⟩ := new_blk (Below.refl w.heap.size w) (Nat.le_refl _) #[.int .i64 T.kind, .slice A T.args.length c] 30
  have hT1 := hT.boxed b1
  go_enter Tryd.func81, Tryd.ntmps81
  go_wp2_with fail
  generalize w.alloc (Obj.cells #[.int .i64 T.kind, .slice A T.args.length c] 30) = W at b1 z1 k1 hT1 ⊢
  refine (refShape_any 400000 T _ W hsz (Nat.le_refl _) hT1).mono ?_
  rintro e w1 ⟨rfl, hb1⟩
  have hb01 : Below w.heap.size w w1 := b1.trans (hb1.mono b1.size)
  by_cases hok : T.ok = true
  · rw [hok]
    obtain ⟨q0, q1, _, _⟩ := (k1.below hb1 (by omega)).facts2
    have HT := Lib.hid (hT1.boxed hb1)
    have HOK := Lib.hid hok
    clear hT hT1 hok
    go_wp2_with fail
    refine (refSize_any 400000 T _ w1 hsz (Nat.le_refl _) HT.out).mono ?_
    rintro e w2 ⟨rfl, hb2⟩
    have hb02 : Below w.heap.size w w2 := hb01.trans (hb2.mono hb01.size)
    by_cases h64 : T.nodes ≤ 64
    · have e4 : decide ((64 : Int) < (T.nodes : Int)) = false := by simp; omega
      go_wp2_with fail
      go_ret
      exact ⟨by rw [show T.err = 0 from err_zero.2 ⟨HOK.out, h64⟩]; rfl, hb02⟩
    · have e4 : decide ((64 : Int) < (T.nodes : Int)) = true := by simp; omega
      have he : T.err = 4 := by unfold Ty.err; rw [if_pos HOK.out, if_neg h64]
      go_wp2_with fail
      go_ret
      exact ⟨by rw [he]; rfl, hb02⟩
  · have hok' : T.ok = false := by simpa using hok
    have he : T.err = 2 := by unfold Ty.err; rw [if_neg hok]
    rw [hok']
    go_wp2_with fail
    go_ret
    exact ⟨by rw [he]; rfl, hb01⟩
end Go.Proofs.YtifijgihcincfaaDoor
namespace Go.Proofs.YtifijgihcincfaaDoor
open Go.RowKit

/-- A slice with room for what it has. -/
def Roomy (v : Value) : Prop := v = .slice none 0 0 ∨ ∃ (a : Addr) (n c : Nat), v = .slice (some a) n c ∧ n ≤ c
/-- The type U in new memory, and no error. -/
def InferR (U : Ty) (w : World) (e : Ending) (w' : World) : Prop := GivesTy (fun _ => False) (.ok U) w e w'
def InferIH (n : Nat) : Prop := ∀ (t : Tm) (G : List Ty) (s v : Value) (U : Ty) (w : World), t.bulk ≤ n → t.ok = true → (∀ T ∈ G, T.err = 0) → G.length + n ≤ 400000 → t.typ G = .ok U → TyR.Sl (· < w.heap.size) w G s → Roomy s → IsTm (· < w.heap.size) w t v →
  Calls Tryd.prog 82 #[s, v] w (InferR U w)

theorem typ_parts {k i : Int} {T : Ty} {l : List Tm} {G : List Ty} {U : Ty} (h1 : k ≠ 1) (h2 : k ≠ 2) (h : (Tm.mk k i T l).typ G = .ok U) : ∃ ps, typAll l G = .ok ps ∧ nodeTy k T ps = .ok U := by
  unfold Tm.typ at h
  rw [if_neg h1, if_neg h2] at h
  cases hp : typAll l G with
  | error e => rw [hp] at h; cases h
  | ok ps => rw [hp] at h; exact ⟨ps, rfl, h⟩
theorem typAll_get : ∀ {l : List Tm} {G ps : List Ty}, typAll l G = .ok ps → ∀ j (hj : j < l.length) (hp : j < ps.length), (l[j]).typ G = .ok ps[j]
  | [], _, _, _, j, hj, _ => by simp at hj
  | x :: r, G, ps, h, j, hj, hp => by
    simp only [typAll] at h
    cases hx : x.typ G with
    | error e => rw [hx] at h; cases h
    | ok y =>
      rw [hx] at h
      simp only at h
      cases hr : typAll r G with
      | error e => rw [hr] at h; cases h
      | ok us =>
        rw [hr] at h
        simp only [Except.ok.injEq] at h
        subst h
        cases j with
        | zero => exact hx
        | succ j => exact typAll_get hr j (by simpa using hj) (by simpa using hp)
theorem infer_end {w w3 : World} {U : Ty} {x y : Value} (hb : Below w.heap.size w w3) (hz : w.heap.size + 2 ≤ w3.heap.size) (hU : IsTy (fun b => w.heap.size + 2 ≤ b ∧ b < w3.heap.size) w3 U (.agg #[x, y])) :
    InferR U w (.returned (.tuple #[.agg #[x, y], .int .i64 0])) ((w3.setCell ⟨w.heap.size + 1, 0, none⟩ x).setCell ⟨w.heap.size + 1, 1, none⟩ y) :=
  gives_ok rfl (fun _ h => h.elim) hb hz (hU.keep (fun _ h => ⟨.inr h.1, h.2⟩) (fun _ _ => rfl))

theorem fun_nodes {T : Ty} (h : T.nodes ≤ 64) : T.nodes ≤ 64 ∧ tyNat.nodes = 1 ∧ tyList.nodes = 1 ∧ (tyFun T T).nodes ≤ 129 ∧ (tyFun tyNat (tyFun T T)).nodes ≤ 131 ∧ (tyFun tyList (tyFun T T)).nodes ≤ 131 ∧ (tyFun tyNat (tyFun tyList (tyFun T T))).nodes ≤ 133 := by
  refine ⟨h, rfl, rfl, ?_, ?_, ?_, ?_⟩ <;> (simp [tyFun, tyNat, tyList, Ty.nodes, nodesAll]; omega)

/-- What stands between two rounds. -/
def InferI (k i : Int) (T : Ty) (l : List Tm) (B A : Option Addr) (d c : Nat) (w : World) (ls : Value) (qs : List Ty) (wr : World) : Prop :=
  TyR.Own (w.heap.size + 2 ≤ ·) (w.heap.size + 2) ls qs wr ∧ Below w.heap.size w wr ∧ Blk wr w.heap.size 34 #[.int .i64 k, .int .i64 i, .int .i64 T.kind, .slice B T.args.length d, .slice A l.length c] ∧ Blk wr (w.heap.size + 1) 30 #[.int .i64 0, .slice none 0 0]

/-- One more type behind the list. -/
theorem infer_step {k i : Int} {T : Ty} {l : List Tm} {B A : Option Addr} {d c : Nat} {w wr w1 w2 : World} {u3 v2 y0 y1 : Value} {qs : List Ty} {U : Ty} {xs : List Value} {o : Obj}
    (hbel : Below w.heap.size w wr) (hb0 : Blk wr w.heap.size 34 #[.int .i64 k, .int .i64 i, .int .i64 T.kind, .slice B T.args.length d, .slice A l.length c]) (hb1 : Blk wr (w.heap.size + 1) 30 #[.int .i64 0, .slice none 0 0])
    (hbw : Below wr.heap.size wr w1) (hown1 : ((w1.alloc o).alloc (.cells #[y0, y1] 30)).ownsRow (w.heap.size + 2) 30 2 u3 qs.length xs)
    (hxs : TyR.Ch (fun b => w.heap.size + 2 ≤ b ∧ b < wr.heap.size ∧ u3.ownBlock ≠ some b) wr qs xs) (hrow : ∀ g, u3.ownBlock = some g → w.heap.size + 2 ≤ g ∧ g < wr.heap.size)
    (ht : IsTy (fun b => wr.heap.size ≤ b ∧ b < w1.heap.size) w1 U (.agg #[y0, y1]))
    (hown2 : w2.ownsRow (w.heap.size + 2) 30 2 v2 (qs.length + 1) (xs ++ [y0, y1])) (hg2 : ((w1.alloc o).alloc (.cells #[y0, y1] 30)).grownBy w2 u3.ownBlock)
    (hat2 : v2.ownBlock = u3.ownBlock ∨ v2.ownBlock = some ((w1.alloc o).alloc (.cells #[y0, y1] 30)).heap.size) : InferI k i T l B A d c w v2 (qs ++ [U]) w2 := by
  have z0 := hb1.lt
  have z1 := hbw.size
  have z2 := hbel.size
  have g1 : wr.grownBy ((w1.alloc o).alloc (.cells #[y0, y1] 30)) none := only_alloc (only_alloc (only_of_below hbw none) _) _
  have hc : ∀ p : Addr, p.block < w1.heap.size → ((w1.alloc o).alloc (.cells #[y0, y1] 30)).cell? p = w1.cell? p := fun p hp => (World.cell?_alloc_lt _ _ _ (by simp; omega)).trans (World.cell?_alloc_lt _ _ _ hp)
  have sz : ((w1.alloc o).alloc (.cells #[y0, y1] 30)).heap.size = w1.heap.size + 2 := by simp
  have hn : ∀ q, q < w.heap.size + 2 → u3.ownBlock ≠ some q := fun q hq e => by have := (hrow q e).1; omega
  refine ⟨?_, ?_, (hb0.grown g1 (by simp)).grown hg2 (fun e => hn _ (by omega) e.symm), (hb1.grown g1 (by simp)).grown hg2 (fun e => hn _ (by omega) e.symm)⟩
  · refine Rep.Own.more (R := TyR) (m := [U]) hown1 (hxs.keep (fun b h => ⟨h.1, by omega, h.2.2⟩) (fun p hp => (hc p (by omega)).trans (hbw.cell hp.2.1))) (Rep.Ch.one (R := TyR) (vs := [y0, y1]) ?_) hown2 hg2 hat2
    exact IsTy.keep (fun b h => ⟨by omega, by omega, fun e => by have := (hrow b e).2; omega⟩) (fun p hp => hc p hp.2) _ ht
  · exact (hbel.grown g1 z2 (by simp)).grown hg2 (by omega) (fun g e => by have := (hrow g e).1; omega)

theorem sl_one {S : Nat → Prop} {w : World} {p : Ty} {v : Value} (h : TyR.Sl S w [p] v) : ∃ (a : Addr) (A0 : Option Addr) (c0 c : Nat), v = .slice (some a) 1 c ∧ S a.block ∧ w.cell? a = some (.int .i64 p.kind) ∧ w.cell? ⟨a.block, a.off + 1, none⟩ = some (.slice A0 p.args.length c0) ∧
    IsTy S w p (.agg #[.int .i64 p.kind, .slice A0 p.args.length c0]) := by
  obtain ⟨A, c, rfl⟩ := h.form
  obtain ⟨a, rfl, ha, hat⟩ := h.get 0 (by simp)
  obtain ⟨A0, c0, q0, q1, hx⟩ := at_ty hat
  rw [Nat.zero_mul, add_zero'] at q0 q1
  exact ⟨a, A0, c0, c, rfl, ha, q0, q1, hx⟩
theorem sl_two {S : Nat → Prop} {w : World} {p q : Ty} {v : Value} (h : TyR.Sl S w [p, q] v) : ∃ (a : Addr) (A0 A1 : Option Addr) (c0 c1 c : Nat), v = .slice (some a) 2 c ∧ S a.block ∧ w.cell? a = some (.int .i64 p.kind) ∧ w.cell? ⟨a.block, a.off + 1, none⟩ = some (.slice A0 p.args.length c0) ∧
    w.cell? ⟨a.block, a.off + 2, none⟩ = some (.int .i64 q.kind) ∧ w.cell? ⟨a.block, a.off + 2 + 1, none⟩ = some (.slice A1 q.args.length c1) ∧
    IsTy S w p (.agg #[.int .i64 p.kind, .slice A0 p.args.length c0]) ∧ IsTy S w q (.agg #[.int .i64 q.kind, .slice A1 q.args.length c1]) := by
  obtain ⟨A, c, rfl⟩ := h.form
  obtain ⟨a, rfl, ha, hat⟩ := h.get 0 (by simp)
  obtain ⟨a', e, _, hat'⟩ := h.get 1 (by simp)
  cases e
  obtain ⟨A0, c0, q0, q1, hx⟩ := at_ty hat
  obtain ⟨A1, c1, r0, r1, hy⟩ := at_ty hat'
  rw [Nat.zero_mul, add_zero'] at q0 q1
  rw [show 1 * TyR.n = 2 from rfl, show a.add 2 = ⟨a.block, a.off + 2, none⟩ from by simp [Addr.add]] at r0 r1
  exact ⟨a, A0, A1, c0, c1, c, rfl, ha, q0, q1, r0, r1, hx, hy⟩
theorem sl_three {S : Nat → Prop} {w : World} {p q r : Ty} {v : Value} (h : TyR.Sl S w [p, q, r] v) : ∃ (a : Addr) (A0 A1 A2 : Option Addr) (c0 c1 c2 c : Nat), v = .slice (some a) 3 c ∧ S a.block ∧ w.cell? a = some (.int .i64 p.kind) ∧ w.cell? ⟨a.block, a.off + 1, none⟩ = some (.slice A0 p.args.length c0) ∧
    w.cell? ⟨a.block, a.off + 2, none⟩ = some (.int .i64 q.kind) ∧ w.cell? ⟨a.block, a.off + 2 + 1, none⟩ = some (.slice A1 q.args.length c1) ∧
    w.cell? ⟨a.block, a.off + 4, none⟩ = some (.int .i64 r.kind) ∧ w.cell? ⟨a.block, a.off + 4 + 1, none⟩ = some (.slice A2 r.args.length c2) ∧
    IsTy S w p (.agg #[.int .i64 p.kind, .slice A0 p.args.length c0]) ∧ IsTy S w q (.agg #[.int .i64 q.kind, .slice A1 q.args.length c1]) ∧ IsTy S w r (.agg #[.int .i64 r.kind, .slice A2 r.args.length c2]) := by
  obtain ⟨A, c, rfl⟩ := h.form
  obtain ⟨a, rfl, ha, hat⟩ := h.get 0 (by simp)
  obtain ⟨a', e, _, hat'⟩ := h.get 1 (by simp)
  cases e
  obtain ⟨a', e, _, hat2⟩ := h.get 2 (by simp)
  cases e
  obtain ⟨A0, c0, q0, q1, hx⟩ := at_ty hat
  obtain ⟨A1, c1, r0, r1, hy⟩ := at_ty hat'
  obtain ⟨A2, c2, s0, s1, hz⟩ := at_ty hat2
  rw [Nat.zero_mul, add_zero'] at q0 q1
  rw [show 1 * TyR.n = 2 from rfl, show a.add 2 = ⟨a.block, a.off + 2, none⟩ from by simp [Addr.add]] at r0 r1
  rw [show 2 * TyR.n = 4 from rfl, show a.add 4 = ⟨a.block, a.off + 4, none⟩ from by simp [Addr.add]] at s0 s1
  exact ⟨a, A0, A1, A2, c0, c1, c2, c, rfl, ha, q0, q1, r0, r1, s0, s1, hx, hy, hz⟩

/-- Behind the loop: the boxes of both types. -/
theorem infer_mid {k i : Int} {T : Ty} {l : List Tm} {B A : Option Addr} {d c : Nat} {w wr w2 w3 : World} {ls : Value} {ps : List Ty} (h : InferI k i T l B A d c w ls ps wr) (hb2 : Below wr.heap.size wr w2) (hb3 : Below w2.heap.size w2 w3) :
    ∃ X, X = (w3.alloc (Obj.cells #[.int .i64 1, .slice none 0 0] 30)).alloc (Obj.cells #[.int .i64 2, .slice none 0 0] 30) ∧ InferI k i T l B A d c w ls ps X ∧ Blk X w3.heap.size 30 #[.int .i64 1, .slice none 0 0] ∧ Blk X (w3.heap.size + 1) 30 #[.int .i64 2, .slice none 0 0] ∧
      w.heap.size + 2 ≤ w3.heap.size ∧ X.heap.size = w3.heap.size + 2 := by
  obtain ⟨h1, h2, h3, h4⟩ := h
  have z0 := h4.lt
  have hb : Below wr.heap.size wr w3 := hb2.trans (hb3.mono hb2.size)
  have z3 := hb.size
  have hbX : Below wr.heap.size wr ((w3.alloc (Obj.cells #[.int .i64 1, .slice none 0 0] 30)).alloc (Obj.cells #[.int .i64 2, .slice none 0 0] 30)) := (hb.alloc z3 _).alloc (by simp; omega) _
  have kB := Blk.new (w3.alloc (Obj.cells #[.int .i64 1, .slice none 0 0] 30)) 30 #[.int .i64 2, .slice none 0 0]
  rw [World.size_alloc] at kB
  exact ⟨_, rfl, ⟨h1.below hbX, h2.trans (hbX.mono h2.size), h3.below hbX h3.lt, h4.below hbX h4.lt⟩, (Blk.new w3 30 _).alloc _, kB, by omega, by simp⟩
end Go.Proofs.YtifijgihcincfaaDoor
namespace Go.Proofs.YtifijgihcincfaaDoor
open Go.RowKit

set_option maxRecDepth 100000 in
set_option maxHeartbeats 4000000 in
theorem infer_4 (n : Nat) (hih : InferIH n) (i : Int) (T : Ty) (l : List Tm) (G : List Ty) (s v : Value) (U : Ty) (w : World) (hn : (Tm.mk 4 i T l).bulk ≤ n + 1) (hok : (Tm.mk 4 i T l).ok = true) (hG : ∀ T ∈ G, T.err = 0) (hGn : G.length + n + 1 ≤ 400000)
    (htyp : (Tm.mk 4 i T l).typ G = .ok U) (hs : TyR.Sl (· < w.heap.size) w G s) (hfs : Roomy s) (hT : IsTm (· < w.heap.size) w (.mk 4 i T l) v) : Calls Tryd.prog 82 #[s, v] w (InferR U w) := by
  obtain ⟨ps, hps, hnode⟩ := typ_parts (by decide) (by decide) htyp
  obtain ⟨B, d, A, c, rfl, hTT, hl⟩ := hT.mk_parts
  obtain ⟨As, cs, rfl⟩ := hs.form
  have hplen := typAll_len hps
  have hll := bulkAll_len l
  rw [okT_eq, Bool.and_eq_true] at hok
  have hfk := formed_kind hok.1
  simp only [Tm.kind, Tm.index, Tm.type, Tm.args] at hfk hok
  simp only [Tm.bulk] at hn
  have hpe := typAll_err l G hok.2 hG hps
  obtain ⟨W, hW, hbW, hz, k0, k1⟩ := box52_facts w (.int .i64 4) (.int .i64 i) (.int .i64 T.kind) (.slice B T.args.length d) (.slice A l.length c)
  have hTW : IsTy (· < w.heap.size) W T (.agg #[.int .i64 T.kind, .slice B T.args.length d]) := IsTy.keep (fun _ h => h) (fun p hp => hbW.cell hp) _ hTT
  obtain ⟨p0, p1, p2, p3, p4, _⟩ := k0.facts5
  have HI0 := Lib.hid (show InferI 4 i T l B A d c w (.slice none 0 0) [] W from ⟨Rep.Own.nil _ _ _, hbW, k0, k1⟩)
  have HIH := Lib.hid hih
  have HG := Lib.hid hG
  have HFS := Lib.hid hfs
  have HS := Lib.hid hs
  have HL := Lib.hid hl
  have HP := Lib.hid (And.intro hps (And.intro hnode (And.intro hpe hplen)))
  have HF := Lib.hid (And.intro hok hfk)
  have HT := Lib.hid hTT
  have HN := Lib.hid (show bulkAll l ≤ n by omega)
  clear hfs hih hG hs hl hps hnode hpe hplen hok hfk hT htyp k0 k1 hbW hTT hTW
  go_enter Tryd.func82, Tryd.ntmps82
  go_wp2_with fail
  rw [← hW]
  clear hW hz
  go_loopw [8, 69] (fun ls ix wr => ∃ j : Nat, j ≤ l.length ∧ ix = .int .i64 j ∧ InferI 4 i T l B A d c w ls (ps.take j) wr) (fun _ ix _ => l.length - (intOf ix).toNat)
  case atStart => exact ⟨0, Nat.zero_le _, rfl, HI0.out⟩
  case round =>
    obtain ⟨j, hj, rfl, hown, hbel, hb0, hb1⟩ := hrel
    clear p0 p1 p2 p3 p4
    by_cases hlt : j < l.length
    · have hlr : TmR.Sl (· < w.heap.size) wr l (.slice A l.length c) := HL.out.keep (fun _ h => h) (fun p hp => hbel.cell hp)
      obtain ⟨a, rfl, ha, hat⟩ := hlr.get j hlt
      obtain ⟨B1, d1, A1, c1, q0, q1, q2, q3, q4, hx⟩ := at_tm hat
      simp only [show TmR.n = 5 from rfl] at q0 q1 q2 q3 q4
      have hjp : j < ps.length := by have := HP.out.2.2.2; omega
      have hxt := typAll_get HP.out.1 j hlt hjp
      have hnj : l[j].bulk ≤ n := by have := bulkAll_get l j hlt; have := HN.out; omega
      have hxo := okAllT_get HF.out.1.2 j hlt
      have hlen : (ps.take j).length = j := by simp; omega
      have hwz := hbel.size
      have hGs : TyR.Sl (· < w.heap.size) wr G (.slice As G.length cs) := HS.out.keep (fun _ h => h) (fun p hp => hbel.cell hp)
      obtain ⟨i0, hi, hz0, hz1, hz2⟩ := info_parts info_type
      obtain ⟨xs, hox, hxs⟩ := hown
      have HX := Lib.hid (And.intro hx (And.intro hxt (And.intro hnj (And.intro hxo hGs))))
      have HLE := Lib.hid hlen
      have HO := Lib.hid (And.intro hox (And.intro hxs (And.intro hbel (And.intro hb0 hb1))))
      clear hlr hat hx hxt hnj hxo hGs hlen hox hxs hbel hb0 hb1
      go_wp2_with fail
      have bo := (Below.refl wr.heap.size wr).alloc (Nat.le_refl _) (Obj.cells #[.int .i64 l[j].kind, .int .i64 l[j].index, .int .i64 l[j].type.kind, .slice B1 l[j].type.args.length d1, .slice A1 l[j].args.length c1] 34)
      refine (HIH.out l[j] G (.slice As G.length cs) _ ps[j] _ HX.out.2.2.1 HX.out.2.2.2.1 HG.out (by omega) HX.out.2.1 (HX.out.2.2.2.2.keep (fun b h => by have h' : b < w.heap.size := h; simp; omega) (fun p hp => World.cell?_alloc_lt _ _ _ (by have h' : p.block < w.heap.size := hp; omega))) HFS.out
        (HX.out.1.keep (fun b h => by have h' : b < w.heap.size := h; simp; omega) (fun p hp => World.cell?_alloc_lt _ _ _ (by have h' : p.block < w.heap.size := hp; omega)))).mono ?_
      rintro e w1 ⟨hb2, v1, rfl, ht1⟩
      obtain ⟨A2, c2, rfl⟩ := ht1.form
      have hbw : Below wr.heap.size wr w1 := bo.trans (hb2.mono (by simp))
      have ht1' : IsTy (fun b => wr.heap.size ≤ b ∧ b < w1.heap.size) w1 ps[j] (.agg #[.int .i64 ps[j].kind, .slice A2 ps[j].args.length c2]) := IsTy.keep (fun b h => ⟨by have := h.1; simp at this; omega, h.2⟩) (fun _ _ => rfl) _ ht1
      have HT1 := Lib.hid ht1'
      have hg2w := only_of_below hbw none
      have hown1 := ((HO.out.1.kept hg2w (by cases u8.ownBlock <;> simp)).alloc (Obj.cells #[.int .i64 ps[j].kind, .slice A2 ps[j].args.length c2] 30)).alloc (Obj.cells #[.int .i64 ps[j].kind, .slice A2 ps[j].args.length c2] 30)
      have kY : Blk ((w1.alloc (Obj.cells #[.int .i64 ps[j].kind, .slice A2 ps[j].args.length c2] 30)).alloc (Obj.cells #[.int .i64 ps[j].kind, .slice A2 ps[j].args.length c2] 30)) (w1.heap.size + 1) 30 #[.int .i64 ps[j].kind, .slice A2 ps[j].args.length c2] := by
        have := Blk.new (w1.alloc (Obj.cells #[.int .i64 ps[j].kind, .slice A2 ps[j].args.length c2] 30)) 30 #[.int .i64 ps[j].kind, .slice A2 ps[j].args.length c2]
        rwa [World.size_alloc] at this
      have HKY := Lib.hid kY
      have HBW := Lib.hid hbw
      clear kY hb2 ht1 ht1' bo hg2w hbw
      go_wp2_with (at_builtin; go_loud (refine wpList_append_own_at _ rfl _ _ 27 rfl (w.heap.size + 2) 30 i0 _ 2 32 Tryd.underlying27 hi hz0 hz1 hz2 rfl (by decide) u8 (ps.take j).length xs rfl hown1 ⟨w1.heap.size + 1, 0, none⟩ 1 1 [_, _] rfl rfl (World.news_of_block HKY.out) (by simp [Value.oneCell']) (by have := HLE.out; simp only [maxLen]; omega) (by have := HLE.out; omega) (by have := HO.out.2.2.2.2.lt; have := HBW.out.size; simp; omega) ?_); intro v2 w2 hown2 hg2 hnil2 hat2)
      have HST := Lib.hid (infer_step HO.out.2.2.1 HO.out.2.2.2.1 HO.out.2.2.2.2 HBW.out hown1 (HO.out.2.1) HO.out.1.lt HT1.out hown2 hg2 hat2)
      exact ⟨⟨j + 1, by omega, by go_num, by rw [List.take_succ_eq_append_getElem hjp]; exact HST.out⟩, by simp [intOf]; omega⟩
    · have hjl : j = l.length := by omega
      have hI : InferI 4 i T l B A d c w u8 ps wr := by
        rw [List.take_of_length_le (by have := HP.out.2.2.2; omega)] at hown
        exact ⟨hown, hbel, hb0, hb1⟩
      obtain ⟨A3, c3, e3⟩ := hI.1.form
      subst e3
      have HI := Lib.hid hI
      subst hjl
      clear hown hbel hb0 hb1 hI
      go_wp2_with fail
      refine (nat_any _).mono ?_
      rintro e w2 ⟨rfl, hb2⟩
      go_wp2_with fail
      refine (list_any _).mono ?_
      rintro e w3 ⟨rfl, hb3⟩
      obtain ⟨X, hX, hIX, kn, kl, hz3, hzX⟩ := infer_mid HI.out hb2 hb3
      clear hb2 hb3
      go_upto_region 20 with fail
      rw [← hX]
      clear hX
      have HIX := Lib.hid hIX
      have hU : U = .mk 1 [] := by
        have hl0 : l = [] := List.eq_nil_of_length_eq_zero (by have := HF.out.2.2.2.1; simpa [arities] using this)
        have hp0 : ps = [] := List.eq_nil_of_length_eq_zero (by rw [HP.out.2.2.2, hl0]; rfl)
        have := HP.out.2.1
        rw [hp0] at this
        simpa [nodeTy, argTys, ownTy, sameAll, tyNat, tyList, tyUnit] using this.symm
      have HU := Lib.hid hU
      clear hU
      obtain ⟨_, _, hb0, hb1⟩ := hIX
      obtain ⟨m0, m1, m2, m3, m4, _⟩ := hb0.facts5
      obtain ⟨_, _, f0, f1⟩ := hb1.facts2
      obtain ⟨nt0, nt1, _, _⟩ := kn.facts2
      obtain ⟨lt0, lt1, _, _⟩ := kl.facts2
      have HK1 := Lib.hid hb1
      have HKN := Lib.hid (And.intro kn kl)
      clear hb0 hb1 kn kl
      go_wp2_with fail
      obtain ⟨z0, z1, _, _⟩ := (HK1.out.set2 (.int .i64 1) (.slice none 0 0)).facts2
      refine bodyPost_ret (v := .tuple #[.agg #[.int .i64 1, .slice none 0 0], .int .i64 0]) (by simp [results, Tryd.results82, go_sem, z0, z1]) rfl ?_
      rw [HU.out]
      exact infer_end HIX.out.2.1 (by omega) (IsTy.leaf _ _ _)

set_option maxRecDepth 100000 in
set_option maxHeartbeats 4000000 in
theorem infer_7 (n : Nat) (hih : InferIH n) (i : Int) (T : Ty) (l : List Tm) (G : List Ty) (s v : Value) (U : Ty) (w : World) (hn : (Tm.mk 7 i T l).bulk ≤ n + 1) (hok : (Tm.mk 7 i T l).ok = true) (hG : ∀ T ∈ G, T.err = 0) (hGn : G.length + n + 1 ≤ 400000)
    (htyp : (Tm.mk 7 i T l).typ G = .ok U) (hs : TyR.Sl (· < w.heap.size) w G s) (hfs : Roomy s) (hT : IsTm (· < w.heap.size) w (.mk 7 i T l) v) : Calls Tryd.prog 82 #[s, v] w (InferR U w) := by
  obtain ⟨ps, hps, hnode⟩ := typ_parts (by decide) (by decide) htyp
  obtain ⟨B, d, A, c, rfl, hTT, hl⟩ := hT.mk_parts
  obtain ⟨As, cs, rfl⟩ := hs.form
  have hplen := typAll_len hps
  have hll := bulkAll_len l
  rw [okT_eq, Bool.and_eq_true] at hok
  have hfk := formed_kind hok.1
  simp only [Tm.kind, Tm.index, Tm.type, Tm.args] at hfk hok
  simp only [Tm.bulk] at hn
  have hpe := typAll_err l G hok.2 hG hps
  obtain ⟨W, hW, hbW, hz, k0, k1⟩ := box52_facts w (.int .i64 7) (.int .i64 i) (.int .i64 T.kind) (.slice B T.args.length d) (.slice A l.length c)
  have hTW : IsTy (· < w.heap.size) W T (.agg #[.int .i64 T.kind, .slice B T.args.length d]) := IsTy.keep (fun _ h => h) (fun p hp => hbW.cell hp) _ hTT
  obtain ⟨p0, p1, p2, p3, p4, _⟩ := k0.facts5
  have HI0 := Lib.hid (show InferI 7 i T l B A d c w (.slice none 0 0) [] W from ⟨Rep.Own.nil _ _ _, hbW, k0, k1⟩)
  have HIH := Lib.hid hih
  have HG := Lib.hid hG
  have HFS := Lib.hid hfs
  have HS := Lib.hid hs
  have HL := Lib.hid hl
  have HP := Lib.hid (And.intro hps (And.intro hnode (And.intro hpe hplen)))
  have HF := Lib.hid (And.intro hok hfk)
  have HT := Lib.hid hTT
  have HN := Lib.hid (show bulkAll l ≤ n by omega)
  clear hfs hih hG hs hl hps hnode hpe hplen hok hfk hT htyp k0 k1 hbW hTT hTW
  go_enter Tryd.func82, Tryd.ntmps82
  go_wp2_with fail
  rw [← hW]
  clear hW hz
  go_loopw [8, 69] (fun ls ix wr => ∃ j : Nat, j ≤ l.length ∧ ix = .int .i64 j ∧ InferI 7 i T l B A d c w ls (ps.take j) wr) (fun _ ix _ => l.length - (intOf ix).toNat)
  case atStart => exact ⟨0, Nat.zero_le _, rfl, HI0.out⟩
  case round =>
    obtain ⟨j, hj, rfl, hown, hbel, hb0, hb1⟩ := hrel
    clear p0 p1 p2 p3 p4
    by_cases hlt : j < l.length
    · have hlr : TmR.Sl (· < w.heap.size) wr l (.slice A l.length c) := HL.out.keep (fun _ h => h) (fun p hp => hbel.cell hp)
      obtain ⟨a, rfl, ha, hat⟩ := hlr.get j hlt
      obtain ⟨B1, d1, A1, c1, q0, q1, q2, q3, q4, hx⟩ := at_tm hat
      simp only [show TmR.n = 5 from rfl] at q0 q1 q2 q3 q4
      have hjp : j < ps.length := by have := HP.out.2.2.2; omega
      have hxt := typAll_get HP.out.1 j hlt hjp
      have hnj : l[j].bulk ≤ n := by have := bulkAll_get l j hlt; have := HN.out; omega
      have hxo := okAllT_get HF.out.1.2 j hlt
      have hlen : (ps.take j).length = j := by simp; omega
      have hwz := hbel.size
      have hGs : TyR.Sl (· < w.heap.size) wr G (.slice As G.length cs) := HS.out.keep (fun _ h => h) (fun p hp => hbel.cell hp)
      obtain ⟨i0, hi, hz0, hz1, hz2⟩ := info_parts info_type
      obtain ⟨xs, hox, hxs⟩ := hown
      have HX := Lib.hid (And.intro hx (And.intro hxt (And.intro hnj (And.intro hxo hGs))))
      have HLE := Lib.hid hlen
      have HO := Lib.hid (And.intro hox (And.intro hxs (And.intro hbel (And.intro hb0 hb1))))
      clear hlr hat hx hxt hnj hxo hGs hlen hox hxs hbel hb0 hb1
      go_wp2_with fail
      have bo := (Below.refl wr.heap.size wr).alloc (Nat.le_refl _) (Obj.cells #[.int .i64 l[j].kind, .int .i64 l[j].index, .int .i64 l[j].type.kind, .slice B1 l[j].type.args.length d1, .slice A1 l[j].args.length c1] 34)
      refine (HIH.out l[j] G (.slice As G.length cs) _ ps[j] _ HX.out.2.2.1 HX.out.2.2.2.1 HG.out (by omega) HX.out.2.1 (HX.out.2.2.2.2.keep (fun b h => by have h' : b < w.heap.size := h; simp; omega) (fun p hp => World.cell?_alloc_lt _ _ _ (by have h' : p.block < w.heap.size := hp; omega))) HFS.out
        (HX.out.1.keep (fun b h => by have h' : b < w.heap.size := h; simp; omega) (fun p hp => World.cell?_alloc_lt _ _ _ (by have h' : p.block < w.heap.size := hp; omega)))).mono ?_
      rintro e w1 ⟨hb2, v1, rfl, ht1⟩
      obtain ⟨A2, c2, rfl⟩ := ht1.form
      have hbw : Below wr.heap.size wr w1 := bo.trans (hb2.mono (by simp))
      have ht1' : IsTy (fun b => wr.heap.size ≤ b ∧ b < w1.heap.size) w1 ps[j] (.agg #[.int .i64 ps[j].kind, .slice A2 ps[j].args.length c2]) := IsTy.keep (fun b h => ⟨by have := h.1; simp at this; omega, h.2⟩) (fun _ _ => rfl) _ ht1
      have HT1 := Lib.hid ht1'
      have hg2w := only_of_below hbw none
      have hown1 := ((HO.out.1.kept hg2w (by cases u8.ownBlock <;> simp)).alloc (Obj.cells #[.int .i64 ps[j].kind, .slice A2 ps[j].args.length c2] 30)).alloc (Obj.cells #[.int .i64 ps[j].kind, .slice A2 ps[j].args.length c2] 30)
      have kY : Blk ((w1.alloc (Obj.cells #[.int .i64 ps[j].kind, .slice A2 ps[j].args.length c2] 30)).alloc (Obj.cells #[.int .i64 ps[j].kind, .slice A2 ps[j].args.length c2] 30)) (w1.heap.size + 1) 30 #[.int .i64 ps[j].kind, .slice A2 ps[j].args.length c2] := by
        have := Blk.new (w1.alloc (Obj.cells #[.int .i64 ps[j].kind, .slice A2 ps[j].args.length c2] 30)) 30 #[.int .i64 ps[j].kind, .slice A2 ps[j].args.length c2]
        rwa [World.size_alloc] at this
      have HKY := Lib.hid kY
      have HBW := Lib.hid hbw
      clear kY hb2 ht1 ht1' bo hg2w hbw
      go_wp2_with (at_builtin; go_loud (refine wpList_append_own_at _ rfl _ _ 27 rfl (w.heap.size + 2) 30 i0 _ 2 32 Tryd.underlying27 hi hz0 hz1 hz2 rfl (by decide) u8 (ps.take j).length xs rfl hown1 ⟨w1.heap.size + 1, 0, none⟩ 1 1 [_, _] rfl rfl (World.news_of_block HKY.out) (by simp [Value.oneCell']) (by have := HLE.out; simp only [maxLen]; omega) (by have := HLE.out; omega) (by have := HO.out.2.2.2.2.lt; have := HBW.out.size; simp; omega) ?_); intro v2 w2 hown2 hg2 hnil2 hat2)
      have HST := Lib.hid (infer_step HO.out.2.2.1 HO.out.2.2.2.1 HO.out.2.2.2.2 HBW.out hown1 (HO.out.2.1) HO.out.1.lt HT1.out hown2 hg2 hat2)
      exact ⟨⟨j + 1, by omega, by go_num, by rw [List.take_succ_eq_append_getElem hjp]; exact HST.out⟩, by simp [intOf]; omega⟩
    · have hjl : j = l.length := by omega
      have hI : InferI 7 i T l B A d c w u8 ps wr := by
        rw [List.take_of_length_le (by have := HP.out.2.2.2; omega)] at hown
        exact ⟨hown, hbel, hb0, hb1⟩
      obtain ⟨A3, c3, e3⟩ := hI.1.form
      subst e3
      have HI := Lib.hid hI
      subst hjl
      clear hown hbel hb0 hb1 hI
      go_wp2_with fail
      refine (nat_any _).mono ?_
      rintro e w2 ⟨rfl, hb2⟩
      go_wp2_with fail
      refine (list_any _).mono ?_
      rintro e w3 ⟨rfl, hb3⟩
      obtain ⟨X, hX, hIX, kn, kl, hz3, hzX⟩ := infer_mid HI.out hb2 hb3
      clear hb2 hb3
      go_upto_region 20 with fail
      rw [← hX]
      clear hX
      have HIX := Lib.hid hIX
      have hU : U = .mk 2 [] := by
        have hl0 : l = [] := List.eq_nil_of_length_eq_zero (by have := HF.out.2.2.2.1; simpa [arities] using this)
        have hp0 : ps = [] := List.eq_nil_of_length_eq_zero (by rw [HP.out.2.2.2, hl0]; rfl)
        have := HP.out.2.1
        rw [hp0] at this
        simpa [nodeTy, argTys, ownTy, sameAll, tyNat, tyList, tyUnit] using this.symm
      have HU := Lib.hid hU
      clear hU
      obtain ⟨_, _, hb0, hb1⟩ := hIX
      obtain ⟨m0, m1, m2, m3, m4, _⟩ := hb0.facts5
      obtain ⟨_, _, f0, f1⟩ := hb1.facts2
      obtain ⟨nt0, nt1, _, _⟩ := kn.facts2
      obtain ⟨lt0, lt1, _, _⟩ := kl.facts2
      have HK1 := Lib.hid hb1
      have HKN := Lib.hid (And.intro kn kl)
      clear hb0 hb1 kn kl
      go_wp2_with fail
      obtain ⟨z0, z1, _, _⟩ := (HK1.out.set2 (.int .i64 2) (.slice none 0 0)).facts2
      refine bodyPost_ret (v := .tuple #[.agg #[.int .i64 2, .slice none 0 0], .int .i64 0]) (by simp [results, Tryd.results82, go_sem, z0, z1]) rfl ?_
      rw [HU.out]
      exact infer_end HIX.out.2.1 (by omega) (IsTy.leaf _ _ _)

set_option maxRecDepth 100000 in
set_option maxHeartbeats 4000000 in
theorem infer_13 (n : Nat) (hih : InferIH n) (i : Int) (T : Ty) (l : List Tm) (G : List Ty) (s v : Value) (U : Ty) (w : World) (hn : (Tm.mk 13 i T l).bulk ≤ n + 1) (hok : (Tm.mk 13 i T l).ok = true) (hG : ∀ T ∈ G, T.err = 0) (hGn : G.length + n + 1 ≤ 400000)
    (htyp : (Tm.mk 13 i T l).typ G = .ok U) (hs : TyR.Sl (· < w.heap.size) w G s) (hfs : Roomy s) (hT : IsTm (· < w.heap.size) w (.mk 13 i T l) v) : Calls Tryd.prog 82 #[s, v] w (InferR U w) := by
  obtain ⟨ps, hps, hnode⟩ := typ_parts (by decide) (by decide) htyp
  obtain ⟨B, d, A, c, rfl, hTT, hl⟩ := hT.mk_parts
  obtain ⟨As, cs, rfl⟩ := hs.form
  have hplen := typAll_len hps
  have hll := bulkAll_len l
  rw [okT_eq, Bool.and_eq_true] at hok
  have hfk := formed_kind hok.1
  simp only [Tm.kind, Tm.index, Tm.type, Tm.args] at hfk hok
  simp only [Tm.bulk] at hn
  have hpe := typAll_err l G hok.2 hG hps
  obtain ⟨W, hW, hbW, hz, k0, k1⟩ := box52_facts w (.int .i64 13) (.int .i64 i) (.int .i64 T.kind) (.slice B T.args.length d) (.slice A l.length c)
  have hTW : IsTy (· < w.heap.size) W T (.agg #[.int .i64 T.kind, .slice B T.args.length d]) := IsTy.keep (fun _ h => h) (fun p hp => hbW.cell hp) _ hTT
  obtain ⟨p0, p1, p2, p3, p4, _⟩ := k0.facts5
  have HI0 := Lib.hid (show InferI 13 i T l B A d c w (.slice none 0 0) [] W from ⟨Rep.Own.nil _ _ _, hbW, k0, k1⟩)
  have HIH := Lib.hid hih
  have HG := Lib.hid hG
  have HFS := Lib.hid hfs
  have HS := Lib.hid hs
  have HL := Lib.hid hl
  have HP := Lib.hid (And.intro hps (And.intro hnode (And.intro hpe hplen)))
  have HF := Lib.hid (And.intro hok hfk)
  have HT := Lib.hid hTT
  have HN := Lib.hid (show bulkAll l ≤ n by omega)
  clear hfs hih hG hs hl hps hnode hpe hplen hok hfk hT htyp k0 k1 hbW hTT hTW
  go_enter Tryd.func82, Tryd.ntmps82
  go_wp2_with fail
  rw [← hW]
  clear hW hz
  go_loopw [8, 69] (fun ls ix wr => ∃ j : Nat, j ≤ l.length ∧ ix = .int .i64 j ∧ InferI 13 i T l B A d c w ls (ps.take j) wr) (fun _ ix _ => l.length - (intOf ix).toNat)
  case atStart => exact ⟨0, Nat.zero_le _, rfl, HI0.out⟩
  case round =>
    obtain ⟨j, hj, rfl, hown, hbel, hb0, hb1⟩ := hrel
    clear p0 p1 p2 p3 p4
    by_cases hlt : j < l.length
    · have hlr : TmR.Sl (· < w.heap.size) wr l (.slice A l.length c) := HL.out.keep (fun _ h => h) (fun p hp => hbel.cell hp)
      obtain ⟨a, rfl, ha, hat⟩ := hlr.get j hlt
      obtain ⟨B1, d1, A1, c1, q0, q1, q2, q3, q4, hx⟩ := at_tm hat
      simp only [show TmR.n = 5 from rfl] at q0 q1 q2 q3 q4
      have hjp : j < ps.length := by have := HP.out.2.2.2; omega
      have hxt := typAll_get HP.out.1 j hlt hjp
      have hnj : l[j].bulk ≤ n := by have := bulkAll_get l j hlt; have := HN.out; omega
      have hxo := okAllT_get HF.out.1.2 j hlt
      have hlen : (ps.take j).length = j := by simp; omega
      have hwz := hbel.size
      have hGs : TyR.Sl (· < w.heap.size) wr G (.slice As G.length cs) := HS.out.keep (fun _ h => h) (fun p hp => hbel.cell hp)
      obtain ⟨i0, hi, hz0, hz1, hz2⟩ := info_parts info_type
      obtain ⟨xs, hox, hxs⟩ := hown
      have HX := Lib.hid (And.intro hx (And.intro hxt (And.intro hnj (And.intro hxo hGs))))
      have HLE := Lib.hid hlen
      have HO := Lib.hid (And.intro hox (And.intro hxs (And.intro hbel (And.intro hb0 hb1))))
      clear hlr hat hx hxt hnj hxo hGs hlen hox hxs hbel hb0 hb1
      go_wp2_with fail
      have bo := (Below.refl wr.heap.size wr).alloc (Nat.le_refl _) (Obj.cells #[.int .i64 l[j].kind, .int .i64 l[j].index, .int .i64 l[j].type.kind, .slice B1 l[j].type.args.length d1, .slice A1 l[j].args.length c1] 34)
      refine (HIH.out l[j] G (.slice As G.length cs) _ ps[j] _ HX.out.2.2.1 HX.out.2.2.2.1 HG.out (by omega) HX.out.2.1 (HX.out.2.2.2.2.keep (fun b h => by have h' : b < w.heap.size := h; simp; omega) (fun p hp => World.cell?_alloc_lt _ _ _ (by have h' : p.block < w.heap.size := hp; omega))) HFS.out
        (HX.out.1.keep (fun b h => by have h' : b < w.heap.size := h; simp; omega) (fun p hp => World.cell?_alloc_lt _ _ _ (by have h' : p.block < w.heap.size := hp; omega)))).mono ?_
      rintro e w1 ⟨hb2, v1, rfl, ht1⟩
      obtain ⟨A2, c2, rfl⟩ := ht1.form
      have hbw : Below wr.heap.size wr w1 := bo.trans (hb2.mono (by simp))
      have ht1' : IsTy (fun b => wr.heap.size ≤ b ∧ b < w1.heap.size) w1 ps[j] (.agg #[.int .i64 ps[j].kind, .slice A2 ps[j].args.length c2]) := IsTy.keep (fun b h => ⟨by have := h.1; simp at this; omega, h.2⟩) (fun _ _ => rfl) _ ht1
      have HT1 := Lib.hid ht1'
      have hg2w := only_of_below hbw none
      have hown1 := ((HO.out.1.kept hg2w (by cases u8.ownBlock <;> simp)).alloc (Obj.cells #[.int .i64 ps[j].kind, .slice A2 ps[j].args.length c2] 30)).alloc (Obj.cells #[.int .i64 ps[j].kind, .slice A2 ps[j].args.length c2] 30)
      have kY : Blk ((w1.alloc (Obj.cells #[.int .i64 ps[j].kind, .slice A2 ps[j].args.length c2] 30)).alloc (Obj.cells #[.int .i64 ps[j].kind, .slice A2 ps[j].args.length c2] 30)) (w1.heap.size + 1) 30 #[.int .i64 ps[j].kind, .slice A2 ps[j].args.length c2] := by
        have := Blk.new (w1.alloc (Obj.cells #[.int .i64 ps[j].kind, .slice A2 ps[j].args.length c2] 30)) 30 #[.int .i64 ps[j].kind, .slice A2 ps[j].args.length c2]
        rwa [World.size_alloc] at this
      have HKY := Lib.hid kY
      have HBW := Lib.hid hbw
      clear kY hb2 ht1 ht1' bo hg2w hbw
      go_wp2_with (at_builtin; go_loud (refine wpList_append_own_at _ rfl _ _ 27 rfl (w.heap.size + 2) 30 i0 _ 2 32 Tryd.underlying27 hi hz0 hz1 hz2 rfl (by decide) u8 (ps.take j).length xs rfl hown1 ⟨w1.heap.size + 1, 0, none⟩ 1 1 [_, _] rfl rfl (World.news_of_block HKY.out) (by simp [Value.oneCell']) (by have := HLE.out; simp only [maxLen]; omega) (by have := HLE.out; omega) (by have := HO.out.2.2.2.2.lt; have := HBW.out.size; simp; omega) ?_); intro v2 w2 hown2 hg2 hnil2 hat2)
      have HST := Lib.hid (infer_step HO.out.2.2.1 HO.out.2.2.2.1 HO.out.2.2.2.2 HBW.out hown1 (HO.out.2.1) HO.out.1.lt HT1.out hown2 hg2 hat2)
      exact ⟨⟨j + 1, by omega, by go_num, by rw [List.take_succ_eq_append_getElem hjp]; exact HST.out⟩, by simp [intOf]; omega⟩
    · have hjl : j = l.length := by omega
      have hI : InferI 13 i T l B A d c w u8 ps wr := by
        rw [List.take_of_length_le (by have := HP.out.2.2.2; omega)] at hown
        exact ⟨hown, hbel, hb0, hb1⟩
      obtain ⟨A3, c3, e3⟩ := hI.1.form
      subst e3
      have HI := Lib.hid hI
      subst hjl
      clear hown hbel hb0 hb1 hI
      go_wp2_with fail
      refine (nat_any _).mono ?_
      rintro e w2 ⟨rfl, hb2⟩
      go_wp2_with fail
      refine (list_any _).mono ?_
      rintro e w3 ⟨rfl, hb3⟩
      obtain ⟨X, hX, hIX, kn, kl, hz3, hzX⟩ := infer_mid HI.out hb2 hb3
      clear hb2 hb3
      go_upto_region 20 with fail
      rw [← hX]
      clear hX
      have HIX := Lib.hid hIX
      have hU : U = .mk 5 [] := by
        have hl0 : l = [] := List.eq_nil_of_length_eq_zero (by have := HF.out.2.2.2.1; simpa [arities] using this)
        have hp0 : ps = [] := List.eq_nil_of_length_eq_zero (by rw [HP.out.2.2.2, hl0]; rfl)
        have := HP.out.2.1
        rw [hp0] at this
        simpa [nodeTy, argTys, ownTy, sameAll, tyNat, tyList, tyUnit] using this.symm
      have HU := Lib.hid hU
      clear hU
      obtain ⟨_, _, hb0, hb1⟩ := hIX
      obtain ⟨m0, m1, m2, m3, m4, _⟩ := hb0.facts5
      obtain ⟨_, _, f0, f1⟩ := hb1.facts2
      obtain ⟨nt0, nt1, _, _⟩ := kn.facts2
      obtain ⟨lt0, lt1, _, _⟩ := kl.facts2
      have HK1 := Lib.hid hb1
      have HKN := Lib.hid (And.intro kn kl)
      clear hb0 hb1 kn kl
      go_wp2_with fail
      refine (unit_any X).mono ?_
      rintro e w4 ⟨rfl, hb4⟩
      obtain ⟨_, _, f0, f1⟩ := (HK1.out.below hb4 HK1.out.lt).facts2
      have HB4 := Lib.hid hb4
      clear hb4
      go_wp2_with fail
      obtain ⟨z0, z1, _, _⟩ := ((HK1.out.below HB4.out HK1.out.lt).set2 (.int .i64 5) (.slice none 0 0)).facts2
      refine bodyPost_ret (v := .tuple #[.agg #[.int .i64 5, .slice none 0 0], .int .i64 0]) (by simp [results, Tryd.results82, go_sem, z0, z1]) rfl ?_
      rw [HU.out]
      exact infer_end (HIX.out.2.1.trans (HB4.out.mono HIX.out.2.1.size)) (by have := HB4.out.size; omega) (IsTy.leaf _ _ _)

set_option maxRecDepth 100000 in
set_option maxHeartbeats 4000000 in
theorem infer_5 (n : Nat) (hih : InferIH n) (i : Int) (T : Ty) (l : List Tm) (G : List Ty) (s v : Value) (U : Ty) (w : World) (hn : (Tm.mk 5 i T l).bulk ≤ n + 1) (hok : (Tm.mk 5 i T l).ok = true) (hG : ∀ T ∈ G, T.err = 0) (hGn : G.length + n + 1 ≤ 400000)
    (htyp : (Tm.mk 5 i T l).typ G = .ok U) (hs : TyR.Sl (· < w.heap.size) w G s) (hfs : Roomy s) (hT : IsTm (· < w.heap.size) w (.mk 5 i T l) v) : Calls Tryd.prog 82 #[s, v] w (InferR U w) := by
  obtain ⟨ps, hps, hnode⟩ := typ_parts (by decide) (by decide) htyp
  obtain ⟨B, d, A, c, rfl, hTT, hl⟩ := hT.mk_parts
  obtain ⟨As, cs, rfl⟩ := hs.form
  have hplen := typAll_len hps
  have hll := bulkAll_len l
  rw [okT_eq, Bool.and_eq_true] at hok
  have hfk := formed_kind hok.1
  simp only [Tm.kind, Tm.index, Tm.type, Tm.args] at hfk hok
  simp only [Tm.bulk] at hn
  have hpe := typAll_err l G hok.2 hG hps
  obtain ⟨W, hW, hbW, hz, k0, k1⟩ := box52_facts w (.int .i64 5) (.int .i64 i) (.int .i64 T.kind) (.slice B T.args.length d) (.slice A l.length c)
  have hTW : IsTy (· < w.heap.size) W T (.agg #[.int .i64 T.kind, .slice B T.args.length d]) := IsTy.keep (fun _ h => h) (fun p hp => hbW.cell hp) _ hTT
  obtain ⟨p0, p1, p2, p3, p4, _⟩ := k0.facts5
  have HI0 := Lib.hid (show InferI 5 i T l B A d c w (.slice none 0 0) [] W from ⟨Rep.Own.nil _ _ _, hbW, k0, k1⟩)
  have HIH := Lib.hid hih
  have HG := Lib.hid hG
  have HFS := Lib.hid hfs
  have HS := Lib.hid hs
  have HL := Lib.hid hl
  have HP := Lib.hid (And.intro hps (And.intro hnode (And.intro hpe hplen)))
  have HF := Lib.hid (And.intro hok hfk)
  have HT := Lib.hid hTT
  have HN := Lib.hid (show bulkAll l ≤ n by omega)
  clear hfs hih hG hs hl hps hnode hpe hplen hok hfk hT htyp k0 k1 hbW hTT hTW
  go_enter Tryd.func82, Tryd.ntmps82
  go_wp2_with fail
  rw [← hW]
  clear hW hz
  go_loopw [8, 69] (fun ls ix wr => ∃ j : Nat, j ≤ l.length ∧ ix = .int .i64 j ∧ InferI 5 i T l B A d c w ls (ps.take j) wr) (fun _ ix _ => l.length - (intOf ix).toNat)
  case atStart => exact ⟨0, Nat.zero_le _, rfl, HI0.out⟩
  case round =>
    obtain ⟨j, hj, rfl, hown, hbel, hb0, hb1⟩ := hrel
    clear p0 p1 p2 p3 p4
    by_cases hlt : j < l.length
    · have hlr : TmR.Sl (· < w.heap.size) wr l (.slice A l.length c) := HL.out.keep (fun _ h => h) (fun p hp => hbel.cell hp)
      obtain ⟨a, rfl, ha, hat⟩ := hlr.get j hlt
      obtain ⟨B1, d1, A1, c1, q0, q1, q2, q3, q4, hx⟩ := at_tm hat
      simp only [show TmR.n = 5 from rfl] at q0 q1 q2 q3 q4
      have hjp : j < ps.length := by have := HP.out.2.2.2; omega
      have hxt := typAll_get HP.out.1 j hlt hjp
      have hnj : l[j].bulk ≤ n := by have := bulkAll_get l j hlt; have := HN.out; omega
      have hxo := okAllT_get HF.out.1.2 j hlt
      have hlen : (ps.take j).length = j := by simp; omega
      have hwz := hbel.size
      have hGs : TyR.Sl (· < w.heap.size) wr G (.slice As G.length cs) := HS.out.keep (fun _ h => h) (fun p hp => hbel.cell hp)
      obtain ⟨i0, hi, hz0, hz1, hz2⟩ := info_parts info_type
      obtain ⟨xs, hox, hxs⟩ := hown
      have HX := Lib.hid (And.intro hx (And.intro hxt (And.intro hnj (And.intro hxo hGs))))
      have HLE := Lib.hid hlen
      have HO := Lib.hid (And.intro hox (And.intro hxs (And.intro hbel (And.intro hb0 hb1))))
      clear hlr hat hx hxt hnj hxo hGs hlen hox hxs hbel hb0 hb1
      go_wp2_with fail
      have bo := (Below.refl wr.heap.size wr).alloc (Nat.le_refl _) (Obj.cells #[.int .i64 l[j].kind, .int .i64 l[j].index, .int .i64 l[j].type.kind, .slice B1 l[j].type.args.length d1, .slice A1 l[j].args.length c1] 34)
      refine (HIH.out l[j] G (.slice As G.length cs) _ ps[j] _ HX.out.2.2.1 HX.out.2.2.2.1 HG.out (by omega) HX.out.2.1 (HX.out.2.2.2.2.keep (fun b h => by have h' : b < w.heap.size := h; simp; omega) (fun p hp => World.cell?_alloc_lt _ _ _ (by have h' : p.block < w.heap.size := hp; omega))) HFS.out
        (HX.out.1.keep (fun b h => by have h' : b < w.heap.size := h; simp; omega) (fun p hp => World.cell?_alloc_lt _ _ _ (by have h' : p.block < w.heap.size := hp; omega)))).mono ?_
      rintro e w1 ⟨hb2, v1, rfl, ht1⟩
      obtain ⟨A2, c2, rfl⟩ := ht1.form
      have hbw : Below wr.heap.size wr w1 := bo.trans (hb2.mono (by simp))
      have ht1' : IsTy (fun b => wr.heap.size ≤ b ∧ b < w1.heap.size) w1 ps[j] (.agg #[.int .i64 ps[j].kind, .slice A2 ps[j].args.length c2]) := IsTy.keep (fun b h => ⟨by have := h.1; simp at this; omega, h.2⟩) (fun _ _ => rfl) _ ht1
      have HT1 := Lib.hid ht1'
      have hg2w := only_of_below hbw none
      have hown1 := ((HO.out.1.kept hg2w (by cases u8.ownBlock <;> simp)).alloc (Obj.cells #[.int .i64 ps[j].kind, .slice A2 ps[j].args.length c2] 30)).alloc (Obj.cells #[.int .i64 ps[j].kind, .slice A2 ps[j].args.length c2] 30)
      have kY : Blk ((w1.alloc (Obj.cells #[.int .i64 ps[j].kind, .slice A2 ps[j].args.length c2] 30)).alloc (Obj.cells #[.int .i64 ps[j].kind, .slice A2 ps[j].args.length c2] 30)) (w1.heap.size + 1) 30 #[.int .i64 ps[j].kind, .slice A2 ps[j].args.length c2] := by
        have := Blk.new (w1.alloc (Obj.cells #[.int .i64 ps[j].kind, .slice A2 ps[j].args.length c2] 30)) 30 #[.int .i64 ps[j].kind, .slice A2 ps[j].args.length c2]
        rwa [World.size_alloc] at this
      have HKY := Lib.hid kY
      have HBW := Lib.hid hbw
      clear kY hb2 ht1 ht1' bo hg2w hbw
      go_wp2_with (at_builtin; go_loud (refine wpList_append_own_at _ rfl _ _ 27 rfl (w.heap.size + 2) 30 i0 _ 2 32 Tryd.underlying27 hi hz0 hz1 hz2 rfl (by decide) u8 (ps.take j).length xs rfl hown1 ⟨w1.heap.size + 1, 0, none⟩ 1 1 [_, _] rfl rfl (World.news_of_block HKY.out) (by simp [Value.oneCell']) (by have := HLE.out; simp only [maxLen]; omega) (by have := HLE.out; omega) (by have := HO.out.2.2.2.2.lt; have := HBW.out.size; simp; omega) ?_); intro v2 w2 hown2 hg2 hnil2 hat2)
      have HST := Lib.hid (infer_step HO.out.2.2.1 HO.out.2.2.2.1 HO.out.2.2.2.2 HBW.out hown1 (HO.out.2.1) HO.out.1.lt HT1.out hown2 hg2 hat2)
      exact ⟨⟨j + 1, by omega, by go_num, by rw [List.take_succ_eq_append_getElem hjp]; exact HST.out⟩, by simp [intOf]; omega⟩
    · have hjl : j = l.length := by omega
      have hI : InferI 5 i T l B A d c w u8 ps wr := by
        rw [List.take_of_length_le (by have := HP.out.2.2.2; omega)] at hown
        exact ⟨hown, hbel, hb0, hb1⟩
      obtain ⟨A3, c3, e3⟩ := hI.1.form
      subst e3
      have HI := Lib.hid hI
      subst hjl
      clear hown hbel hb0 hb1 hI
      go_wp2_with fail
      refine (nat_any _).mono ?_
      rintro e w2 ⟨rfl, hb2⟩
      go_wp2_with fail
      refine (list_any _).mono ?_
      rintro e w3 ⟨rfl, hb3⟩
      obtain ⟨X, hX, hIX, kn, kl, hz3, hzX⟩ := infer_mid HI.out hb2 hb3
      clear hb2 hb3
      go_upto_region 20 with fail
      rw [← hX]
      clear hX
      have HIX := Lib.hid hIX
      have hpsu : ps = [tyNat] ∧ U = tyNat := by
        have h := HP.out.2.1
        simp only [nodeTy, argTys, ownTy] at h
        simp at h
        split at h
        · rename_i h1
          exact ⟨sameAll_eq h1, by cases h; rfl⟩
        · cases h
      obtain ⟨hps1, hU1⟩ := hpsu
      have HU := Lib.hid hU1
      subst hps1
      clear hU1
      obtain ⟨hown, hbel, hb0, hb1⟩ := hIX
      obtain ⟨a, A0, c0, ca, ea, ha, q0, q1, hx⟩ := sl_one hown.sl
      rw [ea]
      obtain ⟨m0, _⟩ := hb0.facts5
      have haX : a.block < X.heap.size := ha.2
      have HK1 := Lib.hid hb1
      have HSK := Lib.hid fun (w' : World) (h : Below X.heap.size X w') => And.intro ((h.cell (p := a) haX).trans q0) (And.intro ((h.cell (p := ⟨a.block, a.off + 1, none⟩) haX).trans q1) (And.intro (kn.below h kn.lt).facts2.1 (kn.below h kn.lt).facts2.2.1))
      have HX := Lib.hid (show IsTy (· < X.heap.size) X tyNat _ from IsTy.keep (fun b h => h.2) (fun _ _ => rfl) _ hx)
      clear hown hbel hb0 hb1 q0 q1 hx kn kl
      obtain ⟨q0, q1, _⟩ := HSK.out X (Below.refl _ _)
      go_wp2_with fail
      go_region_held3 (fun w' => w'.cell? a = some (.int .i64 tyNat.kind) ∧ w'.cell? ⟨a.block, a.off + 1, none⟩ = some (.slice A0 tyNat.args.length c0) ∧ w'.cell? ⟨w3.heap.size, 0, none⟩ = some (.int .i64 1) ∧ w'.cell? ⟨w3.heap.size, 1, none⟩ = some (.slice none 0 0))
        (first | with_reducible exact HSK.out _ (Below.refl _ _).drew | with_reducible exact HSK.out _ G1.out | go_keep)
        (first
          | (go_at_call 25
             (with_reducible refine (refSame_is (S := tyNat) (T := tyNat) true (eqb_self _) (by simp [tyNat, Ty.nodes, nodesAll]) (by simp [tyNat, Ty.nodes, nodesAll]) (HX.out.boxed' ((Below.refl X.heap.size X).drew)) (IsTy.leaf _ _ _)).mono ?_)
             rintro e w4 ⟨rfl, hb4⟩
             have G1 := Lib.hid (show Below X.heap.size X w4 from ((Below.refl _ X).drew).trans hb4)
             obtain ⟨_, _, nt0, nt1⟩ := HSK.out _ G1.out
             obtain ⟨_, _, f0, f1⟩ := (HK1.out.below G1.out HK1.out.lt).facts2
             clear hb4))
      go_wp2_with fail
      obtain ⟨z0, z1, _, _⟩ := ((HK1.out.below G1.out HK1.out.lt).set2 (.int .i64 1) (.slice none 0 0)).facts2
      refine bodyPost_ret (v := .tuple #[.agg #[.int .i64 1, .slice none 0 0], .int .i64 0]) (by simp [results, Tryd.results82, go_sem, z0, z1]) rfl ?_
      rw [HU.out]
      exact infer_end (HIX.out.2.1.trans (G1.out.mono HIX.out.2.1.size)) (by have := G1.out.size; omega) (IsTy.leaf _ _ _)
end Go.Proofs.YtifijgihcincfaaDoor
namespace Go.Proofs.YtifijgihcincfaaDoor
open Go.RowKit

set_option maxRecDepth 100000 in
set_option maxHeartbeats 4000000 in
theorem infer_8 (n : Nat) (hih : InferIH n) (i : Int) (T : Ty) (l : List Tm) (G : List Ty) (s v : Value) (U : Ty) (w : World) (hn : (Tm.mk 8 i T l).bulk ≤ n + 1) (hok : (Tm.mk 8 i T l).ok = true) (hG : ∀ T ∈ G, T.err = 0) (hGn : G.length + n + 1 ≤ 400000)
    (htyp : (Tm.mk 8 i T l).typ G = .ok U) (hs : TyR.Sl (· < w.heap.size) w G s) (hfs : Roomy s) (hT : IsTm (· < w.heap.size) w (.mk 8 i T l) v) : Calls Tryd.prog 82 #[s, v] w (InferR U w) := by
  obtain ⟨ps, hps, hnode⟩ := typ_parts (by decide) (by decide) htyp
  obtain ⟨B, d, A, c, rfl, hTT, hl⟩ := hT.mk_parts
  obtain ⟨As, cs, rfl⟩ := hs.form
  have hplen := typAll_len hps
  have hll := bulkAll_len l
  rw [okT_eq, Bool.and_eq_true] at hok
  have hfk := formed_kind hok.1
  simp only [Tm.kind, Tm.index, Tm.type, Tm.args] at hfk hok
  simp only [Tm.bulk] at hn
  have hpe := typAll_err l G hok.2 hG hps
  obtain ⟨W, hW, hbW, hz, k0, k1⟩ := box52_facts w (.int .i64 8) (.int .i64 i) (.int .i64 T.kind) (.slice B T.args.length d) (.slice A l.length c)
  have hTW : IsTy (· < w.heap.size) W T (.agg #[.int .i64 T.kind, .slice B T.args.length d]) := IsTy.keep (fun _ h => h) (fun p hp => hbW.cell hp) _ hTT
  obtain ⟨p0, p1, p2, p3, p4, _⟩ := k0.facts5
  have HI0 := Lib.hid (show InferI 8 i T l B A d c w (.slice none 0 0) [] W from ⟨Rep.Own.nil _ _ _, hbW, k0, k1⟩)
  have HIH := Lib.hid hih
  have HG := Lib.hid hG
  have HFS := Lib.hid hfs
  have HS := Lib.hid hs
  have HL := Lib.hid hl
  have HP := Lib.hid (And.intro hps (And.intro hnode (And.intro hpe hplen)))
  have HF := Lib.hid (And.intro hok hfk)
  have HT := Lib.hid hTT
  have HN := Lib.hid (show bulkAll l ≤ n by omega)
  clear hfs hih hG hs hl hps hnode hpe hplen hok hfk hT htyp k0 k1 hbW hTT hTW
  go_enter Tryd.func82, Tryd.ntmps82
  go_wp2_with fail
  rw [← hW]
  clear hW hz
  go_loopw [8, 69] (fun ls ix wr => ∃ j : Nat, j ≤ l.length ∧ ix = .int .i64 j ∧ InferI 8 i T l B A d c w ls (ps.take j) wr) (fun _ ix _ => l.length - (intOf ix).toNat)
  case atStart => exact ⟨0, Nat.zero_le _, rfl, HI0.out⟩
  case round =>
    obtain ⟨j, hj, rfl, hown, hbel, hb0, hb1⟩ := hrel
    clear p0 p1 p2 p3 p4
    by_cases hlt : j < l.length
    · have hlr : TmR.Sl (· < w.heap.size) wr l (.slice A l.length c) := HL.out.keep (fun _ h => h) (fun p hp => hbel.cell hp)
      obtain ⟨a, rfl, ha, hat⟩ := hlr.get j hlt
      obtain ⟨B1, d1, A1, c1, q0, q1, q2, q3, q4, hx⟩ := at_tm hat
      simp only [show TmR.n = 5 from rfl] at q0 q1 q2 q3 q4
      have hjp : j < ps.length := by have := HP.out.2.2.2; omega
      have hxt := typAll_get HP.out.1 j hlt hjp
      have hnj : l[j].bulk ≤ n := by have := bulkAll_get l j hlt; have := HN.out; omega
      have hxo := okAllT_get HF.out.1.2 j hlt
      have hlen : (ps.take j).length = j := by simp; omega
      have hwz := hbel.size
      have hGs : TyR.Sl (· < w.heap.size) wr G (.slice As G.length cs) := HS.out.keep (fun _ h => h) (fun p hp => hbel.cell hp)
      obtain ⟨i0, hi, hz0, hz1, hz2⟩ := info_parts info_type
      obtain ⟨xs, hox, hxs⟩ := hown
      have HX := Lib.hid (And.intro hx (And.intro hxt (And.intro hnj (And.intro hxo hGs))))
      have HLE := Lib.hid hlen
      have HO := Lib.hid (And.intro hox (And.intro hxs (And.intro hbel (And.intro hb0 hb1))))
      clear hlr hat hx hxt hnj hxo hGs hlen hox hxs hbel hb0 hb1
      go_wp2_with fail
      have bo := (Below.refl wr.heap.size wr).alloc (Nat.le_refl _) (Obj.cells #[.int .i64 l[j].kind, .int .i64 l[j].index, .int .i64 l[j].type.kind, .slice B1 l[j].type.args.length d1, .slice A1 l[j].args.length c1] 34)
      refine (HIH.out l[j] G (.slice As G.length cs) _ ps[j] _ HX.out.2.2.1 HX.out.2.2.2.1 HG.out (by omega) HX.out.2.1 (HX.out.2.2.2.2.keep (fun b h => by have h' : b < w.heap.size := h; simp; omega) (fun p hp => World.cell?_alloc_lt _ _ _ (by have h' : p.block < w.heap.size := hp; omega))) HFS.out
        (HX.out.1.keep (fun b h => by have h' : b < w.heap.size := h; simp; omega) (fun p hp => World.cell?_alloc_lt _ _ _ (by have h' : p.block < w.heap.size := hp; omega)))).mono ?_
      rintro e w1 ⟨hb2, v1, rfl, ht1⟩
      obtain ⟨A2, c2, rfl⟩ := ht1.form
      have hbw : Below wr.heap.size wr w1 := bo.trans (hb2.mono (by simp))
      have ht1' : IsTy (fun b => wr.heap.size ≤ b ∧ b < w1.heap.size) w1 ps[j] (.agg #[.int .i64 ps[j].kind, .slice A2 ps[j].args.length c2]) := IsTy.keep (fun b h => ⟨by have := h.1; simp at this; omega, h.2⟩) (fun _ _ => rfl) _ ht1
      have HT1 := Lib.hid ht1'
      have hg2w := only_of_below hbw none
      have hown1 := ((HO.out.1.kept hg2w (by cases u8.ownBlock <;> simp)).alloc (Obj.cells #[.int .i64 ps[j].kind, .slice A2 ps[j].args.length c2] 30)).alloc (Obj.cells #[.int .i64 ps[j].kind, .slice A2 ps[j].args.length c2] 30)
      have kY : Blk ((w1.alloc (Obj.cells #[.int .i64 ps[j].kind, .slice A2 ps[j].args.length c2] 30)).alloc (Obj.cells #[.int .i64 ps[j].kind, .slice A2 ps[j].args.length c2] 30)) (w1.heap.size + 1) 30 #[.int .i64 ps[j].kind, .slice A2 ps[j].args.length c2] := by
        have := Blk.new (w1.alloc (Obj.cells #[.int .i64 ps[j].kind, .slice A2 ps[j].args.length c2] 30)) 30 #[.int .i64 ps[j].kind, .slice A2 ps[j].args.length c2]
        rwa [World.size_alloc] at this
      have HKY := Lib.hid kY
      have HBW := Lib.hid hbw
      clear kY hb2 ht1 ht1' bo hg2w hbw
      go_wp2_with (at_builtin; go_loud (refine wpList_append_own_at _ rfl _ _ 27 rfl (w.heap.size + 2) 30 i0 _ 2 32 Tryd.underlying27 hi hz0 hz1 hz2 rfl (by decide) u8 (ps.take j).length xs rfl hown1 ⟨w1.heap.size + 1, 0, none⟩ 1 1 [_, _] rfl rfl (World.news_of_block HKY.out) (by simp [Value.oneCell']) (by have := HLE.out; simp only [maxLen]; omega) (by have := HLE.out; omega) (by have := HO.out.2.2.2.2.lt; have := HBW.out.size; simp; omega) ?_); intro v2 w2 hown2 hg2 hnil2 hat2)
      have HST := Lib.hid (infer_step HO.out.2.2.1 HO.out.2.2.2.1 HO.out.2.2.2.2 HBW.out hown1 (HO.out.2.1) HO.out.1.lt HT1.out hown2 hg2 hat2)
      exact ⟨⟨j + 1, by omega, by go_num, by rw [List.take_succ_eq_append_getElem hjp]; exact HST.out⟩, by simp [intOf]; omega⟩
    · have hjl : j = l.length := by omega
      have hI : InferI 8 i T l B A d c w u8 ps wr := by
        rw [List.take_of_length_le (by have := HP.out.2.2.2; omega)] at hown
        exact ⟨hown, hbel, hb0, hb1⟩
      obtain ⟨A3, c3, e3⟩ := hI.1.form
      subst e3
      have HI := Lib.hid hI
      subst hjl
      clear hown hbel hb0 hb1 hI
      go_wp2_with fail
      refine (nat_any _).mono ?_
      rintro e w2 ⟨rfl, hb2⟩
      go_wp2_with fail
      refine (list_any _).mono ?_
      rintro e w3 ⟨rfl, hb3⟩
      obtain ⟨X, hX, hIX, kn, kl, hz3, hzX⟩ := infer_mid HI.out hb2 hb3
      clear hb2 hb3
      go_upto_region 20 with fail
      rw [← hX]
      clear hX
      have HIX := Lib.hid hIX
      have hpsu : ps = [tyNat, tyList] ∧ U = tyList := by
        have h := HP.out.2.1
        simp only [nodeTy, argTys, ownTy] at h
        simp at h
        split at h
        · rename_i h1
          exact ⟨sameAll_eq h1, by cases h; rfl⟩
        · cases h
      obtain ⟨hps1, hU1⟩ := hpsu
      have HU := Lib.hid hU1
      subst hps1
      clear hU1
      obtain ⟨hown, hbel, hb0, hb1⟩ := hIX
      obtain ⟨a, A0, A1, c0, c1, ca, ea, ha, q0, q1, q2, q3, hx, hy⟩ := sl_two hown.sl
      rw [ea]
      obtain ⟨m0, _⟩ := hb0.facts5
      have haX : a.block < X.heap.size := ha.2
      have HK1 := Lib.hid hb1
      have HSK := Lib.hid fun (w' : World) (h : Below X.heap.size X w') => And.intro ((h.cell (p := a) haX).trans q0) (And.intro ((h.cell (p := ⟨a.block, a.off + 1, none⟩) haX).trans q1) (And.intro ((h.cell (p := ⟨a.block, a.off + 2, none⟩) haX).trans q2) (And.intro ((h.cell (p := ⟨a.block, a.off + 2 + 1, none⟩) haX).trans q3) (And.intro ((kn.below h kn.lt).facts2.1) (And.intro ((kn.below h kn.lt).facts2.2.1) (And.intro ((kl.below h kl.lt).facts2.1) ((kl.below h kl.lt).facts2.2.1)))))))
      have HX := Lib.hid (And.intro (show IsTy (· < X.heap.size) X tyNat _ from IsTy.keep (fun b h => h.2) (fun _ _ => rfl) _ hx) (show IsTy (· < X.heap.size) X tyList _ from IsTy.keep (fun b h => h.2) (fun _ _ => rfl) _ hy))
      have HSMtyNat := Lib.hid (show tyNat.nodes ≤ 400000 by decide)
      have HSMtyList := Lib.hid (show tyList.nodes ≤ 400000 by decide)
      clear hown hbel hb0 hb1 q0 q1 q2 q3 hx hy kn kl
      obtain ⟨q0, q1, _⟩ := HSK.out X (Below.refl _ _)
      go_wp2_with fail
      go_region_held3 (fun w' => w'.cell? a = some (.int .i64 tyNat.kind) ∧ w'.cell? ⟨a.block, a.off + 1, none⟩ = some (.slice A0 tyNat.args.length c0) ∧ w'.cell? ⟨a.block, a.off + 2, none⟩ = some (.int .i64 tyList.kind) ∧ w'.cell? ⟨a.block, a.off + 2 + 1, none⟩ = some (.slice A1 tyList.args.length c1) ∧ w'.cell? ⟨w3.heap.size, 0, none⟩ = some (.int .i64 1) ∧ w'.cell? ⟨w3.heap.size, 1, none⟩ = some (.slice none 0 0) ∧ w'.cell? ⟨w3.heap.size + 1, 0, none⟩ = some (.int .i64 2) ∧ w'.cell? ⟨w3.heap.size + 1, 1, none⟩ = some (.slice none 0 0))
        (first | with_reducible exact HSK.out _ (Below.refl _ _).drew | with_reducible exact HSK.out _ G1.out | with_reducible exact HSK.out _ G2.out | go_keep)
        (first
          | (go_at_call 25
             (with_reducible refine (refSame_is (S := tyList) (T := tyList) (w := w4) true (eqb_self _) HSMtyList.out HSMtyList.out (HX.out.2.boxed' G1.out) (IsTy.leaf _ _ _)).mono ?_)
             rintro e w5 ⟨rfl, hbb⟩
             have G2 := Lib.hid (show Below X.heap.size X w5 from G1.out.trans (hbb.mono G1.out.size))
             clear hbb)
          | (go_at_call 25
             (with_reducible refine (refSame_is (S := tyNat) (T := tyNat) (w := X.drew) true (eqb_self _) HSMtyNat.out HSMtyNat.out (HX.out.1.boxed' ((Below.refl X.heap.size X).drew)) (IsTy.leaf _ _ _)).mono ?_)
             rintro e w4 ⟨rfl, hbb⟩
             have G1 := Lib.hid (show Below X.heap.size X w4 from ((Below.refl _ X).drew).trans hbb)
             clear hbb))
      obtain ⟨_, _, _, _, _, _, lt0, lt1⟩ := HSK.out _ G2.out
      obtain ⟨_, _, f0, f1⟩ := (HK1.out.below G2.out HK1.out.lt).facts2
      go_wp2_with fail
      obtain ⟨z0, z1, _, _⟩ := ((HK1.out.below G2.out HK1.out.lt).set2 (.int .i64 2) (.slice none 0 0)).facts2
      refine bodyPost_ret (v := .tuple #[.agg #[.int .i64 2, .slice none 0 0], .int .i64 0]) (by simp [results, Tryd.results82, go_sem, z0, z1]) rfl ?_
      rw [HU.out]
      exact infer_end (HIX.out.2.1.trans (G2.out.mono HIX.out.2.1.size)) (by have := G2.out.size; omega) (IsTy.leaf _ _ _)
end Go.Proofs.YtifijgihcincfaaDoor
namespace Go.Proofs.YtifijgihcincfaaDoor
open Go.RowKit

theorem ok2_any (T : Ty) (A : Option Addr) (c : Nat) (w : World) (he : T.err = 0) (hT : IsTy (· < w.heap.size) w T (.agg #[.int .i64 T.kind, .slice A T.args.length c])) :
    Calls Tryd.prog 100 #[.agg #[.int .i64 T.kind, .slice A T.args.length c]] w fun e w' => e = .returned (.tuple #[.agg #[.int .i64 T.kind, .slice A T.args.length c], .int .i64 0]) ∧ Below w.heap.size w w' := by
  have hTn := err_small he
  obtain ⟨b1, z1, k1⟩ := new_blk (Below.refl w.heap.size w) (Nat.le_refl _) #[.int .i64 T.kind, .slice A T.args.length c] 30
  obtain ⟨b2, z2, k2⟩ := new_blk b1 b1.size #[.int .i64 0, .slice none 0 0] 30
  have k1 := k1.alloc (Obj.cells #[.int .i64 0, .slice none 0 0] 30)
  rw [z1] at k2 z2
  obtain ⟨W, hW⟩ : ∃ W, W = (w.alloc (Obj.cells #[.int .i64 T.kind, .slice A T.args.length c] 30)).alloc (Obj.cells #[.int .i64 0, .slice none 0 0] 30) := ⟨_, rfl⟩
  rw [← hW] at b2 z2 k1 k2
  obtain ⟨p0, p1, _, _⟩ := k1.facts2
  have HT := Lib.hid (hT.boxed' b2)
  have HK := Lib.hid (And.intro k1 (And.intro k2 b2))
  have HE := Lib.hid he
  clear hT k1 k2 b1 z1 he
  go_enter Tryd.func100, Tryd.ntmps100
  go_wp2_with fail
  rw [← hW]
  clear hW
  refine (refCheck_any T _ W (by omega) HT.out).mono ?_
  rintro e w1 ⟨rfl, hb1⟩
  rw [HE.out]
  obtain ⟨p0, p1, _, _⟩ := (HK.out.1.below hb1 HK.out.1.lt).facts2
  have k2 := HK.out.2.1.below hb1 HK.out.2.1.lt
  obtain ⟨_, _, f0, f1⟩ := k2.facts2
  have HB := Lib.hid (HK.out.2.2.trans (hb1.mono HK.out.2.2.size))
  have HK2 := Lib.hid k2
  clear hb1 k2
  go_wp2_with fail
  obtain ⟨z0, z1, _, _⟩ := (HK2.out.set2 (.int .i64 T.kind) (.slice A T.args.length c)).facts2
  refine bodyPost_ret (v := .tuple #[.agg #[.int .i64 T.kind, .slice A T.args.length c], .int .i64 0]) (by simp [results, Tryd.results100, go_sem, z0, z1]) rfl ⟨rfl, ?_⟩
  exact HB.out.grown (only_set2 w1 (w.heap.size + 1) _ _) HB.out.size (fun k e => by cases e; omega)

set_option maxRecDepth 100000 in
set_option maxHeartbeats 4000000 in
theorem infer_11 (n : Nat) (hih : InferIH n) (i : Int) (T : Ty) (l : List Tm) (G : List Ty) (s v : Value) (U : Ty) (w : World) (hn : (Tm.mk 11 i T l).bulk ≤ n + 1) (hok : (Tm.mk 11 i T l).ok = true) (hG : ∀ T ∈ G, T.err = 0) (hGn : G.length + n + 1 ≤ 400000)
    (htyp : (Tm.mk 11 i T l).typ G = .ok U) (hs : TyR.Sl (· < w.heap.size) w G s) (hfs : Roomy s) (hT : IsTm (· < w.heap.size) w (.mk 11 i T l) v) : Calls Tryd.prog 82 #[s, v] w (InferR U w) := by
  obtain ⟨ps, hps, hnode⟩ := typ_parts (by decide) (by decide) htyp
  obtain ⟨B, d, A, c, rfl, hTT, hl⟩ := hT.mk_parts
  obtain ⟨As, cs, rfl⟩ := hs.form
  have hplen := typAll_len hps
  have hll := bulkAll_len l
  rw [okT_eq, Bool.and_eq_true] at hok
  have hfk := formed_kind hok.1
  simp only [Tm.kind, Tm.index, Tm.type, Tm.args] at hfk hok
  simp only [Tm.bulk] at hn
  have hpe := typAll_err l G hok.2 hG hps
  obtain ⟨W, hW, hbW, hz, k0, k1⟩ := box52_facts w (.int .i64 11) (.int .i64 i) (.int .i64 T.kind) (.slice B T.args.length d) (.slice A l.length c)
  have hTW : IsTy (· < w.heap.size) W T (.agg #[.int .i64 T.kind, .slice B T.args.length d]) := IsTy.keep (fun _ h => h) (fun p hp => hbW.cell hp) _ hTT
  obtain ⟨p0, p1, p2, p3, p4, _⟩ := k0.facts5
  have HI0 := Lib.hid (show InferI 11 i T l B A d c w (.slice none 0 0) [] W from ⟨Rep.Own.nil _ _ _, hbW, k0, k1⟩)
  have HIH := Lib.hid hih
  have HG := Lib.hid hG
  have HFS := Lib.hid hfs
  have HS := Lib.hid hs
  have HL := Lib.hid hl
  have HP := Lib.hid (And.intro hps (And.intro hnode (And.intro hpe hplen)))
  have HF := Lib.hid (And.intro hok hfk)
  have HT := Lib.hid hTT
  have HN := Lib.hid (show bulkAll l ≤ n by omega)
  clear hfs hih hG hs hl hps hnode hpe hplen hok hfk hT htyp k0 k1 hbW hTT hTW
  go_enter Tryd.func82, Tryd.ntmps82
  go_wp2_with fail
  rw [← hW]
  clear hW hz
  go_loopw [8, 69] (fun ls ix wr => ∃ j : Nat, j ≤ l.length ∧ ix = .int .i64 j ∧ InferI 11 i T l B A d c w ls (ps.take j) wr) (fun _ ix _ => l.length - (intOf ix).toNat)
  case atStart => exact ⟨0, Nat.zero_le _, rfl, HI0.out⟩
  case round =>
    obtain ⟨j, hj, rfl, hown, hbel, hb0, hb1⟩ := hrel
    clear p0 p1 p2 p3 p4
    by_cases hlt : j < l.length
    · have hlr : TmR.Sl (· < w.heap.size) wr l (.slice A l.length c) := HL.out.keep (fun _ h => h) (fun p hp => hbel.cell hp)
      obtain ⟨a, rfl, ha, hat⟩ := hlr.get j hlt
      obtain ⟨B1, d1, A1, c1, q0, q1, q2, q3, q4, hx⟩ := at_tm hat
      simp only [show TmR.n = 5 from rfl] at q0 q1 q2 q3 q4
      have hjp : j < ps.length := by have := HP.out.2.2.2; omega
      have hxt := typAll_get HP.out.1 j hlt hjp
      have hnj : l[j].bulk ≤ n := by have := bulkAll_get l j hlt; have := HN.out; omega
      have hxo := okAllT_get HF.out.1.2 j hlt
      have hlen : (ps.take j).length = j := by simp; omega
      have hwz := hbel.size
      have hGs : TyR.Sl (· < w.heap.size) wr G (.slice As G.length cs) := HS.out.keep (fun _ h => h) (fun p hp => hbel.cell hp)
      obtain ⟨i0, hi, hz0, hz1, hz2⟩ := info_parts info_type
      obtain ⟨xs, hox, hxs⟩ := hown
      have HX := Lib.hid (And.intro hx (And.intro hxt (And.intro hnj (And.intro hxo hGs))))
      have HLE := Lib.hid hlen
      have HO := Lib.hid (And.intro hox (And.intro hxs (And.intro hbel (And.intro hb0 hb1))))
      clear hlr hat hx hxt hnj hxo hGs hlen hox hxs hbel hb0 hb1
      go_wp2_with fail
      have bo := (Below.refl wr.heap.size wr).alloc (Nat.le_refl _) (Obj.cells #[.int .i64 l[j].kind, .int .i64 l[j].index, .int .i64 l[j].type.kind, .slice B1 l[j].type.args.length d1, .slice A1 l[j].args.length c1] 34)
      refine (HIH.out l[j] G (.slice As G.length cs) _ ps[j] _ HX.out.2.2.1 HX.out.2.2.2.1 HG.out (by omega) HX.out.2.1 (HX.out.2.2.2.2.keep (fun b h => by have h' : b < w.heap.size := h; simp; omega) (fun p hp => World.cell?_alloc_lt _ _ _ (by have h' : p.block < w.heap.size := hp; omega))) HFS.out
        (HX.out.1.keep (fun b h => by have h' : b < w.heap.size := h; simp; omega) (fun p hp => World.cell?_alloc_lt _ _ _ (by have h' : p.block < w.heap.size := hp; omega)))).mono ?_
      rintro e w1 ⟨hb2, v1, rfl, ht1⟩
      obtain ⟨A2, c2, rfl⟩ := ht1.form
      have hbw : Below wr.heap.size wr w1 := bo.trans (hb2.mono (by simp))
      have ht1' : IsTy (fun b => wr.heap.size ≤ b ∧ b < w1.heap.size) w1 ps[j] (.agg #[.int .i64 ps[j].kind, .slice A2 ps[j].args.length c2]) := IsTy.keep (fun b h => ⟨by have := h.1; simp at this; omega, h.2⟩) (fun _ _ => rfl) _ ht1
      have HT1 := Lib.hid ht1'
      have hg2w := only_of_below hbw none
      have hown1 := ((HO.out.1.kept hg2w (by cases u8.ownBlock <;> simp)).alloc (Obj.cells #[.int .i64 ps[j].kind, .slice A2 ps[j].args.length c2] 30)).alloc (Obj.cells #[.int .i64 ps[j].kind, .slice A2 ps[j].args.length c2] 30)
      have kY : Blk ((w1.alloc (Obj.cells #[.int .i64 ps[j].kind, .slice A2 ps[j].args.length c2] 30)).alloc (Obj.cells #[.int .i64 ps[j].kind, .slice A2 ps[j].args.length c2] 30)) (w1.heap.size + 1) 30 #[.int .i64 ps[j].kind, .slice A2 ps[j].args.length c2] := by
        have := Blk.new (w1.alloc (Obj.cells #[.int .i64 ps[j].kind, .slice A2 ps[j].args.length c2] 30)) 30 #[.int .i64 ps[j].kind, .slice A2 ps[j].args.length c2]
        rwa [World.size_alloc] at this
      have HKY := Lib.hid kY
      have HBW := Lib.hid hbw
      clear kY hb2 ht1 ht1' bo hg2w hbw
      go_wp2_with (at_builtin; go_loud (refine wpList_append_own_at _ rfl _ _ 27 rfl (w.heap.size + 2) 30 i0 _ 2 32 Tryd.underlying27 hi hz0 hz1 hz2 rfl (by decide) u8 (ps.take j).length xs rfl hown1 ⟨w1.heap.size + 1, 0, none⟩ 1 1 [_, _] rfl rfl (World.news_of_block HKY.out) (by simp [Value.oneCell']) (by have := HLE.out; simp only [maxLen]; omega) (by have := HLE.out; omega) (by have := HO.out.2.2.2.2.lt; have := HBW.out.size; simp; omega) ?_); intro v2 w2 hown2 hg2 hnil2 hat2)
      have HST := Lib.hid (infer_step HO.out.2.2.1 HO.out.2.2.2.1 HO.out.2.2.2.2 HBW.out hown1 (HO.out.2.1) HO.out.1.lt HT1.out hown2 hg2 hat2)
      exact ⟨⟨j + 1, by omega, by go_num, by rw [List.take_succ_eq_append_getElem hjp]; exact HST.out⟩, by simp [intOf]; omega⟩
    · have hjl : j = l.length := by omega
      have hI : InferI 11 i T l B A d c w u8 ps wr := by
        rw [List.take_of_length_le (by have := HP.out.2.2.2; omega)] at hown
        exact ⟨hown, hbel, hb0, hb1⟩
      obtain ⟨A3, c3, e3⟩ := hI.1.form
      subst e3
      have HI := Lib.hid hI
      subst hjl
      clear hown hbel hb0 hb1 hI
      go_wp2_with fail
      refine (nat_any _).mono ?_
      rintro e w2 ⟨rfl, hb2⟩
      go_wp2_with fail
      refine (list_any _).mono ?_
      rintro e w3 ⟨rfl, hb3⟩
      obtain ⟨X, hX, hIX, kn, kl, hz3, hzX⟩ := infer_mid HI.out hb2 hb3
      clear hb2 hb3
      go_upto_region 20 with fail
      rw [← hX]
      clear hX
      have HIX := Lib.hid hIX
      obtain ⟨p, q, hps1, hU1⟩ : ∃ p q, ps = [.mk 3 [p, q]] ∧ U = p := by
        have h := HP.out.2.1
        simp only [nodeTy] at h
        simp at h
        split at h
        · exact ⟨_, _, rfl, by cases h; rfl⟩
        · cases h
      have HU := Lib.hid hU1
      subst hps1
      clear hU1
      obtain ⟨hown, hbel, hb0, hb1⟩ := hIX
      obtain ⟨a, A0, c0, ca, ea, ha, q0, q1, hx⟩ := sl_one hown.sl
      rw [ea]
      simp only [Ty.kind, Ty.args, List.length_cons, List.length_nil, Nat.reduceAdd] at q0 q1 hx
      obtain ⟨b, D0, e0, D1, e1, rfl, hbb, r0, r1, s0, s1, hp, hq⟩ := hx.two
      obtain ⟨m0, _⟩ := hb0.facts5
      obtain ⟨_, _, f0, f1⟩ := hb1.facts2
      have HK1 := Lib.hid hb1
      have HX := Lib.hid (show IsTy (fun b => w.heap.size + 2 ≤ b ∧ b < X.heap.size) X p _ from IsTy.keep (fun b h => ⟨by have := h.1; omega, h.2⟩) (fun _ _ => rfl) _ hp)
      clear hown hbel hb0 hb1 hx kn kl hp hq
      go_wp2_with fail
      obtain ⟨z0, z1, _, _⟩ := (HK1.out.set2 (.int .i64 p.kind) (.slice D0 p.args.length e0)).facts2
      refine bodyPost_ret (v := .tuple #[.agg #[.int .i64 p.kind, .slice D0 p.args.length e0], .int .i64 0]) (by simp [results, Tryd.results82, go_sem, z0, z1]) rfl ?_
      rw [HU.out]
      exact infer_end HIX.out.2.1 (by omega) HX.out

set_option maxRecDepth 100000 in
set_option maxHeartbeats 4000000 in
theorem infer_12 (n : Nat) (hih : InferIH n) (i : Int) (T : Ty) (l : List Tm) (G : List Ty) (s v : Value) (U : Ty) (w : World) (hn : (Tm.mk 12 i T l).bulk ≤ n + 1) (hok : (Tm.mk 12 i T l).ok = true) (hG : ∀ T ∈ G, T.err = 0) (hGn : G.length + n + 1 ≤ 400000)
    (htyp : (Tm.mk 12 i T l).typ G = .ok U) (hs : TyR.Sl (· < w.heap.size) w G s) (hfs : Roomy s) (hT : IsTm (· < w.heap.size) w (.mk 12 i T l) v) : Calls Tryd.prog 82 #[s, v] w (InferR U w) := by
  obtain ⟨ps, hps, hnode⟩ := typ_parts (by decide) (by decide) htyp
  obtain ⟨B, d, A, c, rfl, hTT, hl⟩ := hT.mk_parts
  obtain ⟨As, cs, rfl⟩ := hs.form
  have hplen := typAll_len hps
  have hll := bulkAll_len l
  rw [okT_eq, Bool.and_eq_true] at hok
  have hfk := formed_kind hok.1
  simp only [Tm.kind, Tm.index, Tm.type, Tm.args] at hfk hok
  simp only [Tm.bulk] at hn
  have hpe := typAll_err l G hok.2 hG hps
  obtain ⟨W, hW, hbW, hz, k0, k1⟩ := box52_facts w (.int .i64 12) (.int .i64 i) (.int .i64 T.kind) (.slice B T.args.length d) (.slice A l.length c)
  have hTW : IsTy (· < w.heap.size) W T (.agg #[.int .i64 T.kind, .slice B T.args.length d]) := IsTy.keep (fun _ h => h) (fun p hp => hbW.cell hp) _ hTT
  obtain ⟨p0, p1, p2, p3, p4, _⟩ := k0.facts5
  have HI0 := Lib.hid (show InferI 12 i T l B A d c w (.slice none 0 0) [] W from ⟨Rep.Own.nil _ _ _, hbW, k0, k1⟩)
  have HIH := Lib.hid hih
  have HG := Lib.hid hG
  have HFS := Lib.hid hfs
  have HS := Lib.hid hs
  have HL := Lib.hid hl
  have HP := Lib.hid (And.intro hps (And.intro hnode (And.intro hpe hplen)))
  have HF := Lib.hid (And.intro hok hfk)
  have HT := Lib.hid hTT
  have HN := Lib.hid (show bulkAll l ≤ n by omega)
  clear hfs hih hG hs hl hps hnode hpe hplen hok hfk hT htyp k0 k1 hbW hTT hTW
  go_enter Tryd.func82, Tryd.ntmps82
  go_wp2_with fail
  rw [← hW]
  clear hW hz
  go_loopw [8, 69] (fun ls ix wr => ∃ j : Nat, j ≤ l.length ∧ ix = .int .i64 j ∧ InferI 12 i T l B A d c w ls (ps.take j) wr) (fun _ ix _ => l.length - (intOf ix).toNat)
  case atStart => exact ⟨0, Nat.zero_le _, rfl, HI0.out⟩
  case round =>
    obtain ⟨j, hj, rfl, hown, hbel, hb0, hb1⟩ := hrel
    clear p0 p1 p2 p3 p4
    by_cases hlt : j < l.length
    · have hlr : TmR.Sl (· < w.heap.size) wr l (.slice A l.length c) := HL.out.keep (fun _ h => h) (fun p hp => hbel.cell hp)
      obtain ⟨a, rfl, ha, hat⟩ := hlr.get j hlt
      obtain ⟨B1, d1, A1, c1, q0, q1, q2, q3, q4, hx⟩ := at_tm hat
      simp only [show TmR.n = 5 from rfl] at q0 q1 q2 q3 q4
      have hjp : j < ps.length := by have := HP.out.2.2.2; omega
      have hxt := typAll_get HP.out.1 j hlt hjp
      have hnj : l[j].bulk ≤ n := by have := bulkAll_get l j hlt; have := HN.out; omega
      have hxo := okAllT_get HF.out.1.2 j hlt
      have hlen : (ps.take j).length = j := by simp; omega
      have hwz := hbel.size
      have hGs : TyR.Sl (· < w.heap.size) wr G (.slice As G.length cs) := HS.out.keep (fun _ h => h) (fun p hp => hbel.cell hp)
      obtain ⟨i0, hi, hz0, hz1, hz2⟩ := info_parts info_type
      obtain ⟨xs, hox, hxs⟩ := hown
      have HX := Lib.hid (And.intro hx (And.intro hxt (And.intro hnj (And.intro hxo hGs))))
      have HLE := Lib.hid hlen
      have HO := Lib.hid (And.intro hox (And.intro hxs (And.intro hbel (And.intro hb0 hb1))))
      clear hlr hat hx hxt hnj hxo hGs hlen hox hxs hbel hb0 hb1
      go_wp2_with fail
      have bo := (Below.refl wr.heap.size wr).alloc (Nat.le_refl _) (Obj.cells #[.int .i64 l[j].kind, .int .i64 l[j].index, .int .i64 l[j].type.kind, .slice B1 l[j].type.args.length d1, .slice A1 l[j].args.length c1] 34)
      refine (HIH.out l[j] G (.slice As G.length cs) _ ps[j] _ HX.out.2.2.1 HX.out.2.2.2.1 HG.out (by omega) HX.out.2.1 (HX.out.2.2.2.2.keep (fun b h => by have h' : b < w.heap.size := h; simp; omega) (fun p hp => World.cell?_alloc_lt _ _ _ (by have h' : p.block < w.heap.size := hp; omega))) HFS.out
        (HX.out.1.keep (fun b h => by have h' : b < w.heap.size := h; simp; omega) (fun p hp => World.cell?_alloc_lt _ _ _ (by have h' : p.block < w.heap.size := hp; omega)))).mono ?_
      rintro e w1 ⟨hb2, v1, rfl, ht1⟩
      obtain ⟨A2, c2, rfl⟩ := ht1.form
      have hbw : Below wr.heap.size wr w1 := bo.trans (hb2.mono (by simp))
      have ht1' : IsTy (fun b => wr.heap.size ≤ b ∧ b < w1.heap.size) w1 ps[j] (.agg #[.int .i64 ps[j].kind, .slice A2 ps[j].args.length c2]) := IsTy.keep (fun b h => ⟨by have := h.1; simp at this; omega, h.2⟩) (fun _ _ => rfl) _ ht1
      have HT1 := Lib.hid ht1'
      have hg2w := only_of_below hbw none
      have hown1 := ((HO.out.1.kept hg2w (by cases u8.ownBlock <;> simp)).alloc (Obj.cells #[.int .i64 ps[j].kind, .slice A2 ps[j].args.length c2] 30)).alloc (Obj.cells #[.int .i64 ps[j].kind, .slice A2 ps[j].args.length c2] 30)
      have kY : Blk ((w1.alloc (Obj.cells #[.int .i64 ps[j].kind, .slice A2 ps[j].args.length c2] 30)).alloc (Obj.cells #[.int .i64 ps[j].kind, .slice A2 ps[j].args.length c2] 30)) (w1.heap.size + 1) 30 #[.int .i64 ps[j].kind, .slice A2 ps[j].args.length c2] := by
        have := Blk.new (w1.alloc (Obj.cells #[.int .i64 ps[j].kind, .slice A2 ps[j].args.length c2] 30)) 30 #[.int .i64 ps[j].kind, .slice A2 ps[j].args.length c2]
        rwa [World.size_alloc] at this
      have HKY := Lib.hid kY
      have HBW := Lib.hid hbw
      clear kY hb2 ht1 ht1' bo hg2w hbw
      go_wp2_with (at_builtin; go_loud (refine wpList_append_own_at _ rfl _ _ 27 rfl (w.heap.size + 2) 30 i0 _ 2 32 Tryd.underlying27 hi hz0 hz1 hz2 rfl (by decide) u8 (ps.take j).length xs rfl hown1 ⟨w1.heap.size + 1, 0, none⟩ 1 1 [_, _] rfl rfl (World.news_of_block HKY.out) (by simp [Value.oneCell']) (by have := HLE.out; simp only [maxLen]; omega) (by have := HLE.out; omega) (by have := HO.out.2.2.2.2.lt; have := HBW.out.size; simp; omega) ?_); intro v2 w2 hown2 hg2 hnil2 hat2)
      have HST := Lib.hid (infer_step HO.out.2.2.1 HO.out.2.2.2.1 HO.out.2.2.2.2 HBW.out hown1 (HO.out.2.1) HO.out.1.lt HT1.out hown2 hg2 hat2)
      exact ⟨⟨j + 1, by omega, by go_num, by rw [List.take_succ_eq_append_getElem hjp]; exact HST.out⟩, by simp [intOf]; omega⟩
    · have hjl : j = l.length := by omega
      have hI : InferI 12 i T l B A d c w u8 ps wr := by
        rw [List.take_of_length_le (by have := HP.out.2.2.2; omega)] at hown
        exact ⟨hown, hbel, hb0, hb1⟩
      obtain ⟨A3, c3, e3⟩ := hI.1.form
      subst e3
      have HI := Lib.hid hI
      subst hjl
      clear hown hbel hb0 hb1 hI
      go_wp2_with fail
      refine (nat_any _).mono ?_
      rintro e w2 ⟨rfl, hb2⟩
      go_wp2_with fail
      refine (list_any _).mono ?_
      rintro e w3 ⟨rfl, hb3⟩
      obtain ⟨X, hX, hIX, kn, kl, hz3, hzX⟩ := infer_mid HI.out hb2 hb3
      clear hb2 hb3
      go_upto_region 20 with fail
      rw [← hX]
      clear hX
      have HIX := Lib.hid hIX
      obtain ⟨p, q, hps1, hU1⟩ : ∃ p q, ps = [.mk 3 [p, q]] ∧ U = q := by
        have h := HP.out.2.1
        simp only [nodeTy] at h
        simp at h
        split at h
        · exact ⟨_, _, rfl, by cases h; rfl⟩
        · cases h
      have HU := Lib.hid hU1
      subst hps1
      clear hU1
      obtain ⟨hown, hbel, hb0, hb1⟩ := hIX
      obtain ⟨a, A0, c0, ca, ea, ha, q0, q1, hx⟩ := sl_one hown.sl
      rw [ea]
      simp only [Ty.kind, Ty.args, List.length_cons, List.length_nil, Nat.reduceAdd] at q0 q1 hx
      obtain ⟨b, D0, e0, D1, e1, rfl, hbb, r0, r1, s0, s1, hp, hq⟩ := hx.two
      obtain ⟨m0, _⟩ := hb0.facts5
      obtain ⟨_, _, f0, f1⟩ := hb1.facts2
      have HK1 := Lib.hid hb1
      have HX := Lib.hid (show IsTy (fun b => w.heap.size + 2 ≤ b ∧ b < X.heap.size) X q _ from IsTy.keep (fun b h => ⟨by have := h.1; omega, h.2⟩) (fun _ _ => rfl) _ hq)
      clear hown hbel hb0 hb1 hx kn kl hp hq
      go_wp2_with fail
      obtain ⟨z0, z1, _, _⟩ := (HK1.out.set2 (.int .i64 q.kind) (.slice D1 q.args.length e1)).facts2
      refine bodyPost_ret (v := .tuple #[.agg #[.int .i64 q.kind, .slice D1 q.args.length e1], .int .i64 0]) (by simp [results, Tryd.results82, go_sem, z0, z1]) rfl ?_
      rw [HU.out]
      exact infer_end HIX.out.2.1 (by omega) HX.out

set_option maxRecDepth 100000 in
set_option maxHeartbeats 4000000 in
theorem infer_10 (n : Nat) (hih : InferIH n) (i : Int) (T : Ty) (l : List Tm) (G : List Ty) (s v : Value) (U : Ty) (w : World) (hn : (Tm.mk 10 i T l).bulk ≤ n + 1) (hok : (Tm.mk 10 i T l).ok = true) (hG : ∀ T ∈ G, T.err = 0) (hGn : G.length + n + 1 ≤ 400000)
    (htyp : (Tm.mk 10 i T l).typ G = .ok U) (hs : TyR.Sl (· < w.heap.size) w G s) (hfs : Roomy s) (hT : IsTm (· < w.heap.size) w (.mk 10 i T l) v) : Calls Tryd.prog 82 #[s, v] w (InferR U w) := by
  obtain ⟨ps, hps, hnode⟩ := typ_parts (by decide) (by decide) htyp
  obtain ⟨B, d, A, c, rfl, hTT, hl⟩ := hT.mk_parts
  obtain ⟨As, cs, rfl⟩ := hs.form
  have hplen := typAll_len hps
  have hll := bulkAll_len l
  rw [okT_eq, Bool.and_eq_true] at hok
  have hfk := formed_kind hok.1
  simp only [Tm.kind, Tm.index, Tm.type, Tm.args] at hfk hok
  simp only [Tm.bulk] at hn
  have hpe := typAll_err l G hok.2 hG hps
  obtain ⟨W, hW, hbW, hz, k0, k1⟩ := box52_facts w (.int .i64 10) (.int .i64 i) (.int .i64 T.kind) (.slice B T.args.length d) (.slice A l.length c)
  have hTW : IsTy (· < w.heap.size) W T (.agg #[.int .i64 T.kind, .slice B T.args.length d]) := IsTy.keep (fun _ h => h) (fun p hp => hbW.cell hp) _ hTT
  obtain ⟨p0, p1, p2, p3, p4, _⟩ := k0.facts5
  have HI0 := Lib.hid (show InferI 10 i T l B A d c w (.slice none 0 0) [] W from ⟨Rep.Own.nil _ _ _, hbW, k0, k1⟩)
  have HIH := Lib.hid hih
  have HG := Lib.hid hG
  have HFS := Lib.hid hfs
  have HS := Lib.hid hs
  have HL := Lib.hid hl
  have HP := Lib.hid (And.intro hps (And.intro hnode (And.intro hpe hplen)))
  have HF := Lib.hid (And.intro hok hfk)
  have HT := Lib.hid hTT
  have HN := Lib.hid (show bulkAll l ≤ n by omega)
  clear hfs hih hG hs hl hps hnode hpe hplen hok hfk hT htyp k0 k1 hbW hTT hTW
  go_enter Tryd.func82, Tryd.ntmps82
  go_wp2_with fail
  rw [← hW]
  clear hW hz
  go_loopw [8, 69] (fun ls ix wr => ∃ j : Nat, j ≤ l.length ∧ ix = .int .i64 j ∧ InferI 10 i T l B A d c w ls (ps.take j) wr) (fun _ ix _ => l.length - (intOf ix).toNat)
  case atStart => exact ⟨0, Nat.zero_le _, rfl, HI0.out⟩
  case round =>
    obtain ⟨j, hj, rfl, hown, hbel, hb0, hb1⟩ := hrel
    clear p0 p1 p2 p3 p4
    by_cases hlt : j < l.length
    · have hlr : TmR.Sl (· < w.heap.size) wr l (.slice A l.length c) := HL.out.keep (fun _ h => h) (fun p hp => hbel.cell hp)
      obtain ⟨a, rfl, ha, hat⟩ := hlr.get j hlt
      obtain ⟨B1, d1, A1, c1, q0, q1, q2, q3, q4, hx⟩ := at_tm hat
      simp only [show TmR.n = 5 from rfl] at q0 q1 q2 q3 q4
      have hjp : j < ps.length := by have := HP.out.2.2.2; omega
      have hxt := typAll_get HP.out.1 j hlt hjp
      have hnj : l[j].bulk ≤ n := by have := bulkAll_get l j hlt; have := HN.out; omega
      have hxo := okAllT_get HF.out.1.2 j hlt
      have hlen : (ps.take j).length = j := by simp; omega
      have hwz := hbel.size
      have hGs : TyR.Sl (· < w.heap.size) wr G (.slice As G.length cs) := HS.out.keep (fun _ h => h) (fun p hp => hbel.cell hp)
      obtain ⟨i0, hi, hz0, hz1, hz2⟩ := info_parts info_type
      obtain ⟨xs, hox, hxs⟩ := hown
      have HX := Lib.hid (And.intro hx (And.intro hxt (And.intro hnj (And.intro hxo hGs))))
      have HLE := Lib.hid hlen
      have HO := Lib.hid (And.intro hox (And.intro hxs (And.intro hbel (And.intro hb0 hb1))))
      clear hlr hat hx hxt hnj hxo hGs hlen hox hxs hbel hb0 hb1
      go_wp2_with fail
      have bo := (Below.refl wr.heap.size wr).alloc (Nat.le_refl _) (Obj.cells #[.int .i64 l[j].kind, .int .i64 l[j].index, .int .i64 l[j].type.kind, .slice B1 l[j].type.args.length d1, .slice A1 l[j].args.length c1] 34)
      refine (HIH.out l[j] G (.slice As G.length cs) _ ps[j] _ HX.out.2.2.1 HX.out.2.2.2.1 HG.out (by omega) HX.out.2.1 (HX.out.2.2.2.2.keep (fun b h => by have h' : b < w.heap.size := h; simp; omega) (fun p hp => World.cell?_alloc_lt _ _ _ (by have h' : p.block < w.heap.size := hp; omega))) HFS.out
        (HX.out.1.keep (fun b h => by have h' : b < w.heap.size := h; simp; omega) (fun p hp => World.cell?_alloc_lt _ _ _ (by have h' : p.block < w.heap.size := hp; omega)))).mono ?_
      rintro e w1 ⟨hb2, v1, rfl, ht1⟩
      obtain ⟨A2, c2, rfl⟩ := ht1.form
      have hbw : Below wr.heap.size wr w1 := bo.trans (hb2.mono (by simp))
      have ht1' : IsTy (fun b => wr.heap.size ≤ b ∧ b < w1.heap.size) w1 ps[j] (.agg #[.int .i64 ps[j].kind, .slice A2 ps[j].args.length c2]) := IsTy.keep (fun b h => ⟨by have := h.1; simp at this; omega, h.2⟩) (fun _ _ => rfl) _ ht1
      have HT1 := Lib.hid ht1'
      have hg2w := only_of_below hbw none
      have hown1 := ((HO.out.1.kept hg2w (by cases u8.ownBlock <;> simp)).alloc (Obj.cells #[.int .i64 ps[j].kind, .slice A2 ps[j].args.length c2] 30)).alloc (Obj.cells #[.int .i64 ps[j].kind, .slice A2 ps[j].args.length c2] 30)
      have kY : Blk ((w1.alloc (Obj.cells #[.int .i64 ps[j].kind, .slice A2 ps[j].args.length c2] 30)).alloc (Obj.cells #[.int .i64 ps[j].kind, .slice A2 ps[j].args.length c2] 30)) (w1.heap.size + 1) 30 #[.int .i64 ps[j].kind, .slice A2 ps[j].args.length c2] := by
        have := Blk.new (w1.alloc (Obj.cells #[.int .i64 ps[j].kind, .slice A2 ps[j].args.length c2] 30)) 30 #[.int .i64 ps[j].kind, .slice A2 ps[j].args.length c2]
        rwa [World.size_alloc] at this
      have HKY := Lib.hid kY
      have HBW := Lib.hid hbw
      clear kY hb2 ht1 ht1' bo hg2w hbw
      go_wp2_with (at_builtin; go_loud (refine wpList_append_own_at _ rfl _ _ 27 rfl (w.heap.size + 2) 30 i0 _ 2 32 Tryd.underlying27 hi hz0 hz1 hz2 rfl (by decide) u8 (ps.take j).length xs rfl hown1 ⟨w1.heap.size + 1, 0, none⟩ 1 1 [_, _] rfl rfl (World.news_of_block HKY.out) (by simp [Value.oneCell']) (by have := HLE.out; simp only [maxLen]; omega) (by have := HLE.out; omega) (by have := HO.out.2.2.2.2.lt; have := HBW.out.size; simp; omega) ?_); intro v2 w2 hown2 hg2 hnil2 hat2)
      have HST := Lib.hid (infer_step HO.out.2.2.1 HO.out.2.2.2.1 HO.out.2.2.2.2 HBW.out hown1 (HO.out.2.1) HO.out.1.lt HT1.out hown2 hg2 hat2)
      exact ⟨⟨j + 1, by omega, by go_num, by rw [List.take_succ_eq_append_getElem hjp]; exact HST.out⟩, by simp [intOf]; omega⟩
    · have hjl : j = l.length := by omega
      have hI : InferI 10 i T l B A d c w u8 ps wr := by
        rw [List.take_of_length_le (by have := HP.out.2.2.2; omega)] at hown
        exact ⟨hown, hbel, hb0, hb1⟩
      obtain ⟨A3, c3, e3⟩ := hI.1.form
      subst e3
      have HI := Lib.hid hI
      subst hjl
      clear hown hbel hb0 hb1 hI
      go_wp2_with fail
      refine (nat_any _).mono ?_
      rintro e w2 ⟨rfl, hb2⟩
      go_wp2_with fail
      refine (list_any _).mono ?_
      rintro e w3 ⟨rfl, hb3⟩
      obtain ⟨X, hX, hIX, kn, kl, hz3, hzX⟩ := infer_mid HI.out hb2 hb3
      clear hb2 hb3
      go_upto_region 20 with fail
      rw [← hX]
      clear hX
      have HIX := Lib.hid hIX
      obtain ⟨p, q, hps1, hU1, hpe, hqe, hUe⟩ : ∃ p q, ps = [p, q] ∧ U = .mk 3 [p, q] ∧ p.err = 0 ∧ q.err = 0 ∧ (Ty.mk 3 [p, q]).err = 0 := by
        have h := HP.out.2.1
        have hl2 : ps.length = 2 := by rw [HP.out.2.2.2]; have := HF.out.2.2.2.1; simpa [arities] using this
        have hpe := HP.out.2.2.1
        simp only [nodeTy] at h
        simp at h
        split at h
        · rename_i hn64
          match ps, hl2, h, hn64, hpe with
          | [p, q], _, h, hn64, hpe =>
            have h1 := hpe p (by simp)
            have h2 := hpe q (by simp)
            exact ⟨p, q, rfl, by cases h; rfl, h1, h2, err_zero.2 ⟨by simp [Ty.ok, okAll, (err_zero.1 h1).1, (err_zero.1 h2).1], hn64⟩⟩
        · cases h
      have HU := Lib.hid (And.intro hU1 (And.intro hpe (And.intro hqe hUe)))
      have hpn := err_small hpe
      have hqn := err_small hqe
      subst hps1
      clear hU1 hpe hqe hUe
      obtain ⟨hown, hbel, hb0, hb1⟩ := hIX
      obtain ⟨a, A0, A1, c0, c1, ca, ea, ha, q0, q1, q2, q3, hx, hy⟩ := sl_two hown.sl
      rw [ea]
      obtain ⟨m0, _⟩ := hb0.facts5
      have haX : a.block < X.heap.size := ha.2
      have HK1 := Lib.hid hb1
      have HSK := Lib.hid fun (w' : World) (h : Turn (· = w.heap.size + 1) X w') => And.intro ((World.cell?_of_block (a := a) (h.block a.block haX (by have := ha.1; omega))).trans q0) (And.intro ((World.cell?_of_block (a := ⟨a.block, a.off + 1, none⟩) (h.block a.block haX (by have := ha.1; omega))).trans q1) (And.intro ((World.cell?_of_block (a := ⟨a.block, a.off + 2, none⟩) (h.block a.block haX (by have := ha.1; omega))).trans q2) ((World.cell?_of_block (a := ⟨a.block, a.off + 2 + 1, none⟩) (h.block a.block haX (by have := ha.1; omega))).trans q3)))
      have HX := Lib.hid (And.intro (show IsTy (· < X.heap.size) X p _ from IsTy.keep (fun b h => h.2) (fun _ _ => rfl) _ hx) (show IsTy (· < X.heap.size) X q _ from IsTy.keep (fun b h => h.2) (fun _ _ => rfl) _ hy))
      clear hown hbel hb0 hb1 hx hy kn kl
      obtain ⟨q0, q1, _⟩ := HSK.out X (Turn.refl _ _)
      go_wp2_with fail
      go_region_held3 (fun w' => w'.cell? a = some (.int .i64 p.kind) ∧ w'.cell? ⟨a.block, a.off + 1, none⟩ = some (.slice A0 p.args.length c0) ∧ w'.cell? ⟨a.block, a.off + 2, none⟩ = some (.int .i64 q.kind) ∧ w'.cell? ⟨a.block, a.off + 2 + 1, none⟩ = some (.slice A1 q.args.length c1))
        (first | with_reducible exact HSK.out _ (Turn.drew _) | with_reducible exact HSK.out _ T1.out | with_reducible exact HSK.out _ T2.out | with_reducible exact HSK.out _ T3.out | go_keep)
        (first
          | (go_at_call 100
             (with_reducible refine (ok2_any (.mk 3 [p, q]) _ _ w4 HU.out.2.2.2 HV.out).mono ?_)
             rintro e w5 ⟨rfl, hb5⟩
             have G2 := Lib.hid (G1.out.trans (hb5.mono G1.out.size))
             have T2 := Lib.hid (Turn.call (X := (· = w.heap.size + 1)) G2.out)
             have T3 := Lib.hid (T2.out.trans (Turn.grown (only_set2 w5 (w.heap.size + 1) (.int .i64 (Ty.mk 3 [p, q]).kind) (.slice A4 (Ty.mk 3 [p, q]).args.length c4)) (fun k e => by cases e; rfl)))
             have HV5 := Lib.hid (show IsTy (fun b => X.heap.size ≤ b ∧ b < w5.heap.size) w5 (.mk 3 [p, q]) _ from IsTy.keep (fun b h => ⟨h.1, Nat.lt_of_lt_of_le h.2 hb5.size⟩) (fun x hx => hb5.cell hx.2) _ HVN.out)
             obtain ⟨_, _, f0, f1⟩ := (HK1.out.below G2.out HK1.out.lt).facts2
             clear hb5)
          | (go_at_call 37
             (with_reducible refine (two_any p q _ _ X.drew (by omega) (by omega) (HX.out.1.boxed' ((Below.refl X.heap.size X).drew)) (HX.out.2.boxed' ((Below.refl X.heap.size X).drew))).mono ?_)
             rintro e w4 ⟨v4, rfl, hv4, hb4⟩
             obtain ⟨A4, c4, rfl⟩ := hv4.form
             have G1 := Lib.hid (show Below X.heap.size X w4 from ((Below.refl _ X).drew).trans hb4)
             have T1 := Lib.hid (Turn.call (X := (· = w.heap.size + 1)) G1.out)
             have HV := Lib.hid (show IsTy (· < w4.heap.size) w4 (.mk 3 [p, q]) _ from IsTy.keep (fun b h => h.2) (fun _ _ => rfl) _ hv4)
             have HVN := Lib.hid (show IsTy (fun b => X.heap.size ≤ b ∧ b < w4.heap.size) w4 (.mk 3 [p, q]) _ from hv4)
             clear hv4 hb4))
      go_wp2_with fail
      obtain ⟨z0, z1, _, _⟩ := ((HK1.out.below G2.out HK1.out.lt).set2 (.int .i64 (Ty.mk 3 [p, q]).kind) (.slice A4 (Ty.mk 3 [p, q]).args.length c4)).facts2
      refine bodyPost_ret (v := .tuple #[.agg #[.int .i64 (Ty.mk 3 [p, q]).kind, .slice A4 (Ty.mk 3 [p, q]).args.length c4], .int .i64 0]) (by simp [results, Tryd.results82, go_sem, z0, z1]) rfl ?_
      rw [HU.out.1]
      exact infer_end (HIX.out.2.1.trans (G2.out.mono HIX.out.2.1.size)) (by have := G2.out.size; omega) (HV5.out.keep (fun b h => ⟨by omega, h.2⟩) (fun _ _ => rfl))
end Go.Proofs.YtifijgihcincfaaDoor
namespace Go.Proofs.YtifijgihcincfaaDoor
open Go.RowKit

set_option maxRecDepth 100000 in
set_option maxHeartbeats 4000000 in
theorem infer_3 (n : Nat) (hih : InferIH n) (i : Int) (T : Ty) (l : List Tm) (G : List Ty) (s v : Value) (U : Ty) (w : World) (hn : (Tm.mk 3 i T l).bulk ≤ n + 1) (hok : (Tm.mk 3 i T l).ok = true) (hG : ∀ T ∈ G, T.err = 0) (hGn : G.length + n + 1 ≤ 400000)
    (htyp : (Tm.mk 3 i T l).typ G = .ok U) (hs : TyR.Sl (· < w.heap.size) w G s) (hfs : Roomy s) (hT : IsTm (· < w.heap.size) w (.mk 3 i T l) v) : Calls Tryd.prog 82 #[s, v] w (InferR U w) := by
  obtain ⟨ps, hps, hnode⟩ := typ_parts (by decide) (by decide) htyp
  obtain ⟨B, d, A, c, rfl, hTT, hl⟩ := hT.mk_parts
  obtain ⟨As, cs, rfl⟩ := hs.form
  have hplen := typAll_len hps
  have hll := bulkAll_len l
  rw [okT_eq, Bool.and_eq_true] at hok
  have hfk := formed_kind hok.1
  simp only [Tm.kind, Tm.index, Tm.type, Tm.args] at hfk hok
  simp only [Tm.bulk] at hn
  have hpe := typAll_err l G hok.2 hG hps
  obtain ⟨W, hW, hbW, hz, k0, k1⟩ := box52_facts w (.int .i64 3) (.int .i64 i) (.int .i64 T.kind) (.slice B T.args.length d) (.slice A l.length c)
  have hTW : IsTy (· < w.heap.size) W T (.agg #[.int .i64 T.kind, .slice B T.args.length d]) := IsTy.keep (fun _ h => h) (fun p hp => hbW.cell hp) _ hTT
  obtain ⟨p0, p1, p2, p3, p4, _⟩ := k0.facts5
  have HI0 := Lib.hid (show InferI 3 i T l B A d c w (.slice none 0 0) [] W from ⟨Rep.Own.nil _ _ _, hbW, k0, k1⟩)
  have HIH := Lib.hid hih
  have HG := Lib.hid hG
  have HFS := Lib.hid hfs
  have HS := Lib.hid hs
  have HL := Lib.hid hl
  have HP := Lib.hid (And.intro hps (And.intro hnode (And.intro hpe hplen)))
  have HF := Lib.hid (And.intro hok hfk)
  have HT := Lib.hid hTT
  have HN := Lib.hid (show bulkAll l ≤ n by omega)
  clear hfs hih hG hs hl hps hnode hpe hplen hok hfk hT htyp k0 k1 hbW hTT hTW
  go_enter Tryd.func82, Tryd.ntmps82
  go_wp2_with fail
  rw [← hW]
  clear hW hz
  go_loopw [8, 69] (fun ls ix wr => ∃ j : Nat, j ≤ l.length ∧ ix = .int .i64 j ∧ InferI 3 i T l B A d c w ls (ps.take j) wr) (fun _ ix _ => l.length - (intOf ix).toNat)
  case atStart => exact ⟨0, Nat.zero_le _, rfl, HI0.out⟩
  case round =>
    obtain ⟨j, hj, rfl, hown, hbel, hb0, hb1⟩ := hrel
    clear p0 p1 p2 p3 p4
    by_cases hlt : j < l.length
    · have hlr : TmR.Sl (· < w.heap.size) wr l (.slice A l.length c) := HL.out.keep (fun _ h => h) (fun p hp => hbel.cell hp)
      obtain ⟨a, rfl, ha, hat⟩ := hlr.get j hlt
      obtain ⟨B1, d1, A1, c1, q0, q1, q2, q3, q4, hx⟩ := at_tm hat
      simp only [show TmR.n = 5 from rfl] at q0 q1 q2 q3 q4
      have hjp : j < ps.length := by have := HP.out.2.2.2; omega
      have hxt := typAll_get HP.out.1 j hlt hjp
      have hnj : l[j].bulk ≤ n := by have := bulkAll_get l j hlt; have := HN.out; omega
      have hxo := okAllT_get HF.out.1.2 j hlt
      have hlen : (ps.take j).length = j := by simp; omega
      have hwz := hbel.size
      have hGs : TyR.Sl (· < w.heap.size) wr G (.slice As G.length cs) := HS.out.keep (fun _ h => h) (fun p hp => hbel.cell hp)
      obtain ⟨i0, hi, hz0, hz1, hz2⟩ := info_parts info_type
      obtain ⟨xs, hox, hxs⟩ := hown
      have HX := Lib.hid (And.intro hx (And.intro hxt (And.intro hnj (And.intro hxo hGs))))
      have HLE := Lib.hid hlen
      have HO := Lib.hid (And.intro hox (And.intro hxs (And.intro hbel (And.intro hb0 hb1))))
      clear hlr hat hx hxt hnj hxo hGs hlen hox hxs hbel hb0 hb1
      go_wp2_with fail
      have bo := (Below.refl wr.heap.size wr).alloc (Nat.le_refl _) (Obj.cells #[.int .i64 l[j].kind, .int .i64 l[j].index, .int .i64 l[j].type.kind, .slice B1 l[j].type.args.length d1, .slice A1 l[j].args.length c1] 34)
      refine (HIH.out l[j] G (.slice As G.length cs) _ ps[j] _ HX.out.2.2.1 HX.out.2.2.2.1 HG.out (by omega) HX.out.2.1 (HX.out.2.2.2.2.keep (fun b h => by have h' : b < w.heap.size := h; simp; omega) (fun p hp => World.cell?_alloc_lt _ _ _ (by have h' : p.block < w.heap.size := hp; omega))) HFS.out
        (HX.out.1.keep (fun b h => by have h' : b < w.heap.size := h; simp; omega) (fun p hp => World.cell?_alloc_lt _ _ _ (by have h' : p.block < w.heap.size := hp; omega)))).mono ?_
      rintro e w1 ⟨hb2, v1, rfl, ht1⟩
      obtain ⟨A2, c2, rfl⟩ := ht1.form
      have hbw : Below wr.heap.size wr w1 := bo.trans (hb2.mono (by simp))
      have ht1' : IsTy (fun b => wr.heap.size ≤ b ∧ b < w1.heap.size) w1 ps[j] (.agg #[.int .i64 ps[j].kind, .slice A2 ps[j].args.length c2]) := IsTy.keep (fun b h => ⟨by have := h.1; simp at this; omega, h.2⟩) (fun _ _ => rfl) _ ht1
      have HT1 := Lib.hid ht1'
      have hg2w := only_of_below hbw none
      have hown1 := ((HO.out.1.kept hg2w (by cases u8.ownBlock <;> simp)).alloc (Obj.cells #[.int .i64 ps[j].kind, .slice A2 ps[j].args.length c2] 30)).alloc (Obj.cells #[.int .i64 ps[j].kind, .slice A2 ps[j].args.length c2] 30)
      have kY : Blk ((w1.alloc (Obj.cells #[.int .i64 ps[j].kind, .slice A2 ps[j].args.length c2] 30)).alloc (Obj.cells #[.int .i64 ps[j].kind, .slice A2 ps[j].args.length c2] 30)) (w1.heap.size + 1) 30 #[.int .i64 ps[j].kind, .slice A2 ps[j].args.length c2] := by
        have := Blk.new (w1.alloc (Obj.cells #[.int .i64 ps[j].kind, .slice A2 ps[j].args.length c2] 30)) 30 #[.int .i64 ps[j].kind, .slice A2 ps[j].args.length c2]
        rwa [World.size_alloc] at this
      have HKY := Lib.hid kY
      have HBW := Lib.hid hbw
      clear kY hb2 ht1 ht1' bo hg2w hbw
      go_wp2_with (at_builtin; go_loud (refine wpList_append_own_at _ rfl _ _ 27 rfl (w.heap.size + 2) 30 i0 _ 2 32 Tryd.underlying27 hi hz0 hz1 hz2 rfl (by decide) u8 (ps.take j).length xs rfl hown1 ⟨w1.heap.size + 1, 0, none⟩ 1 1 [_, _] rfl rfl (World.news_of_block HKY.out) (by simp [Value.oneCell']) (by have := HLE.out; simp only [maxLen]; omega) (by have := HLE.out; omega) (by have := HO.out.2.2.2.2.lt; have := HBW.out.size; simp; omega) ?_); intro v2 w2 hown2 hg2 hnil2 hat2)
      have HST := Lib.hid (infer_step HO.out.2.2.1 HO.out.2.2.2.1 HO.out.2.2.2.2 HBW.out hown1 (HO.out.2.1) HO.out.1.lt HT1.out hown2 hg2 hat2)
      exact ⟨⟨j + 1, by omega, by go_num, by rw [List.take_succ_eq_append_getElem hjp]; exact HST.out⟩, by simp [intOf]; omega⟩
    · have hjl : j = l.length := by omega
      have hI : InferI 3 i T l B A d c w u8 ps wr := by
        rw [List.take_of_length_le (by have := HP.out.2.2.2; omega)] at hown
        exact ⟨hown, hbel, hb0, hb1⟩
      obtain ⟨A3, c3, e3⟩ := hI.1.form
      subst e3
      have HI := Lib.hid hI
      subst hjl
      clear hown hbel hb0 hb1 hI
      go_wp2_with fail
      refine (nat_any _).mono ?_
      rintro e w2 ⟨rfl, hb2⟩
      go_wp2_with fail
      refine (list_any _).mono ?_
      rintro e w3 ⟨rfl, hb3⟩
      obtain ⟨X, hX, hIX, kn, kl, hz3, hzX⟩ := infer_mid HI.out hb2 hb3
      clear hb2 hb3
      go_upto_region 20 with fail
      rw [← hX]
      clear hX
      have HIX := Lib.hid hIX
      obtain ⟨y, u, hps1, hU1, hye⟩ : ∃ y u, ps = [.mk 4 [y, u], y] ∧ U = u ∧ y.err = 0 := by
        have h := HP.out.2.1
        have hpe := HP.out.2.2.1
        simp only [nodeTy] at h
        simp at h
        split at h
        · rename_i x z g
          split at h
          · rename_i hsm
            cases h
            have e := same_eq hsm
            subst e
            exact ⟨_, _, rfl, rfl, hpe _ (by simp)⟩
          · cases h
        · cases h
      have HU := Lib.hid hU1
      have HSMy := Lib.hid (show y.nodes ≤ 400000 by have := err_small hye; omega)
      subst hps1
      clear hU1 hye
      obtain ⟨hown, hbel, hb0, hb1⟩ := hIX
      obtain ⟨a, A0, A1, c0, c1, ca, ea, ha, q0, q1, q2, q3, hx, hy⟩ := sl_two hown.sl
      rw [ea]
      simp only [Ty.kind, Ty.args, List.length_cons, List.length_nil, Nat.reduceAdd] at q0 q1 hx
      obtain ⟨b, D0, e0, D1, e1, rfl, hbb, r0, r1, s0, s1, hp, hq⟩ := hx.two
      obtain ⟨m0, _⟩ := hb0.facts5
      have haX : a.block < X.heap.size := ha.2
      have hbX : b.block < X.heap.size := hbb.2
      have HK1 := Lib.hid hb1
      have HSK := Lib.hid fun (w' : World) (h : Below X.heap.size X w') => And.intro ((h.cell (p := a) haX).trans q0) (And.intro ((h.cell (p := ⟨a.block, a.off + 1, none⟩) haX).trans q1) (And.intro ((h.cell (p := ⟨a.block, a.off + 2, none⟩) haX).trans q2) (And.intro ((h.cell (p := ⟨a.block, a.off + 2 + 1, none⟩) haX).trans q3) (And.intro ((h.cell (p := b) hbX).trans r0) (And.intro ((h.cell (p := ⟨b.block, b.off + 1, none⟩) hbX).trans r1) (And.intro ((h.cell (p := ⟨b.block, b.off + 2, none⟩) hbX).trans s0) ((h.cell (p := ⟨b.block, b.off + 2 + 1, none⟩) hbX).trans s1)))))))
      have HX := Lib.hid (And.intro (show IsTy (· < X.heap.size) X y _ from IsTy.keep (fun b h => h.2) (fun _ _ => rfl) _ hp) (And.intro (show IsTy (· < X.heap.size) X y _ from IsTy.keep (fun b h => h.2) (fun _ _ => rfl) _ hy)
        (show IsTy (fun b => w.heap.size + 2 ≤ b ∧ b < X.heap.size) X u _ from IsTy.keep (fun b h => ⟨by have := h.1; omega, h.2⟩) (fun _ _ => rfl) _ hq)))
      clear hown hbel hb0 hb1 hx hy hp hq kn kl q0 q1 q2 q3 r0 r1 s0 s1
      obtain ⟨q0, q1, q2, q3, r0, r1, s0, s1⟩ := HSK.out X (Below.refl _ _)
      go_wp2_with fail
      go_region_held3 (fun w' => w'.cell? a = some (.int .i64 4) ∧ w'.cell? ⟨a.block, a.off + 1, none⟩ = some (.slice (some b) 2 c0) ∧ w'.cell? ⟨a.block, a.off + 2, none⟩ = some (.int .i64 y.kind) ∧ w'.cell? ⟨a.block, a.off + 2 + 1, none⟩ = some (.slice A1 y.args.length c1) ∧ w'.cell? b = some (.int .i64 y.kind) ∧ w'.cell? ⟨b.block, b.off + 1, none⟩ = some (.slice D0 y.args.length e0) ∧ w'.cell? ⟨b.block, b.off + 2, none⟩ = some (.int .i64 u.kind) ∧ w'.cell? ⟨b.block, b.off + 2 + 1, none⟩ = some (.slice D1 u.args.length e1))
        (first | with_reducible exact HSK.out _ (Below.refl _ _).drew | with_reducible exact HSK.out _ G1.out | go_keep)
        (first
          | (go_at_call 25
             (with_reducible refine (refSame_is (S := y) (T := y) (w := X.drew) true (eqb_self _) HSMy.out HSMy.out (HX.out.1.boxed' ((Below.refl X.heap.size X).drew)) (HX.out.2.1.boxed' ((Below.refl X.heap.size X).drew))).mono ?_)
             rintro e w4 ⟨rfl, hbb⟩
             have G1 := Lib.hid (show Below X.heap.size X w4 from ((Below.refl _ X).drew).trans hbb)
             clear hbb))
      clear q0 q1 q2 q3 r0 r1 s0 s1
      obtain ⟨q0, q1, q2, q3, r0, r1, s0, s1⟩ := HSK.out _ G1.out
      obtain ⟨_, _, f0, f1⟩ := (HK1.out.below G1.out HK1.out.lt).facts2
      go_wp2_with fail
      obtain ⟨z0, z1, _, _⟩ := ((HK1.out.below G1.out HK1.out.lt).set2 (.int .i64 u.kind) (.slice D1 u.args.length e1)).facts2
      refine bodyPost_ret (v := .tuple #[.agg #[.int .i64 u.kind, .slice D1 u.args.length e1], .int .i64 0]) (by simp [results, Tryd.results82, go_sem, z0, z1]) rfl ?_
      rw [HU.out]
      exact infer_end (HIX.out.2.1.trans (G1.out.mono HIX.out.2.1.size)) (by have := G1.out.size; omega) (HX.out.2.2.keep (fun b h => ⟨h.1, Nat.lt_of_lt_of_le h.2 G1.out.size⟩) (fun p hp => G1.out.cell hp.2))
end Go.Proofs.YtifijgihcincfaaDoor
namespace Go.Proofs.YtifijgihcincfaaDoor
open Go.RowKit

set_option maxRecDepth 100000 in
set_option maxHeartbeats 4000000 in
theorem infer_6 (n : Nat) (hih : InferIH n) (i : Int) (T : Ty) (l : List Tm) (G : List Ty) (s v : Value) (U : Ty) (w : World) (hn : (Tm.mk 6 i T l).bulk ≤ n + 1) (hok : (Tm.mk 6 i T l).ok = true) (hG : ∀ T ∈ G, T.err = 0) (hGn : G.length + n + 1 ≤ 400000)
    (htyp : (Tm.mk 6 i T l).typ G = .ok U) (hs : TyR.Sl (· < w.heap.size) w G s) (hfs : Roomy s) (hT : IsTm (· < w.heap.size) w (.mk 6 i T l) v) : Calls Tryd.prog 82 #[s, v] w (InferR U w) := by
  obtain ⟨ps, hps, hnode⟩ := typ_parts (by decide) (by decide) htyp
  obtain ⟨B, d, A, c, rfl, hTT, hl⟩ := hT.mk_parts
  obtain ⟨As, cs, rfl⟩ := hs.form
  have hplen := typAll_len hps
  have hll := bulkAll_len l
  rw [okT_eq, Bool.and_eq_true] at hok
  have hfk := formed_kind hok.1
  simp only [Tm.kind, Tm.index, Tm.type, Tm.args] at hfk hok
  simp only [Tm.bulk] at hn
  have hpe := typAll_err l G hok.2 hG hps
  obtain ⟨W, hW, hbW, hz, k0, k1⟩ := box52_facts w (.int .i64 6) (.int .i64 i) (.int .i64 T.kind) (.slice B T.args.length d) (.slice A l.length c)
  have hTW : IsTy (· < w.heap.size) W T (.agg #[.int .i64 T.kind, .slice B T.args.length d]) := IsTy.keep (fun _ h => h) (fun p hp => hbW.cell hp) _ hTT
  obtain ⟨p0, p1, p2, p3, p4, _⟩ := k0.facts5
  have HI0 := Lib.hid (show InferI 6 i T l B A d c w (.slice none 0 0) [] W from ⟨Rep.Own.nil _ _ _, hbW, k0, k1⟩)
  have HIH := Lib.hid hih
  have HG := Lib.hid hG
  have HFS := Lib.hid hfs
  have HS := Lib.hid hs
  have HL := Lib.hid hl
  have HP := Lib.hid (And.intro hps (And.intro hnode (And.intro hpe hplen)))
  have HF := Lib.hid (And.intro hok hfk)
  have HT := Lib.hid hTT
  have HN := Lib.hid (show bulkAll l ≤ n by omega)
  clear hfs hih hG hs hl hps hnode hpe hplen hok hfk hT htyp k0 k1 hbW hTT hTW
  go_enter Tryd.func82, Tryd.ntmps82
  go_wp2_with fail
  rw [← hW]
  clear hW hz
  go_loopw [8, 69] (fun ls ix wr => ∃ j : Nat, j ≤ l.length ∧ ix = .int .i64 j ∧ InferI 6 i T l B A d c w ls (ps.take j) wr) (fun _ ix _ => l.length - (intOf ix).toNat)
  case atStart => exact ⟨0, Nat.zero_le _, rfl, HI0.out⟩
  case round =>
    obtain ⟨j, hj, rfl, hown, hbel, hb0, hb1⟩ := hrel
    clear p0 p1 p2 p3 p4
    by_cases hlt : j < l.length
    · have hlr : TmR.Sl (· < w.heap.size) wr l (.slice A l.length c) := HL.out.keep (fun _ h => h) (fun p hp => hbel.cell hp)
      obtain ⟨a, rfl, ha, hat⟩ := hlr.get j hlt
      obtain ⟨B1, d1, A1, c1, q0, q1, q2, q3, q4, hx⟩ := at_tm hat
      simp only [show TmR.n = 5 from rfl] at q0 q1 q2 q3 q4
      have hjp : j < ps.length := by have := HP.out.2.2.2; omega
      have hxt := typAll_get HP.out.1 j hlt hjp
      have hnj : l[j].bulk ≤ n := by have := bulkAll_get l j hlt; have := HN.out; omega
      have hxo := okAllT_get HF.out.1.2 j hlt
      have hlen : (ps.take j).length = j := by simp; omega
      have hwz := hbel.size
      have hGs : TyR.Sl (· < w.heap.size) wr G (.slice As G.length cs) := HS.out.keep (fun _ h => h) (fun p hp => hbel.cell hp)
      obtain ⟨i0, hi, hz0, hz1, hz2⟩ := info_parts info_type
      obtain ⟨xs, hox, hxs⟩ := hown
      have HX := Lib.hid (And.intro hx (And.intro hxt (And.intro hnj (And.intro hxo hGs))))
      have HLE := Lib.hid hlen
      have HO := Lib.hid (And.intro hox (And.intro hxs (And.intro hbel (And.intro hb0 hb1))))
      clear hlr hat hx hxt hnj hxo hGs hlen hox hxs hbel hb0 hb1
      go_wp2_with fail
      have bo := (Below.refl wr.heap.size wr).alloc (Nat.le_refl _) (Obj.cells #[.int .i64 l[j].kind, .int .i64 l[j].index, .int .i64 l[j].type.kind, .slice B1 l[j].type.args.length d1, .slice A1 l[j].args.length c1] 34)
      refine (HIH.out l[j] G (.slice As G.length cs) _ ps[j] _ HX.out.2.2.1 HX.out.2.2.2.1 HG.out (by omega) HX.out.2.1 (HX.out.2.2.2.2.keep (fun b h => by have h' : b < w.heap.size := h; simp; omega) (fun p hp => World.cell?_alloc_lt _ _ _ (by have h' : p.block < w.heap.size := hp; omega))) HFS.out
        (HX.out.1.keep (fun b h => by have h' : b < w.heap.size := h; simp; omega) (fun p hp => World.cell?_alloc_lt _ _ _ (by have h' : p.block < w.heap.size := hp; omega)))).mono ?_
      rintro e w1 ⟨hb2, v1, rfl, ht1⟩
      obtain ⟨A2, c2, rfl⟩ := ht1.form
      have hbw : Below wr.heap.size wr w1 := bo.trans (hb2.mono (by simp))
      have ht1' : IsTy (fun b => wr.heap.size ≤ b ∧ b < w1.heap.size) w1 ps[j] (.agg #[.int .i64 ps[j].kind, .slice A2 ps[j].args.length c2]) := IsTy.keep (fun b h => ⟨by have := h.1; simp at this; omega, h.2⟩) (fun _ _ => rfl) _ ht1
      have HT1 := Lib.hid ht1'
      have hg2w := only_of_below hbw none
      have hown1 := ((HO.out.1.kept hg2w (by cases u8.ownBlock <;> simp)).alloc (Obj.cells #[.int .i64 ps[j].kind, .slice A2 ps[j].args.length c2] 30)).alloc (Obj.cells #[.int .i64 ps[j].kind, .slice A2 ps[j].args.length c2] 30)
      have kY : Blk ((w1.alloc (Obj.cells #[.int .i64 ps[j].kind, .slice A2 ps[j].args.length c2] 30)).alloc (Obj.cells #[.int .i64 ps[j].kind, .slice A2 ps[j].args.length c2] 30)) (w1.heap.size + 1) 30 #[.int .i64 ps[j].kind, .slice A2 ps[j].args.length c2] := by
        have := Blk.new (w1.alloc (Obj.cells #[.int .i64 ps[j].kind, .slice A2 ps[j].args.length c2] 30)) 30 #[.int .i64 ps[j].kind, .slice A2 ps[j].args.length c2]
        rwa [World.size_alloc] at this
      have HKY := Lib.hid kY
      have HBW := Lib.hid hbw
      clear kY hb2 ht1 ht1' bo hg2w hbw
      go_wp2_with (at_builtin; go_loud (refine wpList_append_own_at _ rfl _ _ 27 rfl (w.heap.size + 2) 30 i0 _ 2 32 Tryd.underlying27 hi hz0 hz1 hz2 rfl (by decide) u8 (ps.take j).length xs rfl hown1 ⟨w1.heap.size + 1, 0, none⟩ 1 1 [_, _] rfl rfl (World.news_of_block HKY.out) (by simp [Value.oneCell']) (by have := HLE.out; simp only [maxLen]; omega) (by have := HLE.out; omega) (by have := HO.out.2.2.2.2.lt; have := HBW.out.size; simp; omega) ?_); intro v2 w2 hown2 hg2 hnil2 hat2)
      have HST := Lib.hid (infer_step HO.out.2.2.1 HO.out.2.2.2.1 HO.out.2.2.2.2 HBW.out hown1 (HO.out.2.1) HO.out.1.lt HT1.out hown2 hg2 hat2)
      exact ⟨⟨j + 1, by omega, by go_num, by rw [List.take_succ_eq_append_getElem hjp]; exact HST.out⟩, by simp [intOf]; omega⟩
    · have hjl : j = l.length := by omega
      have hI : InferI 6 i T l B A d c w u8 ps wr := by
        rw [List.take_of_length_le (by have := HP.out.2.2.2; omega)] at hown
        exact ⟨hown, hbel, hb0, hb1⟩
      obtain ⟨A3, c3, e3⟩ := hI.1.form
      subst e3
      have HI := Lib.hid hI
      subst hjl
      clear hown hbel hb0 hb1 hI
      go_wp2_with fail
      refine (nat_any _).mono ?_
      rintro e w2 ⟨rfl, hb2⟩
      go_wp2_with fail
      refine (list_any _).mono ?_
      rintro e w3 ⟨rfl, hb3⟩
      obtain ⟨X, hX, hIX, kn, kl, hz3, hzX⟩ := infer_mid HI.out hb2 hb3
      clear hb2 hb3
      go_upto_region 20 with fail
      rw [← hX]
      clear hX
      have HIX := Lib.hid hIX
      have hpsu : ps = [T, tyFun tyNat (tyFun T T), tyNat] ∧ U = T := by
        have h := HP.out.2.1
        simp only [nodeTy, argTys, ownTy] at h
        simp at h
        split at h
        · rename_i h1
          exact ⟨sameAll_eq h1, by cases h; rfl⟩
        · cases h
      obtain ⟨hps1, hU1⟩ := hpsu
      have HU := Lib.hid hU1
      subst hps1
      clear hU1
      have hTe : T.err = 0 := HF.out.2.2.2.2.2.2.1 (by simp)
      have HTn := Lib.hid (err_small hTe)
      have HNO := Lib.hid (fun_nodes HTn.out)
      clear hTe
      obtain ⟨hown, hbel, hb0, hb1⟩ := hIX
      obtain ⟨a, A0, A1, A2, c0, c1, c2, ca, ea, ha, q0, q1, q2, q3, q4, q5, hx, hy, hz⟩ := sl_three hown.sl
      rw [ea]
      obtain ⟨m0, _, m2, m3, _⟩ := hb0.facts5
      have haX : a.block < X.heap.size := ha.2
      have HK1 := Lib.hid hb1
      have HTX := Lib.hid (show IsTy (· < X.heap.size) X T (.agg #[.int .i64 T.kind, .slice B T.args.length d]) from HT.out.boxed' hbel)
      have HSK := Lib.hid fun (w' : World) (h : Below X.heap.size X w') => And.intro ((h.cell (p := a) haX).trans q0) (And.intro ((h.cell (p := ⟨a.block, a.off + 1, none⟩) haX).trans q1) (And.intro ((h.cell (p := ⟨a.block, a.off + 2, none⟩) haX).trans q2) (And.intro ((h.cell (p := ⟨a.block, a.off + 2 + 1, none⟩) haX).trans q3) (And.intro ((h.cell (p := ⟨a.block, a.off + 4, none⟩) haX).trans q4) (And.intro ((h.cell (p := ⟨a.block, a.off + 4 + 1, none⟩) haX).trans q5) (And.intro ((hb0.below h hb0.lt).facts5.2.2.1) (And.intro ((hb0.below h hb0.lt).facts5.2.2.2.1) (And.intro ((kn.below h kn.lt).facts2.1) ((kn.below h kn.lt).facts2.2.1)))))))))
      have HX := Lib.hid (And.intro (show IsTy (· < X.heap.size) X T _ from IsTy.keep (fun b h => h.2) (fun _ _ => rfl) _ hx) (And.intro (show IsTy (· < X.heap.size) X (tyFun tyNat (tyFun T T)) _ from IsTy.keep (fun b h => h.2) (fun _ _ => rfl) _ hy)
        (show IsTy (· < X.heap.size) X tyNat _ from IsTy.keep (fun b h => h.2) (fun _ _ => rfl) _ hz)))
      clear hown hbel hb0 hb1 hx hy hz kn kl q0 q1 q2 q3 q4 q5 m2 m3
      obtain ⟨q0, q1, _⟩ := HSK.out X (Below.refl _ _)
      go_wp2_with fail
      go_region_held3 (fun w' => w'.cell? a = some (.int .i64 T.kind) ∧ w'.cell? ⟨a.block, a.off + 1, none⟩ = some (.slice A0 T.args.length c0) ∧ w'.cell? ⟨a.block, a.off + 2, none⟩ = some (.int .i64 (tyFun tyNat (tyFun T T)).kind) ∧ w'.cell? ⟨a.block, a.off + 2 + 1, none⟩ = some (.slice A1 (tyFun tyNat (tyFun T T)).args.length c1) ∧ w'.cell? ⟨a.block, a.off + 4, none⟩ = some (.int .i64 tyNat.kind) ∧ w'.cell? ⟨a.block, a.off + 4 + 1, none⟩ = some (.slice A2 tyNat.args.length c2) ∧ w'.cell? ⟨w.heap.size, 2, none⟩ = some (.int .i64 T.kind) ∧ w'.cell? ⟨w.heap.size, 3, none⟩ = some (.slice B T.args.length d) ∧ w'.cell? ⟨w3.heap.size, 0, none⟩ = some (.int .i64 1) ∧ w'.cell? ⟨w3.heap.size, 1, none⟩ = some (.slice none 0 0))
        (first | with_reducible exact HSK.out _ (Below.refl _ _).drew | with_reducible exact HSK.out _ G1.out | with_reducible exact HSK.out _ G2.out | with_reducible exact HSK.out _ G3.out | with_reducible exact HSK.out _ G4.out | with_reducible exact HSK.out _ G5.out | go_keep)
        (first
          | (go_at_call 25
             (with_reducible refine (refSame_is (S := tyNat) (T := tyNat) (w := w7) true (eqb_self _) (by first | decide | (have := HNO.out; omega) | (have := HTn.out; omega)) (by first | decide | (have := HNO.out; omega) | (have := HTn.out; omega)) (HX.out.2.2.boxed' G4.out) (IsTy.leaf _ _ _)).mono ?_)
             rintro e w8 ⟨rfl, hbb⟩
             have G5 := Lib.hid (show Below X.heap.size X w8 from G4.out.trans (hbb.mono G4.out.size))
             clear hbb)
          | (go_at_call 25
             (with_reducible refine (refSame_is (S := (tyFun tyNat (tyFun T T))) (T := (tyFun tyNat (tyFun T T))) (w := w6) true (eqb_self _) (by first | decide | (have := HNO.out; omega) | (have := HTn.out; omega)) (by first | decide | (have := HNO.out; omega) | (have := HTn.out; omega)) (HX.out.2.1.boxed' G3.out) Hv6.out).mono ?_)
             rintro e w7 ⟨rfl, hbb⟩
             have G4 := Lib.hid (show Below X.heap.size X w7 from G3.out.trans (hbb.mono G3.out.size))
             clear hbb)
          | (go_at_call 38
             (with_reducible refine (fun_any tyNat (tyFun T T) _ _ w5 (by first | decide | (have := HNO.out; omega) | (have := HTn.out; omega)) (by first | decide | (have := HNO.out; omega) | (have := HTn.out; omega)) (IsTy.leaf _ _ _) Hv5.out).mono ?_)
             rintro e w6 ⟨v6, rfl, hv6, hbb⟩
             obtain ⟨E6, g6, rfl⟩ := hv6.form
             have G3 := Lib.hid (G2.out.trans (hbb.mono G2.out.size))
             have Hv6 := Lib.hid (show IsTy (· < w6.heap.size) w6 (tyFun tyNat (tyFun T T)) _ from IsTy.keep (fun b h => h.2) (fun _ _ => rfl) _ hv6)
             clear hbb hv6)
          | (go_at_call 38
             (with_reducible refine (fun_any T T _ _ w4 (by first | decide | (have := HNO.out; omega) | (have := HTn.out; omega)) (by first | decide | (have := HNO.out; omega) | (have := HTn.out; omega)) (HTX.out.boxed' G1.out) (HTX.out.boxed' G1.out)).mono ?_)
             rintro e w5 ⟨v5, rfl, hv5, hbb⟩
             obtain ⟨E5, g5, rfl⟩ := hv5.form
             have G2 := Lib.hid (G1.out.trans (hbb.mono G1.out.size))
             have Hv5 := Lib.hid (show IsTy (· < w5.heap.size) w5 (tyFun T T) _ from IsTy.keep (fun b h => h.2) (fun _ _ => rfl) _ hv5)
             clear hbb hv5)
          | (go_at_call 25
             (with_reducible refine (refSame_is (S := T) (T := T) (w := X.drew) true (eqb_self _) (by first | decide | (have := HNO.out; omega) | (have := HTn.out; omega)) (by first | decide | (have := HNO.out; omega) | (have := HTn.out; omega)) (HX.out.1.boxed' ((Below.refl X.heap.size X).drew)) (HTX.out.boxed' ((Below.refl X.heap.size X).drew))).mono ?_)
             rintro e w4 ⟨rfl, hbb⟩
             have G1 := Lib.hid (show Below X.heap.size X w4 from ((Below.refl _ X).drew).trans hbb)
             clear hbb))
      clear q0 q1
      obtain ⟨_, _, _, _, _, _, q6, q7, _⟩ := HSK.out _ G5.out
      go_wp2_with fail
      refine (copy_any 400000 T (.agg #[.int .i64 T.kind, .slice B T.args.length d]) _ (by have := HTn.out; omega) (by omega) (HTX.out.boxed' G5.out)).mono ?_
      rintro e wc ⟨vc, rfl, hvc, hbc⟩
      obtain ⟨Ec, gc, rfl⟩ := hvc.form
      have GC := Lib.hid (G5.out.trans (hbc.mono G5.out.size))
      have HVC := Lib.hid hvc
      obtain ⟨_, _, f0, f1⟩ := (HK1.out.below GC.out HK1.out.lt).facts2
      have hzc := G5.out.size
      clear hbc hvc
      go_wp2_with fail
      obtain ⟨z0, z1, _, _⟩ := ((HK1.out.below GC.out HK1.out.lt).set2 (.int .i64 T.kind) (.slice Ec T.args.length gc)).facts2
      refine bodyPost_ret (v := .tuple #[.agg #[.int .i64 T.kind, .slice Ec T.args.length gc], .int .i64 0]) (by simp [results, Tryd.results82, go_sem, z0, z1]) rfl ?_
      rw [HU.out]
      exact infer_end (HIX.out.2.1.trans (GC.out.mono HIX.out.2.1.size)) (by have := GC.out.size; omega) (HVC.out.keep (fun b h => ⟨by omega, h.2⟩) (fun _ _ => rfl))
end Go.Proofs.YtifijgihcincfaaDoor
namespace Go.Proofs.YtifijgihcincfaaDoor
open Go.RowKit

set_option maxRecDepth 100000 in
set_option maxHeartbeats 4000000 in
theorem infer_9 (n : Nat) (hih : InferIH n) (i : Int) (T : Ty) (l : List Tm) (G : List Ty) (s v : Value) (U : Ty) (w : World) (hn : (Tm.mk 9 i T l).bulk ≤ n + 1) (hok : (Tm.mk 9 i T l).ok = true) (hG : ∀ T ∈ G, T.err = 0) (hGn : G.length + n + 1 ≤ 400000)
    (htyp : (Tm.mk 9 i T l).typ G = .ok U) (hs : TyR.Sl (· < w.heap.size) w G s) (hfs : Roomy s) (hT : IsTm (· < w.heap.size) w (.mk 9 i T l) v) : Calls Tryd.prog 82 #[s, v] w (InferR U w) := by
  obtain ⟨ps, hps, hnode⟩ := typ_parts (by decide) (by decide) htyp
  obtain ⟨B, d, A, c, rfl, hTT, hl⟩ := hT.mk_parts
  obtain ⟨As, cs, rfl⟩ := hs.form
  have hplen := typAll_len hps
  have hll := bulkAll_len l
  rw [okT_eq, Bool.and_eq_true] at hok
  have hfk := formed_kind hok.1
  simp only [Tm.kind, Tm.index, Tm.type, Tm.args] at hfk hok
  simp only [Tm.bulk] at hn
  have hpe := typAll_err l G hok.2 hG hps
  obtain ⟨W, hW, hbW, hz, k0, k1⟩ := box52_facts w (.int .i64 9) (.int .i64 i) (.int .i64 T.kind) (.slice B T.args.length d) (.slice A l.length c)
  have hTW : IsTy (· < w.heap.size) W T (.agg #[.int .i64 T.kind, .slice B T.args.length d]) := IsTy.keep (fun _ h => h) (fun p hp => hbW.cell hp) _ hTT
  obtain ⟨p0, p1, p2, p3, p4, _⟩ := k0.facts5
  have HI0 := Lib.hid (show InferI 9 i T l B A d c w (.slice none 0 0) [] W from ⟨Rep.Own.nil _ _ _, hbW, k0, k1⟩)
  have HIH := Lib.hid hih
  have HG := Lib.hid hG
  have HFS := Lib.hid hfs
  have HS := Lib.hid hs
  have HL := Lib.hid hl
  have HP := Lib.hid (And.intro hps (And.intro hnode (And.intro hpe hplen)))
  have HF := Lib.hid (And.intro hok hfk)
  have HT := Lib.hid hTT
  have HN := Lib.hid (show bulkAll l ≤ n by omega)
  clear hfs hih hG hs hl hps hnode hpe hplen hok hfk hT htyp k0 k1 hbW hTT hTW
  go_enter Tryd.func82, Tryd.ntmps82
  go_wp2_with fail
  rw [← hW]
  clear hW hz
  go_loopw [8, 69] (fun ls ix wr => ∃ j : Nat, j ≤ l.length ∧ ix = .int .i64 j ∧ InferI 9 i T l B A d c w ls (ps.take j) wr) (fun _ ix _ => l.length - (intOf ix).toNat)
  case atStart => exact ⟨0, Nat.zero_le _, rfl, HI0.out⟩
  case round =>
    obtain ⟨j, hj, rfl, hown, hbel, hb0, hb1⟩ := hrel
    clear p0 p1 p2 p3 p4
    by_cases hlt : j < l.length
    · have hlr : TmR.Sl (· < w.heap.size) wr l (.slice A l.length c) := HL.out.keep (fun _ h => h) (fun p hp => hbel.cell hp)
      obtain ⟨a, rfl, ha, hat⟩ := hlr.get j hlt
      obtain ⟨B1, d1, A1, c1, q0, q1, q2, q3, q4, hx⟩ := at_tm hat
      simp only [show TmR.n = 5 from rfl] at q0 q1 q2 q3 q4
      have hjp : j < ps.length := by have := HP.out.2.2.2; omega
      have hxt := typAll_get HP.out.1 j hlt hjp
      have hnj : l[j].bulk ≤ n := by have := bulkAll_get l j hlt; have := HN.out; omega
      have hxo := okAllT_get HF.out.1.2 j hlt
      have hlen : (ps.take j).length = j := by simp; omega
      have hwz := hbel.size
      have hGs : TyR.Sl (· < w.heap.size) wr G (.slice As G.length cs) := HS.out.keep (fun _ h => h) (fun p hp => hbel.cell hp)
      obtain ⟨i0, hi, hz0, hz1, hz2⟩ := info_parts info_type
      obtain ⟨xs, hox, hxs⟩ := hown
      have HX := Lib.hid (And.intro hx (And.intro hxt (And.intro hnj (And.intro hxo hGs))))
      have HLE := Lib.hid hlen
      have HO := Lib.hid (And.intro hox (And.intro hxs (And.intro hbel (And.intro hb0 hb1))))
      clear hlr hat hx hxt hnj hxo hGs hlen hox hxs hbel hb0 hb1
      go_wp2_with fail
      have bo := (Below.refl wr.heap.size wr).alloc (Nat.le_refl _) (Obj.cells #[.int .i64 l[j].kind, .int .i64 l[j].index, .int .i64 l[j].type.kind, .slice B1 l[j].type.args.length d1, .slice A1 l[j].args.length c1] 34)
      refine (HIH.out l[j] G (.slice As G.length cs) _ ps[j] _ HX.out.2.2.1 HX.out.2.2.2.1 HG.out (by omega) HX.out.2.1 (HX.out.2.2.2.2.keep (fun b h => by have h' : b < w.heap.size := h; simp; omega) (fun p hp => World.cell?_alloc_lt _ _ _ (by have h' : p.block < w.heap.size := hp; omega))) HFS.out
        (HX.out.1.keep (fun b h => by have h' : b < w.heap.size := h; simp; omega) (fun p hp => World.cell?_alloc_lt _ _ _ (by have h' : p.block < w.heap.size := hp; omega)))).mono ?_
      rintro e w1 ⟨hb2, v1, rfl, ht1⟩
      obtain ⟨A2, c2, rfl⟩ := ht1.form
      have hbw : Below wr.heap.size wr w1 := bo.trans (hb2.mono (by simp))
      have ht1' : IsTy (fun b => wr.heap.size ≤ b ∧ b < w1.heap.size) w1 ps[j] (.agg #[.int .i64 ps[j].kind, .slice A2 ps[j].args.length c2]) := IsTy.keep (fun b h => ⟨by have := h.1; simp at this; omega, h.2⟩) (fun _ _ => rfl) _ ht1
      have HT1 := Lib.hid ht1'
      have hg2w := only_of_below hbw none
      have hown1 := ((HO.out.1.kept hg2w (by cases u8.ownBlock <;> simp)).alloc (Obj.cells #[.int .i64 ps[j].kind, .slice A2 ps[j].args.length c2] 30)).alloc (Obj.cells #[.int .i64 ps[j].kind, .slice A2 ps[j].args.length c2] 30)
      have kY : Blk ((w1.alloc (Obj.cells #[.int .i64 ps[j].kind, .slice A2 ps[j].args.length c2] 30)).alloc (Obj.cells #[.int .i64 ps[j].kind, .slice A2 ps[j].args.length c2] 30)) (w1.heap.size + 1) 30 #[.int .i64 ps[j].kind, .slice A2 ps[j].args.length c2] := by
        have := Blk.new (w1.alloc (Obj.cells #[.int .i64 ps[j].kind, .slice A2 ps[j].args.length c2] 30)) 30 #[.int .i64 ps[j].kind, .slice A2 ps[j].args.length c2]
        rwa [World.size_alloc] at this
      have HKY := Lib.hid kY
      have HBW := Lib.hid hbw
      clear kY hb2 ht1 ht1' bo hg2w hbw
      go_wp2_with (at_builtin; go_loud (refine wpList_append_own_at _ rfl _ _ 27 rfl (w.heap.size + 2) 30 i0 _ 2 32 Tryd.underlying27 hi hz0 hz1 hz2 rfl (by decide) u8 (ps.take j).length xs rfl hown1 ⟨w1.heap.size + 1, 0, none⟩ 1 1 [_, _] rfl rfl (World.news_of_block HKY.out) (by simp [Value.oneCell']) (by have := HLE.out; simp only [maxLen]; omega) (by have := HLE.out; omega) (by have := HO.out.2.2.2.2.lt; have := HBW.out.size; simp; omega) ?_); intro v2 w2 hown2 hg2 hnil2 hat2)
      have HST := Lib.hid (infer_step HO.out.2.2.1 HO.out.2.2.2.1 HO.out.2.2.2.2 HBW.out hown1 (HO.out.2.1) HO.out.1.lt HT1.out hown2 hg2 hat2)
      exact ⟨⟨j + 1, by omega, by go_num, by rw [List.take_succ_eq_append_getElem hjp]; exact HST.out⟩, by simp [intOf]; omega⟩
    · have hjl : j = l.length := by omega
      have hI : InferI 9 i T l B A d c w u8 ps wr := by
        rw [List.take_of_length_le (by have := HP.out.2.2.2; omega)] at hown
        exact ⟨hown, hbel, hb0, hb1⟩
      obtain ⟨A3, c3, e3⟩ := hI.1.form
      subst e3
      have HI := Lib.hid hI
      subst hjl
      clear hown hbel hb0 hb1 hI
      go_wp2_with fail
      refine (nat_any _).mono ?_
      rintro e w2 ⟨rfl, hb2⟩
      go_wp2_with fail
      refine (list_any _).mono ?_
      rintro e w3 ⟨rfl, hb3⟩
      obtain ⟨X, hX, hIX, kn, kl, hz3, hzX⟩ := infer_mid HI.out hb2 hb3
      clear hb2 hb3
      go_upto_region 20 with fail
      rw [← hX]
      clear hX
      have HIX := Lib.hid hIX
      have hpsu : ps = [T, tyFun tyNat (tyFun tyList (tyFun T T)), tyList] ∧ U = T := by
        have h := HP.out.2.1
        simp only [nodeTy, argTys, ownTy] at h
        simp at h
        split at h
        · rename_i h1
          exact ⟨sameAll_eq h1, by cases h; rfl⟩
        · cases h
      obtain ⟨hps1, hU1⟩ := hpsu
      have HU := Lib.hid hU1
      subst hps1
      clear hU1
      have hTe : T.err = 0 := HF.out.2.2.2.2.2.2.1 (by simp)
      have HTn := Lib.hid (err_small hTe)
      have HNO := Lib.hid (fun_nodes HTn.out)
      clear hTe
      obtain ⟨hown, hbel, hb0, hb1⟩ := hIX
      obtain ⟨a, A0, A1, A2, c0, c1, c2, ca, ea, ha, q0, q1, q2, q3, q4, q5, hx, hy, hz⟩ := sl_three hown.sl
      rw [ea]
      obtain ⟨m0, _, m2, m3, _⟩ := hb0.facts5
      have haX : a.block < X.heap.size := ha.2
      have HK1 := Lib.hid hb1
      have HTX := Lib.hid (show IsTy (· < X.heap.size) X T (.agg #[.int .i64 T.kind, .slice B T.args.length d]) from HT.out.boxed' hbel)
      have HSK := Lib.hid fun (w' : World) (h : Below X.heap.size X w') => And.intro ((h.cell (p := a) haX).trans q0) (And.intro ((h.cell (p := ⟨a.block, a.off + 1, none⟩) haX).trans q1) (And.intro ((h.cell (p := ⟨a.block, a.off + 2, none⟩) haX).trans q2) (And.intro ((h.cell (p := ⟨a.block, a.off + 2 + 1, none⟩) haX).trans q3) (And.intro ((h.cell (p := ⟨a.block, a.off + 4, none⟩) haX).trans q4) (And.intro ((h.cell (p := ⟨a.block, a.off + 4 + 1, none⟩) haX).trans q5) (And.intro ((hb0.below h hb0.lt).facts5.2.2.1) (And.intro ((hb0.below h hb0.lt).facts5.2.2.2.1) (And.intro ((kn.below h kn.lt).facts2.1) (And.intro ((kn.below h kn.lt).facts2.2.1) (And.intro ((kl.below h kl.lt).facts2.1) ((kl.below h kl.lt).facts2.2.1)))))))))))
      have HX := Lib.hid (And.intro (show IsTy (· < X.heap.size) X T _ from IsTy.keep (fun b h => h.2) (fun _ _ => rfl) _ hx) (And.intro (show IsTy (· < X.heap.size) X (tyFun tyNat (tyFun tyList (tyFun T T))) _ from IsTy.keep (fun b h => h.2) (fun _ _ => rfl) _ hy)
        (show IsTy (· < X.heap.size) X tyList _ from IsTy.keep (fun b h => h.2) (fun _ _ => rfl) _ hz)))
      clear hown hbel hb0 hb1 hx hy hz kn kl q0 q1 q2 q3 q4 q5 m2 m3
      obtain ⟨q0, q1, _⟩ := HSK.out X (Below.refl _ _)
      go_wp2_with fail
      go_region_held3 (fun w' => w'.cell? a = some (.int .i64 T.kind) ∧ w'.cell? ⟨a.block, a.off + 1, none⟩ = some (.slice A0 T.args.length c0) ∧ w'.cell? ⟨a.block, a.off + 2, none⟩ = some (.int .i64 (tyFun tyNat (tyFun tyList (tyFun T T))).kind) ∧ w'.cell? ⟨a.block, a.off + 2 + 1, none⟩ = some (.slice A1 (tyFun tyNat (tyFun tyList (tyFun T T))).args.length c1) ∧ w'.cell? ⟨a.block, a.off + 4, none⟩ = some (.int .i64 tyList.kind) ∧ w'.cell? ⟨a.block, a.off + 4 + 1, none⟩ = some (.slice A2 tyList.args.length c2) ∧ w'.cell? ⟨w.heap.size, 2, none⟩ = some (.int .i64 T.kind) ∧ w'.cell? ⟨w.heap.size, 3, none⟩ = some (.slice B T.args.length d) ∧ w'.cell? ⟨w3.heap.size, 0, none⟩ = some (.int .i64 1) ∧ w'.cell? ⟨w3.heap.size, 1, none⟩ = some (.slice none 0 0) ∧ w'.cell? ⟨w3.heap.size + 1, 0, none⟩ = some (.int .i64 2) ∧ w'.cell? ⟨w3.heap.size + 1, 1, none⟩ = some (.slice none 0 0))
        (first | with_reducible exact HSK.out _ (Below.refl _ _).drew | with_reducible exact HSK.out _ G1.out | with_reducible exact HSK.out _ G2.out | with_reducible exact HSK.out _ G3.out | with_reducible exact HSK.out _ G4.out | with_reducible exact HSK.out _ G5.out | with_reducible exact HSK.out _ G6.out | go_keep)
        (first
          | (go_at_call 25
             (with_reducible refine (refSame_is (S := tyList) (T := tyList) (w := w8) true (eqb_self _) (by first | decide | (have := HNO.out; omega) | (have := HTn.out; omega)) (by first | decide | (have := HNO.out; omega) | (have := HTn.out; omega)) (HX.out.2.2.boxed' G5.out) (IsTy.leaf _ _ _)).mono ?_)
             rintro e w9 ⟨rfl, hbb⟩
             have G6 := Lib.hid (show Below X.heap.size X w9 from G5.out.trans (hbb.mono G5.out.size))
             clear hbb)
          | (go_at_call 25
             (with_reducible refine (refSame_is (S := (tyFun tyNat (tyFun tyList (tyFun T T)))) (T := (tyFun tyNat (tyFun tyList (tyFun T T)))) (w := w7) true (eqb_self _) (by first | decide | (have := HNO.out; omega) | (have := HTn.out; omega)) (by first | decide | (have := HNO.out; omega) | (have := HTn.out; omega)) (HX.out.2.1.boxed' G4.out) Hv7.out).mono ?_)
             rintro e w8 ⟨rfl, hbb⟩
             have G5 := Lib.hid (show Below X.heap.size X w8 from G4.out.trans (hbb.mono G4.out.size))
             clear hbb)
          | (go_at_call 38
             (with_reducible refine (fun_any tyNat (tyFun tyList (tyFun T T)) _ _ w6 (by first | decide | (have := HNO.out; omega) | (have := HTn.out; omega)) (by first | decide | (have := HNO.out; omega) | (have := HTn.out; omega)) (IsTy.leaf _ _ _) Hv6.out).mono ?_)
             rintro e w7 ⟨v7, rfl, hv7, hbb⟩
             obtain ⟨E7, g7, rfl⟩ := hv7.form
             have G4 := Lib.hid (G3.out.trans (hbb.mono G3.out.size))
             have Hv7 := Lib.hid (show IsTy (· < w7.heap.size) w7 (tyFun tyNat (tyFun tyList (tyFun T T))) _ from IsTy.keep (fun b h => h.2) (fun _ _ => rfl) _ hv7)
             clear hbb hv7)
          | (go_at_call 38
             (with_reducible refine (fun_any tyList (tyFun T T) _ _ w5 (by first | decide | (have := HNO.out; omega) | (have := HTn.out; omega)) (by first | decide | (have := HNO.out; omega) | (have := HTn.out; omega)) (IsTy.leaf _ _ _) Hv5.out).mono ?_)
             rintro e w6 ⟨v6, rfl, hv6, hbb⟩
             obtain ⟨E6, g6, rfl⟩ := hv6.form
             have G3 := Lib.hid (G2.out.trans (hbb.mono G2.out.size))
             have Hv6 := Lib.hid (show IsTy (· < w6.heap.size) w6 (tyFun tyList (tyFun T T)) _ from IsTy.keep (fun b h => h.2) (fun _ _ => rfl) _ hv6)
             clear hbb hv6)
          | (go_at_call 38
             (with_reducible refine (fun_any T T _ _ w4 (by first | decide | (have := HNO.out; omega) | (have := HTn.out; omega)) (by first | decide | (have := HNO.out; omega) | (have := HTn.out; omega)) (HTX.out.boxed' G1.out) (HTX.out.boxed' G1.out)).mono ?_)
             rintro e w5 ⟨v5, rfl, hv5, hbb⟩
             obtain ⟨E5, g5, rfl⟩ := hv5.form
             have G2 := Lib.hid (G1.out.trans (hbb.mono G1.out.size))
             have Hv5 := Lib.hid (show IsTy (· < w5.heap.size) w5 (tyFun T T) _ from IsTy.keep (fun b h => h.2) (fun _ _ => rfl) _ hv5)
             clear hbb hv5)
          | (go_at_call 25
             (with_reducible refine (refSame_is (S := T) (T := T) (w := X.drew) true (eqb_self _) (by first | decide | (have := HNO.out; omega) | (have := HTn.out; omega)) (by first | decide | (have := HNO.out; omega) | (have := HTn.out; omega)) (HX.out.1.boxed' ((Below.refl X.heap.size X).drew)) (HTX.out.boxed' ((Below.refl X.heap.size X).drew))).mono ?_)
             rintro e w4 ⟨rfl, hbb⟩
             have G1 := Lib.hid (show Below X.heap.size X w4 from ((Below.refl _ X).drew).trans hbb)
             clear hbb))
      clear q0 q1
      obtain ⟨_, _, _, _, _, _, q6, q7, _⟩ := HSK.out _ G6.out
      go_wp2_with fail
      refine (copy_any 400000 T (.agg #[.int .i64 T.kind, .slice B T.args.length d]) _ (by have := HTn.out; omega) (by omega) (HTX.out.boxed' G6.out)).mono ?_
      rintro e wc ⟨vc, rfl, hvc, hbc⟩
      obtain ⟨Ec, gc, rfl⟩ := hvc.form
      have GC := Lib.hid (G6.out.trans (hbc.mono G6.out.size))
      have HVC := Lib.hid hvc
      obtain ⟨_, _, f0, f1⟩ := (HK1.out.below GC.out HK1.out.lt).facts2
      have hzc := G6.out.size
      clear hbc hvc
      go_wp2_with fail
      obtain ⟨z0, z1, _, _⟩ := ((HK1.out.below GC.out HK1.out.lt).set2 (.int .i64 T.kind) (.slice Ec T.args.length gc)).facts2
      refine bodyPost_ret (v := .tuple #[.agg #[.int .i64 T.kind, .slice Ec T.args.length gc], .int .i64 0]) (by simp [results, Tryd.results82, go_sem, z0, z1]) rfl ?_
      rw [HU.out]
      exact infer_end (HIX.out.2.1.trans (GC.out.mono HIX.out.2.1.size)) (by have := GC.out.size; omega) (HVC.out.keep (fun b h => ⟨by omega, h.2⟩) (fun _ _ => rfl))
end Go.Proofs.YtifijgihcincfaaDoor
namespace Go.Proofs.YtifijgihcincfaaDoor
open Go.RowKit

set_option maxRecDepth 100000 in
set_option maxHeartbeats 1000000 in
theorem infer_1 (n : Nat) (i : Int) (T : Ty) (l : List Tm) (G : List Ty) (s v : Value) (U : Ty) (w : World) (hok : (Tm.mk 1 i T l).ok = true) (hG : ∀ T ∈ G, T.err = 0) (hGn : G.length + n + 1 ≤ 400000)
    (htyp : (Tm.mk 1 i T l).typ G = .ok U) (hs : TyR.Sl (· < w.heap.size) w G s) (hT : IsTm (· < w.heap.size) w (.mk 1 i T l) v) : Calls Tryd.prog 82 #[s, v] w (InferR U w) := by
  obtain ⟨B, d, A, c, rfl, hTT, hl⟩ := hT.mk_parts
  obtain ⟨As, cs, rfl⟩ := hs.form
  rw [okT_eq, Bool.and_eq_true] at hok
  have hfk := formed_kind hok.1
  simp only [Tm.kind, Tm.index, Tm.type, Tm.args] at hfk
  obtain ⟨j, rfl⟩ : ∃ j : Nat, i = (j : Int) := ⟨i.toNat, by have := hfk.2.2.2.1; omega⟩
  unfold Tm.typ at htyp
  rw [if_pos rfl] at htyp
  by_cases hj : j < G.length
  · rw [dif_pos (by simpa using hj)] at htyp
    simp only [Int.toNat_natCast] at htyp
    have hj2 : G.length - 1 - j < G.length := by omega
    have hU : G[G.length - 1 - j] = U := by simpa using htyp
    obtain ⟨W, hW, hbW, hz, k0, k1⟩ := box52_facts w (.int .i64 1) (.int .i64 j) (.int .i64 T.kind) (.slice B T.args.length d) (.slice A l.length c)
    obtain ⟨a, rfl, ha, hat⟩ := hs.get (G.length - 1 - j) hj2
    rw [hU] at hat
    obtain ⟨A8, c8, q0, q1, hx⟩ := at_ty hat
    simp only [show TyR.n = 2 from rfl] at q0 q1
    have hUe : U.err = 0 := hG U (by rw [← hU]; exact List.getElem_mem hj2)
    have ha' : a.block < w.heap.size := ha
    have q0' := (hbW.cell (p := a.add ((G.length - 1 - j) * 2)) (by rw [add_block]; exact ha')).trans q0
    have q1' := (hbW.cell (p := ⟨(a.add ((G.length - 1 - j) * 2)).block, (a.add ((G.length - 1 - j) * 2)).off + 1, none⟩) (by show (a.add ((G.length - 1 - j) * 2)).block < _; rw [add_block]; exact ha')).trans q1
    obtain ⟨p0, p1, _⟩ := k0.facts5
    have HX := Lib.hid (hx.boxed' hbW)
    have HK := Lib.hid (And.intro k1 (And.intro hbW hz))
    have HUn := Lib.hid (err_small hUe)
    have hw1 : IntKind.i64.wrap ((G.length : Int) - 1) = (G.length : Int) - 1 := IntWalk.i64_in _ (by omega)
    have hw2 : IntKind.i64.wrap ((G.length : Int) - 1 - (j : Int)) = ((G.length - 1 - j : Nat) : Int) := by rw [IntWalk.i64_in _ (by omega)]; omega
    have e14 : decide (G.length ≤ j) = false := by simp; omega
    clear hs hT hTT hl hok hfk htyp hU hG hat q0 q1 hx k0 k1 hbW hz hUe ha
    go_enter Tryd.func82, Tryd.ntmps82
    go_upto_region 4 with fail
    rw [← hW]
    clear hW
    go_wp2_with fail
    refine (copy_any 400000 U _ W (by have := HUn.out; omega) (by omega) HX.out).mono ?_
    rintro e w2 ⟨v2, rfl, hv2, hb2⟩
    obtain ⟨E, g, rfl⟩ := hv2.form
    obtain ⟨_, _, f0, f1⟩ := (HK.out.1.below hb2 HK.out.1.lt).facts2
    have HB := Lib.hid (HK.out.2.1.trans (hb2.mono HK.out.2.1.size))
    have HV := Lib.hid (And.intro hv2 hb2)
    clear hb2 hv2
    go_wp2_with fail
    obtain ⟨z0, z1, _, _⟩ := ((HK.out.1.below HV.out.2 HK.out.1.lt).set2 (.int .i64 U.kind) (.slice E U.args.length g)).facts2
    refine bodyPost_ret (v := .tuple #[.agg #[.int .i64 U.kind, .slice E U.args.length g], .int .i64 0]) (by simp [results, Tryd.results82, go_sem, z0, z1]) rfl ?_
    have hz2 := HV.out.2.size
    have hz := HK.out.2.2
    exact infer_end HB.out (by omega) (HV.out.1.keep (fun b h => ⟨by omega, h.2⟩) (fun _ _ => rfl))
  · rw [dif_neg (by simpa using hj)] at htyp
    cases htyp
end Go.Proofs.YtifijgihcincfaaDoor
namespace Go.Proofs.YtifijgihcincfaaDoor
open Go.RowKit

theorem ctx_grow {X Vw w5 : World} {G : List Ty} {T : Ty} {olds : List Value} {g5 cap5 n : Nat} {x y : Value} (hn : G.length = n) (hc : TyR.Ch (· < X.heap.size) X G olds) (hT : IsTy (· < X.heap.size) X T (.agg #[x, y])) (hV : Below X.heap.size X Vw)
    (hown : w5.ownsRow Vw.heap.size 30 2 (.slice (some ⟨g5, 0, none⟩) (n + 1) cap5) (n + 1) (olds ++ [x, y])) (hg : Vw.grownBy w5 none) : TyR.Sl (· < w5.heap.size) w5 (G ++ [T]) (.slice (some ⟨g5, 0, none⟩) (n + 1) cap5) ∧ Roomy (.slice (some ⟨g5, 0, none⟩) (n + 1) cap5) := by
  subst hn
  have hlt := hown.lt g5 rfl
  have hs := hV.size
  have hc5 : ∀ p : Addr, p.block < X.heap.size → w5.cell? p = X.cell? p := fun p hp => (World.cell?_of_block (hg.block p.block (by omega) (by simp))).trans (hV.cell hp)
  have h1 : TyR.Ch (fun b => (b < X.heap.size) ∧ b < w5.heap.size ∧ (Value.slice (some ⟨g5, 0, none⟩) (G.length + 1) cap5).ownBlock ≠ some b) w5 (G ++ [T]) (olds ++ [x, y]) :=
    (Rep.Ch.append (R := TyR) hc (Rep.Ch.one (R := TyR) (vs := [x, y]) hT)).keep (fun b h => by have h' : b < X.heap.size := h; refine ⟨h', by omega, fun e => ?_⟩; simp [Value.ownBlock] at e; omega) (fun p hp => hc5 p hp)
  have h2 : TyR.Own (· < X.heap.size) Vw.heap.size (.slice (some ⟨g5, 0, none⟩) (G.length + 1) cap5) (G ++ [T]) w5 := ⟨olds ++ [x, y], (show (G ++ [T]).length = G.length + 1 from by simp) ▸ hown, h1⟩
  refine ⟨h2.sl.keep (fun b h => h.2) (fun _ _ => rfl), .inr ⟨_, _, _, rfl, ?_⟩⟩
  rcases hown.2 with ⟨e, _⟩ | ⟨g, cap, cur, e, _, _, hle, _⟩
  · cases e
  · cases e; exact hle

/-- The type below a function's variable, in a block of its own. -/
def LamStep (X : World) (U : Ty) (x y : Value) (wx : World) : Prop :=
  ∃ q A c, x = .pointer (some ⟨q, 0, none⟩) ∧ y = .int .i64 0 ∧ Blk wx q 30 #[.int .i64 U.kind, .slice A U.args.length c] ∧ X.heap.size ≤ q ∧ IsTy (fun b => X.heap.size ≤ b ∧ b < wx.heap.size) wx U (.agg #[.int .i64 U.kind, .slice A U.args.length c]) ∧ Below X.heap.size X wx
theorem lam_set {X V w6 : World} {q c6 : Nat} {U : Ty} {A6 : Option Addr} (hk : Blk w6 q 30 #[.int .i64 0, .slice none 0 0]) (hq : X.heap.size ≤ q) (hqV : q < V.heap.size) (hb : Below X.heap.size X w6)
    (ht : IsTy (fun b => (False ∨ V.heap.size ≤ b) ∧ b < w6.heap.size) w6 U (.agg #[.int .i64 U.kind, .slice A6 U.args.length c6])) :
    LamStep X U (.pointer (some ⟨q, 0, none⟩)) (.int .i64 0) ((w6.setCell ⟨q, 0, none⟩ (.int .i64 U.kind)).setCell ⟨q, 1, none⟩ (.slice A6 U.args.length c6)) ∧ True ∧
      Below X.heap.size X ((w6.setCell ⟨q, 0, none⟩ (.int .i64 U.kind)).setCell ⟨q, 1, none⟩ (.slice A6 U.args.length c6)) := by
  have hg := only_set2 w6 q (.int .i64 U.kind) (.slice A6 U.args.length c6)
  have hB : Below X.heap.size X ((w6.setCell ⟨q, 0, none⟩ (.int .i64 U.kind)).setCell ⟨q, 1, none⟩ (.slice A6 U.args.length c6)) := hb.grown hg hb.size (fun k e => by cases e; exact hq)
  exact ⟨⟨q, A6, c6, rfl, rfl, hk.set2 _ _, hq, IsTy.keep (fun b h => ⟨by rcases h.1 with h | h; exact h.elim; omega, Nat.lt_of_lt_of_le h.2 hg.size⟩) (fun p hp => World.cell?_of_block (hg.block p.block hp.2 (by rcases hp.1 with h | h; exact h.elim; simp; omega))) _ ht, hB⟩, trivial, hB⟩
theorem lam_new {X V w6 : World} {c6 : Nat} {U : Ty} {A6 : Option Addr} (hb : Below X.heap.size X w6) (hV : X.heap.size ≤ V.heap.size) (ht : IsTy (fun b => (False ∨ V.heap.size ≤ b) ∧ b < w6.heap.size) w6 U (.agg #[.int .i64 U.kind, .slice A6 U.args.length c6])) :
    LamStep X U (.pointer (some ⟨w6.heap.size, 0, none⟩)) (.int .i64 0) (w6.alloc (Obj.cells #[.int .i64 U.kind, .slice A6 U.args.length c6] 30)) :=
  ⟨_, A6, c6, rfl, rfl, Blk.new _ _ _, hb.size, IsTy.keep (fun b h => ⟨by rcases h.1 with h | h; exact h.elim; omega, by have := h.2; simp; omega⟩) (fun p hp => World.cell?_alloc_lt _ _ _ hp.2) _ ht, hb.alloc hb.size _⟩

theorem typ_lam {i : Int} {T : Ty} {x : Tm} {G : List Ty} {U : Ty} (h : (Tm.mk 2 i T [x]).typ G = .ok U) : ∃ b, x.typ (G ++ [T]) = .ok b ∧ U = tyFun T b ∧ (tyFun T b).nodes ≤ 64 := by
  unfold Tm.typ at h
  rw [if_neg (by decide), if_pos rfl] at h
  simp only [typAll] at h
  cases hx : x.typ (G ++ [T]) with
  | error e => rw [hx] at h; cases h
  | ok b =>
    rw [hx] at h
    simp only [nodeTy, if_pos] at h
    split at h
    · rename_i h1
      cases h
      exact ⟨b, rfl, rfl, h1⟩
    · cases h

set_option maxRecDepth 100000 in
set_option maxHeartbeats 8000000 in
theorem infer_2 (n : Nat) (hih : InferIH n) (i : Int) (T : Ty) (x : Tm) (G : List Ty) (s v : Value) (U : Ty) (w : World) (hn : (Tm.mk 2 i T [x]).bulk ≤ n + 1) (hok : (Tm.mk 2 i T [x]).ok = true) (hG : ∀ T ∈ G, T.err = 0) (hGn : G.length + n + 1 ≤ 400000)
    (htyp : (Tm.mk 2 i T [x]).typ G = .ok U) (hs : TyR.Sl (· < w.heap.size) w G s) (hfs : Roomy s) (hT : IsTm (· < w.heap.size) w (.mk 2 i T [x]) v) : Calls Tryd.prog 82 #[s, v] w (InferR U w) := by
  obtain ⟨b, htx, hUb, hb64⟩ := typ_lam htyp
  obtain ⟨B, d, A, c, rfl, hTT, hl⟩ := hT.mk_parts
  rw [okT_eq, Bool.and_eq_true] at hok
  have hfk := formed_kind hok.1
  simp only [Tm.kind, Tm.index, Tm.type, Tm.args] at hfk hok
  have hTe : T.err = 0 := hfk.2.2.2.2.2.1 (.inl trivial)
  have hxo : x.ok = true := by have := hok.2; simp only [okAllT, Bool.and_true] at this; exact this
  simp only [Tm.bulk, bulkAll] at hn
  have hGT : ∀ S ∈ G ++ [T], S.err = 0 := fun S hS => by rcases List.mem_append.1 hS with h | h; exact hG S h; rw [List.mem_singleton.1 h]; exact hTe
  have hbe := typ_err x (G ++ [T]) hxo hGT htx
  obtain ⟨X, hX, hbX, hz, hb0, hb1⟩ := box52_facts w (.int .i64 2) (.int .i64 i) (.int .i64 T.kind) (.slice B T.args.length d) (.slice A 1 c)
  have hsX : TyR.Sl (· < X.heap.size) X G s := hs.keep (fun b h => Nat.lt_of_lt_of_le h hbX.size) (fun p hp => hbX.cell hp)
  have hlX : TmR.Sl (· < X.heap.size) X [x] (.slice A 1 c) := hl.keep (fun b h => Nat.lt_of_lt_of_le h hbX.size) (fun p hp => hbX.cell hp)
  obtain ⟨a, rfl, ha, hat⟩ := hlX.get 0 (by simp)
  obtain ⟨B1, d1, A1, c1, q0, q1, q2, q3, q4, hx⟩ := at_tm hat
  rw [Nat.zero_mul, add_zero'] at q0 q1 q2 q3 q4
  simp only [List.getElem_cons_zero] at q0 q1 q2 q3 q4 hx
  have haX : a.block < X.heap.size := ha
  obtain ⟨olds, hol, hom⟩ : ∃ olds : List Value, TyR.Ch (· < X.heap.size) X G olds ∧ ∀ n c b, s = .slice (some b) n c → ∀ j u, olds[j]? = some u → b.block < X.heap.size ∧ X.cell? (b.add j) = some u := by
    by_cases hg0 : G = []
    · subst hg0
      exact ⟨[], Rep.Ch.nil _ _, fun _ _ b _ j u h => by simp at h⟩
    · obtain ⟨A', c', rfl, h⟩ := hsX
      obtain ⟨b, rfl, hbb, har⟩ := h hg0
      obtain ⟨olds, h1, h2⟩ := har.cells
      exact ⟨olds, h1, fun _ _ b' e j u hu => by cases e; exact ⟨hbb, h2 j u hu⟩⟩
  have hTX := hTT.boxed' hbX
  obtain ⟨i0, hi, hz0, hz1, hz2⟩ := info_parts info_type
  have hxb : x.bulk ≤ n := by omega
  have HGC := Lib.hid (And.intro hol hTX)
  have holn : olds.length = G.length * 2 := hol.1
  have hsl := hsX.form
  have HX := Lib.hid (And.intro hxb (And.intro hxo (And.intro hGT (And.intro (show (G ++ [T]).length + n ≤ 400000 by simp; omega) (And.intro htx hx)))))
  have HU := Lib.hid (And.intro hUb (And.intro hb64 (And.intro hbe hTe)))
  unfold InferIH at hih
  have HIH := Lib.hid hih
  have HTX := Lib.hid hTX
  have HK1 := Lib.hid hb1
  have HBX := Lib.hid (And.intro hbX hz)
  have HSK := Lib.hid fun (w' : World) (h : Below X.heap.size X w') => And.intro ((hb0.below h hb0.lt).facts5.2.2.1) (And.intro ((hb0.below h hb0.lt).facts5.2.2.2.1) (And.intro ((hb0.below h hb0.lt).facts5.2.2.2.2.1) (And.intro ((h.cell (p := a) haX).trans q0) (And.intro ((h.cell (p := ⟨a.block, a.off + 1, none⟩) haX).trans q1) (And.intro ((h.cell (p := ⟨a.block, a.off + 2, none⟩) haX).trans q2) (And.intro ((h.cell (p := ⟨a.block, a.off + 3, none⟩) haX).trans q3) ((h.cell (p := ⟨a.block, a.off + 4, none⟩) haX).trans q4)))))))
  have V0 := Lib.hid ((Below.refl X.heap.size X).drew)
  have VL := Lib.hid (((Below.refl X.heap.size X).alloc (Nat.le_refl _) (Obj.cells #[.int .i64 0, .slice none 0 0] 30)).drew)
  have VB := Lib.hid ((Below.refl X.heap.size X).alloc (Nat.le_refl _) (Obj.cells #[.int .i64 T.kind, .slice B T.args.length d] 30))
  have VZ := Lib.hid ((Below.refl X.heap.size X).alloc (Nat.le_refl _) (Obj.cells #[.int .i64 0, .slice none 0 0] 30))
  have V1 := Lib.hid (VB.out.drew)
  have V2 := Lib.hid ((VZ.out.alloc VZ.out.size (Obj.cells #[.int .i64 T.kind, .slice B T.args.length d] 30)).drew)
  have V3 := Lib.hid ((VB.out.alloc VB.out.size (Obj.cells #[.int .i64 0, .slice none 0 0] 30)).drew)
  have KB1 := Lib.hid ((Blk.new X 30 #[.int .i64 T.kind, .slice B T.args.length d]).drew)
  have KB2 := Lib.hid (show Blk ((X.alloc (Obj.cells #[.int .i64 0, .slice none 0 0] 30)).alloc (Obj.cells #[.int .i64 T.kind, .slice B T.args.length d] 30)).drew (X.heap.size + 1) 30 #[.int .i64 T.kind, .slice B T.args.length d] from by have := (Blk.new (X.alloc (Obj.cells #[.int .i64 0, .slice none 0 0] 30)) 30 #[.int .i64 T.kind, .slice B T.args.length d]).drew; rwa [World.size_alloc] at this)
  have KB3 := Lib.hid (((Blk.new X 30 #[.int .i64 T.kind, .slice B T.args.length d]).alloc (Obj.cells #[.int .i64 0, .slice none 0 0] 30)).drew)
  have KL2 := Lib.hid (((Blk.new X 30 #[.int .i64 0, .slice none 0 0]).alloc (Obj.cells #[.int .i64 T.kind, .slice B T.args.length d] 30)).drew)
  have KL3 := Lib.hid (show Blk ((X.alloc (Obj.cells #[.int .i64 T.kind, .slice B T.args.length d] 30)).alloc (Obj.cells #[.int .i64 0, .slice none 0 0] 30)).drew (X.heap.size + 1) 30 #[.int .i64 0, .slice none 0 0] from by have := (Blk.new (X.alloc (Obj.cells #[.int .i64 T.kind, .slice B T.args.length d] 30)) 30 #[.int .i64 0, .slice none 0 0]).drew; rwa [World.size_alloc] at this)
  obtain ⟨As, cG, rfl, hle, hno⟩ : ∃ (As : Option Addr) (cG : Nat), s = .slice As G.length cG ∧ G.length ≤ cG ∧ (As = none → G.length = 0 ∧ G.length = 0) := by
    obtain ⟨As', cs', e⟩ := hsl
    rcases hfs with rfl | ⟨aG, nG, cG, rfl, hle⟩
    · simp at e
      exact ⟨none, 0, by rw [← e.2.1], by omega, fun _ => by omega⟩
    · simp at e
      obtain ⟨_, e, _⟩ := e
      subst e
      exact ⟨_, _, rfl, hle, fun h => by cases h⟩
  have HOL := Lib.hid (And.intro hno (And.intro (show olds.length = G.length * 2 from holn) (fun (b : Addr) (e : As = some b) (j : Nat) (u : Value) (hu : olds[j]? = some u) => (show b.block < X.heap.size ∧ X.cell? (b.add j) = some u from hom G.length cG b (by rw [e]) j u hu))))
  obtain ⟨m0, _, m2, m3, m4, _⟩ := hb0.facts5
  clear hih hG htyp hs hT hTT hl hok hfk hTe hxo hGT hbe hUb hb64 htx hbX hz hb0 hb1 hsX hlX ha hat hx hol hom hTX hn m2 m3 hsl holn
  go_enter Tryd.func82, Tryd.ntmps82
  go_wp2_with fail
  rw [← hX]
  clear hX
  go_cut [6, 7] from 37 to 54 (fun x y wx => LamStep X b x y wx)
  case first =>
    go_region_held3 (fun w' => w'.cell? ⟨w.heap.size, 2, none⟩ = some (.int .i64 T.kind) ∧ w'.cell? ⟨w.heap.size, 3, none⟩ = some (.slice B T.args.length d) ∧ w'.cell? ⟨w.heap.size, 4, none⟩ = some (.slice (some a) 1 c) ∧ w'.cell? a = some (.int .i64 x.kind) ∧ w'.cell? ⟨a.block, a.off + 1, none⟩ = some (.int .i64 x.index) ∧ w'.cell? ⟨a.block, a.off + 2, none⟩ = some (.int .i64 x.type.kind) ∧ w'.cell? ⟨a.block, a.off + 3, none⟩ = some (.slice B1 x.type.args.length d1) ∧ w'.cell? ⟨a.block, a.off + 4, none⟩ = some (.slice A1 x.args.length c1))
      (first | with_reducible exact HSK.out _ V0.out | with_reducible exact HSK.out _ VL.out | with_reducible exact HSK.out _ V1.out | with_reducible exact HSK.out _ V2.out | with_reducible exact HSK.out _ V3.out | with_reducible exact HSK.out _ GA.out | with_reducible exact HSK.out _ GAL.out | with_reducible exact HSK.out _ GC.out | with_reducible exact HSK.out _ GN.out | with_reducible exact HSK.out _ GZ.out | with_reducible exact HSK.out _ GS.out | go_keep)
      (first
          | (go_at_call 82
             (with_reducible refine (HIH.out x (G ++ [T]) (.slice (some ⟨g5, 0, none⟩) (G.length + 1) cap5) _ b (w5.alloc (Obj.cells #[.int .i64 0, .slice none 0 0] 30)) HX.out.1 HX.out.2.1 HX.out.2.2.1 HX.out.2.2.2.1 HX.out.2.2.2.2.1 (HC5.out.1.keep (fun b h => by have h' : b < w5.heap.size := h; simp; omega) (fun p hp => World.cell?_alloc_lt _ _ _ hp)) HC5.out.2 (HX.out.2.2.2.2.2.boxed GAL.out)).mono ?_)
             rintro e w6 ⟨hb6, v6, rfl, ht6⟩
             obtain ⟨A6, c6, rfl⟩ := ht6.form
             have GC := Lib.hid (GAL.out.trans (hb6.mono GAL.out.size))
             have KL6 := Lib.hid (show Blk w6 w5.heap.size 30 #[.int .i64 0, .slice none 0 0] ∧ X.heap.size ≤ w5.heap.size from ⟨(Blk.new w5 30 _).below hb6 (by simp), GA.out.size⟩)
             have END := Lib.hid (lam_set KL6.out.1 KL6.out.2 (by simp : w5.heap.size < (w5.alloc (Obj.cells #[.int .i64 0, .slice none 0 0] 30)).heap.size) GC.out ht6)
             obtain ⟨_, _, f0, f1⟩ := KL6.out.1.facts2
             have GS := Lib.hid (show Below X.heap.size X _ from END.out.2.2)
             clear hb6 ht6)
          | (revert KL5; intro KL5; go_at_call 82
             (with_reducible refine (HIH.out x (G ++ [T]) (.slice (some ⟨g5, 0, none⟩) (G.length + 1) cap5) _ b w5 HX.out.1 HX.out.2.1 HX.out.2.2.1 HX.out.2.2.2.1 HX.out.2.2.2.2.1 HC5.out.1 HC5.out.2 (HX.out.2.2.2.2.2.boxed GA.out)).mono ?_)
             rintro e w6 ⟨hb6, v6, rfl, ht6⟩
             obtain ⟨A6, c6, rfl⟩ := ht6.form
             have GC := Lib.hid (GA.out.trans (hb6.mono GA.out.size))
             have KL6 := Lib.hid (show Blk w6 _ 30 #[.int .i64 0, .slice none 0 0] ∧ X.heap.size ≤ _ from ⟨KL5.out.1.below hb6 KL5.out.1.lt, KL5.out.2⟩)
             have END := Lib.hid (lam_set KL6.out.1 KL6.out.2 (KL5.out.1.lt) GC.out ht6)
             obtain ⟨_, _, f0, f1⟩ := KL6.out.1.facts2
             have GS := Lib.hid (show Below X.heap.size X _ from END.out.2.2)
             clear hb6 ht6)
          | (go_at_call 82
             (with_reducible refine (HIH.out x (G ++ [T]) (.slice (some ⟨g5, 0, none⟩) (G.length + 1) cap5) _ b w5 HX.out.1 HX.out.2.1 HX.out.2.2.1 HX.out.2.2.2.1 HX.out.2.2.2.2.1 HC5.out.1 HC5.out.2 (HX.out.2.2.2.2.2.boxed GA.out)).mono ?_)
             rintro e w6 ⟨hb6, v6, rfl, ht6⟩
             obtain ⟨A6, c6, rfl⟩ := ht6.form
             have GC := Lib.hid (GA.out.trans (hb6.mono GA.out.size))
             have ENDN := Lib.hid (lam_new GC.out GA.out.size ht6)
             have GN := Lib.hid (GC.out.alloc GC.out.size (Obj.cells #[.int .i64 b.kind, .slice A6 b.args.length c6] 30))
             have GZ := Lib.hid (GC.out.alloc GC.out.size (Obj.cells #[.int .i64 0, .slice none 0 0] 30))
             clear hb6 ht6)
          | (refine step_append_grows (w := (X.alloc (Obj.cells #[.int .i64 T.kind, .slice B T.args.length d] 30)).drew) (by rfl) (.tmp 43) (.tmp 46) 27 (by rfl) 30 i0 _ 2 32 Tryd.underlying27 hi hz0 hz1 hz2 rfl (by decide) As G.length G.length olds (by rfl) HOL.out.1 HOL.out.2.1 (fun b e j u hu => (V1.out.cell (p := b.add j) (by rw [add_block]; exact (HOL.out.2.2 b e j u hu).1)).trans (HOL.out.2.2 b e j u hu).2) _ 1 1 [.int .i64 T.kind, .slice B T.args.length d] (by rfl) rfl (World.news_of_block KB1.out) (by simp [Value.oneCell']) (by omega) (by simp only [maxLen]; omega) (by omega) ?_
             intro v5 w5 hown5 hgr5
             obtain ⟨g5, cap5, rfl⟩ := ownsRow_succ hown5
             have HC5 := Lib.hid (ctx_grow (rfl : G.length = G.length) HGC.out.1 HGC.out.2 V1.out hown5 hgr5)
             have GA := Lib.hid (V1.out.grown hgr5 V1.out.size (by simp))
             have GAL := Lib.hid (GA.out.alloc GA.out.size (Obj.cells #[.int .i64 0, .slice none 0 0] 30))
             clear hown5 hgr5)
          | (refine step_append_grows (w := ((X.alloc (Obj.cells #[.int .i64 0, .slice none 0 0] 30)).alloc (Obj.cells #[.int .i64 T.kind, .slice B T.args.length d] 30)).drew) (by rfl) (.tmp 43) (.tmp 46) 27 (by rfl) 30 i0 _ 2 32 Tryd.underlying27 hi hz0 hz1 hz2 rfl (by decide) As G.length G.length olds (by rfl) HOL.out.1 HOL.out.2.1 (fun b e j u hu => (V2.out.cell (p := b.add j) (by rw [add_block]; exact (HOL.out.2.2 b e j u hu).1)).trans (HOL.out.2.2 b e j u hu).2) _ 1 1 [.int .i64 T.kind, .slice B T.args.length d] (by rfl) rfl (World.news_of_block KB2.out) (by simp [Value.oneCell']) (by omega) (by simp only [maxLen]; omega) (by omega) ?_
             intro v5 w5 hown5 hgr5
             obtain ⟨g5, cap5, rfl⟩ := ownsRow_succ hown5
             have HC5 := Lib.hid (ctx_grow (rfl : G.length = G.length) HGC.out.1 HGC.out.2 V2.out hown5 hgr5)
             have GA := Lib.hid (V2.out.grown hgr5 V2.out.size (by simp))
             have GAL := Lib.hid (GA.out.alloc GA.out.size (Obj.cells #[.int .i64 0, .slice none 0 0] 30))
             have KL5 := Lib.hid (show Blk w5 X.heap.size 30 #[.int .i64 0, .slice none 0 0] ∧ X.heap.size ≤ X.heap.size from ⟨KL2.out.grown hgr5 (by simp), by omega⟩)
             clear hown5 hgr5)
          | (refine step_append_grows (w := ((X.alloc (Obj.cells #[.int .i64 T.kind, .slice B T.args.length d] 30)).alloc (Obj.cells #[.int .i64 0, .slice none 0 0] 30)).drew) (by rfl) (.tmp 43) (.tmp 46) 27 (by rfl) 30 i0 _ 2 32 Tryd.underlying27 hi hz0 hz1 hz2 rfl (by decide) As G.length G.length olds (by rfl) HOL.out.1 HOL.out.2.1 (fun b e j u hu => (V3.out.cell (p := b.add j) (by rw [add_block]; exact (HOL.out.2.2 b e j u hu).1)).trans (HOL.out.2.2 b e j u hu).2) _ 1 1 [.int .i64 T.kind, .slice B T.args.length d] (by rfl) rfl (World.news_of_block KB3.out) (by simp [Value.oneCell']) (by omega) (by simp only [maxLen]; omega) (by omega) ?_
             intro v5 w5 hown5 hgr5
             obtain ⟨g5, cap5, rfl⟩ := ownsRow_succ hown5
             have HC5 := Lib.hid (ctx_grow (rfl : G.length = G.length) HGC.out.1 HGC.out.2 V3.out hown5 hgr5)
             have GA := Lib.hid (V3.out.grown hgr5 V3.out.size (by simp))
             have GAL := Lib.hid (GA.out.alloc GA.out.size (Obj.cells #[.int .i64 0, .slice none 0 0] 30))
             have KL5 := Lib.hid (show Blk w5 (X.heap.size + 1) 30 #[.int .i64 0, .slice none 0 0] ∧ X.heap.size ≤ (X.heap.size + 1) from ⟨KL3.out.grown hgr5 (by simp), by omega⟩)
             clear hown5 hgr5))
    all_goals (go_wp2_with fail; go_meet; first | exact END.out.1 | exact ENDN.out)
  case rest =>
    obtain ⟨q, A7, c7, rfl, rfl, hkq, hq, hbT, hbl⟩ := hcut
    obtain ⟨n2, n3, _⟩ := HSK.out _ hbl
    obtain ⟨r0, r1, _, _⟩ := hkq.facts2
    have hTn := err_small HU.out.2.2.2
    have hbn := err_small HU.out.2.2.1
    have hFe : (Ty.mk 4 [T, b]).err = 0 := err_zero.2 ⟨by simp [Ty.ok, okAll, (err_zero.1 HU.out.2.2.2).1, (err_zero.1 HU.out.2.2.1).1], HU.out.2.1⟩
    have HFE := Lib.hid hFe
    have HTw := Lib.hid (HTX.out.boxed' hbl)
    have HBw := Lib.hid (show IsTy (· < wc.heap.size) wc b _ from IsTy.keep (fun b h => h.2) (fun _ _ => rfl) _ hbT)
    have HBL := Lib.hid hbl
    clear hbl hbT hkq hFe HSK V0 VL VB VZ V1 V2 V3 KB1 KB2 KB3 KL2 KL3 HOL HGC HX HIH hfs hno hi hz0 hz1 hz2 q0 q1 q2 q3 q4
    go_wp2_with fail
    refine (fun_any T b _ _ wc (by omega) (by omega) HTw.out HBw.out).mono ?_
    rintro e w8 ⟨v8, rfl, hv8, hb8⟩
    obtain ⟨A8, c8, rfl⟩ := hv8.form
    have HV8 := Lib.hid (show IsTy (fun b => wc.heap.size ≤ b ∧ b < w8.heap.size) w8 (.mk 4 [T, b]) _ from hv8)
    have HB8 := Lib.hid hb8
    clear hv8 hb8
    go_wp2_with fail
    refine (ok2_any (.mk 4 [T, b]) A8 c8 w8 HFE.out (show IsTy (· < w8.heap.size) w8 (.mk 4 [T, b]) _ from IsTy.keep (fun b h => h.2) (fun _ _ => rfl) _ HV8.out)).mono ?_
    rintro e w9 ⟨rfl, hb9⟩
    have HB9 := Lib.hid ((HBL.out.trans (HB8.out.mono HBL.out.size)).trans (hb9.mono (Nat.le_trans HBL.out.size HB8.out.size)))
    have HV9 := Lib.hid (show IsTy (fun b => wc.heap.size ≤ b ∧ b < w9.heap.size) w9 (.mk 4 [T, b]) _ from IsTy.keep (fun b h => ⟨h.1, Nat.lt_of_lt_of_le h.2 hb9.size⟩) (fun x hx => hb9.cell hx.2) _ HV8.out)
    obtain ⟨_, _, f0, f1⟩ := (HK1.out.below HB9.out HK1.out.lt).facts2
    clear hb9
    go_wp2_with fail
    obtain ⟨z0, z1, _, _⟩ := ((HK1.out.below HB9.out HK1.out.lt).set2 (.int .i64 (Ty.mk 4 [T, b]).kind) (.slice A8 (Ty.mk 4 [T, b]).args.length c8)).facts2
    refine bodyPost_ret (v := .tuple #[.agg #[.int .i64 (Ty.mk 4 [T, b]).kind, .slice A8 (Ty.mk 4 [T, b]).args.length c8], .int .i64 0]) (by simp [results, Tryd.results82, go_sem, z0, z1]) rfl ?_
    rw [HU.out.1]
    have hz := HBX.out.2
    have hs9 := HB9.out.size
    have hsc := HBL.out.size
    exact infer_end (U := tyFun T b) (HBX.out.1.trans (HB9.out.mono HBX.out.1.size)) (by omega) (HV9.out.keep (fun b h => ⟨by omega, h.2⟩) (fun _ _ => rfl))
end Go.Proofs.YtifijgihcincfaaDoor
namespace Go.Proofs.YtifijgihcincfaaDoor
open Go.RowKit

theorem infer_all : ∀ n : Nat, InferIH n
  | 0 => fun t G s v U w hn => by
    obtain ⟨k, i, T, l⟩ := t
    simp only [Tm.bulk] at hn
    omega
  | n + 1 => fun t G s v U w hn hok hG hGn htyp hs hfs hT => by
    have ih := infer_all n
    obtain ⟨k, i, T, l⟩ := t
    have hok' := hok
    rw [okT_eq, Bool.and_eq_true] at hok'
    have hfk := formed_kind hok'.1
    simp only [Tm.kind, Tm.index, Tm.type, Tm.args] at hfk
    obtain ⟨h1, h2, h3⟩ := hfk
    have hk : k = 1 ∨ k = 2 ∨ k = 3 ∨ k = 4 ∨ k = 5 ∨ k = 6 ∨ k = 7 ∨ k = 8 ∨ k = 9 ∨ k = 10 ∨ k = 11 ∨ k = 12 ∨ k = 13 := by omega
    rcases hk with rfl | rfl | rfl | rfl | rfl | rfl | rfl | rfl | rfl | rfl | rfl | rfl | rfl
    · exact infer_1 n i T l G s v U w hok hG (by omega) htyp hs hT
    · have hl : l.length = 1 := by have := h3.1; simpa [arities] using this
      match l, hl with
      | [x], _ => exact infer_2 n ih i T x G s v U w hn hok hG (by omega) htyp hs hfs hT
    · exact infer_3 n ih i T l G s v U w hn hok hG (by omega) htyp hs hfs hT
    · exact infer_4 n ih i T l G s v U w hn hok hG (by omega) htyp hs hfs hT
    · exact infer_5 n ih i T l G s v U w hn hok hG (by omega) htyp hs hfs hT
    · exact infer_6 n ih i T l G s v U w hn hok hG (by omega) htyp hs hfs hT
    · exact infer_7 n ih i T l G s v U w hn hok hG (by omega) htyp hs hfs hT
    · exact infer_8 n ih i T l G s v U w hn hok hG (by omega) htyp hs hfs hT
    · exact infer_9 n ih i T l G s v U w hn hok hG (by omega) htyp hs hfs hT
    · exact infer_10 n ih i T l G s v U w hn hok hG (by omega) htyp hs hfs hT
    · exact infer_11 n ih i T l G s v U w hn hok hG (by omega) htyp hs hfs hT
    · exact infer_12 n ih i T l G s v U w hn hok hG (by omega) htyp hs hfs hT
    · exact infer_13 n ih i T l G s v U w hn hok hG (by omega) htyp hs hfs hT

/-- ref02.infer at a term that has a type. -/
theorem infer_any (t : Tm) (G : List Ty) (s v : Value) (U : Ty) (w : World) (hok : t.ok = true) (hG : ∀ T ∈ G, T.err = 0) (hGn : G.length + t.bulk ≤ 400000) (htyp : t.typ G = .ok U) (hs : TyR.Sl (· < w.heap.size) w G s) (hfs : Roomy s) (hT : IsTm (· < w.heap.size) w t v) :
    Calls Tryd.prog 82 #[s, v] w (InferR U w) := infer_all t.bulk t G s v U w (Nat.le_refl _) hok hG hGn htyp hs hfs hT
end Go.Proofs.YtifijgihcincfaaDoor
