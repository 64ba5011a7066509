/- Lists of types that are the same. -/
import Derived.Test.YtdbkphgamkeboaaDoorTypeArgs
namespace Go.Proofs.YtdbkphgamkeboaaDoor
open Go.RowKit

def sameAll : List Ty → List Ty → Bool
  | [], [] => true
  | a :: r, b :: s => a.same b && sameAll r s
  | _, _ => false
theorem sameAll_len : ∀ {l m : List Ty}, sameAll l m = true → l.length = m.length
  | [], [], _ => rfl
  | a :: r, b :: s, h => by simp only [sameAll, Bool.and_eq_true] at h; simp [sameAll_len h.2]
  | [], _ :: _, h => by simp [sameAll] at h
  | _ :: _, [], h => by simp [sameAll] at h
theorem sameAll_at : ∀ {l m : List Ty} (i : Nat) (hi : i < l.length) (hm : i < m.length), sameAll l m = true → l[i].same m[i] = true
  | a :: r, b :: s, 0, _, _, h => by simp only [sameAll, Bool.and_eq_true] at h; exact h.1
  | a :: r, b :: s, i + 1, hi, hm, h => by simp only [sameAll, Bool.and_eq_true] at h; exact sameAll_at i (by simpa using hi) (by simpa using hm) h.2
theorem sameAll_of : ∀ {l m : List Ty}, l.length = m.length → (∀ i (hi : i < l.length) (hm : i < m.length), l[i].same m[i] = true) → sameAll l m = true
  | [], [], _, _ => rfl
  | a :: r, b :: s, hl, h => by
    simp only [sameAll, Bool.and_eq_true]
    exact ⟨h 0 (by simp) (by simp), sameAll_of (by simpa using hl) (fun i hi hm => h (i + 1) (by simpa using hi) (by simpa using hm))⟩
  | [], _ :: _, hl, _ => by simp at hl
  | _ :: _, [], hl, _ => by simp at hl

theorem same_is {S T : Ty} {u v : Value} {w : World} (b : Bool) (hb : S.same T = b) (hsz : S.nodes ≤ 400000) (hS : IsTy (· < w.heap.size) w S u) (hT : IsTy (· < w.heap.size) w T v) :
    Calls Tryd.prog 136 #[u, v] w fun e w' => e = .returned (.bool b) ∧ Below w.heap.size w w' := by
  subst hb
  exact same_any S T u v w hsz hS hT

set_option maxRecDepth 100000 in
set_option maxHeartbeats 2000000 in
theorem equal_any (l m : List Ty) (s t : Value) (w : World) (hsz : nodesAll l ≤ 400000) (hsm : m.length ≤ 400000) (hl : TyR.Sl (· < w.heap.size) w l s) (hm : TyR.Sl (· < w.heap.size) w m t) :
    Calls Tryd.prog 188 #[s, t, .func (.func 136) #[] #[]] w
      fun e w' => e = .returned (.bool (sameAll l m)) ∧ Below w.heap.size w w' := by
  obtain ⟨A, c, rfl⟩ := hl.form
  obtain ⟨B, d, rfl⟩ := hm.form
  have hll := nodesAll_len l
  have HL := Lib.hid hl
  have HM := Lib.hid hm
  clear hl hm
  by_cases hlen : l.length = m.length
  · have e1 : ((l.length : Int) != (m.length : Int)) = false := by rw [hlen]; simp
    have HLEN := Lib.hid hlen
    clear hlen
    go_enter Tryd.func188, Tryd.ntmps188
    go_wp2_with fail
    go_loopw [17] (fun ix wr => ∃ j : Nat, j ≤ l.length ∧ ix = .int .i64 j ∧ (∀ i (hi : i < l.length) (hm : i < m.length), i < j → l[i].same m[i] = true) ∧ Below w.heap.size w wr)
      (fun ix _ => l.length - (intOf ix).toNat)
    case atStart => exact ⟨0, by omega, rfl, fun i _ _ h => by omega, Below.refl _ _⟩
    case round =>
      obtain ⟨j, hj, rfl, hso, hbel⟩ := hrel
      have hws := hbel.size
      by_cases hlt : j < l.length
      · have hltm : j < m.length := by have := HLEN.out; omega
        have hl1 : TyR.Sl (· < w.heap.size) wr l (.slice A l.length c) := HL.out.keep (fun _ h => h) (fun p hp => hbel.cell hp)
        have hm1 : TyR.Sl (· < w.heap.size) wr m (.slice B m.length d) := HM.out.keep (fun _ h => h) (fun p hp => hbel.cell hp)
        obtain ⟨a, rfl, ha, hat⟩ := hl1.get j hlt
        obtain ⟨a', rfl, ha', hat'⟩ := hm1.get j hltm
        obtain ⟨A1, c1, q0, q1, hx⟩ := at_ty hat
        obtain ⟨B1, d1, r0, r1, hy⟩ := at_ty hat'
        simp only [show TyR.n = 2 from rfl] at q0 q1 r0 r1
        have r0' := fun o => (World.cell?_alloc_lt wr o (a'.add (j * 2)) (by rw [add_block]; have : a'.block < w.heap.size := ha'; omega)).trans r0
        have r1' := fun o => (World.cell?_alloc_lt wr o ⟨(a'.add (j * 2)).block, (a'.add (j * 2)).off + 1, none⟩ (by show (a'.add (j * 2)).block < _; rw [add_block]; have : a'.block < w.heap.size := ha'; omega)).trans r1
        have HX := Lib.hid hx
        have HY := Lib.hid hy
        have HSO := Lib.hid hso
        have hnj := nodesAll_get l j hlt
        clear hl1 hm1 hat hat' hx hy r0 r1 hso
        go_wp2_with fail
        obtain ⟨b1, z1, k1⟩ := new_blk hbel hws #[.int .i64 l[j].kind, .slice A1 l[j].args.length c1] 30
        have hbx := below_box wr (Obj.cells #[.int .i64 l[j].kind, .slice A1 l[j].args.length c1] 30)
        clear r0' r1'
        generalize wr.alloc (Obj.cells #[.int .i64 l[j].kind, .slice A1 l[j].args.length c1] 30) = W1 at b1 z1 k1 hbx ⊢
        obtain ⟨b2, z2, k2⟩ := new_blk b1 b1.size #[.int .i64 m[j].kind, .slice B1 m[j].args.length d1] 30
        have hby := hbx.alloc hbx.size (Obj.cells #[.int .i64 m[j].kind, .slice B1 m[j].args.length d1] 30)
        have k1 := k1.alloc (Obj.cells #[.int .i64 m[j].kind, .slice B1 m[j].args.length d1] 30)
        generalize W1.alloc (Obj.cells #[.int .i64 m[j].kind, .slice B1 m[j].args.length d1] 30) = W2 at b2 z2 k1 k2 hby ⊢
        have hx2 : IsTy (· < W2.heap.size) W2 l[j] (.agg #[.int .i64 l[j].kind, .slice A1 l[j].args.length c1]) := IsTy.keep (fun b h => by have : b < w.heap.size := h; omega) (fun p hp => hby.cell (by have : p.block < w.heap.size := hp; omega)) _ HX.out
        have hy2 : IsTy (· < W2.heap.size) W2 m[j] (.agg #[.int .i64 m[j].kind, .slice B1 m[j].args.length d1]) := IsTy.keep (fun b h => by have : b < w.heap.size := h; omega) (fun p hp => hby.cell (by have : p.block < w.heap.size := hp; omega)) _ HY.out
        have HXY := Lib.hid (And.intro hx2 hy2)
        clear hx2 hy2
        by_cases hs : l[j].same m[j] = true
        · have HS := Lib.hid hs
          clear hs
          refine (same_is true HS.out (by omega) HXY.out.1 HXY.out.2).mono ?_
          rintro e w3 ⟨rfl, hb3⟩
          go_wp2_with fail
          refine ⟨⟨j + 1, by omega, by go_num, ?_, b2.trans (hb3.mono b2.size)⟩, by simp [intOf]; omega⟩
          intro i hi hm hij
          by_cases e : i = j
          · subst e; exact HS.out
          · exact HSO.out i hi hm (by omega)
        · have hs' : l[j].same m[j] = false := by simpa using hs
          have HS := Lib.hid hs'
          clear hs hs'
          refine (same_is false HS.out (by omega) HXY.out.1 HXY.out.2).mono ?_
          rintro e w3 ⟨rfl, hb3⟩
          go_wp2_with fail
          go_ret
          have hf : sameAll l m = false := by
            cases h : sameAll l m with
            | false => rfl
            | true => have := sameAll_at j hlt hltm h; rw [HS.out] at this; cases this
          exact ⟨by rw [hf]; rfl, b2.trans (hb3.mono b2.size)⟩
      · have hjl : j = l.length := by omega
        subst hjl
        have HSO := Lib.hid hso
        clear hso
        go_wp2_with fail
        go_ret
        exact ⟨by rw [sameAll_of HLEN.out (fun i hi hm => HSO.out i hi hm hi)]; rfl, hbel⟩
  · have e1 : ((l.length : Int) != (m.length : Int)) = true := by rw [bne_iff_ne]; omega
    have hf : sameAll l m = false := by
      cases h : sameAll l m with
      | false => rfl
      | true => exact absurd (sameAll_len h) hlen
    rw [hf]
    go_enter Tryd.func188, Tryd.ntmps188
    go_wp2_with fail
    go_ret
    exact ⟨rfl, Below.refl _ _⟩
end Go.Proofs.YtdbkphgamkeboaaDoor
