/- value.formed of a value whose node is right. -/
import Derived.Test.YtieafbmabnohhaaValMath
namespace Go.Proofs.Ytieafbmabnohhaa
open Go.RowKit

theorem negative_any (x : Int) (w : World) : Calls Try.prog 32 #[.int .i64 x] w fun e w' => e = .returned (.bool (decide (x < 0))) ∧ w = w' := by
  go_enter Try.func32, Try.ntmps32
  go_wp2_with fail
  go_ret
  exact ⟨rfl, rfl⟩

def MinusOne (w : World) (e : Ending) (w' : World) : Prop := e = .returned (.int .i64 (-1)) ∧ w = w'
/-- A list without negative numbers has no such place. -/
theorem indexFunc_none (m : List Int) (A : Option Addr) (c : Nat) (S : Nat → Prop) (w : World) (hm : ∀ x ∈ m, 0 ≤ x) (hl : m.length ≤ 400000) (hs : ZR.Sl S w m (.slice A m.length c)) :
    Calls Try.prog 34 #[.slice A m.length c, .func (.func 32) #[] #[]] w (MinusOne w) := by
  have HM := Lib.hid hm
  have HS := Lib.hid hs
  clear hm hs
  go_enter Try.func34, Try.ntmps34
  go_wp2_with fail
  go_loop [8] (fun i => ∃ j : Nat, j ≤ m.length ∧ i = .int .i64 j) (fun i => m.length - (intOf i).toNat)
  case atStart => exact ⟨0, Nat.zero_le _, rfl⟩
  case round =>
    obtain ⟨j, hj, rfl⟩ := hrel
    by_cases hlt : j < m.length
    · obtain ⟨a, rfl, ha, hat⟩ := HS.out.get j hlt
      have q0 := at_z hat
      simp only [show ZR.n = 1 from rfl, Nat.mul_one] at q0
      have hx : decide (m[j] < 0) = false := by have := HM.out _ (List.getElem_mem hlt); simp; omega
      go_wp2_with fail
      refine (negative_any _ _).mono ?_
      rintro e w' ⟨rfl, rfl⟩
      rw [hx]
      go_wp2_with fail
      go_round
      case rel => exact ⟨j + 1, by omega, by go_num⟩
      case measure => simp [intOf]; omega
    · go_wp2_with fail
      go_ret
      exact ⟨rfl, rfl⟩

theorem containsFunc_none (m : List Int) (A : Option Addr) (c : Nat) (S : Nat → Prop) (w : World) (hm : ∀ x ∈ m, 0 ≤ x) (hl : m.length ≤ 400000) (hs : ZR.Sl S w m (.slice A m.length c)) :
    Calls Try.prog 31 #[.slice A m.length c, .func (.func 32) #[] #[]] w fun e w' => e = .returned (.bool false) ∧ w = w' := by
  have HM := Lib.hid (And.intro hm (And.intro hl hs))
  clear hm hl hs
  go_enter Try.func31, Try.ntmps31
  go_wp2_with fail
  refine (indexFunc_none m A c S w HM.out.1 HM.out.2.1 HM.out.2.2).mono ?_
  rintro e w' ⟨rfl, rfl⟩
  go_wp2_with fail
  go_ret
  exact ⟨rfl, rfl⟩

theorem formed_cases {V : Va} (h : V.formed = true) : (∃ n, 0 ≤ n ∧ V = .mk 1 n [] []) ∨ (∃ m, (∀ x ∈ m, (0 : Int) ≤ x) ∧ V = .mk 2 0 m []) ∨ (∃ a b, V = .mk 3 0 [] [a, b]) ∨ V = .mk 4 0 [] [] := by
  obtain ⟨k, n, m, l⟩ := V
  simp only [Va.formed, Bool.or_eq_true, Bool.and_eq_true, beq_iff_eq, decide_eq_true_eq, List.isEmpty_iff, List.all_eq_true] at h
  rcases h with ((⟨⟨⟨rfl, h⟩, rfl⟩, rfl⟩ | ⟨⟨⟨rfl, rfl⟩, h⟩, rfl⟩) | ⟨⟨⟨rfl, rfl⟩, rfl⟩, h⟩) | ⟨⟨⟨rfl, rfl⟩, rfl⟩, rfl⟩
  · exact .inl ⟨n, h, rfl⟩
  · exact .inr (.inl ⟨m, h, rfl⟩)
  · obtain ⟨a, b, rfl⟩ : ∃ a b, l = [a, b] := by
      match l, h with
      | [a, b], _ => exact ⟨a, b, rfl⟩
    exact .inr (.inr (.inl ⟨a, b, rfl⟩))
  · exact .inr (.inr (.inr rfl))

set_option maxRecDepth 100000 in
set_option maxHeartbeats 1000000 in
theorem formedV_true (V : Va) (v : Value) (w : World) (hf : V.formed = true) (hb : V.bulk ≤ 400000) (hV : IsVa (· < w.heap.size) w V v) :
    Calls Try.prog 26 #[v] w fun e w' => e = .returned (.bool true) ∧ Below w.heap.size w w' := by
  obtain ⟨B, d, A, c, rfl, hm, _⟩ := hV.parts
  clear hV
  rcases formed_cases hf with ⟨n, hn, rfl⟩ | ⟨m, hm0, rfl⟩ | ⟨a, b, rfl⟩ | rfl
  · simp only [Va.kind, Va.num, Va.list, Va.args, List.length_nil]
    clear hm hf hb
    go_enter Try.func26, Try.ntmps26
    go_wp2_with fail
    go_ret
    exact ⟨rfl, (Below.refl _ _).alloc (Nat.le_refl _) _⟩
  · simp only [Va.kind, Va.num, Va.list, Va.args, List.length_nil] at hm ⊢
    simp only [Va.bulk] at hb
    have HM := Lib.hid hm
    have HB := Lib.hid (show m.length ≤ 400000 by omega)
    have H0 := Lib.hid hm0
    clear hm hf hb hm0
    go_enter Try.func26, Try.ntmps26
    go_wp2_with fail
    refine (containsFunc_none m B d (· < w.heap.size) _ H0.out HB.out (HM.out.keep (fun _ h => h) (fun p hp => World.cell?_alloc_lt _ _ _ hp))).mono ?_
    rintro e w' ⟨rfl, rfl⟩
    go_wp2_with fail
    go_ret
    exact ⟨rfl, (Below.refl _ _).alloc (Nat.le_refl _) _⟩
  · simp only [Va.kind, Va.num, Va.list, Va.args, List.length_nil, List.length_cons]
    clear hm hf hb
    go_enter Try.func26, Try.ntmps26
    go_wp2_with fail
    go_ret
    exact ⟨rfl, (Below.refl _ _).alloc (Nat.le_refl _) _⟩
  · simp only [Va.kind, Va.num, Va.list, Va.args, List.length_nil]
    clear hm hf hb
    go_enter Try.func26, Try.ntmps26
    go_wp2_with fail
    go_ret
    exact ⟨rfl, (Below.refl _ _).alloc (Nat.le_refl _) _⟩
end Go.Proofs.Ytieafbmabnohhaa
