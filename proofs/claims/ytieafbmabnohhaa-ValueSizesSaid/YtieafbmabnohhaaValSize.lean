/- value.size: how many nodes the term of a value has. -/
import Derived.Test.YtieafbmabnohhaaValCheck
namespace Go.Proofs.Ytieafbmabnohhaa
open Go.RowKit

theorem capped_any (x : Int) (w : World) : Calls Try.prog 27 #[.int .i64 x] w fun e w' => e = .returned (.int .i64 (min x 4096)) ∧ w = w' := by
  by_cases h : x ≤ 4096
  · rw [Int.min_eq_left h]
    go_enter Try.func27, Try.ntmps27
    go_wp2_with fail
    go_ret
    exact ⟨rfl, rfl⟩
  · rw [Int.min_eq_right (by omega)]
    have h' : 4096 < x := by omega
    clear h
    go_enter Try.func27, Try.ntmps27
    go_wp2_with fail
    go_ret
    exact ⟨rfl, rfl⟩

theorem intsN_nonneg : ∀ m : List Int, (∀ x ∈ m, 0 ≤ x) → 0 ≤ intsN m ∧ intsN m ≤ 4098 * m.length
  | [], _ => by simp [intsN]
  | x :: r, h => by
    have h0 := h x (by simp)
    have h1 := intsN_nonneg r (fun y hy => h y (by simp [hy]))
    simp only [intsN, List.length_cons]
    omega
theorem intsN_take (m : List Int) (j : Nat) (h : j < m.length) : intsN (m.take (j + 1)) = intsN (m.take j) + (2 + min m[j] 4096) := by
  rw [List.take_succ_eq_append_getElem h, intsN_append]
  simp only [intsN]
  omega
theorem weight_take (l : List Va) (j : Nat) (h : j < l.length) : weightAll (l.take (j + 1)) = weightAll (l.take j) + l[j].weight := by
  rw [List.take_succ_eq_append_getElem h, weightAll_append]
  simp only [weightAll]
  omega
theorem formed_num {k n : Int} {m : List Int} {l : List Va} (h : (Va.mk k n m l).formed = true) : 0 ≤ n ∧ ∀ x ∈ m, 0 ≤ x := by
  rcases formed_cases h with ⟨i, hi, e⟩ | ⟨i, hi, e⟩ | ⟨a, b, e⟩ | e
  · cases e; exact ⟨hi, by simp⟩
  · cases e; exact ⟨Int.le_refl _, hi⟩
  · cases e; exact ⟨Int.le_refl _, by simp⟩
  · cases e; exact ⟨Int.le_refl _, by simp⟩
mutual
theorem weight_bound : ∀ V : Va, V.ok = true → 0 ≤ V.weight ∧ V.weight ≤ 4098 * V.bulk
  | .mk k n m l, h => by
    simp only [Va.ok, Bool.and_eq_true] at h
    have h1 := formed_num h.1
    have h2 := intsN_nonneg m h1.2
    have h3 := weightAll_bound l h.2
    simp only [Va.weight, Va.bulk]
    have := h1.1
    omega
theorem weightAll_bound : ∀ l : List Va, okAllV l = true → 0 ≤ weightAll l ∧ weightAll l ≤ 4098 * bulkAllV l
  | [], _ => by simp [weightAll, bulkAllV]
  | t :: r, h => by
    simp only [okAllV, Bool.and_eq_true] at h
    have h1 := weight_bound t h.1
    have h2 := weightAll_bound r h.2
    simp only [weightAll, bulkAllV]
    omega
end
theorem okAllV_get {l : List Va} (h : okAllV l = true) : ∀ i (hi : i < l.length), l[i].ok = true := by
  induction l with
  | nil => intro i hi; simp at hi
  | cons t r ih =>
    simp only [okAllV, Bool.and_eq_true] at h
    intro i hi
    cases i with
    | zero => exact h.1
    | succ i => exact ih h.2 i (by simpa using hi)
theorem okAllV_take {l : List Va} (h : okAllV l = true) (j : Nat) : okAllV (l.take j) = true := by
  induction l generalizing j with
  | nil => simp [okAllV]
  | cons t r ih =>
    simp only [okAllV, Bool.and_eq_true] at h
    cases j with
    | zero => rfl
    | succ j => simp only [List.take_succ_cons, okAllV, h.1, ih h.2 j, Bool.and_self]
theorem bulkAllV_take (l : List Va) (j : Nat) : bulkAllV (l.take j) ≤ bulkAllV l := by
  have := bulkAllV_append (l.take j) (l.drop j)
  rw [List.take_append_drop] at this
  omega

set_option maxRecDepth 100000 in
set_option maxHeartbeats 2000000 in
theorem sizeV_any (b : Nat) : ∀ (V : Va) (v : Value) (w : World), V.bulk ≤ b → b ≤ 400000 → V.ok = true → IsVa (· < w.heap.size) w V v →
    Calls Try.prog 20 #[v] w fun e w' => e = .returned (.int .i64 V.weight) ∧ Below w.heap.size w w' := by
  induction b with
  | zero => intro V; have := bulkV_pos V; omega
  | succ b ih =>
    rintro ⟨k, n, m, l⟩ v w hb hb4 hok hV
    obtain ⟨B, d, A, c, rfl, hm, hl⟩ := hV.parts
    simp only [Va.kind, Va.num, Va.list, Va.args] at *
    have hwb := weight_bound _ hok
    simp only [Va.ok, Bool.and_eq_true] at hok
    have hfn := formed_num hok.1
    have hib := intsN_nonneg m hfn.2
    have hlb := bulkAllV_len l
    simp only [Va.bulk] at hb
    have HM := Lib.hid hm
    have HL := Lib.hid hl
    have HOK := Lib.hid (And.intro hok hfn.2)
    have hn0 := hfn.1
    have IH := Lib.hid ih
    clear hm hl hok hfn ih hV hwb
    have hnm : min n 4096 = min n 4096 := rfl
    obtain ⟨n', hn'⟩ : ∃ n', min n 4096 = n' := ⟨_, rfl⟩
    have hn1 : 0 ≤ n' ∧ n' ≤ 4096 := by omega
    have HN := Lib.hid hn'
    clear hn' hnm
    go_enter Try.func20, Try.ntmps20
    go_wp2_with fail
    refine (capped_any n _).mono ?_
    rintro e w' ⟨rfl, rfl⟩
    rw [HN.out]
    obtain ⟨b1, z1, k0⟩ := new_blk (Below.refl w.heap.size w) (Nat.le_refl _) #[.int .i64 k, .int .i64 n, .slice B m.length d, .slice A l.length c] 29
    generalize w.alloc (Obj.cells #[.int .i64 k, .int .i64 n, .slice B m.length d, .slice A l.length c] 29) = W at b1 z1 k0 ⊢
    obtain ⟨_, _, c2, c3, _⟩ := k0.facts4
    have HB := Lib.hid (And.intro b1 (And.intro z1 k0))
    clear b1 z1 k0
    go_wp2_with fail
    go_loop [3, 16] (fun cnt i => ∃ j : Nat, j ≤ m.length ∧ i = .int .i64 j ∧ cnt = .int .i64 (1 + n' + intsN (m.take j))) (fun _ i => m.length - (intOf i).toNat)
    case atStart => exact ⟨0, Nat.zero_le _, rfl, by simp [intsN]⟩
    case round =>
      obtain ⟨j, hj, rfl, rfl⟩ := hrel
      have hij := intsN_nonneg (m.take j) (fun x hx => HOK.out.2 x (List.mem_of_mem_take hx))
      have htl : (m.take j).length = j := by simp; omega
      by_cases hlt : j < m.length
      · have hs : ZR.Sl (· < w.heap.size) W m (.slice B m.length d) := HM.out.keep (fun _ h => h) (fun p hp => HB.out.1.cell hp)
        obtain ⟨a, rfl, ha, hat⟩ := hs.get j hlt
        have q0 := at_z hat
        simp only [show ZR.n = 1 from rfl, Nat.mul_one] at q0
        have hx := HOK.out.2 _ (List.getElem_mem hlt)
        have hst := Lib.hid (intsN_take m j hlt)
        obtain ⟨x, hxx⟩ : ∃ x, m[j] = x := ⟨_, rfl⟩
        rw [hxx] at q0 hx
        obtain ⟨x', hx'⟩ : ∃ x', min x 4096 = x' := ⟨_, rfl⟩
        have hx1 : 0 ≤ x' ∧ x' ≤ 4096 := by omega
        have HX := Lib.hid (And.intro hxx hx')
        have hij2 : intsN (m.take j) ≤ 4098 * 400000 := by rw [htl] at hij; omega
        have hij1 := hij.1
        clear hs ha hat hxx hx' htl hij
        obtain ⟨I, hI⟩ : ∃ I, intsN (m.take j) = I := ⟨_, rfl⟩
        rw [hI] at hij1 hij2 hst ⊢
        clear hI
        go_wp2_with fail
        refine (capped_any x _).mono ?_
        rintro e w' ⟨rfl, rfl⟩
        rw [HX.out.2]
        go_wp2_with fail
        go_round
        case rel => exact ⟨j + 1, by omega, by go_num, by rw [hst.out, HX.out.1, HX.out.2]; congr 1; omega⟩
        case measure => simp [intOf]; omega
      · have hjm : j = m.length := by omega
        subst hjm
        rw [List.take_length] at hij ⊢
        obtain ⟨I, hI⟩ : ∃ I, intsN m = I := ⟨_, rfl⟩
        rw [hI] at hij hib ⊢
        have HI := Lib.hid hI
        have hij2 : I ≤ 4098 * 400000 := by omega
        have hij1 := hij.1
        clear hij hib htl hI
        go_wp2_with fail
        go_loopw [3, 29] (fun cnt i wr => ∃ j : Nat, j ≤ l.length ∧ i = .int .i64 j ∧ cnt = .int .i64 (1 + n' + I + weightAll (l.take j)) ∧ Below W.heap.size W wr) (fun _ i _ => l.length - (intOf i).toNat)
        case atStart => exact ⟨0, Nat.zero_le _, rfl, by simp [weightAll], Below.refl _ _⟩
        case round =>
          obtain ⟨j, hj, rfl, rfl, hbr⟩ := hrel
          have hwj := weightAll_bound (l.take j) (okAllV_take HOK.out.1.2 j)
          have hbj := bulkAllV_take l j
          by_cases hlt : j < l.length
          · have hs : VaR.Sl (· < w.heap.size) wr l (.slice A l.length c) := HL.out.keep (fun _ h => h) (fun p hp => (HB.out.1.trans (hbr.mono HB.out.1.size)).cell hp)
            obtain ⟨a, rfl, ha, hat⟩ := hs.get j hlt
            obtain ⟨B1, d1, A1, c1, q0, q1, q2, q3, hx⟩ := at_va hat
            simp only [show VaR.n = 4 from rfl] at q0 q1 q2 q3
            have hxo := okAllV_get HOK.out.1.2 j hlt
            have hxb := bulkAllV_get l j hlt
            have hxw := weight_bound l[j] hxo
            have hst := Lib.hid (weight_take l j hlt)
            have HX := Lib.hid (And.intro hx (And.intro hxo hxb))
            have hw2 : weightAll (l.take j) ≤ 4098 * 400000 := by omega
            have hw1 := hwj.1
            have hxw2 : l[j].weight ≤ 4098 * 400000 := by omega
            have hxw1 := hxw.1
            have HBR := Lib.hid hbr
            clear hs ha hat hx hxo hwj hbj hxw hbr hxb
            obtain ⟨u, hu⟩ : ∃ u, weightAll (l.take j) = u := ⟨_, rfl⟩
            rw [hu] at hw1 hw2 hst ⊢
            clear hu
            go_wp2_with fail
            have bb := (Below.refl wr.heap.size wr).alloc (Nat.le_refl _) (Obj.cells #[.int .i64 l[j].kind, .int .i64 l[j].num, .slice B1 l[j].list.length d1, .slice A1 l[j].args.length c1] 29)
            refine (IH.out l[j] _ _ (by have := HX.out.2.2; omega) (by omega) HX.out.2.1 (HX.out.1.keep (fun b hb => by have h1 := HB.out.1.size; have h2 := HBR.out.size; have h3 : b < w.heap.size := hb; simp; omega) (fun p hp => World.cell?_alloc_lt _ _ _ (by have h1 := HB.out.1.size; have h2 := HBR.out.size; omega)))).mono ?_
            rintro e w2 ⟨rfl, hb2⟩
            have HB2 := Lib.hid (HBR.out.trans ((bb.trans (hb2.mono (by simp))).mono HBR.out.size))
            clear bb hb2
            obtain ⟨y, hy⟩ : ∃ y, l[j].weight = y := ⟨_, rfl⟩
            rw [hy] at hxw1 hxw2 hst ⊢
            clear hy
            go_wp2_with fail
            exact ⟨⟨j + 1, by omega, by go_num, by rw [hst.out]; congr 1; omega, HB2.out⟩, by simp [intOf]; omega⟩
          · have hjl : j = l.length := by omega
            subst hjl
            rw [List.take_length] at hwj ⊢
            obtain ⟨u, hu⟩ : ∃ u, weightAll l = u := ⟨_, rfl⟩
            rw [hu] at hwj ⊢
            have HU := Lib.hid hu
            have hw2 : u ≤ 4098 * 400000 := by omega
            have hw1 := hwj.1
            have HBR := Lib.hid hbr
            clear hwj hbj hbr hu
            go_wp2_with fail
            go_ret
            exact ⟨ret_num (by simp only [Va.weight]; rw [HN.out, HI.out, HU.out]), HB.out.1.trans (HBR.out.mono HB.out.1.size)⟩
end Go.Proofs.Ytieafbmabnohhaa
