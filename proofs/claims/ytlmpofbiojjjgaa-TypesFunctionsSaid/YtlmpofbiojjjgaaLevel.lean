/- The level of a type: both recursions. -/
import Derived.Test.YtlmpofbiojjjgaaMake
namespace Go.Proofs.Ytlmpofbiojjjgaa
open Go.RowKit

def Ty.level : Ty → Nat
  | .mk k [a, b] => if k = 3 then max a.level b.level else if k = 4 then max (a.level + 1) b.level else 0
  | _ => 0

theorem IsTy.two {S : Nat → Prop} {w : World} {k : Int} {T U : Ty} {A : Option Addr} {c : Nat} (h : IsTy S w (.mk k [T, U]) (.agg #[.int .i64 k, .slice A 2 c])) :
    ∃ (a : Addr) (B : Option Addr) (d : Nat) (C : Option Addr) (e : Nat), A = some a ∧ S a.block ∧ w.cell? a = some (.int .i64 T.kind) ∧ w.cell? ⟨a.block, a.off + 1, none⟩ = some (.slice B T.args.length d) ∧
      w.cell? ⟨a.block, a.off + 2, none⟩ = some (.int .i64 U.kind) ∧ w.cell? ⟨a.block, a.off + 2 + 1, none⟩ = some (.slice C U.args.length e) ∧
      IsTy S w T (.agg #[.int .i64 T.kind, .slice B T.args.length d]) ∧ IsTy S w U (.agg #[.int .i64 U.kind, .slice C U.args.length e]) := by
  unfold IsTy at h
  obtain ⟨A', c', e, h⟩ := h
  simp at e
  obtain ⟨rfl, rfl⟩ := e
  obtain ⟨a, rfl, hs, h⟩ := h (by simp)
  obtain ⟨B, d, g0, g1, gT⟩ := h.get 0 (by simp)
  obtain ⟨C, e, k0, k1, kU⟩ := h.get 1 (by simp)
  simp only [Nat.zero_mul, add_zero', List.getElem_cons_zero] at g0 g1 gT
  simp only [Nat.one_mul, List.getElem_cons_succ, List.getElem_cons_zero] at k0 k1 kU
  exact ⟨a, B, d, C, e, rfl, hs, g0, g1, by simpa [Addr.add] using k0, by simpa [Addr.add] using k1, gT, kU⟩

/-- The forms of a valid type. -/
theorem Ty.ok_cases {T : Ty} (h : T.ok = true) : (∃ k, (k = 1 ∨ k = 2 ∨ k = 5) ∧ T = .mk k []) ∨ (∃ k A B, (k = 3 ∨ k = 4) ∧ T = .mk k [A, B] ∧ A.ok = true ∧ B.ok = true) := by
  obtain ⟨k, l⟩ := T
  match l, h with
  | [], h => exact .inl ⟨k, by simpa [Ty.ok, okAll, or_assoc] using h, rfl⟩
  | [A], h => simp [Ty.ok, okAll] at h
  | [A, B], h =>
    simp [Ty.ok, okAll] at h
    exact .inr ⟨k, A, B, h.1, rfl, h.2.1, h.2.2⟩
  | A :: B :: C :: r, h => simp [Ty.ok, okAll] at h

theorem level_leaf (k : Int) : (Ty.mk k []).level = 0 := by simp [Ty.level]
theorem level_pair (A B : Ty) : (Ty.mk 3 [A, B]).level = max A.level B.level := by simp [Ty.level]
theorem level_fun (A B : Ty) : (Ty.mk 4 [A, B]).level = max (A.level + 1) B.level := by simp [Ty.level]

theorem level_le (n : Nat) : ∀ T : Ty, T.nodes ≤ n → T.ok = true → T.level + 1 ≤ T.nodes := by
  induction n with
  | zero => intro T h; have := nodes_pos T; omega
  | succ n ih =>
    intro T h hok
    rcases Ty.ok_cases hok with ⟨k, _, rfl⟩ | ⟨k, A, B, hk, rfl, hA, hB⟩
    · simp [level_leaf, Ty.nodes]
    · simp only [Ty.nodes, nodesAll] at h ⊢
      have h1 := ih A (by omega) hA
      have h2 := ih B (by omega) hB
      rcases hk with rfl | rfl
      · rw [level_pair]; omega
      · rw [level_fun]; omega

theorem ret_num {a b : Int} (h : a = b) : Ending.returned (.int .i64 a) = .returned (.int .i64 b) := by rw [h]

theorem level_keeps {w W : World} {a : Addr} {x0 x1 x2 x3 x4 x5 : Value} (hbW : Below w.heap.size w W) (b0 : Blk W w.heap.size 25 #[x0, x1]) (ha : a.block < w.heap.size)
    (g0 : w.cell? a = some x2) (g1 : w.cell? ⟨a.block, a.off + 1, none⟩ = some x3) (k0 : w.cell? ⟨a.block, a.off + 2, none⟩ = some x4) (k1 : w.cell? ⟨a.block, a.off + 2 + 1, none⟩ = some x5) :
    ∀ w1, Below (w.heap.size + 1) W w1 → Below (w.heap.size + 1) W w1 ∧ w1.cell? ⟨w.heap.size, 0, none⟩ = some x0 ∧ w1.cell? ⟨w.heap.size, 1, none⟩ = some x1 ∧
      w1.cell? a = some x2 ∧ w1.cell? ⟨a.block, a.off + 1, none⟩ = some x3 ∧ w1.cell? ⟨a.block, a.off + 2, none⟩ = some x4 ∧ w1.cell? ⟨a.block, a.off + 2 + 1, none⟩ = some x5 := by
  intro w1 h
  obtain ⟨c0, c1, _, _⟩ := (b0.below h (Nat.lt_succ_self _)).facts2
  have k : ∀ p : Addr, p.block < w.heap.size → w1.cell? p = w.cell? p := fun p hp => (h.cell (by omega)).trans (hbW.cell hp)
  exact ⟨h, c0, c1, (k _ ha).trans g0, (k ⟨a.block, _, none⟩ ha).trans g1, (k ⟨a.block, _, none⟩ ha).trans k0, (k ⟨a.block, _, none⟩ ha).trans k1⟩

def LevelR (T : Ty) (w : World) (e : Ending) (w' : World) : Prop := e = .returned (.int .i64 (T.level : Int)) ∧ Below w.heap.size w w'

set_option maxHeartbeats 1000000 in
theorem rlevel_any (n : Nat) : ∀ (T : Ty) (v : Value) (w : World), T.nodes ≤ n → n ≤ 100000 → T.ok = true → IsTy (· < w.heap.size) w T v →
    Calls Try.prog 41 #[v] w (LevelR T w) := by
  induction n with
  | zero => intro T; have := nodes_pos T; omega
  | succ n ih =>
    intro T v w hn hb hok hT
    have IH := Lib.hid ih
    clear ih
    obtain ⟨A0, c0, rfl⟩ := hT.form
    rcases Ty.ok_cases hok with ⟨k, hk, rfl⟩ | ⟨k, A, B, hk, rfl, hA, hB⟩
    · rcases hk with rfl | rfl | rfl
      all_goals
        simp only [Ty.kind, Ty.args, List.length_nil]
        go_enter Try.func41, Try.ntmps41
        go_wp2_with fail
        go_ret
        exact ⟨by simp [level_leaf], (Below.refl _ _).alloc (Nat.le_refl _) _⟩
    · simp only [Ty.nodes, nodesAll] at hn
      simp only [Ty.kind, Ty.args, List.length_cons, List.length_nil, Nat.reduceAdd] at hT ⊢
      obtain ⟨a, D, d, E, e, rfl, ha, g0, g1, k0, k1, gA, kB⟩ := hT.two
      have la := level_le _ A (Nat.le_refl _) hA
      have lb := level_le _ B (Nat.le_refl _) hB
      have hwr := Lib.hid (IntWalk.i64_in ((A.level : Int) + 1) (by omega))
      rcases hk with rfl | rfl
      · go_enter Try.func41, Try.ntmps41
        go_wp2_with fail
        generalize hW : w.alloc (Obj.cells #[Value.int IntKind.i64 3, Value.slice (some a) 2 c0] 25) = W
        have hsz : W.heap.size = w.heap.size + 1 := by rw [← hW]; simp
        have hbW : Below w.heap.size w W := by rw [← hW]; exact (Below.refl _ _).alloc (Nat.le_refl _) _
        have b0 : Blk W w.heap.size 25 #[.int .i64 3, .slice (some a) 2 c0] := by rw [← hW]; exact Blk.new _ _ _
        have HSK := Lib.hid (level_keeps hbW b0 ha g0 g1 k0 k1)
        have HW := Lib.hid hW
        have Hsz := Lib.hid hsz
        have HbW := Lib.hid hbW
        have HgA := Lib.hid gA
        have HkB := Lib.hid kB
        clear hW hsz hbW b0 g0 g1 k0 k1 gA kB hT
        obtain ⟨hSK, q0, q1, q2, q3, q4, q5⟩ := HSK.out W (Below.refl _ _)
        go_region_held3 (fun w' => Below (w.heap.size + 1) W w' ∧ w'.cell? ⟨w.heap.size, 0, none⟩ = some (.int .i64 3) ∧ w'.cell? ⟨w.heap.size, 1, none⟩ = some (.slice (some a) 2 c0) ∧
            w'.cell? a = some (.int .i64 A.kind) ∧ w'.cell? ⟨a.block, a.off + 1, none⟩ = some (.slice D A.args.length d) ∧
            w'.cell? ⟨a.block, a.off + 2, none⟩ = some (.int .i64 B.kind) ∧ w'.cell? ⟨a.block, a.off + 2 + 1, none⟩ = some (.slice E B.args.length e))
          (first | exact HSK.out _ (Below.refl _ _).drew | exact HSK.out _ hbw1 | exact HSK.out _ hbw2 | go_keep)
          (first
            | (go_at_call 41
               (with_reducible refine (IH.out A (.agg #[.int .i64 A.kind, .slice D A.args.length d]) _ (by omega) (by omega) hA ?_).mono ?_)
               · exact IsTy.keep (S := (· < w.heap.size)) (w := w) (w' := W.drew) (fun b h => by have := Hsz.out; show b < W.heap.size; omega) (fun p hp => (World.cell?_drew W p).trans (HbW.out.cell hp)) A HgA.out
               rintro e w1 ⟨rfl, hbx1⟩
               have hbs1 : Below W.heap.size W w1 := ((Below.refl _ W).drew).trans (hbx1.mono (Nat.le_refl _))
               have hbw1 : Below (w.heap.size + 1) W w1 := hbs1.mono (by have := Hsz.out; omega))
            | (go_at_call 41
               (with_reducible refine (IH.out B (.agg #[.int .i64 B.kind, .slice E B.args.length e]) _ (by omega) (by omega) hB ?_).mono ?_)
               · exact IsTy.keep (S := (· < w.heap.size)) (w := w) (w' := w1) (fun b h => by have := Hsz.out; have := hbs1.size; omega) (fun p hp => (hbw1.cell (by omega)).trans (HbW.out.cell hp)) B HkB.out
               rintro e w2 ⟨rfl, hbx2⟩
               have hbs2 : Below W.heap.size W w2 := hbs1.trans (hbx2.mono hbs1.size)
               have hbw2 : Below (w.heap.size + 1) W w2 := hbs2.mono (by have := Hsz.out; omega)))
        go_wp2_with fail
        all_goals go_ret
        all_goals exact ⟨ret_num (by rw [level_pair]; omega), HbW.out.trans (hbs2.mono (by have := Hsz.out; omega))⟩
      · go_enter Try.func41, Try.ntmps41
        go_wp2_with fail
        generalize hW : w.alloc (Obj.cells #[Value.int IntKind.i64 4, Value.slice (some a) 2 c0] 25) = W
        have hsz : W.heap.size = w.heap.size + 1 := by rw [← hW]; simp
        have hbW : Below w.heap.size w W := by rw [← hW]; exact (Below.refl _ _).alloc (Nat.le_refl _) _
        have b0 : Blk W w.heap.size 25 #[.int .i64 4, .slice (some a) 2 c0] := by rw [← hW]; exact Blk.new _ _ _
        have HSK := Lib.hid (level_keeps hbW b0 ha g0 g1 k0 k1)
        have HW := Lib.hid hW
        have Hsz := Lib.hid hsz
        have HbW := Lib.hid hbW
        have HgA := Lib.hid gA
        have HkB := Lib.hid kB
        clear hW hsz hbW b0 g0 g1 k0 k1 gA kB hT
        obtain ⟨hSK, q0, q1, q2, q3, q4, q5⟩ := HSK.out W (Below.refl _ _)
        go_region_held3 (fun w' => Below (w.heap.size + 1) W w' ∧ w'.cell? ⟨w.heap.size, 0, none⟩ = some (.int .i64 4) ∧ w'.cell? ⟨w.heap.size, 1, none⟩ = some (.slice (some a) 2 c0) ∧
            w'.cell? a = some (.int .i64 A.kind) ∧ w'.cell? ⟨a.block, a.off + 1, none⟩ = some (.slice D A.args.length d) ∧
            w'.cell? ⟨a.block, a.off + 2, none⟩ = some (.int .i64 B.kind) ∧ w'.cell? ⟨a.block, a.off + 2 + 1, none⟩ = some (.slice E B.args.length e))
          (first | exact HSK.out _ (Below.refl _ _).drew | exact HSK.out _ hbw1 | exact HSK.out _ hbw2 | go_keep)
          (first
            | (go_at_call 41
               (with_reducible refine (IH.out A (.agg #[.int .i64 A.kind, .slice D A.args.length d]) _ (by omega) (by omega) hA ?_).mono ?_)
               · exact IsTy.keep (S := (· < w.heap.size)) (w := w) (w' := W.drew) (fun b h => by have := Hsz.out; show b < W.heap.size; omega) (fun p hp => (World.cell?_drew W p).trans (HbW.out.cell hp)) A HgA.out
               rintro e w1 ⟨rfl, hbx1⟩
               have hbs1 : Below W.heap.size W w1 := ((Below.refl _ W).drew).trans (hbx1.mono (Nat.le_refl _))
               have hbw1 : Below (w.heap.size + 1) W w1 := hbs1.mono (by have := Hsz.out; omega))
            | (go_at_call 41
               (with_reducible refine (IH.out B (.agg #[.int .i64 B.kind, .slice E B.args.length e]) _ (by omega) (by omega) hB ?_).mono ?_)
               · exact IsTy.keep (S := (· < w.heap.size)) (w := w) (w' := w1) (fun b h => by have := Hsz.out; have := hbs1.size; omega) (fun p hp => (hbw1.cell (by omega)).trans (HbW.out.cell hp)) B HkB.out
               rintro e w2 ⟨rfl, hbx2⟩
               have hbs2 : Below W.heap.size W w2 := hbs1.trans (hbx2.mono hbs1.size)
               have hbw2 : Below (w.heap.size + 1) W w2 := hbs2.mono (by have := Hsz.out; omega)))
        go_wp2_with fail
        all_goals go_ret
        all_goals exact ⟨ret_num (by have := hwr.out; rw [level_fun]; omega), HbW.out.trans (hbs2.mono (by have := Hsz.out; omega))⟩

set_option maxHeartbeats 1000000 in
theorem level_any (n : Nat) : ∀ (T : Ty) (v : Value) (w : World), T.nodes ≤ n → n ≤ 100000 → T.ok = true → IsTy (· < w.heap.size) w T v →
    Calls Try.prog 40 #[v] w (LevelR T w) := by
  induction n with
  | zero => intro T; have := nodes_pos T; omega
  | succ n ih =>
    intro T v w hn hb hok hT
    have IH := Lib.hid ih
    clear ih
    obtain ⟨A0, c0, rfl⟩ := hT.form
    rcases Ty.ok_cases hok with ⟨k, hk, rfl⟩ | ⟨k, A, B, hk, rfl, hA, hB⟩
    · rcases hk with rfl | rfl | rfl
      all_goals
        simp only [Ty.kind, Ty.args, List.length_nil]
        go_enter Try.func40, Try.ntmps40
        go_wp2_with fail
        go_ret
        exact ⟨by simp [level_leaf], (Below.refl _ _).alloc (Nat.le_refl _) _⟩
    · simp only [Ty.nodes, nodesAll] at hn
      simp only [Ty.kind, Ty.args, List.length_cons, List.length_nil, Nat.reduceAdd] at hT ⊢
      obtain ⟨a, D, d, E, e, rfl, ha, g0, g1, k0, k1, gA, kB⟩ := hT.two
      have la := level_le _ A (Nat.le_refl _) hA
      have lb := level_le _ B (Nat.le_refl _) hB
      have hwr := Lib.hid (IntWalk.i64_in ((A.level : Int) + 1) (by omega))
      rcases hk with rfl | rfl
      · go_enter Try.func40, Try.ntmps40
        go_wp2_with fail
        generalize hW : w.alloc (Obj.cells #[Value.int IntKind.i64 3, Value.slice (some a) 2 c0] 25) = W
        have hsz : W.heap.size = w.heap.size + 1 := by rw [← hW]; simp
        have hbW : Below w.heap.size w W := by rw [← hW]; exact (Below.refl _ _).alloc (Nat.le_refl _) _
        have b0 : Blk W w.heap.size 25 #[.int .i64 3, .slice (some a) 2 c0] := by rw [← hW]; exact Blk.new _ _ _
        have HSK := Lib.hid (level_keeps hbW b0 ha g0 g1 k0 k1)
        have HW := Lib.hid hW
        have Hsz := Lib.hid hsz
        have HbW := Lib.hid hbW
        have HgA := Lib.hid gA
        have HkB := Lib.hid kB
        clear hW hsz hbW b0 g0 g1 k0 k1 gA kB hT
        obtain ⟨hSK, q0, q1, q2, q3, q4, q5⟩ := HSK.out W (Below.refl _ _)
        go_region_held3 (fun w' => Below (w.heap.size + 1) W w' ∧ w'.cell? ⟨w.heap.size, 0, none⟩ = some (.int .i64 3) ∧ w'.cell? ⟨w.heap.size, 1, none⟩ = some (.slice (some a) 2 c0) ∧
            w'.cell? a = some (.int .i64 A.kind) ∧ w'.cell? ⟨a.block, a.off + 1, none⟩ = some (.slice D A.args.length d) ∧
            w'.cell? ⟨a.block, a.off + 2, none⟩ = some (.int .i64 B.kind) ∧ w'.cell? ⟨a.block, a.off + 2 + 1, none⟩ = some (.slice E B.args.length e))
          (first | exact HSK.out _ (Below.refl _ _).drew | exact HSK.out _ hbw1 | exact HSK.out _ hbw2 | go_keep)
          (first
            | (go_at_call 40
               (with_reducible refine (IH.out A (.agg #[.int .i64 A.kind, .slice D A.args.length d]) _ (by omega) (by omega) hA ?_).mono ?_)
               · exact IsTy.keep (S := (· < w.heap.size)) (w := w) (w' := W.drew) (fun b h => by have := Hsz.out; show b < W.heap.size; omega) (fun p hp => (World.cell?_drew W p).trans (HbW.out.cell hp)) A HgA.out
               rintro e w1 ⟨rfl, hbx1⟩
               have hbs1 : Below W.heap.size W w1 := ((Below.refl _ W).drew).trans (hbx1.mono (Nat.le_refl _))
               have hbw1 : Below (w.heap.size + 1) W w1 := hbs1.mono (by have := Hsz.out; omega))
            | (go_at_call 40
               (with_reducible refine (IH.out B (.agg #[.int .i64 B.kind, .slice E B.args.length e]) _ (by omega) (by omega) hB ?_).mono ?_)
               · exact IsTy.keep (S := (· < w.heap.size)) (w := w) (w' := w1) (fun b h => by have := Hsz.out; have := hbs1.size; omega) (fun p hp => (hbw1.cell (by omega)).trans (HbW.out.cell hp)) B HkB.out
               rintro e w2 ⟨rfl, hbx2⟩
               have hbs2 : Below W.heap.size W w2 := hbs1.trans (hbx2.mono hbs1.size)
               have hbw2 : Below (w.heap.size + 1) W w2 := hbs2.mono (by have := Hsz.out; omega)))
        go_wp2_with fail
        all_goals go_ret
        all_goals exact ⟨ret_num (by rw [level_pair]; omega), HbW.out.trans (hbs2.mono (by have := Hsz.out; omega))⟩
      · go_enter Try.func40, Try.ntmps40
        go_wp2_with fail
        generalize hW : w.alloc (Obj.cells #[Value.int IntKind.i64 4, Value.slice (some a) 2 c0] 25) = W
        have hsz : W.heap.size = w.heap.size + 1 := by rw [← hW]; simp
        have hbW : Below w.heap.size w W := by rw [← hW]; exact (Below.refl _ _).alloc (Nat.le_refl _) _
        have b0 : Blk W w.heap.size 25 #[.int .i64 4, .slice (some a) 2 c0] := by rw [← hW]; exact Blk.new _ _ _
        have HSK := Lib.hid (level_keeps hbW b0 ha g0 g1 k0 k1)
        have HW := Lib.hid hW
        have Hsz := Lib.hid hsz
        have HbW := Lib.hid hbW
        have HgA := Lib.hid gA
        have HkB := Lib.hid kB
        clear hW hsz hbW b0 g0 g1 k0 k1 gA kB hT
        obtain ⟨hSK, q0, q1, q2, q3, q4, q5⟩ := HSK.out W (Below.refl _ _)
        go_region_held3 (fun w' => Below (w.heap.size + 1) W w' ∧ w'.cell? ⟨w.heap.size, 0, none⟩ = some (.int .i64 4) ∧ w'.cell? ⟨w.heap.size, 1, none⟩ = some (.slice (some a) 2 c0) ∧
            w'.cell? a = some (.int .i64 A.kind) ∧ w'.cell? ⟨a.block, a.off + 1, none⟩ = some (.slice D A.args.length d) ∧
            w'.cell? ⟨a.block, a.off + 2, none⟩ = some (.int .i64 B.kind) ∧ w'.cell? ⟨a.block, a.off + 2 + 1, none⟩ = some (.slice E B.args.length e))
          (first | exact HSK.out _ (Below.refl _ _).drew | exact HSK.out _ hbw1 | exact HSK.out _ hbw2 | go_keep)
          (first
            | (go_at_call 40
               (with_reducible refine (IH.out A (.agg #[.int .i64 A.kind, .slice D A.args.length d]) _ (by omega) (by omega) hA ?_).mono ?_)
               · exact IsTy.keep (S := (· < w.heap.size)) (w := w) (w' := W.drew) (fun b h => by have := Hsz.out; show b < W.heap.size; omega) (fun p hp => (World.cell?_drew W p).trans (HbW.out.cell hp)) A HgA.out
               rintro e w1 ⟨rfl, hbx1⟩
               have hbs1 : Below W.heap.size W w1 := ((Below.refl _ W).drew).trans (hbx1.mono (Nat.le_refl _))
               have hbw1 : Below (w.heap.size + 1) W w1 := hbs1.mono (by have := Hsz.out; omega))
            | (go_at_call 40
               (with_reducible refine (IH.out B (.agg #[.int .i64 B.kind, .slice E B.args.length e]) _ (by omega) (by omega) hB ?_).mono ?_)
               · exact IsTy.keep (S := (· < w.heap.size)) (w := w) (w' := w1) (fun b h => by have := Hsz.out; have := hbs1.size; omega) (fun p hp => (hbw1.cell (by omega)).trans (HbW.out.cell hp)) B HkB.out
               rintro e w2 ⟨rfl, hbx2⟩
               have hbs2 : Below W.heap.size W w2 := hbs1.trans (hbx2.mono hbs1.size)
               have hbw2 : Below (w.heap.size + 1) W w2 := hbs2.mono (by have := Hsz.out; omega)))
        go_wp2_with fail
        all_goals go_ret
        all_goals exact ⟨ret_num (by have := hwr.out; rw [level_fun]; omega), HbW.out.trans (hbs2.mono (by have := Hsz.out; omega))⟩
end Go.Proofs.Ytlmpofbiojjjgaa
