/- Check, Level, Data, Result. -/
import Derived.Test.YtlmpofbiojjjgaaSize
namespace Go.Proofs.Ytlmpofbiojjjgaa
open Go.RowKit Go.Shelf

attribute [local go_sem] Oper.semAt_some

theorem err_range (T : Ty) : T.err = 0 ∨ T.err = 2 ∨ T.err = 4 := by
  unfold Ty.err
  split
  · split <;> simp
  · simp
theorem err_zero {T : Ty} : T.err = 0 ↔ T.ok = true ∧ T.nodes ≤ 64 := by
  unfold Ty.err; split <;> rename_i h
  · split <;> simp_all
  · simp_all

def CheckR (T : Ty) (w : World) (e : Ending) (w' : World) : Prop := e = .returned (.int .i64 T.err) ∧ Below w.heap.size w w'

/-- A value is boxed, and stands in the new world as it stood. -/
theorem IsTy.boxed {w : World} {T : Ty} {v : Value} (h : IsTy (· < w.heap.size) w T v) {W : World} (hb : Below w.heap.size w W) : IsTy (· < W.heap.size) W T v :=
  IsTy.keep (fun b hb' => Nat.lt_of_lt_of_le hb' hb.size) (fun p hp => hb.cell hp) _ h

set_option maxHeartbeats 400000 in
theorem check_any (T : Ty) (v : Value) (w : World) (hsz : T.nodes ≤ 100000) (hT : IsTy (· < w.heap.size) w T v) :
    Calls Try.prog 20 #[v] w (CheckR T w) := by
  obtain ⟨A, c, rfl⟩ := hT.form
  have hb : Below w.heap.size w (w.alloc (.cells #[.int .i64 T.kind, .slice A T.args.length c] 25)) := (Below.refl _ _).alloc (Nat.le_refl _) _
  have hT1 := hT.boxed hb
  go_enter Try.func20, Try.ntmps20
  go_wp2_with (go_at_call 12; refine (size_any T _ _ hsz hT1).mono ?_; rintro e w' ⟨rfl, hb2⟩)
  go_ret
  exact ⟨rfl, hb.trans (hb2.mono (by simp))⟩

/-- What comes with an error, and what comes without. -/
def LevelResult (T : Ty) (w : World) (e : Ending) (w' : World) : Prop := e = .returned (.tuple #[.int .i64 (if T.err = 0 then (T.level : Int) else 0), .int .i64 T.err]) ∧ Below w.heap.size w w'

set_option maxHeartbeats 400000 in
theorem levelOf_any (T : Ty) (v : Value) (w : World) (hsz : T.nodes ≤ 100000) (hT : IsTy (· < w.heap.size) w T v) :
    Calls Try.prog 14 #[v] w (LevelResult T w) := by
  obtain ⟨A, c, rfl⟩ := hT.form
  have hb : Below w.heap.size w (w.alloc (.cells #[.int .i64 T.kind, .slice A T.args.length c] 25)) := (Below.refl _ _).alloc (Nat.le_refl _) _
  have hT1 := hT.boxed hb
  have hbx := Blk.new w 25 #[.int .i64 T.kind, .slice A T.args.length c]
  by_cases he : T.err = 0
  · have e2 : (T.err != 0) = false := by simp [he]
    have HE := Lib.hid he
    have hok := (err_zero.1 he).1
    clear he
    go_enter Try.func14, Try.ntmps14
    go_wp2_with (go_at_call 20; refine (check_any T _ _ hsz hT1).mono ?_; rintro e w' ⟨rfl, hb2⟩; obtain ⟨q0, q1, _, _⟩ := (hbx.below hb2 hbx.lt).facts2)
    refine (level_any 100000 T _ w' hsz (by omega) hok (hT1.boxed hb2)).mono ?_
    rintro e w'' ⟨rfl, hb3⟩
    go_wp2_with fail
    go_ret2
    exact ⟨by rw [HE.out]; rfl, (hb.trans (hb2.mono (by simp))).trans (hb3.mono (by have := hb2.size; simp at this; omega))⟩
  · have e2 : (T.err != 0) = true := by simp [he]
    have HE := Lib.hid he
    clear he
    go_enter Try.func14, Try.ntmps14
    go_wp2_with (go_at_call 20; refine (check_any T _ _ hsz hT1).mono ?_; rintro e w' ⟨rfl, hb2⟩)
    go_ret2
    exact ⟨by rw [if_neg HE.out]; rfl, hb.trans (hb2.mono (by simp))⟩

def Ty.data (T : Ty) : Bool := T.order.all fun t => t.kind != 4

def DataResult (T : Ty) (w : World) (e : Ending) (w' : World) : Prop := e = .returned (.tuple #[.bool (decide (T.err = 0) && T.data), .int .i64 T.err]) ∧ Below w.heap.size w w'

def dataWorld (w : World) (x y : Value) : World :=
  ((w.alloc (Obj.cells #[x, y] 25)).alloc (Obj.cells #[Value.bool false] 4)).alloc (Obj.cells #[Value.int IntKind.i64 0] 33)

theorem dataWorld_facts (w : World) (x y : Value) : (dataWorld w x y).heap.size = w.heap.size + 3 ∧ Below w.heap.size w (dataWorld w x y) ∧ Blk (dataWorld w x y) w.heap.size 25 #[x, y] ∧ Blk (dataWorld w x y) (w.heap.size + 1) 4 #[.bool false] ∧
    Blk (dataWorld w x y) (w.heap.size + 1 + 1) 33 #[.int .i64 0] := by
  have a1 := World.size_alloc w (Obj.cells #[x, y] 25)
  have b0 := Blk.new w 25 #[x, y]
  have k1 : Below w.heap.size w (w.alloc (Obj.cells #[x, y] 25)) := (Below.refl _ _).alloc (Nat.le_refl _) _
  generalize h1 : w.alloc (Obj.cells #[x, y] 25) = w1 at a1 b0 k1
  have a2 := World.size_alloc w1 (Obj.cells #[Value.bool false] 4)
  have b1 := Blk.new w1 4 #[.bool false]
  have k2 : Below w.heap.size w (w1.alloc (Obj.cells #[Value.bool false] 4)) := k1.alloc (by omega) _
  have c0 := b0.alloc (Obj.cells #[Value.bool false] 4)
  generalize h2 : w1.alloc (Obj.cells #[Value.bool false] 4) = w2 at a2 b1 k2 c0
  have a3 := World.size_alloc w2 (Obj.cells #[Value.int IntKind.i64 0] 33)
  have b2 := Blk.new w2 33 #[.int .i64 0]
  have e : dataWorld w x y = w2.alloc (Obj.cells #[Value.int IntKind.i64 0] 33) := by rw [← h2, ← h1]; rfl
  rw [e]
  have z1 : w1.heap.size = w.heap.size + 1 := a1
  have z2 : w2.heap.size = w.heap.size + 1 + 1 := by omega
  rw [z1] at b1
  rw [z2] at b2
  exact ⟨by omega, k2.alloc (by omega) _, c0.alloc _, b1.alloc _, b2⟩

theorem data_wrong {T x : Ty} {pre : List Ty} (h : pre ++ [x] <+: T.order) (hx : x.kind = 4) : T.data = false := by
  have h2 : x ∈ T.order := h.subset (by simp)
  rw [Ty.data, Bool.eq_false_iff]
  intro h3
  have := List.all_eq_true.1 h3 x h2
  simp [hx] at this

def DataI (w : World) (pre : List Ty) (W : World) : Prop :=
  Below w.heap.size w W ∧ Blk W (w.heap.size + 1) 4 #[.bool false] ∧ Blk W (w.heap.size + 1 + 1) 33 #[.int .i64 0] ∧ (pre.all fun t => t.kind != 4) = true
def DataIx (T : Ty) (w : World) (c : Code) (W : World) : Prop :=
  c = .ret ∧ Below w.heap.size w W ∧ Blk W (w.heap.size + 1) 4 #[.bool false] ∧ Blk W (w.heap.size + 1 + 1) 33 #[.int .i64 0] ∧ T.data = false
theorem dataI_low {w : World} {B : Nat} (hB : w.heap.size + 3 ≤ B) (pre : List Ty) : Low B (DataI w pre) := by
  rintro W W' ⟨h0, h1, h2, h4⟩ hb
  exact ⟨h0.trans (hb.mono (by omega)), h1.below hb (by omega), h2.below hb (by omega), h4⟩
theorem dataIx_low {T : Ty} {w : World} {B : Nat} (hB : w.heap.size + 3 ≤ B) (c : Code) : Low B (DataIx T w c) := by
  rintro W W' ⟨hc, h0, h1, h2, h3⟩ hb
  exact ⟨hc, h0.trans (hb.mono (by omega)), h1.below hb (by omega), h2.below hb (by omega), h3⟩

set_option maxRecDepth 100000 in
set_option maxHeartbeats 2000000 in
theorem data_any (T : Ty) (v : Value) (w : World) (hsz : T.nodes ≤ 100000) (hT : IsTy (· < w.heap.size) w T v) :
    Calls Try.prog 16 #[v] w (DataResult T w) := by
  obtain ⟨A, c, rfl⟩ := hT.form
  obtain ⟨hz, hb, k0, k1, k2⟩ := dataWorld_facts w (.int .i64 T.kind) (.slice A T.args.length c)
  have hdw : ((w.alloc (Obj.cells #[Value.int IntKind.i64 T.kind, Value.slice A T.args.length c] 25)).alloc (Obj.cells #[Value.bool false] 4)).alloc (Obj.cells #[Value.int IntKind.i64 0] 33) = dataWorld w (.int .i64 T.kind) (.slice A T.args.length c) := rfl
  generalize dataWorld w (.int .i64 T.kind) (.slice A T.args.length c) = W0 at hz hb k0 k1 k2 hdw
  have hT0 := hT.boxed hb
  obtain ⟨q00, q01, _, _⟩ := k0.facts2
  have HZ := Lib.hid hz
  have HS := Lib.hid hdw
  clear hz hdw
  by_cases he : T.err = 0
  · have e2 : (T.err != 0) = false := by simp [he]
    have HE := Lib.hid he
    clear he
    refine (callsIn_wide (n := 3)).1 (callsIn_of_wp_marks Try.func16 rfl trivial ?_ rfl)
    simp only [Try.ntmps16, List.size_toArray, List.length_cons, List.length_nil, Nat.reduceAdd, Nat.reduceSub, Array.replicate_succ, Array.replicate_zero, List.push_toArray, List.append_toArray, List.nil_append, List.cons_append]
    gi_wp2
    rw [HS.out]
    gi_wp2_with (first
      | (refine ⟨trivial, ?_⟩; gi_at_call 20; refine (callsIn_wide.2 (check_any T _ _ hsz hT0)).mono ?_; rintro e w' ⟨rfl, hb2⟩; obtain ⟨q0, q1, _, _⟩ := (k0.below hb2 k0.lt).facts2)
      | (refine ⟨trivial, ?_⟩; gi_at_call 37; refine (callsIn_wide.2 (nodes_any _ _ _)).mono ?_; rintro e w' ⟨rfl, rfl⟩))
    have hzz := HZ.out
    have hzw := hb2.size
    have hb3 : Below w.heap.size w (w'.alloc (.cells #[.int .i64 T.kind, .slice A T.args.length c] 25)) := (hb.trans (hb2.mono (by omega))).alloc (by omega) _
    have j1 := (k1.below hb2 (by omega)).alloc (.cells #[.int .i64 T.kind, .slice A T.args.length c] 25)
    have j2 := (k2.below hb2 (by omega)).alloc (.cells #[.int .i64 T.kind, .slice A T.args.length c] 25)
    have j4 := Blk.new w' 25 #[.int .i64 T.kind, .slice A T.args.length c]
    have hz1 := World.size_alloc w' (.cells #[.int .i64 T.kind, .slice A T.args.length c] 25)
    generalize w'.alloc (.cells #[.int .i64 T.kind, .slice A T.args.length c] 25) = W1 at hb3 j1 j2 j4 hz1 ⊢
    have hT1 : IsTy (· < w.heap.size) W1 T (.agg #[.int .i64 T.kind, .slice A T.args.length c]) := IsTy.keep (fun b h => h) (fun p hp => hb3.cell hp) _ hT
    refine range_wp (by omega) (gf := 46) (lb := #[.pointer (some ⟨w'.heap.size, 0, none⟩)]) rfl (enters_of Try.func46 (by kernel_rfl) rfl) (n₀ := w.heap.size) (by omega)
      (enc := EncTy w.heap.size) (xs := T.order) (fun x args W h => by obtain ⟨v, rfl, _⟩ := h; rfl)
      (nodes_iter _ _ _ T _ W1 (by omega) (by omega) hT1 hsz (by omega) (fun x y e => by simp at e; obtain ⟨rfl, rfl⟩ := e; exact j4))
      (DataI w) (DataIx T w) (fun pre => dataI_low (by omega) pre) (fun c => dataIx_low (by omega) c) ⟨hb3, j1, j2, rfl⟩ ?round ?done ?stop
    case round =>
      rintro pre x args W ⟨j0, j1, j2, j4⟩ hpre hW ⟨v, rfl, hx⟩
      obtain ⟨A1, c1, rfl⟩ := hx.form
      gi_wp2
      refine ⟨(Below.refl _ _).alloc (Nat.le_refl _) _, ?_⟩
      rintro W₂ hg ⟨i0, i1, i2, i4⟩
      have hbx : Blk W₂ W.heap.size 25 #[.int .i64 x.kind, .slice A1 x.args.length c1] := (Blk.new W _ _).grown hg (by simp; omega)
      obtain ⟨b0, b1, _, _⟩ := hbx.facts2
      obtain ⟨d1, f1⟩ := i1.facts1
      obtain ⟨d2, f2⟩ := i2.facts1
      have hw := i0.size
      have hzg := hg.size
      simp only [World.size_alloc] at hzg
      clear hg
      by_cases hk : x.kind = 4
      · have e4 : (x.kind == 4) = true := by simp [hk]
        have hno := Lib.hid (data_wrong hpre hk)
        have HK := Lib.hid hk
        clear hk
        gi_wp2
        refine ⟨?_, rfl, (i0.setCell (p := ⟨_, 0, none⟩) (by first | (simp; done) | (simp; omega)) _).setCell (p := ⟨_, 0, none⟩) (by first | (simp; done) | (simp; omega)) _, (i1.set1 (.bool false)).far (by simp) _, (i2.far (by simp) _).set1 (.int .i64 0), hno.out⟩
        exact (Kept.of_grownBy (only_setCell (only_refl W₂ (some (w.heap.size + 1))) (.inl rfl) _) (fun k e => by cases e; omega)).trans
          (Kept.of_grownBy (only_setCell (only_refl _ (some (w.heap.size + 1 + 1))) (.inl rfl) _) (fun k e => by cases e; omega))
      · have e4 : (x.kind == 4) = false := by simp [hk]
        have HK := Lib.hid hk
        clear hk
        gi_wp2
        exact ⟨Kept.refl _ _ _, i0, i1, i2, by have := HK.out; simp [i4, this]⟩
    case done =>
      rintro W ⟨j0, j1, j2, j4⟩ hzW hD
      obtain ⟨q1, f1⟩ := j1.facts1
      obtain ⟨q2, f2⟩ := j2.facts1
      gi_wp2
      have z1 := (((j1.set1 (.bool true)).far (p := ⟨w.heap.size + 1 + 1, 0, none⟩) (by simp) (.int .i64 0)).putObj (D := W1.heap.size) (.deferred none) (by omega)).facts1.1
      have z2 := (((j2.far (p := ⟨w.heap.size + 1, 0, none⟩) (by simp) (.bool true)).set1 (.int .i64 0)).putObj (D := W1.heap.size) (.deferred none) (by omega)).facts1.1
      refine marks_end (v := .tuple #[.bool true, .int .i64 0]) ?_ (by simp [results, Try.results16, go_sem, z1, z2]) ⟨by rw [HE.out]; unfold Ty.data; rw [j4]; rfl, below_put ((j0.setCell (p := ⟨_, 0, none⟩) (by first | (simp; done) | (simp; omega)) _).setCell (p := ⟨_, 0, none⟩) (by first | (simp; done) | (simp; omega)) _) _ (Nat.le_refl _) (by omega)⟩
      rw [Below.heap_setCell _ _ _ _ (by simp; omega), Below.heap_setCell _ _ _ _ (by simp; omega)]
      exact hD
    case stop =>
      rintro c W ⟨rfl, j0, j1, j2, hno⟩ hzW hD
      gi_wp2
      have z1 := (j1.putObj (D := W1.heap.size) (.deferred none) (by omega)).facts1.1
      have z2 := (j2.putObj (D := W1.heap.size) (.deferred none) (by omega)).facts1.1
      exact marks_end (v := .tuple #[.bool false, .int .i64 0]) hD (by simp [results, Try.results16, go_sem, z1, z2]) ⟨by rw [HE.out, hno]; rfl, below_put j0 _ (Nat.le_refl _) (by omega)⟩
  · have e2 : (T.err != 0) = true := by simp [he]
    have HE := Lib.hid he
    clear he
    go_enter Try.func16, Try.ntmps16
    go_wp2_with fail
    rw [HS.out]
    go_wp2_with (go_at_call 20; refine (check_any T _ _ hsz hT0).mono ?_; rintro e w' ⟨rfl, hb2⟩; obtain ⟨d1, f1⟩ := (k1.below hb2 (by have := HZ.out; omega)).facts1; obtain ⟨d2, f2⟩ := (k2.below hb2 (by have := HZ.out; omega)).facts1)
    have hzz := HZ.out
    have z1 := (((k1.below hb2 (by omega)).set1 (.bool false)).far (p := ⟨w.heap.size + 1 + 1, 0, none⟩) (by simp) (.int .i64 T.err)).facts1.1
    have z2 := (((k2.below hb2 (by omega)).far (p := ⟨w.heap.size + 1, 0, none⟩) (by simp) (.bool false)).set1 (.int .i64 T.err)).facts1.1
    exact bodyPost_ret (v := .tuple #[.bool false, .int .i64 T.err]) (by simp [results, Try.results16, go_sem, z1, z2]) rfl ⟨by simp [HE.out], ((hb.trans (hb2.mono (by omega))).setCell (p := ⟨_, 0, none⟩) (by first | (simp; done) | (simp; omega)) _).setCell (p := ⟨_, 0, none⟩) (by first | (simp; done) | (simp; omega)) _⟩
end Go.Proofs.Ytlmpofbiojjjgaa
