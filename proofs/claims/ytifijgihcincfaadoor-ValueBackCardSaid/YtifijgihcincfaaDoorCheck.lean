/- Check. -/
import Derived.Test.YtifijgihcincfaaDoorSize
namespace Go.Proofs.YtifijgihcincfaaDoor
open Go.RowKit Go.Shelf

attribute [local go_sem] Oper.semAt_some

theorem err_range (T : Ty) : T.err = 0 ∨ T.err = 2 ∨ T.err = 4 := by
  unfold Ty.err
  split
  · split <;> simp
  · simp
theorem err_zero {T : Ty} : T.err = 0 ↔ T.ok = true ∧ T.nodes ≤ 64 := by
  unfold Ty.err; split <;> rename_i h
  · split <;> simp_all
  · simp_all

def CheckR (T : Ty) (w : World) (e : Ending) (w' : World) : Prop := e = .returned (.int .i64 T.err) ∧ Below w.heap.size w w'

/-- A value is boxed, and stands in the new world as it stood. -/
theorem IsTy.boxed {w : World} {T : Ty} {v : Value} (h : IsTy (· < w.heap.size) w T v) {W : World} (hb : Below w.heap.size w W) : IsTy (· < W.heap.size) W T v :=
  IsTy.keep (fun _b hb' => Nat.lt_of_lt_of_le hb' hb.size) (fun _p hp => hb.cell hp) _ h

set_option maxHeartbeats 400000 in
theorem check_any (T : Ty) (v : Value) (w : World) (hsz : T.nodes ≤ 400000) (hT : IsTy (· < w.heap.size) w T v) :
    Calls Tryd.prog 112 #[v] w (CheckR T w) := by
  obtain ⟨A, c, rfl⟩ := hT.form
  have hb : Below w.heap.size w (w.alloc (.cells #[.int .i64 T.kind, .slice A T.args.length c] 30)) := (Below.refl _ _).alloc (Nat.le_refl _) _
  have hT1 := hT.boxed hb
  go_enter Tryd.func112, Tryd.ntmps112
  go_wp2_with (go_at_call 120; refine (size_any T _ _ hsz hT1).mono ?_; rintro e w' ⟨rfl, hb2⟩)
  go_ret
  exact ⟨rfl, hb.trans (hb2.mono (by simp))⟩

end Go.Proofs.YtifijgihcincfaaDoor
