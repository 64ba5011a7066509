/- The sanity check of the second chapter. -/
import Derived.Test.YtieafbmabnohhaaDoorTypeTop
import Derived.Test.YtieafbmabnohhaaDoorRefSame
namespace Go.Proofs.YtieafbmabnohhaaDoor
open Go.RowKit

def identT : Tm := .mk 2 0 tyNat [.mk 1 0 .zero []]
theorem ident_typ : identT.typeOf [] = .ok (tyFun tyNat tyNat) := by
  have h1 : ctxErr [] = 0 := rfl
  have h2 : identT.err = 0 := by decide
  unfold Tm.typeOf
  rw [if_pos h1, if_pos h2]
  rfl

theorem refSame_is {S T : Ty} {u v : Value} {w : World} (b : Bool) (hb : S.eqb T = b) (hS0 : S.nodes ≤ 400000) (hT0 : T.nodes ≤ 400000) (hS : IsTy (· < w.heap.size) w S u) (hT : IsTy (· < w.heap.size) w T v) :
    Calls Tryd.prog 24 #[u, v] w fun e w' => e = .returned (.bool b) ∧ Below w.heap.size w w' := by
  subst hb
  exact refSame_any 400000 S T u v w hS0 (Nat.le_refl _) hS hT hT0

theorem typeTop_is {t : Tm} {g : List Ty} {U : Ty} {s v : Value} {w : World} (hU : t.typeOf g = .ok U) (htab : Tab w) (hsz : t.bulk ≤ 390000) (hgs : nodesAll g ≤ 400000) (hlen : g.length ≤ 1000000) (hnil : g = [] → s = .slice none 0 0) (hg : TyR.Sl (· < w.heap.size) w g s)
    (hT : IsTm (· < w.heap.size) w t v) : Calls Tryd.prog 21 #[s, v] w fun e w' => ∃ v', e = .returned (.tuple #[v', .int .i64 0]) ∧ IsTy (· < w'.heap.size) w' U v' ∧ Below w.heap.size w w' := by
  refine (typeTop_any t g s v w htab hsz hgs hlen hnil hg hT).mono ?_
  rintro e w' ⟨h1, h2⟩
  rw [hU] at h2
  obtain ⟨v', h3, h4⟩ := h2
  exact ⟨v', h3, h4, h1⟩

set_option maxRecDepth 100000 in
set_option maxHeartbeats 4000000 in
theorem saneT_any (w : World) (htab : Tab w) : Calls Tryd.prog 14 #[] w fun e w' => e = .returned (.bool true) ∧ Below w.heap.size w w' := by
  have HTab := Lib.hid htab
  clear htab
  go_enter Tryd.func14, Tryd.ntmps14
  go_wp2_with fail
  refine (nat_any _).mono ?_
  rintro e w1 ⟨rfl, hb1⟩
  go_wp2_with fail
  refine (var_any 0 w1).mono ?_
  rintro e w2 ⟨rfl, hb2⟩
  have hb02 : Below w.heap.size w w2 := hb1.trans (hb2.mono hb1.size)
  go_wp2_with fail
  obtain ⟨b3, z3, k3⟩ := new_blk hb02 hb02.size #[.int .i64 1, .int .i64 0, .int .i64 0, .slice none 0 0, .slice none 0 0] 34
  generalize w2.alloc (Obj.cells #[.int .i64 1, .int .i64 0, .int .i64 0, .slice none 0 0, .slice none 0 0] 34) = W3 at b3 z3 k3 ⊢
  refine (t_any 2 tyNat [.mk 1 0 .zero []] _ _ W3 (by decide) (by decide) (IsTy.leaf _ _ 1) (Rep.Sl.of_blk (R := TmR) (S := (· < W3.heap.size)) k3 (tm_one (var_is _ _ 0)) (fun _ h => h) (by omega) rfl)).mono ?_
  rintro e w4 ⟨v4, rfl, ht4, hb4⟩
  obtain ⟨B4, d4, A4, c4, rfl, _⟩ := ht4.form
  have hb04 : Below w.heap.size w w4 := b3.trans (hb4.mono b3.size)
  have HT4 := Lib.hid ht4
  have HTab4 := Lib.hid (HTab.out.after hb04)
  clear ht4
  go_wp2_with fail
  refine (typeTop_is (t := identT) (g := []) ident_typ HTab4.out (by decide) (by decide) (by decide) (fun _ => rfl) (Rep.Sl.nil _ _) (IsTm.keep (fun b h => h.2) (fun _ _ => rfl) _ HT4.out)).mono ?_
  rintro e w5 ⟨v5, rfl, hv5, hb5⟩
  obtain ⟨A5, c5, rfl⟩ := hv5.form2
  have hb05 : Below w.heap.size w w5 := hb04.trans (hb5.mono hb04.size)
  obtain ⟨b6, z6, k6⟩ := new_blk hb05 hb05.size #[.int .i64 4, .slice A5 2 c5] 30
  have hv6 := hv5.boxed (below_box w5 (Obj.cells #[.int .i64 4, .slice A5 2 c5] 30))
  have HW := Lib.hid (And.intro b6 (And.intro z6 (And.intro k6 hv6)))
  clear hv5 b6 z6 k6 hv6 b3 z3 k3
  go_wp2_with fail
  obtain ⟨b6, z6, k6, hv6⟩ := HW.out
  generalize w5.alloc (Obj.cells #[.int .i64 4, .slice A5 2 c5] 30) = W6 at b6 z6 k6 hv6 ⊢
  have HV6 := Lib.hid hv6
  have HSK := Lib.hid fun (w1 : World) (h : Below W6.heap.size W6 w1) => And.intro h (And.intro (k6.below h k6.lt).facts2.1 (k6.below h k6.lt).facts2.2.1)
  obtain ⟨_, q0, q1⟩ := HSK.out W6 (Below.refl _ _)
  have n1 : tyNat.nodes ≤ 1000 := by decide
  have n2 : (tyFun tyNat tyNat).nodes ≤ 400000 := by decide
  have hz5 : w5.heap.size < W6.heap.size := by omega
  have HB6 := Lib.hid b6
  clear HW k6 hv6 b6 z6
  go_region_held3 (fun w' => Below W6.heap.size W6 w' ∧ w'.cell? ⟨w5.heap.size, 0, none⟩ = some (.int .i64 4) ∧ w'.cell? ⟨w5.heap.size, 1, none⟩ = some (.slice A5 2 c5))
    (first | with_reducible exact HSK.out _ (Below.refl _ _).drew | with_reducible exact HSK.out _ hb7 | with_reducible exact HSK.out _ hb8 | with_reducible exact HSK.out _ hb9 | with_reducible exact HSK.out _ hb10 | go_keep)
    (first
      | (go_at_call 24
         (with_reducible refine (refSame_is (S := tyFun tyNat tyNat) (T := tyFun tyNat tyNat) true (eqb_self _) n2 n2 (IsTy.keep (S := (· < W6.heap.size)) (fun b h => Nat.lt_of_lt_of_le h hb9.size) (fun p hp => hb9.cell hp) _ HV6.out) (IsTy.keep (fun b h => h.2) (fun _ _ => rfl) _ ht9)).mono ?_)
         rintro e w10 ⟨rfl, hb10'⟩
         have hb10 : Below W6.heap.size W6 w10 := hb9.trans (hb10'.mono hb9.size))
      | (go_at_call 50
         (with_reducible refine (fun_any tyNat tyNat _ _ w8 n1 n1 (IsTy.leaf _ _ 1) (IsTy.leaf _ _ 1)).mono ?_)
         rintro e w9 ⟨v9, rfl, ht9, hb9'⟩
         obtain ⟨A9, c9, rfl⟩ := ht9.form2
         have hb9 : Below W6.heap.size W6 w9 := hb8.trans (hb9'.mono hb8.size))
      | (go_at_call 49
         (with_reducible refine (nat_any w7).mono ?_)
         rintro e w8 ⟨rfl, hb8'⟩
         have hb8 : Below W6.heap.size W6 w8 := hb7.trans (hb8'.mono hb7.size))
      | (go_at_call 49
         (with_reducible refine (nat_any _).mono ?_)
         rintro e w7 ⟨rfl, hb7'⟩
         have hb7 : Below W6.heap.size W6 w7 := ((Below.refl _ W6).drew).trans hb7'))
  go_wp2_with fail
  go_ret
  exact ⟨rfl, HB6.out.trans (hb10.mono HB6.out.size)⟩
end Go.Proofs.YtieafbmabnohhaaDoor
