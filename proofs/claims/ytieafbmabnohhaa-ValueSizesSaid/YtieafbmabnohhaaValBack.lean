/- slices.Backward over a list of numbers. -/
import Derived.Test.YtieafbmabnohhaaValSize
import Derived.Test.YtieafbmabnohhaaRangeQ
import Derived.Sort.LoopGhostIn
namespace Go.Proofs.Ytieafbmabnohhaa
open Go.RowKit Go.Shelf

attribute [local go_sem] Oper.semAt_some

theorem makeFunc_runV (fn : Fn) (first cap : Array Value) (w : World) : (Instr.makeFunc fn first cap).run Try.prog w = .ok (.func fn first cap) w := rfl

def BackR (s : Value) (w : World) (e : Ending) (w' : World) : Prop :=
  e = .returned (.func (.func 35) #[] #[.pointer (some ⟨w.heap.size, 0, none⟩)]) ∧ w.alloc (.cells #[s] 22) = w'
theorem backward_any (A : Option Addr) (n c : Nat) (w : World) : Calls Try.prog 33 #[.slice A n c] w (BackR (.slice A n c) w) := by
  have hmf := makeFunc_runV
  go_enter Try.func33, Try.ntmps33
  go_wp2_with fail
  go_ret
  exact ⟨rfl, rfl⟩

/-- A number that the iterator hands out, with some place. -/
def EncB (x : Int) (args : Array Value) (_w : World) : Prop := ∃ i : Int, args = #[.int .i64 i, .int .i64 x]
def BackRel (m : List Int) (J : List Int → World → Prop) (k : Nat) (s : Value) (wr : World) : Prop :=
  k ≤ m.length ∧ s = .int .i64 ((k : Int) - 1) ∧ J (m.reverse.take (m.length - k)) wr
theorem rev_step {m : List Int} {k : Nat} (h : k < m.length) : m.reverse.take (m.length - (k + 1)) ++ [m[k]] = m.reverse.take (m.length - k) := by
  have h1 : m.length - (k + 1) < m.reverse.length := by simp; omega
  have h2 := List.take_succ_eq_append_getElem h1
  rw [show m.length - k = m.length - (k + 1) + 1 by omega, h2]
  congr 2
  rw [List.getElem_reverse]
  congr 1
  omega

set_option maxRecDepth 100000 in
set_option maxHeartbeats 2000000 in
theorem backward_iter (n q : Nat) (S : Nat → Prop) (m : List Int) (A : Option Addr) (c : Nat) (w : World) (hn : 1 ≤ n) (hl : m.length ≤ 400000) (hq : q < w.heap.size) (hk : Blk w q 22 #[.slice A m.length c]) :
    IteratesQ Try.prog (fun W => Blk W q 22 #[.slice A m.length c] ∧ ZR.Sl S W m (.slice A m.length c)) n 35 #[.pointer (some ⟨q, 0, none⟩)] EncB m.reverse w := by
  intro l J Jx W hW hJK hY h0
  have q0 : W.cell? ⟨q, 0, none⟩ = some (.slice A m.length c) := by simpa using (hk.below hW hq).cell 0
  have HY := Lib.hid hY
  have HK := Lib.hid hJK
  clear hY hJK hk
  refine callsIn_of_wp Try.func35 rfl trivial ?_ rfl
  simp only [Try.ntmps35, List.size_toArray, List.length_cons, List.length_nil, Nat.reduceAdd, Nat.reduceSub, Array.replicate_succ, Array.replicate_zero, List.push_toArray, List.append_toArray, List.nil_append, List.cons_append]
  gi_wp2
  gi_loopg [3] m.length (fun k s wr => BackRel m J k s wr)
  case atStart => exact ⟨Nat.le_refl _, rfl, by simpa using h0⟩
  case round =>
    obtain ⟨hkm, rfl, hJp⟩ := hrel
    obtain ⟨j, hj⟩ | hz : (∃ j, gk = j + 1) ∨ gk = 0 := by cases gk; exact .inr rfl; exact .inl ⟨_, rfl⟩
    · subst hj
      have hjm : j < m.length := by omega
      obtain ⟨hkb, hsl⟩ := HK.out _ _ hJp
      obtain ⟨a, rfl, ha, hat⟩ := hsl.get j hjm
      have q1 := at_z hat
      simp only [show ZR.n = 1 from rfl, Nat.mul_one] at q1
      have qk := hkb.cell 0
      simp at qk
      have HST := Lib.hid (rev_step hjm)
      have hpre : m.reverse.take (m.length - (j + 1)) ++ [m[j]] <+: m.reverse := by rw [HST.out]; exact List.take_prefix _ _
      obtain ⟨fn, tmps, assign, body, hy, hR⟩ := HY.out _ m[j] #[.int .i64 j, .int .i64 m[j]] wr hJp hpre ⟨j, rfl⟩
      have ej : ((j + 1 : Nat) : Int) - 1 = (j : Int) := by omega
      rw [ej]
      clear hsl hat hpre hkm ej hkb
      gi_wp2
      refine hR.mono ?_
      rintro e W' (⟨rfl, hJ'⟩ | ⟨rfl, hJx'⟩)
      · gi_wp2
        gi_roundg j
        case rel => exact ⟨by omega, rfl, by rw [← HST.out]; exact hJ'⟩
        case measure => omega
      · gi_wp2
        refine bodyPost_ret (results_none rfl _ _ _) rfl ?_
        exact ⟨⟨_, rfl⟩, .inr hJx'⟩
    · subst hz
      gi_wp2
      go_end0
      rw [Nat.sub_zero, List.take_of_length_le (by simp)] at hJp
      exact ⟨⟨_, rfl⟩, .inl hJp⟩
end Go.Proofs.Ytieafbmabnohhaa
