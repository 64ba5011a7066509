/- value.Check of a value whose nodes are right. -/
import Derived.Test.YtieafbmabnohhaaValForm
import Derived.Test.YtieafbmabnohhaaMakeT
import Derived.Sort.LoopGhostIn
namespace Go.Proofs.Ytieafbmabnohhaa
open Go.RowKit

/-- The last value of a slice of the call's own, as the walk asks for it. -/
theorem own_last_va {S : Nat → Prop} {base : Nat} {v : Value} {ts : List Va} {x : Va} {w : World} (h : VaR.Own S base v (ts ++ [x]) w) : ∃ (g cap : Nat) (B : Option Addr) (d : Nat) (A : Option Addr) (c : Nat),
    v = .slice (some ⟨g, 0, none⟩) (ts.length + 1) cap ∧ base ≤ g ∧ g < w.heap.size ∧ ts.length + 1 ≤ cap ∧
    w.cell? ⟨g, ts.length * 4, none⟩ = some (.int .i64 x.kind) ∧ w.cell? ⟨g, ts.length * 4 + 1, none⟩ = some (.int .i64 x.num) ∧
    w.cell? ⟨g, ts.length * 4 + 2, none⟩ = some (.slice B x.list.length d) ∧ w.cell? ⟨g, ts.length * 4 + 3, none⟩ = some (.slice A x.args.length c) ∧
    IsVa (fun b => S b ∧ b < w.heap.size) w x (.agg #[.int .i64 x.kind, .int .i64 x.num, .slice B x.list.length d, .slice A x.args.length c]) ∧
    VaR.Own S base (.slice (some ⟨g, 0, none⟩) ts.length cap) ts w := by
  obtain ⟨g, cap, vs, rfl, hg0, hg1, hcap, hcell, hx, ho⟩ := h.last
  have hx' : IsVa (fun b => S b ∧ b < w.heap.size ∧ g ≠ b) w x (.agg vs.toArray) := hx
  obtain ⟨B, d, A, c, e⟩ := hx'.form
  simp only [Value.agg.injEq] at e
  have e' := congrArg Array.toList e
  simp only at e'
  subst e'
  exact ⟨g, cap, B, d, A, c, rfl, hg0, hg1, hcap, hcell 0 _ rfl, hcell 1 _ rfl, hcell 2 _ rfl, hcell 3 _ rfl, IsVa.keep (fun b hb => ⟨hb.1, hb.2.1⟩) (fun _ _ => rfl) _ hx', ho⟩

/-- The cells of a slice that is there. -/
theorem slV_cells {S : Nat → Prop} {w : World} {l : List Va} {a : Addr} {n c : Nat} (h : VaR.Sl S w l (.slice (some a) n c)) : ∃ news, VaR.Ch S w l news ∧ ∀ j u, news[j]? = some u → w.cell? (a.add j) = some u := by
  cases l with
  | nil => exact ⟨[], Rep.Ch.nil _ _, fun j u h => by simp at h⟩
  | cons x r =>
    obtain ⟨A, c', e, h⟩ := h
    simp at e
    obtain ⟨a', h1, _, h2⟩ := h (by simp)
    rw [← e.1] at h1
    cases h1
    exact h2.cells

def CheckRel (w : World) (t : Va) (k : Nat) (cnt s : Value) (wr : World) : Prop :=
  ∃ (st : List Va) (n : Nat), cnt = .int .i64 (n : Int) ∧ VaR.Own (· < w.heap.size) (w.heap.size + 1) s st wr ∧ okAllV st = true ∧ n + nodesAllV st = t.nodes ∧ bulkAllV st ≤ 400000 ∧ nodesAllV st = k ∧ Below w.heap.size w wr ∧ w.heap.size + 1 ≤ wr.heap.size

set_option maxRecDepth 100000 in
set_option maxHeartbeats 2000000 in
theorem checkV_any (t : Va) (v : Value) (w : World) (hsz : t.bulk ≤ 400000) (hok : t.ok = true) (hT : IsVa (· < w.heap.size) w t v) :
    Calls Try.prog 19 #[v] w fun e w' => e = .returned (.int .i64 t.err) ∧ Below w.heap.size w w' := by
  obtain ⟨B, d, A, c, rfl, _, _⟩ := hT.parts
  have HT := Lib.hid hT
  have HOK := Lib.hid hok
  clear hT hok
  go_enter Try.func19, Try.ntmps19
  go_wp2_with fail
  obtain ⟨b1, z1, k0⟩ := new_blk (Below.refl w.heap.size w) (Nat.le_refl _) #[.int .i64 t.kind, .int .i64 t.num, .slice B t.list.length d, .slice A t.args.length c] 29
  go_loopg [3, 4] t.nodes (fun k cnt s wr => CheckRel w t k cnt s wr)
  case atStart =>
    have e : (w.alloc (Obj.cells #[.int .i64 t.kind, .int .i64 t.num, .slice B t.list.length d, .slice A t.args.length c] 29)).heap.size = w.heap.size + 1 := z1
    refine ⟨[t], 0, rfl, ?_, by simp [okAllV, HOK.out], by simp [nodesAllV], by simpa [bulkAllV] using hsz, by simp [nodesAllV], b1.alloc b1.size _, by simp⟩
    have h0 : IsVa (· < w.heap.size) _ t _ := IsVa.keep (fun b h => h) (fun p hp => b1.cell hp) _ HT.out
    have h1 := Rep.Own.built (R := VaR) (base := w.heap.size + 1) (Rep.Ch.one (R := VaR) (vs := [_, _, _, _]) h0) (fun b hb => by have : b < w.heap.size := hb; omega) (by omega) (by simp [maxLen]) (by simp)
    rw [e] at h1
    exact h1
  case round =>
    obtain ⟨st, n, rfl, hown, hokl, hsum, hbk, hk, hbel, hz⟩ := hrel
    clear b1 z1 k0
    rcases List.eq_nil_or_concat st with rfl | ⟨ts, x, rfl⟩
    · obtain ⟨A3, c3, rfl⟩ := hown.form
      have hn : n = t.nodes := by simpa [nodesAllV] using hsum
      subst hn
      have hbd := nodesV_bulk t
      by_cases hle : t.nodes ≤ 64
      · have e4 : decide ((64 : Int) < (t.nodes : Int)) = false := by simp; omega
        go_wp2_with fail
        go_ret
        exact ⟨by simp [Va.err, HOK.out, hle], hbel⟩
      · have e4 : decide ((64 : Int) < (t.nodes : Int)) = true := by simp; omega
        go_wp2_with fail
        go_ret
        exact ⟨by simp [Va.err, HOK.out, hle], hbel⟩
    · simp only [List.concat_eq_append] at hown hokl hsum hbk hk
      obtain ⟨g, cap, B1, d1, A1, c1, rfl, hg0, hg1, hcap, q0, q1, q2, q3, hx, hown2⟩ := own_last_va hown
      have hxb : x.bulk ≤ 400000 := by rw [bulkAllV_append] at hbk; simp only [bulkAllV] at hbk; omega
      have hxe := bulkV_eq x
      have hxa := bulkAllV_len x.args
      have hxal : x.args.length ≤ 400000 := by omega
      have hll := bulkAllV_len (ts ++ [x])
      simp only [List.length_append, List.length_cons, List.length_nil] at hll
      have hbd := nodesV_bulk t
      have hlen : ts.length + 1 ≤ 400000 := by omega
      have hnn : n + 1 ≤ 400000 := by
        have := nodesV_pos x
        rw [nodesAllV_append] at hsum
        simp only [nodesAllV] at hsum
        omega
      have hxo : x.ok = true ∧ okAllV ts = true := by
        rw [okAllV_append] at hokl
        simp only [okAllV, Bool.and_true, Bool.and_eq_true] at hokl
        exact ⟨hokl.2, hokl.1⟩
      have hxf : x.formed = true ∧ okAllV x.args = true := by
        have := hxo.1
        rw [okV_eq] at this
        simpa using this
      have HXO := Lib.hid (And.intro hxf.1 (And.intro hxf.2 hxo.2))
      have HXB := Lib.hid hxb
      have HX := Lib.hid hx
      have HO := Lib.hid hown2
      have HF := Lib.hid (And.intro hsum (And.intro hbk hk))
      have HXE := Lib.hid hxe
      clear hx hown2 hokl hsum hbk hk hown hxe hll hbd hxa hxb hxo hxf
      go_wp2_with fail
      have hbx := Blk.new wr 29 #[.int .i64 x.kind, .int .i64 x.num, .slice B1 x.list.length d1, .slice A1 x.args.length c1]
      have hx1 : IsVa (· < w.heap.size) (wr.alloc (Obj.cells #[.int .i64 x.kind, .int .i64 x.num, .slice B1 x.list.length d1, .slice A1 x.args.length c1] 29)) x
          (.agg #[.int .i64 x.kind, .int .i64 x.num, .slice B1 x.list.length d1, .slice A1 x.args.length c1]) :=
        IsVa.keep (fun b hb => hb.1) (fun p hp => World.cell?_alloc_lt _ _ _ hp.2) _ HX.out
      have z1 := World.size_alloc wr (Obj.cells #[.int .i64 x.kind, .int .i64 x.num, .slice B1 x.list.length d1, .slice A1 x.args.length c1] 29)
      have hb1 := hbel.alloc hbel.size (Obj.cells #[.int .i64 x.kind, .int .i64 x.num, .slice B1 x.list.length d1, .slice A1 x.args.length c1] 29)
      have ho1 := HO.out.below ((Below.refl wr.heap.size wr).alloc (Nat.le_refl _) (Obj.cells #[.int .i64 x.kind, .int .i64 x.num, .slice B1 x.list.length d1, .slice A1 x.args.length c1] 29))
      have HX1 := Lib.hid hx1
      have HO1 := Lib.hid ho1
      clear HX HO hx1 ho1 hbel q0 q1 q2 q3
      generalize wr.alloc (Obj.cells #[.int .i64 x.kind, .int .i64 x.num, .slice B1 x.list.length d1, .slice A1 x.args.length c1] 29) = W1 at hbx HX1 HO1 hb1 z1 ⊢
      have hbs := hb1.size
      refine (formedV_true x _ W1 HXO.out.1 HXB.out (IsVa.keep (fun b hb => Nat.lt_of_lt_of_le hb hbs) (fun _ _ => rfl) _ HX1.out)).mono ?_
      rintro e W2 ⟨rfl, hb2⟩
      have hb2' : Below w.heap.size w W2 := hb1.trans (hb2.mono hbs)
      have hs2 := hb2.size
      obtain ⟨_, _, _, p3, _, _, _, _⟩ := (hbx.below hb2 (by omega)).facts4
      have hx2 : IsVa (· < w.heap.size) W2 x _ := IsVa.keep (fun b hb => hb) (fun p hp => hb2.cell (by omega)) _ HX1.out
      have hargs : VaR.Sl (· < w.heap.size) W2 x.args (.slice A1 x.args.length c1) := by
        cases x; exact (isVa_iff.1 hx2).2.2.2
      clear hx2
      cases A1 with
      | none =>
        have hnil := hargs.none_nil
        have hnl : x.args.length = 0 := by rw [hnil]; rfl
        rw [hnl] at p3
        have HN := Lib.hid hnil
        clear hargs hnil
        go_wp2_with fail
        go_roundg (nodesAllV ts)
        case rel =>
          obtain ⟨f2, f3, f4⟩ := HF.out
          have hxs : x.nodes = 1 := by rw [nodesV_eq, HN.out]; rfl
          refine ⟨ts, n + 1, by go_num, HO1.out.below hb2, HXO.out.2.2, ?_, ?_, rfl, hb2', by omega⟩
          · rw [← f2, nodesAllV_append]; simp only [nodesAllV, hxs]; omega
          · rw [bulkAllV_append] at f3; omega
        case measure =>
          obtain ⟨f2, f3, f4⟩ := HF.out
          have := nodesV_pos x
          rw [nodesAllV_append] at f4; simp only [nodesAllV] at f4; omega
      | some a =>
        obtain ⟨news, hch, hnc⟩ := slV_cells hargs
        obtain ⟨xs, hown, hxs⟩ := HO1.out.below hb2
        obtain ⟨i0, hi, hz0, hz1, hz2⟩ := info_parts info_value
        have HCH := Lib.hid hch
        have HNC := Lib.hid hnc
        have HXS := Lib.hid hxs
        have hno := hch.oneCells
        have hnl : news.length = x.args.length * 4 := hch.1
        clear hch hnc hxs hargs
        go_wp2_with (at_builtin; go_loud (refine wpList_append_own_at _ rfl _ _ 27 rfl (w.heap.size + 1) 29 i0 _ 4 64 Try.underlying27 hi hz0 hz1 hz2 rfl (by decide) _ ts.length xs rfl hown a x.args.length c1 news rfl hnl HNC.out hno (by simp only [maxLen]; omega) (by omega) (by omega) ?_); intro v2 w2 hown2 hg2 hnil2 hat2)
        go_roundg (nodesAllV (ts ++ x.args))
        case rel =>
          obtain ⟨f2, f3, f4⟩ := HF.out
          refine ⟨ts ++ x.args, n + 1, by go_num, ?_, ?_, ?_, ?_, rfl, hb2'.grown hg2 (by omega) (fun k e => by cases e; show w.heap.size ≤ g; omega), by have := hg2.size; omega⟩
          · exact Rep.Own.more (R := VaR) hown HXS.out (HCH.out.keep (fun b hb => ⟨hb, by have : b < w.heap.size := hb; omega, fun e => by cases e; have : g < w.heap.size := hb; omega⟩) (fun _ _ => rfl)) hown2 hg2 hat2
          · rw [okAllV_append]; simp [HXO.out.2.1, HXO.out.2.2]
          · rw [← f2, nodesAllV_append, nodesAllV_append]; simp only [nodesAllV, nodesV_eq x]; omega
          · rw [bulkAllV_append] at f3 ⊢; simp only [bulkAllV, bulkV_eq x] at f3; omega
        case measure =>
          obtain ⟨f2, f3, f4⟩ := HF.out
          rw [nodesAllV_append] at f4 ⊢; simp only [nodesAllV, nodesV_eq x] at f4; omega
end Go.Proofs.Ytieafbmabnohhaa
