/- mk.Term, by the kind of the type. -/
import Derived.Test.YtieafbmabnohhaaDoorMkWB
import Derived.Test.YtieafbmabnohhaaDoorMkWC
import Derived.IntWalk
namespace Go.Proofs.YtieafbmabnohhaaDoor
open Go.RowKit

set_option maxRecDepth 1000000 in
set_option maxHeartbeats 4000000 in
theorem term_kinds {g M : Nat} {G : List Ty} {t : Ty} {d : Int} {A : Option Addr} {c : Nat} {B : Option Addr} {e0 : Nat} {w W wk : World} (h0 : Here g M G t d A c B e0 w W wk) (Q0 : Exit → Act → World → Prop)
    (hret : ∀ a' w', bodyPost Tryd.prog Tryd.f20 (TermR g G t (bdN d.toNat t) (bdO d.toNat t) w) .ret a' w' → Q0 .ret a' w')
    {x2 x4 x5 x7 x9 x10 x11 x12 x13 x14 x15 x16 x17 x18 x19 x20 x21 x22 x23 x24 x25 x26 x27 x28 x29 x30 x31 x32 x33 x34 x35 x36 x37 x38 x39 x40 x41 x42 x43 x44 x45 x46 x47 x48 x49 x50 x51 x52 x53 x54 x55 x56 x57 x58 x59 x60 x61 x62 x63 x64 x65 x66 x67 x68 x69 x70 x71 x72 x73 x74 x75 x76 x77 x78 x79 x80 x81 x82 x83 x84 x85 x86 x87 x88 x89 x90 x91 x92 x93 x94 x95 x96 x97 x98 x99 x100 x101 x102 x103 x104 x105 x106 x107 x108 x109 x110 x111 x112 x113 x114 x115 x116 x117 x118 x119 x120 x121 x122 x123 x124 x125 x126 x127 x128 x129 x130 x131 x132 x133 x134 x135 x136 x137 x138 x139 x140 x141 x142 x143 x144 x145 x146 x147 x148 x149 x150 x151 x152 x153 x154 x155 x156 x157 x158 x159 x160 x161 x162 x163 x164 x165 x166 x167 x168 x169 x170 x171 x172 x173 x174 x175 x176 x177 x178 x179 x180 x181 x182 x183 x184 x185 x186 x187 x188 x189 x190 x191 x192 x193 x194 x195 x196 x197 x198 x199 x200 x201 x202 x203 x204 x205 x206 x207 x208 x209 x210 x211 x212 x213 x214 x215 x216 x217 x218 x219 x220 x221 x222 x223 x224 x225 x226 x227 x228 x229 x230 x231 x232 x233 x234 x235 x236 x237 x238 x239 x240 x241 x242 x243 x244 x245 x246 x247 x248 x249 x250 x251 x252 x253 x254 x255 x256 x257 x258 x259 x260 x261 x262 x263 x264 x265 x266 x267 x268 x269 x270 x271 x272 x273 x274 x275 x276 x277 x278 x279 x280 x281 x282 x283 x284 x285 x286 x287 x288 x289 x290 x291 x292 x293 x294 x295 x296 x297 x298 x299 x300 x301 x302 x303 x304 x305 x306 x307 x308 x309 x310 x311 x312 x313 x314 x315 x316 x317 x318 x319 x320 x321 x322 x323 x324 x325 x326 x327 x328 x329 x330 x331 x332 x333 x334 x335 x336 x337 : Value} :
    Code.wp Tryd.prog (tailAt 29) Q0 ⟨#[.pointer (some ⟨g, 0, none⟩), .slice A G.length c, x2, .int .i64 d, x4, x5, .pointer (some ⟨w.heap.size, 0, none⟩), x7, .pointer (some ⟨w.heap.size + 1, 0, none⟩), x9, x10, x11, x12, x13, x14, x15, x16, x17, x18, x19, x20, x21, x22, x23, x24, x25, x26, x27, x28, x29, x30, x31, x32, x33, x34, x35, x36, x37, x38, x39, x40, x41, x42, x43, x44, x45, x46, x47, x48, x49, x50, x51, x52, x53, x54, x55, x56, x57, x58, x59, x60, x61, x62, x63, x64, x65, x66, x67, x68, x69, x70, x71, x72, x73, x74, x75, x76, x77, x78, x79, x80, x81, x82, x83, x84, x85, x86, x87, x88, x89, x90, x91, x92, x93, x94, x95, x96, x97, x98, x99, x100, x101, x102, x103, x104, x105, x106, x107, x108, x109, x110, x111, x112, x113, x114, x115, x116, x117, x118, x119, x120, x121, x122, x123, x124, x125, x126, x127, x128, x129, x130, x131, x132, x133, x134, x135, x136, x137, x138, x139, x140, x141, x142, x143, x144, x145, x146, x147, x148, x149, x150, x151, x152, x153, x154, x155, x156, x157, x158, x159, x160, x161, x162, x163, x164, x165, x166, x167, x168, x169, x170, x171, x172, x173, x174, x175, x176, x177, x178, x179, x180, x181, x182, x183, x184, x185, x186, x187, x188, x189, x190, x191, x192, x193, x194, x195, x196, x197, x198, x199, x200, x201, x202, x203, x204, x205, x206, x207, x208, x209, x210, x211, x212, x213, x214, x215, x216, x217, x218, x219, x220, x221, x222, x223, x224, x225, x226, x227, x228, x229, x230, x231, x232, x233, x234, x235, x236, x237, x238, x239, x240, x241, x242, x243, x244, x245, x246, x247, x248, x249, x250, x251, x252, x253, x254, x255, x256, x257, x258, x259, x260, x261, x262, x263, x264, x265, x266, x267, x268, x269, x270, x271, x272, x273, x274, x275, x276, x277, x278, x279, x280, x281, x282, x283, x284, x285, x286, x287, x288, x289, x290, x291, x292, x293, x294, x295, x296, x297, x298, x299, x300, x301, x302, x303, x304, x305, x306, x307, x308, x309, x310, x311, x312, x313, x314, x315, x316, x317, x318, x319, x320, x321, x322, x323, x324, x325, x326, x327, x328, x329, x330, x331, x332, x333, x334, x335, x336, x337], []⟩ wk := by
  conv => arg 2; whnf
  have HE := Lib.hid h0
  have HRET := Lib.hid hret
  have hw := IntWalk.i64_in (d - 1) (by have := h0.hd5; have := h0.hdn; omega)
  clear h0 hret
  have HBX := Lib.hid HE.out.box
  have T4 := Lib.hid HE.out.turn
  have D4 := Lib.hid HE.out.deck
  have HERE := HE
  have HOK := Lib.hid HE.out.hok
  have hn := HE.out.hn
  have hd5 := HE.out.hd5
  have hdn := HE.out.hdn
  have hlen := HE.out.hlen
  have hWz : g < W.heap.size := by have := HE.out.sizes; omega
  obtain ⟨q0, q1⟩ := HBX.out.held T4.out.pair
  try dsimp only
  rcases Ty.ok_cases HOK.out with ⟨k, hk, hte⟩ | ⟨k, X, Y, hk, hte, _, _⟩
  · subst hte
    rcases hk with rfl | rfl | rfl
    · have q0 : wk.cell? ⟨w.heap.size, 0, none⟩ = some (.int .i64 1) := q0
      by_cases hdp : 0 < d
      · have e1 : decide (d > 0) = true := decide_eq_true (by omega)
        go_wp2_with fail
        refine (next_any g 5 wk (by omega) (by omega) D4.out).mono ?_
        rintro e w5 ⟨r, rfl, hr0, hr5, hd5', hg5⟩
        have T5 := Lib.hid (T4.out.trans (turn_of hg5))
        have D5 := Lib.hid hd5'
        have HE5 := Lib.hid (HERE.out.next (turn_of hg5) hd5')
        obtain ⟨p0, p1⟩ := HBX.out.held T5.out.pair
        have p0 : w5.cell? ⟨w.heap.size, 0, none⟩ = some (.int .i64 1) := p0
        have p1 : w5.cell? ⟨w.heap.size, 1, none⟩ = some (.slice B 0 e0) := p1
        have hr : r = 0 ∨ r = 1 ∨ r = 2 ∨ r = 3 ∨ r = 4 := by omega
        clear hd5' hg5 hr0 hr5 q0 q1
        rcases hr with rfl | rfl | rfl | rfl | rfl
        · go_wp2_with fail
          refine (HE5.out.term hdp HE5.out.ctxAt (show Typ g w5 (.mk 1 []) (.agg #[.int .i64 1, .slice B 0 e0]) from HE5.out.typAt) D5.out HOK.out hn (by omega)).mono ?_
          rintro e w6 ⟨y6, v6, rfl, m6, t6, k6, u6⟩
          obtain ⟨B6, e6, A6, c6, rfl, _⟩ := IsTm.form t6
          have b6 : y6.bulk ≤ 12000 := m6.bulk_le (bdN_le _ (by omega))
          have M6 := Lib.hid m6
          have T6 := Lib.hid (T5.out.trans u6)
          have X6 := Lib.hid (show Trm W.heap.size w6 y6 (.agg #[.int .i64 y6.kind, .int .i64 y6.index, .int .i64 y6.type.kind, .slice B6 y6.type.args.length e6, .slice A6 y6.args.length c6]) from Trm.mono t6 T5.out.size)
          have K6 := Lib.hid k6
          clear m6 t6 k6 u6
          go_wp2_with fail
          refine (n_call 5 (bulk_1 b6) (tm_sl1 (Trm.below X6.out))).mono ?_
          rintro e w7 ⟨y7, v7, h7, rfl, t7, r7⟩
          obtain ⟨B7, e7, A7, c7, rfl, _⟩ := IsTm.form t7
          have T7 := Lib.hid ((T6.out.trans (tAl g _ _)).trans (tCa g r7))
          have X7 := Lib.hid (show Trm W.heap.size w7 y7 (.agg #[.int .i64 y7.kind, .int .i64 y7.index, .int .i64 y7.type.kind, .slice B7 y7.type.args.length e7, .slice A7 y7.args.length c7]) from Trm.mono t7 (T6.out.trans (tAl g _ _)).size)
          have K7 := Lib.hid (Deck.call (K6.out.box _) r7)
          have E7 := Lib.hid h7
          clear h7 t7 r7
          obtain ⟨_, _, _, _, _, f0, f1, f2, f3, f4⟩ := (HBX.out.result T7.out).facts5
          go_wp2_with fail
          obtain ⟨z0, z1, z2, z3, z4⟩ := ((HBX.out.result T7.out).set5 (.int .i64 y7.kind) (.int .i64 y7.index) (.int .i64 y7.type.kind) (.slice B7 y7.type.args.length e7) (.slice A7 y7.args.length c7)).cells5
          refine HRET.out _ _ (bodyPost_ret (v := .agg #[.int .i64 y7.kind, .int .i64 y7.index, .int .i64 y7.type.kind, .slice B7 y7.type.args.length e7, .slice A7 y7.args.length c7]) (by simp [results, Tryd.results20, go_sem, z0, z1, z2, z3, z4]) rfl ?_)
          exact term_end HBX.out T7.out K7.out (by rw [show d.toNat = (d - 1).toNat + 1 by omega, E7.out]; exact way_succ M6.out) X7.out (Nat.le_refl W.heap.size)
        · go_upto_if 231 with fail
          refine wp_cond_true rfl ?_
          refine way36 HE5.out hdp rfl _ ?_
          exact fun a' w' h => HRET.out a' w' h
        · go_upto_if 248 with fail
          refine wp_cond_true rfl ?_
          refine way38 HE5.out hdp rfl _ ?_
          exact fun a' w' h => HRET.out a' w' h
        · clear p0 p1
          go_wp2_with fail
          refine (next_any g 3 w5 (by omega) (by omega) D5.out).mono ?_
          rintro e wn ⟨rn, rfl, rn0, rn3, kn, un⟩
          obtain ⟨i, rfl⟩ : ∃ i : Nat, rn = (i : Int) := ⟨rn.toNat, by omega⟩
          have TN := Lib.hid (T5.out.trans (turn_of un))
          have KN := Lib.hid kn
          clear kn un
          go_wp2_with fail
          refine (num_call i (w := wn) (by omega)).mono ?_
          rintro e wm ⟨ym, vm, hm', rfl, tm, rm⟩
          obtain ⟨Bm, em, Am, cm, rfl, _⟩ := IsTm.form tm
          have TMM := Lib.hid (TN.out.trans (tCa g rm))
          have XM := Lib.hid (show Trm W.heap.size wm ym (.agg #[.int .i64 ym.kind, .int .i64 ym.index, .int .i64 ym.type.kind, .slice Bm ym.type.args.length em, .slice Am ym.args.length cm]) from Trm.mono tm (TN.out.size))
          have KM := Lib.hid (Deck.call KN.out rm)
          have EM := Lib.hid hm'
          clear hm' tm rm
          obtain ⟨_, _, _, _, _, f0, f1, f2, f3, f4⟩ := (HBX.out.result TMM.out).facts5
          go_wp2_with fail
          obtain ⟨z0, z1, z2, z3, z4⟩ := ((HBX.out.result TMM.out).set5 (.int .i64 ym.kind) (.int .i64 ym.index) (.int .i64 ym.type.kind) (.slice Bm ym.type.args.length em) (.slice Am ym.args.length cm)).cells5
          refine HRET.out _ _ (bodyPost_ret (v := .agg #[.int .i64 ym.kind, .int .i64 ym.index, .int .i64 ym.type.kind, .slice Bm ym.type.args.length em, .slice Am ym.args.length cm]) (by simp [results, Tryd.results20, go_sem, z0, z1, z2, z3, z4]) rfl ?_)
          exact term_end HBX.out TMM.out KM.out (by rw [EM.out]; exact way_num (by omega)) XM.out (Nat.le_refl W.heap.size)
        · clear p0 p1
          go_wp2_with fail
          refine (next_any g 3 w5 (by omega) (by omega) D5.out).mono ?_
          rintro e wn ⟨rn, rfl, rn0, rn3, kn, un⟩
          obtain ⟨i, rfl⟩ : ∃ i : Nat, rn = (i : Int) := ⟨rn.toNat, by omega⟩
          have TN := Lib.hid (T5.out.trans (turn_of un))
          have KN := Lib.hid kn
          clear kn un
          go_wp2_with fail
          refine (num_call i (w := wn) (by omega)).mono ?_
          rintro e wm ⟨ym, vm, hm', rfl, tm, rm⟩
          obtain ⟨Bm, em, Am, cm, rfl, _⟩ := IsTm.form tm
          have TMM := Lib.hid (TN.out.trans (tCa g rm))
          have XM := Lib.hid (show Trm W.heap.size wm ym (.agg #[.int .i64 ym.kind, .int .i64 ym.index, .int .i64 ym.type.kind, .slice Bm ym.type.args.length em, .slice Am ym.args.length cm]) from Trm.mono tm (TN.out.size))
          have KM := Lib.hid (Deck.call KN.out rm)
          have EM := Lib.hid hm'
          clear hm' tm rm
          obtain ⟨_, _, _, _, _, f0, f1, f2, f3, f4⟩ := (HBX.out.result TMM.out).facts5
          go_wp2_with fail
          obtain ⟨z0, z1, z2, z3, z4⟩ := ((HBX.out.result TMM.out).set5 (.int .i64 ym.kind) (.int .i64 ym.index) (.int .i64 ym.type.kind) (.slice Bm ym.type.args.length em) (.slice Am ym.args.length cm)).cells5
          refine HRET.out _ _ (bodyPost_ret (v := .agg #[.int .i64 ym.kind, .int .i64 ym.index, .int .i64 ym.type.kind, .slice Bm ym.type.args.length em, .slice Am ym.args.length cm]) (by simp [results, Tryd.results20, go_sem, z0, z1, z2, z3, z4]) rfl ?_)
          exact term_end HBX.out TMM.out KM.out (by rw [EM.out]; exact way_num (by omega)) XM.out (Nat.le_refl W.heap.size)
      · have e1 : decide (d > 0) = false := decide_eq_false (by omega)
        go_wp2_with fail
        refine (next_any g 3 wk (by omega) (by omega) D4.out).mono ?_
        rintro e wn ⟨rn, rfl, rn0, rn3, kn, un⟩
        obtain ⟨i, rfl⟩ : ∃ i : Nat, rn = (i : Int) := ⟨rn.toNat, by omega⟩
        have TN := Lib.hid (T4.out.trans (turn_of un))
        have KN := Lib.hid kn
        clear kn un
        go_wp2_with fail
        refine (num_call i (w := wn) (by omega)).mono ?_
        rintro e wm ⟨ym, vm, hm', rfl, tm, rm⟩
        obtain ⟨Bm, em, Am, cm, rfl, _⟩ := IsTm.form tm
        have TMM := Lib.hid (TN.out.trans (tCa g rm))
        have XM := Lib.hid (show Trm W.heap.size wm ym (.agg #[.int .i64 ym.kind, .int .i64 ym.index, .int .i64 ym.type.kind, .slice Bm ym.type.args.length em, .slice Am ym.args.length cm]) from Trm.mono tm (TN.out.size))
        have KM := Lib.hid (Deck.call KN.out rm)
        have EM := Lib.hid hm'
        clear hm' tm rm
        obtain ⟨_, _, _, _, _, f0, f1, f2, f3, f4⟩ := (HBX.out.result TMM.out).facts5
        go_wp2_with fail
        obtain ⟨z0, z1, z2, z3, z4⟩ := ((HBX.out.result TMM.out).set5 (.int .i64 ym.kind) (.int .i64 ym.index) (.int .i64 ym.type.kind) (.slice Bm ym.type.args.length em) (.slice Am ym.args.length cm)).cells5
        refine HRET.out _ _ (bodyPost_ret (v := .agg #[.int .i64 ym.kind, .int .i64 ym.index, .int .i64 ym.type.kind, .slice Bm ym.type.args.length em, .slice Am ym.args.length cm]) (by simp [results, Tryd.results20, go_sem, z0, z1, z2, z3, z4]) rfl ?_)
        exact term_end HBX.out TMM.out KM.out (by rw [EM.out]; exact way_num (by omega)) XM.out (Nat.le_refl W.heap.size)
    · have q0 : wk.cell? ⟨w.heap.size, 0, none⟩ = some (.int .i64 2) := q0
      by_cases hdp : 0 < d
      · have e1 : decide (d > 0) = true := decide_eq_true (by omega)
        go_wp2_with fail
        refine (next_any g 2 wk (by omega) (by omega) D4.out).mono ?_
        rintro e w5 ⟨r, rfl, hr0, hr5, hd5', hg5⟩
        have T5 := Lib.hid (T4.out.trans (turn_of hg5))
        have D5 := Lib.hid hd5'
        have HE5 := Lib.hid (HERE.out.next (turn_of hg5) hd5')
        have hr : r = 0 ∨ r = 1 := by omega
        clear hd5' hg5 hr0 hr5 q0 q1
        rcases hr with rfl | rfl
        · go_upto_if 276 with fail
          refine wp_cond_true rfl ?_
          refine way42 HE5.out hdp rfl _ ?_
          exact fun a' w' h => HRET.out a' w' h
        · have hx1 := tRf g w5
          go_wp2_with fail
          refine (n_call 7 (l := []) (w := w5) (by decide) (Rep.Sl.nil _ _)).mono ?_
          rintro e wm ⟨ym, vm, hm', rfl, tm, rm⟩
          obtain ⟨Bm, em, Am, cm, rfl, _⟩ := IsTm.form tm
          have TMM := Lib.hid (T5.out.trans (tCa g rm))
          have XM := Lib.hid (show Trm W.heap.size wm ym (.agg #[.int .i64 ym.kind, .int .i64 ym.index, .int .i64 ym.type.kind, .slice Bm ym.type.args.length em, .slice Am ym.args.length cm]) from Trm.mono tm (T5.out).size)
          have KM := Lib.hid (Deck.call D5.out rm)
          have EM := Lib.hid hm'
          clear hm' tm rm
          obtain ⟨_, _, _, _, _, f0, f1, f2, f3, f4⟩ := (HBX.out.result TMM.out).facts5
          go_wp2_with fail
          obtain ⟨z0, z1, z2, z3, z4⟩ := ((HBX.out.result TMM.out).set5 (.int .i64 ym.kind) (.int .i64 ym.index) (.int .i64 ym.type.kind) (.slice Bm ym.type.args.length em) (.slice Am ym.args.length cm)).cells5
          refine HRET.out _ _ (bodyPost_ret (v := .agg #[.int .i64 ym.kind, .int .i64 ym.index, .int .i64 ym.type.kind, .slice Bm ym.type.args.length em, .slice Am ym.args.length cm]) (by simp [results, Tryd.results20, go_sem, z0, z1, z2, z3, z4]) rfl ?_)
          exact term_end HBX.out TMM.out KM.out (by rw [EM.out]; exact way_nil) XM.out (Nat.le_refl W.heap.size)
      · have e1 : decide (d > 0) = false := decide_eq_false (by omega)
        go_wp2_with fail
        refine (n_call 7 (l := []) (w := wk) (by decide) (Rep.Sl.nil _ _)).mono ?_
        rintro e wm ⟨ym, vm, hm', rfl, tm, rm⟩
        obtain ⟨Bm, em, Am, cm, rfl, _⟩ := IsTm.form tm
        have TMM := Lib.hid (T4.out.trans (tCa g rm))
        have XM := Lib.hid (show Trm W.heap.size wm ym (.agg #[.int .i64 ym.kind, .int .i64 ym.index, .int .i64 ym.type.kind, .slice Bm ym.type.args.length em, .slice Am ym.args.length cm]) from Trm.mono tm (T4.out).size)
        have KM := Lib.hid (Deck.call D4.out rm)
        have EM := Lib.hid hm'
        clear hm' tm rm
        obtain ⟨_, _, _, _, _, f0, f1, f2, f3, f4⟩ := (HBX.out.result TMM.out).facts5
        go_wp2_with fail
        obtain ⟨z0, z1, z2, z3, z4⟩ := ((HBX.out.result TMM.out).set5 (.int .i64 ym.kind) (.int .i64 ym.index) (.int .i64 ym.type.kind) (.slice Bm ym.type.args.length em) (.slice Am ym.args.length cm)).cells5
        refine HRET.out _ _ (bodyPost_ret (v := .agg #[.int .i64 ym.kind, .int .i64 ym.index, .int .i64 ym.type.kind, .slice Bm ym.type.args.length em, .slice Am ym.args.length cm]) (by simp [results, Tryd.results20, go_sem, z0, z1, z2, z3, z4]) rfl ?_)
        exact term_end HBX.out TMM.out KM.out (by rw [EM.out]; exact way_nil) XM.out (Nat.le_refl W.heap.size)
    · have q0 : wk.cell? ⟨w.heap.size, 0, none⟩ = some (.int .i64 5) := q0
      go_wp2_with fail
      refine (n_call 13 (l := []) (w := wk) (by decide) (Rep.Sl.nil _ _)).mono ?_
      rintro e wm ⟨ym, vm, hm', rfl, tm, rm⟩
      obtain ⟨Bm, em, Am, cm, rfl, _⟩ := IsTm.form tm
      have TMM := Lib.hid (T4.out.trans (tCa g rm))
      have XM := Lib.hid (show Trm W.heap.size wm ym (.agg #[.int .i64 ym.kind, .int .i64 ym.index, .int .i64 ym.type.kind, .slice Bm ym.type.args.length em, .slice Am ym.args.length cm]) from Trm.mono tm (T4.out).size)
      have KM := Lib.hid (Deck.call D4.out rm)
      have EM := Lib.hid hm'
      clear hm' tm rm
      obtain ⟨_, _, _, _, _, f0, f1, f2, f3, f4⟩ := (HBX.out.result TMM.out).facts5
      go_wp2_with fail
      obtain ⟨z0, z1, z2, z3, z4⟩ := ((HBX.out.result TMM.out).set5 (.int .i64 ym.kind) (.int .i64 ym.index) (.int .i64 ym.type.kind) (.slice Bm ym.type.args.length em) (.slice Am ym.args.length cm)).cells5
      refine HRET.out _ _ (bodyPost_ret (v := .agg #[.int .i64 ym.kind, .int .i64 ym.index, .int .i64 ym.type.kind, .slice Bm ym.type.args.length em, .slice Am ym.args.length cm]) (by simp [results, Tryd.results20, go_sem, z0, z1, z2, z3, z4]) rfl ?_)
      exact term_end HBX.out TMM.out KM.out (by rw [EM.out]; exact way_unit) XM.out (Nat.le_refl W.heap.size)
  · subst hte
    rcases hk with rfl | rfl
    · have q0 : wk.cell? ⟨w.heap.size, 0, none⟩ = some (.int .i64 3) := q0
      go_upto_if 292 with fail
      refine wp_cond_true rfl ?_
      refine way45 HERE.out rfl _ ?_
      exact fun a' w' h => HRET.out a' w' h
    · have q0 : wk.cell? ⟨w.heap.size, 0, none⟩ = some (.int .i64 4) := q0
      go_upto_if 314 with fail
      refine wp_cond_true rfl ?_
      refine way47 HERE.out rfl _ ?_
      exact fun a' w' h => HRET.out a' w' h
end Go.Proofs.YtieafbmabnohhaaDoor
