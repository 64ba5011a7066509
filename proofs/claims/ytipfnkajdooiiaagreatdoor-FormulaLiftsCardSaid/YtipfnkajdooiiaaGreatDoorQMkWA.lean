/- Ways of mk.Term: applied at once, Fst, Snd. -/
import Derived.Test.YtipfnkajdooiiaaGreatDoorQMkWays
import Derived.IntWalk
namespace Go.Proofs.YtipfnkajdooiiaaGreatDoor
open Go.RowKit

set_option maxRecDepth 1000000 in
set_option maxHeartbeats 4000000 in
theorem way8 {g M:Nat} {G:List Ty} {t:Ty} {d:Int} {A:Option Addr} {c:Nat} {B:Option Addr} {e:Nat} {w W w0:World} (h0:Here g M G t d A c B e w W w0) (hdp:0<d) (Q0:Exit→Act→World→Prop)
   (hret:∀ a' w',bodyPost Tryz.prog Tryz.f16 (TermR g G t (bdN d.toNat t) (bdO d.toNat t) w) .ret a' w'→Q0 .ret a' w')
   {x2 x4 x5 x7 x9 x10 x11 x12 x13 x14 x15 x16 x17 x18 x19 x20 x21 x22 x23 x24 x25 x26 x27 x28 x29 x30 x31 x32 x33 x34 x35 x36 x37 x38 x39 x40 x41 x42 x43 x44 x45 x46 x47 x48 x49 x50 x51 x52 x53 x54 x55 x56 x57 x58 x59 x60 x61 x62 x63 x64 x65 x66 x67 x68 x69 x70 x71 x72 x73 x74 x75 x76 x77 x78 x79 x80 x81 x82 x83 x84 x85 x86 x87 x88 x89 x90 x91 x92 x93 x94 x95 x96 x97 x98 x99 x100 x101 x102 x103 x104 x105 x106 x107 x108 x109 x110 x111 x112 x113 x114 x115 x116 x117 x118 x119 x120 x121 x122 x123 x124 x125 x126 x127 x128 x129 x130 x131 x132 x133 x134 x135 x136 x137 x138 x139 x140 x141 x142 x143 x144 x145 x146 x147 x148 x149 x150 x151 x152 x153 x154 x155 x156 x157 x158 x159 x160 x161 x162 x163 x164 x165 x166 x167 x168 x169 x170 x171 x172 x173 x174 x175 x176 x177 x178 x179 x180 x181 x182 x183 x184 x185 x186 x187 x188 x189 x190 x191 x192 x193 x194 x195 x196 x197 x198 x199 x200 x201 x202 x203 x204 x205 x206 x207 x208 x209 x210 x211 x212 x213 x214 x215 x216 x217 x218 x219 x220 x221 x222 x223 x224 x225 x226 x227 x228 x229 x230 x231 x232 x233 x234 x235 x236 x237 x238 x239 x240 x241 x242 x243 x244 x245 x246 x247 x248 x249 x250 x251 x252 x253 x254 x255 x256 x257 x258 x259 x260 x261 x262 x263 x264 x265 x266 x267 x268 x269 x270 x271 x272 x273 x274 x275 x276 x277 x278 x279 x280 x281 x282 x283 x284 x285 x286 x287 x288 x289 x290 x291 x292 x293 x294 x295 x296 x297 x298 x299 x300 x301 x302 x303 x304 x305 x306 x307 x308 x309 x310 x311 x312 x313 x314 x315 x316 x317 x318 x319 x320 x321 x322 x323 x324 x325 x326 x327 x328 x329 x330 x331 x332 x333 x334 x335 x336 x337:Value} :
   Code.wp Tryz.prog (piece 40) Q0 ⟨#[.pointer (some ⟨g,0,none⟩),.slice A G.length c,x2,.int .i64 d,x4,x5,.pointer (some ⟨w.heap.size,0,none⟩),x7,.pointer (some ⟨w.heap.size+1,0,none⟩),x9,x10,x11,x12,x13,x14,x15,x16,x17,x18,x19,x20,x21,x22,x23,x24,x25,x26,x27,x28,x29,x30,x31,x32,x33,x34,x35,x36,x37,x38,x39,x40,x41,x42,x43,x44,x45,x46,x47,x48,x49,x50,x51,x52,x53,x54,x55,x56,x57,x58,x59,x60,x61,x62,x63,x64,x65,x66,x67,x68,x69,x70,x71,x72,x73,x74,x75,x76,x77,x78,x79,x80,x81,x82,x83,x84,x85,x86,x87,x88,x89,x90,x91,x92,x93,x94,x95,x96,x97,x98,x99,x100,x101,x102,x103,x104,x105,x106,x107,x108,x109,x110,x111,x112,x113,x114,x115,x116,x117,x118,x119,x120,x121,x122,x123,x124,x125,x126,x127,x128,x129,x130,x131,x132,x133,x134,x135,x136,x137,x138,x139,x140,x141,x142,x143,x144,x145,x146,x147,x148,x149,x150,x151,x152,x153,x154,x155,x156,x157,x158,x159,x160,x161,x162,x163,x164,x165,x166,x167,x168,x169,x170,x171,x172,x173,x174,x175,x176,x177,x178,x179,x180,x181,x182,x183,x184,x185,x186,x187,x188,x189,x190,x191,x192,x193,x194,x195,x196,x197,x198,x199,x200,x201,x202,x203,x204,x205,x206,x207,x208,x209,x210,x211,x212,x213,x214,x215,x216,x217,x218,x219,x220,x221,x222,x223,x224,x225,x226,x227,x228,x229,x230,x231,x232,x233,x234,x235,x236,x237,x238,x239,x240,x241,x242,x243,x244,x245,x246,x247,x248,x249,x250,x251,x252,x253,x254,x255,x256,x257,x258,x259,x260,x261,x262,x263,x264,x265,x266,x267,x268,x269,x270,x271,x272,x273,x274,x275,x276,x277,x278,x279,x280,x281,x282,x283,x284,x285,x286,x287,x288,x289,x290,x291,x292,x293,x294,x295,x296,x297,x298,x299,x300,x301,x302,x303,x304,x305,x306,x307,x308,x309,x310,x311,x312,x313,x314,x315,x316,x317,x318,x319,x320,x321,x322,x323,x324,x325,x326,x327,x328,x329,x330,x331,x332,x333,x334,x335,x336,x337],[]⟩ w0:=by
 conv=>arg 2; whnf
 have HE:=Lib.hid h0
 have HRET:=Lib.hid hret
 have hw:=IntWalk.i64_in (d - 1) (by have:=h0.hd5; have:=h0.hdn; omega)
 clear h0 hret
 go_wp2_with fail
 refine (type_any 0 0 g w0 (by omega) (by omega) (by omega) HE.out.deck).mono ?_
 rintro e w3 ⟨S,vs,rfl,okS,szS,tyS,hd3,hg3⟩
 obtain ⟨A3,c3,rfl⟩:=tyS.form
 have hS1:=small_nodes szS
 have TYS:=Lib.hid (And.intro tyS (And.intro hd3 hg3))
 clear tyS hd3 hg3 szS
 go_upto_region 8 with fail
 obtain ⟨bR,zR,kR⟩:=new_blk (Below.refl w3.heap.size w3) (Nat.le_refl _) #[.int .i64 S.kind,.slice A3 S.args.length c3] 30
 generalize w3.alloc (Obj.cells #[.int .i64 S.kind,.slice A3 S.args.length c3] 30)=R at bR zR kR ⊢
 have tR:=(turn_of TYS.out.2.2).trans (Turn.call bR)
 have HR:=Lib.hid (HE.out.next tR (TYS.out.2.1.call bR))
 have HS:=Lib.hid ((Typ.of TYS.out.1 HE.out.lt).turn (Turn.call bR))
 have hsz:=HE.out.sizes
 have hs3:=TYS.out.2.2.size
 have np:¬ Pair2 g (w.heap.size+1) w3.heap.size:=by unfold Pair2; omega
 have hWR:W.heap.size≤R.heap.size:=HR.out.turn.size
 have hWz:g<W.heap.size:=by omega
 have hd5:=HE.out.hd5
 clear tR zR bR hsz hs3
 have QD:=Lib.hid (Turn.pair (q:=w.heap.size+1) (tDr g R))
 have QA:=Lib.hid (Turn.pair (q:=w.heap.size+1) (tAl g R (Obj.cells #[.int .i64 S.kind,.slice A3 S.args.length c3] 30)))
 have QB:=Lib.hid (Turn.pair (q:=w.heap.size+1) ((tAl g R (Obj.cells #[.int .i64 S.kind,.slice A3 S.args.length c3] 30)).trans (tDr g _)))
 have HSK:=Lib.hid fun (w':World) (h:Turn (Pair2 g (w.heap.size+1)) R w')=>And.intro (HR.out.held h).1 (And.intro (HR.out.held h).2 (And.intro (h.blk kR np).facts2.1 (h.blk kR np).facts2.2.1))
 obtain ⟨q0,q1,q2,q3⟩:=HSK.out R (Turn.refl _ _)
 go_region_held3 (fun w'=>w'.cell? ⟨w.heap.size,0,none⟩ = some (.int .i64 t.kind)∧w'.cell? ⟨w.heap.size,1,none⟩ = some (.slice B t.args.length e)∧w'.cell? ⟨w3.heap.size,0,none⟩ = some (.int .i64 S.kind)∧w'.cell? ⟨w3.heap.size,1,none⟩ = some (.slice A3 S.args.length c3))
   (first | with_reducible exact HSK.out _ QD.out | with_reducible exact HSK.out _ QA.out | with_reducible exact HSK.out _ QB.out | with_reducible exact HSK.out _ Q4.out | with_reducible exact HSK.out _ Q5.out | with_reducible exact HSK.out _ QA5.out | with_reducible exact HSK.out _ Q6.out | with_reducible exact HSK.out _ Q7.out | with_reducible exact HSK.out _ QA7.out | with_reducible exact HSK.out _ Q8.out | with_reducible exact HSK.out _ QF.out)
   (first
     | (go_at_call 67
        have P8:=n_call 3 (bulk_2 b6 b7) (tm_sl2 (Trm.below (Trm.turn X6.out ((tRf g w6).trans U7.out) hWz)) (Trm.below (Trm.turn X7.out (tRf g w7) hWz)))
        (with_reducible refine P8.mono ?_)
        rintro e w8 ⟨y8,v8,h8,rfl,t8,r8⟩
        clear P8
        have T8:=Lib.hid ((T7.out.trans (tAl g _ (Obj.cells #[.int .i64 y6.kind,.int .i64 y6.index,.int .i64 y6.type.kind,.slice B6 y6.type.args.length e6,.slice A6 y6.args.length c6,.int .i64 y7.kind,.int .i64 y7.index,.int .i64 y7.type.kind,.slice B7 y7.type.args.length e7,.slice A7 y7.args.length c7] 42))).trans (tCa g r8))
        obtain ⟨B8,e8,A8,c8,rfl,_⟩:=IsTm.form t8
        have X8:=Lib.hid (show Trm W.heap.size w8 y8 (.agg #[.int .i64 y8.kind,.int .i64 y8.index,.int .i64 y8.type.kind,.slice B8 y8.type.args.length e8,.slice A8 y8.args.length c8]) from Trm.mono t8 (Nat.le_trans hWR ((T7.out.trans (tAl g _ (Obj.cells #[.int .i64 y6.kind,.int .i64 y6.index,.int .i64 y6.type.kind,.slice B6 y6.type.args.length e6,.slice A6 y6.args.length c6,.int .i64 y7.kind,.int .i64 y7.index,.int .i64 y7.type.kind,.slice B7 y7.type.args.length e7,.slice A7 y7.args.length c7] 42)))).size))
        have U8:=Lib.hid ((tAl g _ (Obj.cells #[.int .i64 y6.kind,.int .i64 y6.index,.int .i64 y6.type.kind,.slice B6 y6.type.args.length e6,.slice A6 y6.args.length c6,.int .i64 y7.kind,.int .i64 y7.index,.int .i64 y7.type.kind,.slice B7 y7.type.args.length e7,.slice A7 y7.args.length c7] 42)).trans (tCa g r8))
        have K8:=Lib.hid (Deck.call (Deck.box K7.out (Obj.cells #[.int .i64 y6.kind,.int .i64 y6.index,.int .i64 y6.type.kind,.slice B6 y6.type.args.length e6,.slice A6 y6.args.length c6,.int .i64 y7.kind,.int .i64 y7.index,.int .i64 y7.type.kind,.slice B7 y7.type.args.length e7,.slice A7 y7.args.length c7] 42)) r8)
        obtain ⟨_,_,_,_,_,f0,f1,f2,f3,f4⟩:=(HR.out.result T8.out).facts5
        have E8:=Lib.hid h8
        clear t8 r8 h8
        have Q8:=Lib.hid (Turn.pair (q:=w.heap.size+1) T8.out)
        have QF:=Lib.hid (Turn.trans Q8.out (turn_set5 (g:=g) w8 (w.heap.size+1) (.int .i64 y8.kind) (.int .i64 y8.index) (.int .i64 y8.type.kind) (.slice B8 y8.type.args.length e8) (.slice A8 y8.args.length c8))))
     | (go_at_call 16
        have P7:=HR.out.term hdp (Ctx.turn HR.out.ctxAt T6.out) (Typ.turn HS.out T6.out) K6.out okS (by omega) (by have:=nodes_pos t; omega)
        (with_reducible refine P7.mono ?_)
        rintro e w7 ⟨y7,v7,rfl,m7,t7,k7,u7⟩
        clear P7
        have T7:=Lib.hid (T6.out.trans (u7))
        obtain ⟨B7,e7,A7,c7,rfl,_⟩:=IsTm.form t7
        have X7:=Lib.hid (show Trm W.heap.size w7 y7 (.agg #[.int .i64 y7.kind,.int .i64 y7.index,.int .i64 y7.type.kind,.slice B7 y7.type.args.length e7,.slice A7 y7.args.length c7]) from Trm.mono t7 (Nat.le_trans hWR (T6.out).size))
        have M7:=Lib.hid m7
        have b7:y7.bulk≤12000:=m7.bulk_le (bdN_le _ (by omega))
        have U7:=Lib.hid u7
        have K7:=Lib.hid k7
        clear m7 t7 k7 u7
        have Q7:=Lib.hid (Turn.pair (q:=w.heap.size+1) T7.out)
        have QA7:=Lib.hid (Turn.pair (q:=w.heap.size+1) (T7.out.trans (tAl g _ (Obj.cells #[.int .i64 y6.kind,.int .i64 y6.index,.int .i64 y6.type.kind,.slice B6 y6.type.args.length e6,.slice A6 y6.args.length c6,.int .i64 y7.kind,.int .i64 y7.index,.int .i64 y7.type.kind,.slice B7 y7.type.args.length e7,.slice A7 y7.args.length c7] 42)))))
     | (go_at_call 68
        have P6:=t_call 2 (T:=S) (by omega) (bulk_1 b5) (Typ.below (Typ.turn HS.out (T5.out.trans (tAl g _ (Obj.cells #[.int .i64 y5.kind,.int .i64 y5.index,.int .i64 y5.type.kind,.slice B5 y5.type.args.length e5,.slice A5 y5.args.length c5] 42))))) (tm_sl1 (Trm.below (Trm.turn X5.out (tRf g w5) hWz)))
        (with_reducible refine P6.mono ?_)
        rintro e w6 ⟨y6,v6,h6,rfl,t6,r6⟩
        clear P6
        have T6:=Lib.hid ((T5.out.trans (tAl g _ (Obj.cells #[.int .i64 y5.kind,.int .i64 y5.index,.int .i64 y5.type.kind,.slice B5 y5.type.args.length e5,.slice A5 y5.args.length c5] 42))).trans (tCa g r6))
        obtain ⟨B6,e6,A6,c6,rfl,_⟩:=IsTm.form t6
        have X6:=Lib.hid (show Trm W.heap.size w6 y6 (.agg #[.int .i64 y6.kind,.int .i64 y6.index,.int .i64 y6.type.kind,.slice B6 y6.type.args.length e6,.slice A6 y6.args.length c6]) from Trm.mono t6 (Nat.le_trans hWR ((T5.out.trans (tAl g _ (Obj.cells #[.int .i64 y5.kind,.int .i64 y5.index,.int .i64 y5.type.kind,.slice B5 y5.type.args.length e5,.slice A5 y5.args.length c5] 42)))).size))
        have U6:=Lib.hid ((tAl g _ (Obj.cells #[.int .i64 y5.kind,.int .i64 y5.index,.int .i64 y5.type.kind,.slice B5 y5.type.args.length e5,.slice A5 y5.args.length c5] 42)).trans (tCa g r6))
        have K6:=Lib.hid (Deck.call (Deck.box K5.out (Obj.cells #[.int .i64 y5.kind,.int .i64 y5.index,.int .i64 y5.type.kind,.slice B5 y5.type.args.length e5,.slice A5 y5.args.length c5] 42)) r6)
        have b6:y6.bulk≤12010:=by rw [h6]; exact bulkN1 (by omega) b5
        have E6:=Lib.hid h6
        clear t6 r6 h6
        have Q6:=Lib.hid (Turn.pair (q:=w.heap.size+1) T6.out))
     | (go_at_call 16
        have P5:=HR.out.term hdp C4.out (Typ.turn HR.out.typAt T4.out) K4.out HR.out.hok HR.out.hn (by simp; omega)
        (with_reducible refine P5.mono ?_)
        rintro e w5 ⟨y5,v5,rfl,m5,t5,k5,u5⟩
        clear P5
        have T5:=Lib.hid (T4.out.trans (u5))
        obtain ⟨B5,e5,A5,c5,rfl,_⟩:=IsTm.form t5
        have X5:=Lib.hid (show Trm W.heap.size w5 y5 (.agg #[.int .i64 y5.kind,.int .i64 y5.index,.int .i64 y5.type.kind,.slice B5 y5.type.args.length e5,.slice A5 y5.args.length c5]) from Trm.mono t5 (Nat.le_trans hWR (T4.out).size))
        have M5:=Lib.hid m5
        have b5:y5.bulk≤12000:=m5.bulk_le (bdN_le _ (by omega))
        have U5:=Lib.hid u5
        have K5:=Lib.hid k5
        clear m5 t5 k5 u5
        have Q5:=Lib.hid (Turn.pair (q:=w.heap.size+1) T5.out)
        have QA5:=Lib.hid (Turn.pair (q:=w.heap.size+1) (T5.out.trans (tAl g _ (Obj.cells #[.int .i64 y5.kind,.int .i64 y5.index,.int .i64 y5.type.kind,.slice B5 y5.type.args.length e5,.slice A5 y5.args.length c5] 42)))))
     | (go_at_call 57
        have P4:=longer_ctx (g:=g) (L:=[S]) (Nat.lt_of_lt_of_le HR.out.lt (((tAl g R (Obj.cells #[.int .i64 S.kind,.slice A3 S.args.length c3] 30)).trans (tDr g _))).size) (by have:=HR.out.hlen; omega) (by simp) (Ctx.turn HR.out.ctxAt ((tAl g R (Obj.cells #[.int .i64 S.kind,.slice A3 S.args.length c3] 30)).trans (tDr g _))) (Rep.Sl.turn (R:=TyR) (ty_sl1 HR.out.lt HS.out) (tDr g _)) (fun U hU=>by rw [List.mem_singleton.1 hU]; exact ⟨okS,by omega⟩) (by simp)
        (with_reducible refine P4.mono ?_)
        rintro e w4 ⟨z4,rfl,h4,b4⟩
        clear P4
        have T4:=Lib.hid (((tAl g R (Obj.cells #[.int .i64 S.kind,.slice A3 S.args.length c3] 30)).trans (tDr g _)).trans (tCa g b4))
        have K4:=Lib.hid (Deck.call (Deck.drewd (HR.out.deck.box (Obj.cells #[.int .i64 S.kind,.slice A3 S.args.length c3] 30))) b4)
        obtain ⟨A4,c4,rfl⟩:∃ A c,z4=.slice A (G.length+1) c:=by obtain ⟨A',c',e'⟩:=h4.sl.form; exact ⟨A',c',by rw [e']; simp⟩
        have C4:=Lib.hid h4
        clear h4 b4
        have Q4:=Lib.hid (Turn.pair (q:=w.heap.size+1) T4.out)))
 go_wp2_with fail
 obtain ⟨z0,z1,z2,z3,z4⟩:=((HR.out.result T8.out).set5 (.int .i64 (Tm.kind y8)) (.int .i64 (Tm.index y8)) (.int .i64 (Tm.type y8).kind) (.slice B8 (Tm.type y8).args.length e8) (.slice A8 (Tm.args y8).length c8)).cells5
 refine HRET.out _ _ (bodyPost_ret (v:=.agg #[.int .i64 (Tm.kind y8),.int .i64 (Tm.index y8),.int .i64 (Tm.type y8).kind,.slice B8 (Tm.type y8).args.length e8,.slice A8 (Tm.args y8).length c8]) (by simp [results,Tryz.results16,go_sem,z0,z1,z2,z3,z4]) rfl ?_)
 exact term_end HR.out.box (HR.out.turn.trans T8.out) K8.out (by rw [show d.toNat=(d - 1).toNat+1 by omega]; rw [E8.out,E6.out]; exact way_apply okS hS1 HR.out.hn M5.out M7.out) X8.out (Nat.le_refl _)

set_option maxRecDepth 1000000 in
set_option maxHeartbeats 4000000 in
theorem way11 {g M:Nat} {G:List Ty} {t:Ty} {d:Int} {A:Option Addr} {c:Nat} {B:Option Addr} {e:Nat} {w W w0:World} (h0:Here g M G t d A c B e w W w0) (hdp:0<d) (Q0:Exit→Act→World→Prop)
   (hret:∀ a' w',bodyPost Tryz.prog Tryz.f16 (TermR g G t (bdN d.toNat t) (bdO d.toNat t) w) .ret a' w'→Q0 .ret a' w')
   {x2 x4 x5 x7 x9 x10 x11 x12 x13 x14 x15 x16 x17 x18 x19 x20 x21 x22 x23 x24 x25 x26 x27 x28 x29 x30 x31 x32 x33 x34 x35 x36 x37 x38 x39 x40 x41 x42 x43 x44 x45 x46 x47 x48 x49 x50 x51 x52 x53 x54 x55 x56 x57 x58 x59 x60 x61 x62 x63 x64 x65 x66 x67 x68 x69 x70 x71 x72 x73 x74 x75 x76 x77 x78 x79 x80 x81 x82 x83 x84 x85 x86 x87 x88 x89 x90 x91 x92 x93 x94 x95 x96 x97 x98 x99 x100 x101 x102 x103 x104 x105 x106 x107 x108 x109 x110 x111 x112 x113 x114 x115 x116 x117 x118 x119 x120 x121 x122 x123 x124 x125 x126 x127 x128 x129 x130 x131 x132 x133 x134 x135 x136 x137 x138 x139 x140 x141 x142 x143 x144 x145 x146 x147 x148 x149 x150 x151 x152 x153 x154 x155 x156 x157 x158 x159 x160 x161 x162 x163 x164 x165 x166 x167 x168 x169 x170 x171 x172 x173 x174 x175 x176 x177 x178 x179 x180 x181 x182 x183 x184 x185 x186 x187 x188 x189 x190 x191 x192 x193 x194 x195 x196 x197 x198 x199 x200 x201 x202 x203 x204 x205 x206 x207 x208 x209 x210 x211 x212 x213 x214 x215 x216 x217 x218 x219 x220 x221 x222 x223 x224 x225 x226 x227 x228 x229 x230 x231 x232 x233 x234 x235 x236 x237 x238 x239 x240 x241 x242 x243 x244 x245 x246 x247 x248 x249 x250 x251 x252 x253 x254 x255 x256 x257 x258 x259 x260 x261 x262 x263 x264 x265 x266 x267 x268 x269 x270 x271 x272 x273 x274 x275 x276 x277 x278 x279 x280 x281 x282 x283 x284 x285 x286 x287 x288 x289 x290 x291 x292 x293 x294 x295 x296 x297 x298 x299 x300 x301 x302 x303 x304 x305 x306 x307 x308 x309 x310 x311 x312 x313 x314 x315 x316 x317 x318 x319 x320 x321 x322 x323 x324 x325 x326 x327 x328 x329 x330 x331 x332 x333 x334 x335 x336 x337:Value} :
   Code.wp Tryz.prog (piece 64) Q0 ⟨#[.pointer (some ⟨g,0,none⟩),.slice A G.length c,x2,.int .i64 d,x4,x5,.pointer (some ⟨w.heap.size,0,none⟩),x7,.pointer (some ⟨w.heap.size+1,0,none⟩),x9,x10,x11,x12,x13,x14,x15,x16,x17,x18,x19,x20,x21,x22,x23,x24,x25,x26,x27,x28,x29,x30,x31,x32,x33,x34,x35,x36,x37,x38,x39,x40,x41,x42,x43,x44,x45,x46,x47,x48,x49,x50,x51,x52,x53,x54,x55,x56,x57,x58,x59,x60,x61,x62,x63,x64,x65,x66,x67,x68,x69,x70,x71,x72,x73,x74,x75,x76,x77,x78,x79,x80,x81,x82,x83,x84,x85,x86,x87,x88,x89,x90,x91,x92,x93,x94,x95,x96,x97,x98,x99,x100,x101,x102,x103,x104,x105,x106,x107,x108,x109,x110,x111,x112,x113,x114,x115,x116,x117,x118,x119,x120,x121,x122,x123,x124,x125,x126,x127,x128,x129,x130,x131,x132,x133,x134,x135,x136,x137,x138,x139,x140,x141,x142,x143,x144,x145,x146,x147,x148,x149,x150,x151,x152,x153,x154,x155,x156,x157,x158,x159,x160,x161,x162,x163,x164,x165,x166,x167,x168,x169,x170,x171,x172,x173,x174,x175,x176,x177,x178,x179,x180,x181,x182,x183,x184,x185,x186,x187,x188,x189,x190,x191,x192,x193,x194,x195,x196,x197,x198,x199,x200,x201,x202,x203,x204,x205,x206,x207,x208,x209,x210,x211,x212,x213,x214,x215,x216,x217,x218,x219,x220,x221,x222,x223,x224,x225,x226,x227,x228,x229,x230,x231,x232,x233,x234,x235,x236,x237,x238,x239,x240,x241,x242,x243,x244,x245,x246,x247,x248,x249,x250,x251,x252,x253,x254,x255,x256,x257,x258,x259,x260,x261,x262,x263,x264,x265,x266,x267,x268,x269,x270,x271,x272,x273,x274,x275,x276,x277,x278,x279,x280,x281,x282,x283,x284,x285,x286,x287,x288,x289,x290,x291,x292,x293,x294,x295,x296,x297,x298,x299,x300,x301,x302,x303,x304,x305,x306,x307,x308,x309,x310,x311,x312,x313,x314,x315,x316,x317,x318,x319,x320,x321,x322,x323,x324,x325,x326,x327,x328,x329,x330,x331,x332,x333,x334,x335,x336,x337],[]⟩ w0:=by
 conv=>arg 2; whnf
 have HE:=Lib.hid h0
 have HRET:=Lib.hid hret
 have hw:=IntWalk.i64_in (d - 1) (by have:=h0.hd5; have:=h0.hdn; omega)
 clear h0 hret
 go_wp2_with fail
 refine (type_any 0 0 g w0 (by omega) (by omega) (by omega) HE.out.deck).mono ?_
 rintro e w3 ⟨S,vs,rfl,okS,szS,tyS,hd3,hg3⟩
 obtain ⟨A3,c3,rfl⟩:=tyS.form
 have hS1:=small_nodes szS
 have TYS:=Lib.hid (And.intro tyS (And.intro hd3 hg3))
 clear tyS hd3 hg3 szS
 go_upto_region 11 with fail
 obtain ⟨bR,zR,kR⟩:=new_blk (Below.refl w3.heap.size w3) (Nat.le_refl _) #[.int .i64 S.kind,.slice A3 S.args.length c3] 30
 generalize w3.alloc (Obj.cells #[.int .i64 S.kind,.slice A3 S.args.length c3] 30)=R at bR zR kR ⊢
 have tR:=(turn_of TYS.out.2.2).trans (Turn.call bR)
 have HR:=Lib.hid (HE.out.next tR (TYS.out.2.1.call bR))
 have HS:=Lib.hid ((Typ.of TYS.out.1 HE.out.lt).turn (Turn.call bR))
 have hsz:=HE.out.sizes
 have hs3:=TYS.out.2.2.size
 have np:¬ Pair2 g (w.heap.size+1) w3.heap.size:=by unfold Pair2; omega
 have hWR:W.heap.size≤R.heap.size:=HR.out.turn.size
 have hWz:g<W.heap.size:=by omega
 have hd5:=HE.out.hd5
 clear tR zR bR hsz hs3
 have QD:=Lib.hid (Turn.pair (q:=w.heap.size+1) (tDr g R))
 have HSK:=Lib.hid fun (w':World) (h:Turn (Pair2 g (w.heap.size+1)) R w')=>And.intro (HR.out.held h).1 (And.intro (HR.out.held h).2 (And.intro (h.blk kR np).facts2.1 (h.blk kR np).facts2.2.1))
 obtain ⟨q0,q1,q2,q3⟩:=HSK.out R (Turn.refl _ _)
 go_region_held3 (fun w'=>w'.cell? ⟨w.heap.size,0,none⟩ = some (.int .i64 t.kind)∧w'.cell? ⟨w.heap.size,1,none⟩ = some (.slice B t.args.length e)∧w'.cell? ⟨w3.heap.size,0,none⟩ = some (.int .i64 S.kind)∧w'.cell? ⟨w3.heap.size,1,none⟩ = some (.slice A3 S.args.length c3))
   (first | with_reducible exact HSK.out _ QD.out | with_reducible exact HSK.out _ Q5.out | with_reducible exact HSK.out _ Q6.out | with_reducible exact HSK.out _ QA6.out | with_reducible exact HSK.out _ Q7.out | with_reducible exact HSK.out _ QA7.out | with_reducible exact HSK.out _ Q8.out | with_reducible exact HSK.out _ QF.out)
   (first
     | (go_at_call 67
        have P8:=n_call 11 (bulk_1 b7) (tm_sl1 (Trm.below (Trm.turn X7.out (tRf g w7) hWz)))
        (with_reducible refine P8.mono ?_)
        rintro e w8 ⟨y8,v8,h8,rfl,t8,r8⟩
        clear P8
        have T8:=Lib.hid ((T7.out.trans (tAl g _ (Obj.cells #[.int .i64 y7.kind,.int .i64 y7.index,.int .i64 y7.type.kind,.slice B7 y7.type.args.length e7,.slice A7 y7.args.length c7] 42))).trans (tCa g r8))
        obtain ⟨B8,e8,A8,c8,rfl,_⟩:=IsTm.form t8
        have X8:=Lib.hid (show Trm W.heap.size w8 y8 (.agg #[.int .i64 y8.kind,.int .i64 y8.index,.int .i64 y8.type.kind,.slice B8 y8.type.args.length e8,.slice A8 y8.args.length c8]) from Trm.mono t8 (Nat.le_trans hWR ((T7.out.trans (tAl g _ (Obj.cells #[.int .i64 y7.kind,.int .i64 y7.index,.int .i64 y7.type.kind,.slice B7 y7.type.args.length e7,.slice A7 y7.args.length c7] 42)))).size))
        have U8:=Lib.hid ((tAl g _ (Obj.cells #[.int .i64 y7.kind,.int .i64 y7.index,.int .i64 y7.type.kind,.slice B7 y7.type.args.length e7,.slice A7 y7.args.length c7] 42)).trans (tCa g r8))
        have K8:=Lib.hid (Deck.call (Deck.box K7.out (Obj.cells #[.int .i64 y7.kind,.int .i64 y7.index,.int .i64 y7.type.kind,.slice B7 y7.type.args.length e7,.slice A7 y7.args.length c7] 42)) r8)
        obtain ⟨_,_,_,_,_,f0,f1,f2,f3,f4⟩:=(HR.out.result T8.out).facts5
        have E8:=Lib.hid h8
        clear t8 r8 h8
        have Q8:=Lib.hid (Turn.pair (q:=w.heap.size+1) T8.out)
        have QF:=Lib.hid (Turn.trans Q8.out (turn_set5 (g:=g) w8 (w.heap.size+1) (.int .i64 y8.kind) (.int .i64 y8.index) (.int .i64 y8.type.kind) (.slice B8 y8.type.args.length e8) (.slice A8 y8.args.length c8))))
     | (go_at_call 67
        have P7:=n_call 10 (bulk_2 b5 b6) (tm_sl2 (Trm.below (Trm.turn X5.out ((tRf g w5).trans U6.out) hWz)) (Trm.below (Trm.turn X6.out (tRf g w6) hWz)))
        (with_reducible refine P7.mono ?_)
        rintro e w7 ⟨y7,v7,h7,rfl,t7,r7⟩
        clear P7
        have T7:=Lib.hid ((T6.out.trans (tAl g _ (Obj.cells #[.int .i64 y5.kind,.int .i64 y5.index,.int .i64 y5.type.kind,.slice B5 y5.type.args.length e5,.slice A5 y5.args.length c5,.int .i64 y6.kind,.int .i64 y6.index,.int .i64 y6.type.kind,.slice B6 y6.type.args.length e6,.slice A6 y6.args.length c6] 42))).trans (tCa g r7))
        obtain ⟨B7,e7,A7,c7,rfl,_⟩:=IsTm.form t7
        have X7:=Lib.hid (show Trm W.heap.size w7 y7 (.agg #[.int .i64 y7.kind,.int .i64 y7.index,.int .i64 y7.type.kind,.slice B7 y7.type.args.length e7,.slice A7 y7.args.length c7]) from Trm.mono t7 (Nat.le_trans hWR ((T6.out.trans (tAl g _ (Obj.cells #[.int .i64 y5.kind,.int .i64 y5.index,.int .i64 y5.type.kind,.slice B5 y5.type.args.length e5,.slice A5 y5.args.length c5,.int .i64 y6.kind,.int .i64 y6.index,.int .i64 y6.type.kind,.slice B6 y6.type.args.length e6,.slice A6 y6.args.length c6] 42)))).size))
        have U7:=Lib.hid ((tAl g _ (Obj.cells #[.int .i64 y5.kind,.int .i64 y5.index,.int .i64 y5.type.kind,.slice B5 y5.type.args.length e5,.slice A5 y5.args.length c5,.int .i64 y6.kind,.int .i64 y6.index,.int .i64 y6.type.kind,.slice B6 y6.type.args.length e6,.slice A6 y6.args.length c6] 42)).trans (tCa g r7))
        have K7:=Lib.hid (Deck.call (Deck.box K6.out (Obj.cells #[.int .i64 y5.kind,.int .i64 y5.index,.int .i64 y5.type.kind,.slice B5 y5.type.args.length e5,.slice A5 y5.args.length c5,.int .i64 y6.kind,.int .i64 y6.index,.int .i64 y6.type.kind,.slice B6 y6.type.args.length e6,.slice A6 y6.args.length c6] 42)) r7)
        have b7:y7.bulk≤24010:=by rw [h7]; exact bulkN2 (by decide) b5 b6
        have E7:=Lib.hid h7
        clear t7 r7 h7
        have Q7:=Lib.hid (Turn.pair (q:=w.heap.size+1) T7.out)
        have QA7:=Lib.hid (Turn.pair (q:=w.heap.size+1) (T7.out.trans (tAl g _ (Obj.cells #[.int .i64 y7.kind,.int .i64 y7.index,.int .i64 y7.type.kind,.slice B7 y7.type.args.length e7,.slice A7 y7.args.length c7] 42)))))
     | (go_at_call 16
        have P6:=HR.out.term hdp (Ctx.turn HR.out.ctxAt T5.out) (Typ.turn HS.out T5.out) K5.out okS (by omega) (by have:=nodes_pos t; omega)
        (with_reducible refine P6.mono ?_)
        rintro e w6 ⟨y6,v6,rfl,m6,t6,k6,u6⟩
        clear P6
        have T6:=Lib.hid (T5.out.trans (u6))
        obtain ⟨B6,e6,A6,c6,rfl,_⟩:=IsTm.form t6
        have X6:=Lib.hid (show Trm W.heap.size w6 y6 (.agg #[.int .i64 y6.kind,.int .i64 y6.index,.int .i64 y6.type.kind,.slice B6 y6.type.args.length e6,.slice A6 y6.args.length c6]) from Trm.mono t6 (Nat.le_trans hWR (T5.out).size))
        have M6:=Lib.hid m6
        have b6:y6.bulk≤12000:=m6.bulk_le (bdN_le _ (by omega))
        have U6:=Lib.hid u6
        have K6:=Lib.hid k6
        clear m6 t6 k6 u6
        have Q6:=Lib.hid (Turn.pair (q:=w.heap.size+1) T6.out)
        have QA6:=Lib.hid (Turn.pair (q:=w.heap.size+1) (T6.out.trans (tAl g _ (Obj.cells #[.int .i64 y5.kind,.int .i64 y5.index,.int .i64 y5.type.kind,.slice B5 y5.type.args.length e5,.slice A5 y5.args.length c5,.int .i64 y6.kind,.int .i64 y6.index,.int .i64 y6.type.kind,.slice B6 y6.type.args.length e6,.slice A6 y6.args.length c6] 42)))))
     | (go_at_call 16
        have P5:=HR.out.term hdp (Ctx.turn HR.out.ctxAt (tDr g R)) (Typ.turn HR.out.typAt (tDr g R)) (Deck.drewd HR.out.deck) HR.out.hok HR.out.hn (by omega)
        (with_reducible refine P5.mono ?_)
        rintro e w5 ⟨y5,v5,rfl,m5,t5,k5,u5⟩
        clear P5
        have T5:=Lib.hid ((tDr g R).trans (u5))
        obtain ⟨B5,e5,A5,c5,rfl,_⟩:=IsTm.form t5
        have X5:=Lib.hid (show Trm W.heap.size w5 y5 (.agg #[.int .i64 y5.kind,.int .i64 y5.index,.int .i64 y5.type.kind,.slice B5 y5.type.args.length e5,.slice A5 y5.args.length c5]) from Trm.mono t5 (Nat.le_trans hWR ((tDr g R)).size))
        have M5:=Lib.hid m5
        have b5:y5.bulk≤12000:=m5.bulk_le (bdN_le _ (by omega))
        have U5:=Lib.hid u5
        have K5:=Lib.hid k5
        clear m5 t5 k5 u5
        have Q5:=Lib.hid (Turn.pair (q:=w.heap.size+1) T5.out)))
 go_wp2_with fail
 obtain ⟨z0,z1,z2,z3,z4⟩:=((HR.out.result T8.out).set5 (.int .i64 (Tm.kind y8)) (.int .i64 (Tm.index y8)) (.int .i64 (Tm.type y8).kind) (.slice B8 (Tm.type y8).args.length e8) (.slice A8 (Tm.args y8).length c8)).cells5
 refine HRET.out _ _ (bodyPost_ret (v:=.agg #[.int .i64 (Tm.kind y8),.int .i64 (Tm.index y8),.int .i64 (Tm.type y8).kind,.slice B8 (Tm.type y8).args.length e8,.slice A8 (Tm.args y8).length c8]) (by simp [results,Tryz.results16,go_sem,z0,z1,z2,z3,z4]) rfl ?_)
 exact term_end HR.out.box (HR.out.turn.trans T8.out) K8.out (by rw [show d.toNat=(d - 1).toNat+1 by omega]; rw [E8.out,E7.out]; exact way_fst hS1 HR.out.hn M5.out M6.out) X8.out (Nat.le_refl _)

set_option maxRecDepth 1000000 in
set_option maxHeartbeats 4000000 in
theorem way20 {g M:Nat} {G:List Ty} {t:Ty} {d:Int} {A:Option Addr} {c:Nat} {B:Option Addr} {e:Nat} {w W w0:World} (h0:Here g M G t d A c B e w W w0) (hdp:0<d) (Q0:Exit→Act→World→Prop)
   (hret:∀ a' w',bodyPost Tryz.prog Tryz.f16 (TermR g G t (bdN d.toNat t) (bdO d.toNat t) w) .ret a' w'→Q0 .ret a' w')
   {x2 x4 x5 x7 x9 x10 x11 x12 x13 x14 x15 x16 x17 x18 x19 x20 x21 x22 x23 x24 x25 x26 x27 x28 x29 x30 x31 x32 x33 x34 x35 x36 x37 x38 x39 x40 x41 x42 x43 x44 x45 x46 x47 x48 x49 x50 x51 x52 x53 x54 x55 x56 x57 x58 x59 x60 x61 x62 x63 x64 x65 x66 x67 x68 x69 x70 x71 x72 x73 x74 x75 x76 x77 x78 x79 x80 x81 x82 x83 x84 x85 x86 x87 x88 x89 x90 x91 x92 x93 x94 x95 x96 x97 x98 x99 x100 x101 x102 x103 x104 x105 x106 x107 x108 x109 x110 x111 x112 x113 x114 x115 x116 x117 x118 x119 x120 x121 x122 x123 x124 x125 x126 x127 x128 x129 x130 x131 x132 x133 x134 x135 x136 x137 x138 x139 x140 x141 x142 x143 x144 x145 x146 x147 x148 x149 x150 x151 x152 x153 x154 x155 x156 x157 x158 x159 x160 x161 x162 x163 x164 x165 x166 x167 x168 x169 x170 x171 x172 x173 x174 x175 x176 x177 x178 x179 x180 x181 x182 x183 x184 x185 x186 x187 x188 x189 x190 x191 x192 x193 x194 x195 x196 x197 x198 x199 x200 x201 x202 x203 x204 x205 x206 x207 x208 x209 x210 x211 x212 x213 x214 x215 x216 x217 x218 x219 x220 x221 x222 x223 x224 x225 x226 x227 x228 x229 x230 x231 x232 x233 x234 x235 x236 x237 x238 x239 x240 x241 x242 x243 x244 x245 x246 x247 x248 x249 x250 x251 x252 x253 x254 x255 x256 x257 x258 x259 x260 x261 x262 x263 x264 x265 x266 x267 x268 x269 x270 x271 x272 x273 x274 x275 x276 x277 x278 x279 x280 x281 x282 x283 x284 x285 x286 x287 x288 x289 x290 x291 x292 x293 x294 x295 x296 x297 x298 x299 x300 x301 x302 x303 x304 x305 x306 x307 x308 x309 x310 x311 x312 x313 x314 x315 x316 x317 x318 x319 x320 x321 x322 x323 x324 x325 x326 x327 x328 x329 x330 x331 x332 x333 x334 x335 x336 x337:Value} :
   Code.wp Tryz.prog (piece 153) Q0 ⟨#[.pointer (some ⟨g,0,none⟩),.slice A G.length c,x2,.int .i64 d,x4,x5,.pointer (some ⟨w.heap.size,0,none⟩),x7,.pointer (some ⟨w.heap.size+1,0,none⟩),x9,x10,x11,x12,x13,x14,x15,x16,x17,x18,x19,x20,x21,x22,x23,x24,x25,x26,x27,x28,x29,x30,x31,x32,x33,x34,x35,x36,x37,x38,x39,x40,x41,x42,x43,x44,x45,x46,x47,x48,x49,x50,x51,x52,x53,x54,x55,x56,x57,x58,x59,x60,x61,x62,x63,x64,x65,x66,x67,x68,x69,x70,x71,x72,x73,x74,x75,x76,x77,x78,x79,x80,x81,x82,x83,x84,x85,x86,x87,x88,x89,x90,x91,x92,x93,x94,x95,x96,x97,x98,x99,x100,x101,x102,x103,x104,x105,x106,x107,x108,x109,x110,x111,x112,x113,x114,x115,x116,x117,x118,x119,x120,x121,x122,x123,x124,x125,x126,x127,x128,x129,x130,x131,x132,x133,x134,x135,x136,x137,x138,x139,x140,x141,x142,x143,x144,x145,x146,x147,x148,x149,x150,x151,x152,x153,x154,x155,x156,x157,x158,x159,x160,x161,x162,x163,x164,x165,x166,x167,x168,x169,x170,x171,x172,x173,x174,x175,x176,x177,x178,x179,x180,x181,x182,x183,x184,x185,x186,x187,x188,x189,x190,x191,x192,x193,x194,x195,x196,x197,x198,x199,x200,x201,x202,x203,x204,x205,x206,x207,x208,x209,x210,x211,x212,x213,x214,x215,x216,x217,x218,x219,x220,x221,x222,x223,x224,x225,x226,x227,x228,x229,x230,x231,x232,x233,x234,x235,x236,x237,x238,x239,x240,x241,x242,x243,x244,x245,x246,x247,x248,x249,x250,x251,x252,x253,x254,x255,x256,x257,x258,x259,x260,x261,x262,x263,x264,x265,x266,x267,x268,x269,x270,x271,x272,x273,x274,x275,x276,x277,x278,x279,x280,x281,x282,x283,x284,x285,x286,x287,x288,x289,x290,x291,x292,x293,x294,x295,x296,x297,x298,x299,x300,x301,x302,x303,x304,x305,x306,x307,x308,x309,x310,x311,x312,x313,x314,x315,x316,x317,x318,x319,x320,x321,x322,x323,x324,x325,x326,x327,x328,x329,x330,x331,x332,x333,x334,x335,x336,x337],[]⟩ w0:=by
 conv=>arg 2; whnf
 have HE:=Lib.hid h0
 have HRET:=Lib.hid hret
 have hw:=IntWalk.i64_in (d - 1) (by have:=h0.hd5; have:=h0.hdn; omega)
 clear h0 hret
 go_wp2_with fail
 refine (type_any 0 0 g w0 (by omega) (by omega) (by omega) HE.out.deck).mono ?_
 rintro e w3 ⟨S,vs,rfl,okS,szS,tyS,hd3,hg3⟩
 obtain ⟨A3,c3,rfl⟩:=tyS.form
 have hS1:=small_nodes szS
 have TYS:=Lib.hid (And.intro tyS (And.intro hd3 hg3))
 clear tyS hd3 hg3 szS
 go_upto_region 20 with fail
 obtain ⟨bR,zR,kR⟩:=new_blk (Below.refl w3.heap.size w3) (Nat.le_refl _) #[.int .i64 S.kind,.slice A3 S.args.length c3] 30
 generalize w3.alloc (Obj.cells #[.int .i64 S.kind,.slice A3 S.args.length c3] 30)=R at bR zR kR ⊢
 have tR:=(turn_of TYS.out.2.2).trans (Turn.call bR)
 have HR:=Lib.hid (HE.out.next tR (TYS.out.2.1.call bR))
 have HS:=Lib.hid ((Typ.of TYS.out.1 HE.out.lt).turn (Turn.call bR))
 have hsz:=HE.out.sizes
 have hs3:=TYS.out.2.2.size
 have np:¬ Pair2 g (w.heap.size+1) w3.heap.size:=by unfold Pair2; omega
 have hWR:W.heap.size≤R.heap.size:=HR.out.turn.size
 have hWz:g<W.heap.size:=by omega
 have hd5:=HE.out.hd5
 clear tR zR bR hsz hs3
 have QD:=Lib.hid (Turn.pair (q:=w.heap.size+1) (tDr g R))
 have HSK:=Lib.hid fun (w':World) (h:Turn (Pair2 g (w.heap.size+1)) R w')=>And.intro (HR.out.held h).1 (And.intro (HR.out.held h).2 (And.intro (h.blk kR np).facts2.1 (h.blk kR np).facts2.2.1))
 obtain ⟨q0,q1,q2,q3⟩:=HSK.out R (Turn.refl _ _)
 go_region_held3 (fun w'=>w'.cell? ⟨w.heap.size,0,none⟩ = some (.int .i64 t.kind)∧w'.cell? ⟨w.heap.size,1,none⟩ = some (.slice B t.args.length e)∧w'.cell? ⟨w3.heap.size,0,none⟩ = some (.int .i64 S.kind)∧w'.cell? ⟨w3.heap.size,1,none⟩ = some (.slice A3 S.args.length c3))
   (first | with_reducible exact HSK.out _ QD.out | with_reducible exact HSK.out _ Q5.out | with_reducible exact HSK.out _ Q6.out | with_reducible exact HSK.out _ QA6.out | with_reducible exact HSK.out _ Q7.out | with_reducible exact HSK.out _ QA7.out | with_reducible exact HSK.out _ Q8.out | with_reducible exact HSK.out _ QF.out)
   (first
     | (go_at_call 67
        have P8:=n_call 12 (bulk_1 b7) (tm_sl1 (Trm.below (Trm.turn X7.out (tRf g w7) hWz)))
        (with_reducible refine P8.mono ?_)
        rintro e w8 ⟨y8,v8,h8,rfl,t8,r8⟩
        clear P8
        have T8:=Lib.hid ((T7.out.trans (tAl g _ (Obj.cells #[.int .i64 y7.kind,.int .i64 y7.index,.int .i64 y7.type.kind,.slice B7 y7.type.args.length e7,.slice A7 y7.args.length c7] 42))).trans (tCa g r8))
        obtain ⟨B8,e8,A8,c8,rfl,_⟩:=IsTm.form t8
        have X8:=Lib.hid (show Trm W.heap.size w8 y8 (.agg #[.int .i64 y8.kind,.int .i64 y8.index,.int .i64 y8.type.kind,.slice B8 y8.type.args.length e8,.slice A8 y8.args.length c8]) from Trm.mono t8 (Nat.le_trans hWR ((T7.out.trans (tAl g _ (Obj.cells #[.int .i64 y7.kind,.int .i64 y7.index,.int .i64 y7.type.kind,.slice B7 y7.type.args.length e7,.slice A7 y7.args.length c7] 42)))).size))
        have U8:=Lib.hid ((tAl g _ (Obj.cells #[.int .i64 y7.kind,.int .i64 y7.index,.int .i64 y7.type.kind,.slice B7 y7.type.args.length e7,.slice A7 y7.args.length c7] 42)).trans (tCa g r8))
        have K8:=Lib.hid (Deck.call (Deck.box K7.out (Obj.cells #[.int .i64 y7.kind,.int .i64 y7.index,.int .i64 y7.type.kind,.slice B7 y7.type.args.length e7,.slice A7 y7.args.length c7] 42)) r8)
        obtain ⟨_,_,_,_,_,f0,f1,f2,f3,f4⟩:=(HR.out.result T8.out).facts5
        have E8:=Lib.hid h8
        clear t8 r8 h8
        have Q8:=Lib.hid (Turn.pair (q:=w.heap.size+1) T8.out)
        have QF:=Lib.hid (Turn.trans Q8.out (turn_set5 (g:=g) w8 (w.heap.size+1) (.int .i64 y8.kind) (.int .i64 y8.index) (.int .i64 y8.type.kind) (.slice B8 y8.type.args.length e8) (.slice A8 y8.args.length c8))))
     | (go_at_call 67
        have P7:=n_call 10 (bulk_2 b5 b6) (tm_sl2 (Trm.below (Trm.turn X5.out ((tRf g w5).trans U6.out) hWz)) (Trm.below (Trm.turn X6.out (tRf g w6) hWz)))
        (with_reducible refine P7.mono ?_)
        rintro e w7 ⟨y7,v7,h7,rfl,t7,r7⟩
        clear P7
        have T7:=Lib.hid ((T6.out.trans (tAl g _ (Obj.cells #[.int .i64 y5.kind,.int .i64 y5.index,.int .i64 y5.type.kind,.slice B5 y5.type.args.length e5,.slice A5 y5.args.length c5,.int .i64 y6.kind,.int .i64 y6.index,.int .i64 y6.type.kind,.slice B6 y6.type.args.length e6,.slice A6 y6.args.length c6] 42))).trans (tCa g r7))
        obtain ⟨B7,e7,A7,c7,rfl,_⟩:=IsTm.form t7
        have X7:=Lib.hid (show Trm W.heap.size w7 y7 (.agg #[.int .i64 y7.kind,.int .i64 y7.index,.int .i64 y7.type.kind,.slice B7 y7.type.args.length e7,.slice A7 y7.args.length c7]) from Trm.mono t7 (Nat.le_trans hWR ((T6.out.trans (tAl g _ (Obj.cells #[.int .i64 y5.kind,.int .i64 y5.index,.int .i64 y5.type.kind,.slice B5 y5.type.args.length e5,.slice A5 y5.args.length c5,.int .i64 y6.kind,.int .i64 y6.index,.int .i64 y6.type.kind,.slice B6 y6.type.args.length e6,.slice A6 y6.args.length c6] 42)))).size))
        have U7:=Lib.hid ((tAl g _ (Obj.cells #[.int .i64 y5.kind,.int .i64 y5.index,.int .i64 y5.type.kind,.slice B5 y5.type.args.length e5,.slice A5 y5.args.length c5,.int .i64 y6.kind,.int .i64 y6.index,.int .i64 y6.type.kind,.slice B6 y6.type.args.length e6,.slice A6 y6.args.length c6] 42)).trans (tCa g r7))
        have K7:=Lib.hid (Deck.call (Deck.box K6.out (Obj.cells #[.int .i64 y5.kind,.int .i64 y5.index,.int .i64 y5.type.kind,.slice B5 y5.type.args.length e5,.slice A5 y5.args.length c5,.int .i64 y6.kind,.int .i64 y6.index,.int .i64 y6.type.kind,.slice B6 y6.type.args.length e6,.slice A6 y6.args.length c6] 42)) r7)
        have b7:y7.bulk≤24010:=by rw [h7]; exact bulkN2 (by decide) b5 b6
        have E7:=Lib.hid h7
        clear t7 r7 h7
        have Q7:=Lib.hid (Turn.pair (q:=w.heap.size+1) T7.out)
        have QA7:=Lib.hid (Turn.pair (q:=w.heap.size+1) (T7.out.trans (tAl g _ (Obj.cells #[.int .i64 y7.kind,.int .i64 y7.index,.int .i64 y7.type.kind,.slice B7 y7.type.args.length e7,.slice A7 y7.args.length c7] 42)))))
     | (go_at_call 16
        have P6:=HR.out.term hdp (Ctx.turn HR.out.ctxAt T5.out) (Typ.turn HR.out.typAt T5.out) K5.out HR.out.hok HR.out.hn (by omega)
        (with_reducible refine P6.mono ?_)
        rintro e w6 ⟨y6,v6,rfl,m6,t6,k6,u6⟩
        clear P6
        have T6:=Lib.hid (T5.out.trans (u6))
        obtain ⟨B6,e6,A6,c6,rfl,_⟩:=IsTm.form t6
        have X6:=Lib.hid (show Trm W.heap.size w6 y6 (.agg #[.int .i64 y6.kind,.int .i64 y6.index,.int .i64 y6.type.kind,.slice B6 y6.type.args.length e6,.slice A6 y6.args.length c6]) from Trm.mono t6 (Nat.le_trans hWR (T5.out).size))
        have M6:=Lib.hid m6
        have b6:y6.bulk≤12000:=m6.bulk_le (bdN_le _ (by omega))
        have U6:=Lib.hid u6
        have K6:=Lib.hid k6
        clear m6 t6 k6 u6
        have Q6:=Lib.hid (Turn.pair (q:=w.heap.size+1) T6.out)
        have QA6:=Lib.hid (Turn.pair (q:=w.heap.size+1) (T6.out.trans (tAl g _ (Obj.cells #[.int .i64 y5.kind,.int .i64 y5.index,.int .i64 y5.type.kind,.slice B5 y5.type.args.length e5,.slice A5 y5.args.length c5,.int .i64 y6.kind,.int .i64 y6.index,.int .i64 y6.type.kind,.slice B6 y6.type.args.length e6,.slice A6 y6.args.length c6] 42)))))
     | (go_at_call 16
        have P5:=HR.out.term hdp (Ctx.turn HR.out.ctxAt (tDr g R)) (Typ.turn HS.out (tDr g R)) (Deck.drewd HR.out.deck) okS (by omega) (by have:=nodes_pos t; omega)
        (with_reducible refine P5.mono ?_)
        rintro e w5 ⟨y5,v5,rfl,m5,t5,k5,u5⟩
        clear P5
        have T5:=Lib.hid ((tDr g R).trans (u5))
        obtain ⟨B5,e5,A5,c5,rfl,_⟩:=IsTm.form t5
        have X5:=Lib.hid (show Trm W.heap.size w5 y5 (.agg #[.int .i64 y5.kind,.int .i64 y5.index,.int .i64 y5.type.kind,.slice B5 y5.type.args.length e5,.slice A5 y5.args.length c5]) from Trm.mono t5 (Nat.le_trans hWR ((tDr g R)).size))
        have M5:=Lib.hid m5
        have b5:y5.bulk≤12000:=m5.bulk_le (bdN_le _ (by omega))
        have U5:=Lib.hid u5
        have K5:=Lib.hid k5
        clear m5 t5 k5 u5
        have Q5:=Lib.hid (Turn.pair (q:=w.heap.size+1) T5.out)))
 go_wp2_with fail
 obtain ⟨z0,z1,z2,z3,z4⟩:=((HR.out.result T8.out).set5 (.int .i64 (Tm.kind y8)) (.int .i64 (Tm.index y8)) (.int .i64 (Tm.type y8).kind) (.slice B8 (Tm.type y8).args.length e8) (.slice A8 (Tm.args y8).length c8)).cells5
 refine HRET.out _ _ (bodyPost_ret (v:=.agg #[.int .i64 (Tm.kind y8),.int .i64 (Tm.index y8),.int .i64 (Tm.type y8).kind,.slice B8 (Tm.type y8).args.length e8,.slice A8 (Tm.args y8).length c8]) (by simp [results,Tryz.results16,go_sem,z0,z1,z2,z3,z4]) rfl ?_)
 exact term_end HR.out.box (HR.out.turn.trans T8.out) K8.out (by rw [show d.toNat=(d - 1).toNat+1 by omega]; rw [E8.out,E7.out]; exact way_snd hS1 HR.out.hn M5.out M6.out) X8.out (Nat.le_refl _)
end Go.Proofs.YtipfnkajdooiiaaGreatDoor
