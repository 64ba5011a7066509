/- Ways of mk.Term: Plus, Sub, Cons. -/
import Derived.Test.YtipfnkajdooiiaaGreatDoorQMkWays
import Derived.IntWalk
namespace Go.Proofs.YtipfnkajdooiiaaGreatDoor
open Go.RowKit

set_option maxRecDepth 1000000 in
set_option maxHeartbeats 4000000 in
theorem way36 {g M:Nat} {G:List Ty} {t:Ty} {d:Int} {A:Option Addr} {c:Nat} {B:Option Addr} {e:Nat} {w W w0:World} (h0:Here g M G t d A c B e w W w0) (hdp:0<d) (htn:t=tyNat) (Q0:Exit→Act→World→Prop)
   (hret:∀ a' w',bodyPost Tryz.prog Tryz.f16 (TermR g G t (bdN d.toNat t) (bdO d.toNat t) w) .ret a' w'→Q0 .ret a' w')
   {x2 x4 x5 x7 x9 x10 x11 x12 x13 x14 x15 x16 x17 x18 x19 x20 x21 x22 x23 x24 x25 x26 x27 x28 x29 x30 x31 x32 x33 x34 x35 x36 x37 x38 x39 x40 x41 x42 x43 x44 x45 x46 x47 x48 x49 x50 x51 x52 x53 x54 x55 x56 x57 x58 x59 x60 x61 x62 x63 x64 x65 x66 x67 x68 x69 x70 x71 x72 x73 x74 x75 x76 x77 x78 x79 x80 x81 x82 x83 x84 x85 x86 x87 x88 x89 x90 x91 x92 x93 x94 x95 x96 x97 x98 x99 x100 x101 x102 x103 x104 x105 x106 x107 x108 x109 x110 x111 x112 x113 x114 x115 x116 x117 x118 x119 x120 x121 x122 x123 x124 x125 x126 x127 x128 x129 x130 x131 x132 x133 x134 x135 x136 x137 x138 x139 x140 x141 x142 x143 x144 x145 x146 x147 x148 x149 x150 x151 x152 x153 x154 x155 x156 x157 x158 x159 x160 x161 x162 x163 x164 x165 x166 x167 x168 x169 x170 x171 x172 x173 x174 x175 x176 x177 x178 x179 x180 x181 x182 x183 x184 x185 x186 x187 x188 x189 x190 x191 x192 x193 x194 x195 x196 x197 x198 x199 x200 x201 x202 x203 x204 x205 x206 x207 x208 x209 x210 x211 x212 x213 x214 x215 x216 x217 x218 x219 x220 x221 x222 x223 x224 x225 x226 x227 x228 x229 x230 x231 x232 x233 x234 x235 x236 x237 x238 x239 x240 x241 x242 x243 x244 x245 x246 x247 x248 x249 x250 x251 x252 x253 x254 x255 x256 x257 x258 x259 x260 x261 x262 x263 x264 x265 x266 x267 x268 x269 x270 x271 x272 x273 x274 x275 x276 x277 x278 x279 x280 x281 x282 x283 x284 x285 x286 x287 x288 x289 x290 x291 x292 x293 x294 x295 x296 x297 x298 x299 x300 x301 x302 x303 x304 x305 x306 x307 x308 x309 x310 x311 x312 x313 x314 x315 x316 x317 x318 x319 x320 x321 x322 x323 x324 x325 x326 x327 x328 x329 x330 x331 x332 x333 x334 x335 x336 x337:Value} :
   Code.wp Tryz.prog (piece 231) Q0 ⟨#[.pointer (some ⟨g,0,none⟩),.slice A G.length c,x2,.int .i64 d,x4,x5,.pointer (some ⟨w.heap.size,0,none⟩),x7,.pointer (some ⟨w.heap.size+1,0,none⟩),x9,x10,x11,x12,x13,x14,x15,x16,x17,x18,x19,x20,x21,x22,x23,x24,x25,x26,x27,x28,x29,x30,x31,x32,x33,x34,x35,x36,x37,x38,x39,x40,x41,x42,x43,x44,x45,x46,x47,x48,x49,x50,x51,x52,x53,x54,x55,x56,x57,x58,x59,x60,x61,x62,x63,x64,x65,x66,x67,x68,x69,x70,x71,x72,x73,x74,x75,x76,x77,x78,x79,x80,x81,x82,x83,x84,x85,x86,x87,x88,x89,x90,x91,x92,x93,x94,x95,x96,x97,x98,x99,x100,x101,x102,x103,x104,x105,x106,x107,x108,x109,x110,x111,x112,x113,x114,x115,x116,x117,x118,x119,x120,x121,x122,x123,x124,x125,x126,x127,x128,x129,x130,x131,x132,x133,x134,x135,x136,x137,x138,x139,x140,x141,x142,x143,x144,x145,x146,x147,x148,x149,x150,x151,x152,x153,x154,x155,x156,x157,x158,x159,x160,x161,x162,x163,x164,x165,x166,x167,x168,x169,x170,x171,x172,x173,x174,x175,x176,x177,x178,x179,x180,x181,x182,x183,x184,x185,x186,x187,x188,x189,x190,x191,x192,x193,x194,x195,x196,x197,x198,x199,x200,x201,x202,x203,x204,x205,x206,x207,x208,x209,x210,x211,x212,x213,x214,x215,x216,x217,x218,x219,x220,x221,x222,x223,x224,x225,x226,x227,x228,x229,x230,x231,x232,x233,x234,x235,x236,x237,x238,x239,x240,x241,x242,x243,x244,x245,x246,x247,x248,x249,x250,x251,x252,x253,x254,x255,x256,x257,x258,x259,x260,x261,x262,x263,x264,x265,x266,x267,x268,x269,x270,x271,x272,x273,x274,x275,x276,x277,x278,x279,x280,x281,x282,x283,x284,x285,x286,x287,x288,x289,x290,x291,x292,x293,x294,x295,x296,x297,x298,x299,x300,x301,x302,x303,x304,x305,x306,x307,x308,x309,x310,x311,x312,x313,x314,x315,x316,x317,x318,x319,x320,x321,x322,x323,x324,x325,x326,x327,x328,x329,x330,x331,x332,x333,x334,x335,x336,x337],[]⟩ w0:=by
 conv=>arg 2; whnf
 have HE:=Lib.hid h0
 have HRET:=Lib.hid hret
 have hw:=IntWalk.i64_in (d - 1) (by have:=h0.hd5; have:=h0.hdn; omega)
 clear h0 hret
 have HTN:=Lib.hid htn
 clear htn
 have HR:=HE
 have hWR:W.heap.size≤w0.heap.size:=HR.out.turn.size
 have hWz:g<W.heap.size:=by have:=HR.out.sizes; omega
 have hd5:=HE.out.hd5
 go_upto_region 36 with fail
 have QD:=Lib.hid (Turn.pair (q:=w.heap.size+1) (tDr g w0))
 have HSK:=Lib.hid fun (w':World) (h:Turn (Pair2 g (w.heap.size+1)) w0 w')=>And.intro (HR.out.held h).1 (HR.out.held h).2
 obtain ⟨q0,q1⟩:=HSK.out w0 (Turn.refl _ _)
 go_region_held3 (fun w'=>w'.cell? ⟨w.heap.size,0,none⟩ = some (.int .i64 t.kind)∧w'.cell? ⟨w.heap.size,1,none⟩ = some (.slice B t.args.length e))
   (first | with_reducible exact HSK.out _ QD.out | with_reducible exact HSK.out _ Q4.out | with_reducible exact HSK.out _ Q5.out | with_reducible exact HSK.out _ Q6.out | with_reducible exact HSK.out _ QA6.out | with_reducible exact HSK.out _ Q8.out | with_reducible exact HSK.out _ QF.out)
   (first
     | (go_at_call 72
        have P8:=app_call (f:=plusTm) (by simp) (app_bulk b4 b5 b6) (Trm.below (Trm.turn X4.out ((((tRf g w4).trans U5.out).trans U6.out).trans (tAl g _ (Obj.cells #[.int .i64 y5.kind,.int .i64 y5.index,.int .i64 y5.type.kind,.slice B5 y5.type.args.length e5,.slice A5 y5.args.length c5,.int .i64 y6.kind,.int .i64 y6.index,.int .i64 y6.type.kind,.slice B6 y6.type.args.length e6,.slice A6 y6.args.length c6] 42))) hWz)) (tm_sl2 (Trm.below (Trm.turn X5.out ((tRf g w5).trans U6.out) hWz)) (Trm.below (Trm.turn X6.out (tRf g w6) hWz)))
        (with_reducible refine P8.mono ?_)
        rintro e w8 ⟨y8,v8,h8,rfl,t8,r8⟩
        clear P8
        have T8:=Lib.hid ((T6.out.trans (tAl g _ (Obj.cells #[.int .i64 y5.kind,.int .i64 y5.index,.int .i64 y5.type.kind,.slice B5 y5.type.args.length e5,.slice A5 y5.args.length c5,.int .i64 y6.kind,.int .i64 y6.index,.int .i64 y6.type.kind,.slice B6 y6.type.args.length e6,.slice A6 y6.args.length c6] 42))).trans (tCa g r8))
        obtain ⟨B8,e8,A8,c8,rfl,_⟩:=IsTm.form t8
        have X8:=Lib.hid (show Trm W.heap.size w8 y8 (.agg #[.int .i64 y8.kind,.int .i64 y8.index,.int .i64 y8.type.kind,.slice B8 y8.type.args.length e8,.slice A8 y8.args.length c8]) from Trm.mono t8 (Nat.le_trans hWR ((T6.out.trans (tAl g _ (Obj.cells #[.int .i64 y5.kind,.int .i64 y5.index,.int .i64 y5.type.kind,.slice B5 y5.type.args.length e5,.slice A5 y5.args.length c5,.int .i64 y6.kind,.int .i64 y6.index,.int .i64 y6.type.kind,.slice B6 y6.type.args.length e6,.slice A6 y6.args.length c6] 42)))).size))
        have K8:=Lib.hid (Deck.call (Deck.box K6.out (Obj.cells #[.int .i64 y5.kind,.int .i64 y5.index,.int .i64 y5.type.kind,.slice B5 y5.type.args.length e5,.slice A5 y5.args.length c5,.int .i64 y6.kind,.int .i64 y6.index,.int .i64 y6.type.kind,.slice B6 y6.type.args.length e6,.slice A6 y6.args.length c6] 42)) r8)
        obtain ⟨_,_,_,_,_,f0,f1,f2,f3,f4⟩:=(HR.out.result T8.out).facts5
        have E8:=Lib.hid h8
        clear t8 r8 h8
        have Q8:=Lib.hid (Turn.pair (q:=w.heap.size+1) T8.out)
        have QF:=Lib.hid (Turn.trans Q8.out (turn_set5 (g:=g) w8 (w.heap.size+1) (.int .i64 y8.kind) (.int .i64 y8.index) (.int .i64 y8.type.kind) (.slice B8 y8.type.args.length e8) (.slice A8 y8.args.length c8))))
     | (go_at_call 16
        have P6:=HR.out.term hdp (Ctx.turn HR.out.ctxAt T5.out) (Typ.turn HR.out.typAt T5.out) K5.out HR.out.hok HR.out.hn (by omega)
        (with_reducible refine P6.mono ?_)
        rintro e w6 ⟨y6,v6,rfl,m6,t6,k6,u6⟩
        clear P6
        have T6:=Lib.hid (T5.out.trans (u6))
        obtain ⟨B6,e6,A6,c6,rfl,_⟩:=IsTm.form t6
        have X6:=Lib.hid (show Trm W.heap.size w6 y6 (.agg #[.int .i64 y6.kind,.int .i64 y6.index,.int .i64 y6.type.kind,.slice B6 y6.type.args.length e6,.slice A6 y6.args.length c6]) from Trm.mono t6 (Nat.le_trans hWR (T5.out).size))
        have M6:=Lib.hid m6
        have b6:y6.bulk≤12000:=m6.bulk_le (bdN_le _ (by omega))
        have U6:=Lib.hid u6
        have K6:=Lib.hid k6
        clear m6 t6 k6 u6
        have Q6:=Lib.hid (Turn.pair (q:=w.heap.size+1) T6.out)
        have QA6:=Lib.hid (Turn.pair (q:=w.heap.size+1) (T6.out.trans (tAl g _ (Obj.cells #[.int .i64 y5.kind,.int .i64 y5.index,.int .i64 y5.type.kind,.slice B5 y5.type.args.length e5,.slice A5 y5.args.length c5,.int .i64 y6.kind,.int .i64 y6.index,.int .i64 y6.type.kind,.slice B6 y6.type.args.length e6,.slice A6 y6.args.length c6] 42)))))
     | (go_at_call 16
        have P5:=HR.out.term hdp (Ctx.turn HR.out.ctxAt T4.out) (Typ.turn HR.out.typAt T4.out) K4.out HR.out.hok HR.out.hn (by omega)
        (with_reducible refine P5.mono ?_)
        rintro e w5 ⟨y5,v5,rfl,m5,t5,k5,u5⟩
        clear P5
        have T5:=Lib.hid (T4.out.trans (u5))
        obtain ⟨B5,e5,A5,c5,rfl,_⟩:=IsTm.form t5
        have X5:=Lib.hid (show Trm W.heap.size w5 y5 (.agg #[.int .i64 y5.kind,.int .i64 y5.index,.int .i64 y5.type.kind,.slice B5 y5.type.args.length e5,.slice A5 y5.args.length c5]) from Trm.mono t5 (Nat.le_trans hWR (T4.out).size))
        have M5:=Lib.hid m5
        have b5:y5.bulk≤12000:=m5.bulk_le (bdN_le _ (by omega))
        have U5:=Lib.hid u5
        have K5:=Lib.hid k5
        clear m5 t5 k5 u5
        have Q5:=Lib.hid (Turn.pair (q:=w.heap.size+1) T5.out))
     | (go_at_call 73
        have P4:=plus_any (w0.drew)
        (with_reducible refine P4.mono ?_)
        rintro e w4 ⟨v4,rfl,t4,r4⟩
        clear P4
        have T4:=Lib.hid ((tDr g w0).trans (tCa g r4))
        obtain ⟨B4,e4,A4,c4,rfl,_⟩:=IsTm.form t4
        have X4:=Lib.hid (show Trm W.heap.size w4 plusTm (.agg #[.int .i64 plusTm.kind,.int .i64 plusTm.index,.int .i64 plusTm.type.kind,.slice B4 plusTm.type.args.length e4,.slice A4 plusTm.args.length c4]) from Trm.mono t4 hWR)
        have K4:=Lib.hid (Deck.call (Deck.drewd HR.out.deck) r4)
        have b4:Tm.bulk plusTm≤100:=by decide
        clear t4 r4
        have Q4:=Lib.hid (Turn.pair (q:=w.heap.size+1) T4.out)))
 go_wp2_with fail
 obtain ⟨z0,z1,z2,z3,z4⟩:=((HR.out.result T8.out).set5 (.int .i64 (Tm.kind y8)) (.int .i64 (Tm.index y8)) (.int .i64 (Tm.type y8).kind) (.slice B8 (Tm.type y8).args.length e8) (.slice A8 (Tm.args y8).length c8)).cells5
 refine HRET.out _ _ (bodyPost_ret (v:=.agg #[.int .i64 (Tm.kind y8),.int .i64 (Tm.index y8),.int .i64 (Tm.type y8).kind,.slice B8 (Tm.type y8).args.length e8,.slice A8 (Tm.args y8).length c8]) (by simp [results,Tryz.results16,go_sem,z0,z1,z2,z3,z4]) rfl ?_)
 exact term_end HR.out.box (HR.out.turn.trans T8.out) K8.out (by rw [show d.toNat=(d - 1).toNat+1 by omega]; rw [E8.out]; have m5:=M5.out; have m6:=M6.out; rw [HTN.out] at m5 m6 ⊢; exact way_two (by decide) made_plus m5 m6) X8.out (Nat.le_refl _)

set_option maxRecDepth 1000000 in
set_option maxHeartbeats 4000000 in
theorem way38 {g M:Nat} {G:List Ty} {t:Ty} {d:Int} {A:Option Addr} {c:Nat} {B:Option Addr} {e:Nat} {w W w0:World} (h0:Here g M G t d A c B e w W w0) (hdp:0<d) (htn:t=tyNat) (Q0:Exit→Act→World→Prop)
   (hret:∀ a' w',bodyPost Tryz.prog Tryz.f16 (TermR g G t (bdN d.toNat t) (bdO d.toNat t) w) .ret a' w'→Q0 .ret a' w')
   {x2 x4 x5 x7 x9 x10 x11 x12 x13 x14 x15 x16 x17 x18 x19 x20 x21 x22 x23 x24 x25 x26 x27 x28 x29 x30 x31 x32 x33 x34 x35 x36 x37 x38 x39 x40 x41 x42 x43 x44 x45 x46 x47 x48 x49 x50 x51 x52 x53 x54 x55 x56 x57 x58 x59 x60 x61 x62 x63 x64 x65 x66 x67 x68 x69 x70 x71 x72 x73 x74 x75 x76 x77 x78 x79 x80 x81 x82 x83 x84 x85 x86 x87 x88 x89 x90 x91 x92 x93 x94 x95 x96 x97 x98 x99 x100 x101 x102 x103 x104 x105 x106 x107 x108 x109 x110 x111 x112 x113 x114 x115 x116 x117 x118 x119 x120 x121 x122 x123 x124 x125 x126 x127 x128 x129 x130 x131 x132 x133 x134 x135 x136 x137 x138 x139 x140 x141 x142 x143 x144 x145 x146 x147 x148 x149 x150 x151 x152 x153 x154 x155 x156 x157 x158 x159 x160 x161 x162 x163 x164 x165 x166 x167 x168 x169 x170 x171 x172 x173 x174 x175 x176 x177 x178 x179 x180 x181 x182 x183 x184 x185 x186 x187 x188 x189 x190 x191 x192 x193 x194 x195 x196 x197 x198 x199 x200 x201 x202 x203 x204 x205 x206 x207 x208 x209 x210 x211 x212 x213 x214 x215 x216 x217 x218 x219 x220 x221 x222 x223 x224 x225 x226 x227 x228 x229 x230 x231 x232 x233 x234 x235 x236 x237 x238 x239 x240 x241 x242 x243 x244 x245 x246 x247 x248 x249 x250 x251 x252 x253 x254 x255 x256 x257 x258 x259 x260 x261 x262 x263 x264 x265 x266 x267 x268 x269 x270 x271 x272 x273 x274 x275 x276 x277 x278 x279 x280 x281 x282 x283 x284 x285 x286 x287 x288 x289 x290 x291 x292 x293 x294 x295 x296 x297 x298 x299 x300 x301 x302 x303 x304 x305 x306 x307 x308 x309 x310 x311 x312 x313 x314 x315 x316 x317 x318 x319 x320 x321 x322 x323 x324 x325 x326 x327 x328 x329 x330 x331 x332 x333 x334 x335 x336 x337:Value} :
   Code.wp Tryz.prog (piece 248) Q0 ⟨#[.pointer (some ⟨g,0,none⟩),.slice A G.length c,x2,.int .i64 d,x4,x5,.pointer (some ⟨w.heap.size,0,none⟩),x7,.pointer (some ⟨w.heap.size+1,0,none⟩),x9,x10,x11,x12,x13,x14,x15,x16,x17,x18,x19,x20,x21,x22,x23,x24,x25,x26,x27,x28,x29,x30,x31,x32,x33,x34,x35,x36,x37,x38,x39,x40,x41,x42,x43,x44,x45,x46,x47,x48,x49,x50,x51,x52,x53,x54,x55,x56,x57,x58,x59,x60,x61,x62,x63,x64,x65,x66,x67,x68,x69,x70,x71,x72,x73,x74,x75,x76,x77,x78,x79,x80,x81,x82,x83,x84,x85,x86,x87,x88,x89,x90,x91,x92,x93,x94,x95,x96,x97,x98,x99,x100,x101,x102,x103,x104,x105,x106,x107,x108,x109,x110,x111,x112,x113,x114,x115,x116,x117,x118,x119,x120,x121,x122,x123,x124,x125,x126,x127,x128,x129,x130,x131,x132,x133,x134,x135,x136,x137,x138,x139,x140,x141,x142,x143,x144,x145,x146,x147,x148,x149,x150,x151,x152,x153,x154,x155,x156,x157,x158,x159,x160,x161,x162,x163,x164,x165,x166,x167,x168,x169,x170,x171,x172,x173,x174,x175,x176,x177,x178,x179,x180,x181,x182,x183,x184,x185,x186,x187,x188,x189,x190,x191,x192,x193,x194,x195,x196,x197,x198,x199,x200,x201,x202,x203,x204,x205,x206,x207,x208,x209,x210,x211,x212,x213,x214,x215,x216,x217,x218,x219,x220,x221,x222,x223,x224,x225,x226,x227,x228,x229,x230,x231,x232,x233,x234,x235,x236,x237,x238,x239,x240,x241,x242,x243,x244,x245,x246,x247,x248,x249,x250,x251,x252,x253,x254,x255,x256,x257,x258,x259,x260,x261,x262,x263,x264,x265,x266,x267,x268,x269,x270,x271,x272,x273,x274,x275,x276,x277,x278,x279,x280,x281,x282,x283,x284,x285,x286,x287,x288,x289,x290,x291,x292,x293,x294,x295,x296,x297,x298,x299,x300,x301,x302,x303,x304,x305,x306,x307,x308,x309,x310,x311,x312,x313,x314,x315,x316,x317,x318,x319,x320,x321,x322,x323,x324,x325,x326,x327,x328,x329,x330,x331,x332,x333,x334,x335,x336,x337],[]⟩ w0:=by
 conv=>arg 2; whnf
 have HE:=Lib.hid h0
 have HRET:=Lib.hid hret
 have hw:=IntWalk.i64_in (d - 1) (by have:=h0.hd5; have:=h0.hdn; omega)
 clear h0 hret
 have HTN:=Lib.hid htn
 clear htn
 have HR:=HE
 have hWR:W.heap.size≤w0.heap.size:=HR.out.turn.size
 have hWz:g<W.heap.size:=by have:=HR.out.sizes; omega
 have hd5:=HE.out.hd5
 go_upto_region 38 with fail
 have QD:=Lib.hid (Turn.pair (q:=w.heap.size+1) (tDr g w0))
 have HSK:=Lib.hid fun (w':World) (h:Turn (Pair2 g (w.heap.size+1)) w0 w')=>And.intro (HR.out.held h).1 (HR.out.held h).2
 obtain ⟨q0,q1⟩:=HSK.out w0 (Turn.refl _ _)
 go_region_held3 (fun w'=>w'.cell? ⟨w.heap.size,0,none⟩ = some (.int .i64 t.kind)∧w'.cell? ⟨w.heap.size,1,none⟩ = some (.slice B t.args.length e))
   (first | with_reducible exact HSK.out _ QD.out | with_reducible exact HSK.out _ Q4.out | with_reducible exact HSK.out _ Q5.out | with_reducible exact HSK.out _ Q6.out | with_reducible exact HSK.out _ QA6.out | with_reducible exact HSK.out _ Q8.out | with_reducible exact HSK.out _ QF.out)
   (first
     | (go_at_call 72
        have P8:=app_call (f:=subTm) (by simp) (app_bulk b4 b5 b6) (Trm.below (Trm.turn X4.out ((((tRf g w4).trans U5.out).trans U6.out).trans (tAl g _ (Obj.cells #[.int .i64 y5.kind,.int .i64 y5.index,.int .i64 y5.type.kind,.slice B5 y5.type.args.length e5,.slice A5 y5.args.length c5,.int .i64 y6.kind,.int .i64 y6.index,.int .i64 y6.type.kind,.slice B6 y6.type.args.length e6,.slice A6 y6.args.length c6] 42))) hWz)) (tm_sl2 (Trm.below (Trm.turn X5.out ((tRf g w5).trans U6.out) hWz)) (Trm.below (Trm.turn X6.out (tRf g w6) hWz)))
        (with_reducible refine P8.mono ?_)
        rintro e w8 ⟨y8,v8,h8,rfl,t8,r8⟩
        clear P8
        have T8:=Lib.hid ((T6.out.trans (tAl g _ (Obj.cells #[.int .i64 y5.kind,.int .i64 y5.index,.int .i64 y5.type.kind,.slice B5 y5.type.args.length e5,.slice A5 y5.args.length c5,.int .i64 y6.kind,.int .i64 y6.index,.int .i64 y6.type.kind,.slice B6 y6.type.args.length e6,.slice A6 y6.args.length c6] 42))).trans (tCa g r8))
        obtain ⟨B8,e8,A8,c8,rfl,_⟩:=IsTm.form t8
        have X8:=Lib.hid (show Trm W.heap.size w8 y8 (.agg #[.int .i64 y8.kind,.int .i64 y8.index,.int .i64 y8.type.kind,.slice B8 y8.type.args.length e8,.slice A8 y8.args.length c8]) from Trm.mono t8 (Nat.le_trans hWR ((T6.out.trans (tAl g _ (Obj.cells #[.int .i64 y5.kind,.int .i64 y5.index,.int .i64 y5.type.kind,.slice B5 y5.type.args.length e5,.slice A5 y5.args.length c5,.int .i64 y6.kind,.int .i64 y6.index,.int .i64 y6.type.kind,.slice B6 y6.type.args.length e6,.slice A6 y6.args.length c6] 42)))).size))
        have K8:=Lib.hid (Deck.call (Deck.box K6.out (Obj.cells #[.int .i64 y5.kind,.int .i64 y5.index,.int .i64 y5.type.kind,.slice B5 y5.type.args.length e5,.slice A5 y5.args.length c5,.int .i64 y6.kind,.int .i64 y6.index,.int .i64 y6.type.kind,.slice B6 y6.type.args.length e6,.slice A6 y6.args.length c6] 42)) r8)
        obtain ⟨_,_,_,_,_,f0,f1,f2,f3,f4⟩:=(HR.out.result T8.out).facts5
        have E8:=Lib.hid h8
        clear t8 r8 h8
        have Q8:=Lib.hid (Turn.pair (q:=w.heap.size+1) T8.out)
        have QF:=Lib.hid (Turn.trans Q8.out (turn_set5 (g:=g) w8 (w.heap.size+1) (.int .i64 y8.kind) (.int .i64 y8.index) (.int .i64 y8.type.kind) (.slice B8 y8.type.args.length e8) (.slice A8 y8.args.length c8))))
     | (go_at_call 16
        have P6:=HR.out.term hdp (Ctx.turn HR.out.ctxAt T5.out) (Typ.turn HR.out.typAt T5.out) K5.out HR.out.hok HR.out.hn (by omega)
        (with_reducible refine P6.mono ?_)
        rintro e w6 ⟨y6,v6,rfl,m6,t6,k6,u6⟩
        clear P6
        have T6:=Lib.hid (T5.out.trans (u6))
        obtain ⟨B6,e6,A6,c6,rfl,_⟩:=IsTm.form t6
        have X6:=Lib.hid (show Trm W.heap.size w6 y6 (.agg #[.int .i64 y6.kind,.int .i64 y6.index,.int .i64 y6.type.kind,.slice B6 y6.type.args.length e6,.slice A6 y6.args.length c6]) from Trm.mono t6 (Nat.le_trans hWR (T5.out).size))
        have M6:=Lib.hid m6
        have b6:y6.bulk≤12000:=m6.bulk_le (bdN_le _ (by omega))
        have U6:=Lib.hid u6
        have K6:=Lib.hid k6
        clear m6 t6 k6 u6
        have Q6:=Lib.hid (Turn.pair (q:=w.heap.size+1) T6.out)
        have QA6:=Lib.hid (Turn.pair (q:=w.heap.size+1) (T6.out.trans (tAl g _ (Obj.cells #[.int .i64 y5.kind,.int .i64 y5.index,.int .i64 y5.type.kind,.slice B5 y5.type.args.length e5,.slice A5 y5.args.length c5,.int .i64 y6.kind,.int .i64 y6.index,.int .i64 y6.type.kind,.slice B6 y6.type.args.length e6,.slice A6 y6.args.length c6] 42)))))
     | (go_at_call 16
        have P5:=HR.out.term hdp (Ctx.turn HR.out.ctxAt T4.out) (Typ.turn HR.out.typAt T4.out) K4.out HR.out.hok HR.out.hn (by omega)
        (with_reducible refine P5.mono ?_)
        rintro e w5 ⟨y5,v5,rfl,m5,t5,k5,u5⟩
        clear P5
        have T5:=Lib.hid (T4.out.trans (u5))
        obtain ⟨B5,e5,A5,c5,rfl,_⟩:=IsTm.form t5
        have X5:=Lib.hid (show Trm W.heap.size w5 y5 (.agg #[.int .i64 y5.kind,.int .i64 y5.index,.int .i64 y5.type.kind,.slice B5 y5.type.args.length e5,.slice A5 y5.args.length c5]) from Trm.mono t5 (Nat.le_trans hWR (T4.out).size))
        have M5:=Lib.hid m5
        have b5:y5.bulk≤12000:=m5.bulk_le (bdN_le _ (by omega))
        have U5:=Lib.hid u5
        have K5:=Lib.hid k5
        clear m5 t5 k5 u5
        have Q5:=Lib.hid (Turn.pair (q:=w.heap.size+1) T5.out))
     | (go_at_call 74
        have P4:=sub_any (w0.drew)
        (with_reducible refine P4.mono ?_)
        rintro e w4 ⟨v4,rfl,t4,r4⟩
        clear P4
        have T4:=Lib.hid ((tDr g w0).trans (tCa g r4))
        obtain ⟨B4,e4,A4,c4,rfl,_⟩:=IsTm.form t4
        have X4:=Lib.hid (show Trm W.heap.size w4 subTm (.agg #[.int .i64 subTm.kind,.int .i64 subTm.index,.int .i64 subTm.type.kind,.slice B4 subTm.type.args.length e4,.slice A4 subTm.args.length c4]) from Trm.mono t4 hWR)
        have K4:=Lib.hid (Deck.call (Deck.drewd HR.out.deck) r4)
        have b4:Tm.bulk subTm≤100:=by decide
        clear t4 r4
        have Q4:=Lib.hid (Turn.pair (q:=w.heap.size+1) T4.out)))
 go_wp2_with fail
 obtain ⟨z0,z1,z2,z3,z4⟩:=((HR.out.result T8.out).set5 (.int .i64 (Tm.kind y8)) (.int .i64 (Tm.index y8)) (.int .i64 (Tm.type y8).kind) (.slice B8 (Tm.type y8).args.length e8) (.slice A8 (Tm.args y8).length c8)).cells5
 refine HRET.out _ _ (bodyPost_ret (v:=.agg #[.int .i64 (Tm.kind y8),.int .i64 (Tm.index y8),.int .i64 (Tm.type y8).kind,.slice B8 (Tm.type y8).args.length e8,.slice A8 (Tm.args y8).length c8]) (by simp [results,Tryz.results16,go_sem,z0,z1,z2,z3,z4]) rfl ?_)
 exact term_end HR.out.box (HR.out.turn.trans T8.out) K8.out (by rw [show d.toNat=(d - 1).toNat+1 by omega]; rw [E8.out]; have m5:=M5.out; have m6:=M6.out; rw [HTN.out] at m5 m6 ⊢; exact way_two (by decide) made_sub m5 m6) X8.out (Nat.le_refl _)

set_option maxRecDepth 1000000 in
set_option maxHeartbeats 4000000 in
theorem way42 {g M:Nat} {G:List Ty} {t:Ty} {d:Int} {A:Option Addr} {c:Nat} {B:Option Addr} {e:Nat} {w W w0:World} (h0:Here g M G t d A c B e w W w0) (hdp:0<d) (htn:t=tyList) (Q0:Exit→Act→World→Prop)
   (hret:∀ a' w',bodyPost Tryz.prog Tryz.f16 (TermR g G t (bdN d.toNat t) (bdO d.toNat t) w) .ret a' w'→Q0 .ret a' w')
   {x2 x4 x5 x7 x9 x10 x11 x12 x13 x14 x15 x16 x17 x18 x19 x20 x21 x22 x23 x24 x25 x26 x27 x28 x29 x30 x31 x32 x33 x34 x35 x36 x37 x38 x39 x40 x41 x42 x43 x44 x45 x46 x47 x48 x49 x50 x51 x52 x53 x54 x55 x56 x57 x58 x59 x60 x61 x62 x63 x64 x65 x66 x67 x68 x69 x70 x71 x72 x73 x74 x75 x76 x77 x78 x79 x80 x81 x82 x83 x84 x85 x86 x87 x88 x89 x90 x91 x92 x93 x94 x95 x96 x97 x98 x99 x100 x101 x102 x103 x104 x105 x106 x107 x108 x109 x110 x111 x112 x113 x114 x115 x116 x117 x118 x119 x120 x121 x122 x123 x124 x125 x126 x127 x128 x129 x130 x131 x132 x133 x134 x135 x136 x137 x138 x139 x140 x141 x142 x143 x144 x145 x146 x147 x148 x149 x150 x151 x152 x153 x154 x155 x156 x157 x158 x159 x160 x161 x162 x163 x164 x165 x166 x167 x168 x169 x170 x171 x172 x173 x174 x175 x176 x177 x178 x179 x180 x181 x182 x183 x184 x185 x186 x187 x188 x189 x190 x191 x192 x193 x194 x195 x196 x197 x198 x199 x200 x201 x202 x203 x204 x205 x206 x207 x208 x209 x210 x211 x212 x213 x214 x215 x216 x217 x218 x219 x220 x221 x222 x223 x224 x225 x226 x227 x228 x229 x230 x231 x232 x233 x234 x235 x236 x237 x238 x239 x240 x241 x242 x243 x244 x245 x246 x247 x248 x249 x250 x251 x252 x253 x254 x255 x256 x257 x258 x259 x260 x261 x262 x263 x264 x265 x266 x267 x268 x269 x270 x271 x272 x273 x274 x275 x276 x277 x278 x279 x280 x281 x282 x283 x284 x285 x286 x287 x288 x289 x290 x291 x292 x293 x294 x295 x296 x297 x298 x299 x300 x301 x302 x303 x304 x305 x306 x307 x308 x309 x310 x311 x312 x313 x314 x315 x316 x317 x318 x319 x320 x321 x322 x323 x324 x325 x326 x327 x328 x329 x330 x331 x332 x333 x334 x335 x336 x337:Value} :
   Code.wp Tryz.prog (piece 276) Q0 ⟨#[.pointer (some ⟨g,0,none⟩),.slice A G.length c,x2,.int .i64 d,x4,x5,.pointer (some ⟨w.heap.size,0,none⟩),x7,.pointer (some ⟨w.heap.size+1,0,none⟩),x9,x10,x11,x12,x13,x14,x15,x16,x17,x18,x19,x20,x21,x22,x23,x24,x25,x26,x27,x28,x29,x30,x31,x32,x33,x34,x35,x36,x37,x38,x39,x40,x41,x42,x43,x44,x45,x46,x47,x48,x49,x50,x51,x52,x53,x54,x55,x56,x57,x58,x59,x60,x61,x62,x63,x64,x65,x66,x67,x68,x69,x70,x71,x72,x73,x74,x75,x76,x77,x78,x79,x80,x81,x82,x83,x84,x85,x86,x87,x88,x89,x90,x91,x92,x93,x94,x95,x96,x97,x98,x99,x100,x101,x102,x103,x104,x105,x106,x107,x108,x109,x110,x111,x112,x113,x114,x115,x116,x117,x118,x119,x120,x121,x122,x123,x124,x125,x126,x127,x128,x129,x130,x131,x132,x133,x134,x135,x136,x137,x138,x139,x140,x141,x142,x143,x144,x145,x146,x147,x148,x149,x150,x151,x152,x153,x154,x155,x156,x157,x158,x159,x160,x161,x162,x163,x164,x165,x166,x167,x168,x169,x170,x171,x172,x173,x174,x175,x176,x177,x178,x179,x180,x181,x182,x183,x184,x185,x186,x187,x188,x189,x190,x191,x192,x193,x194,x195,x196,x197,x198,x199,x200,x201,x202,x203,x204,x205,x206,x207,x208,x209,x210,x211,x212,x213,x214,x215,x216,x217,x218,x219,x220,x221,x222,x223,x224,x225,x226,x227,x228,x229,x230,x231,x232,x233,x234,x235,x236,x237,x238,x239,x240,x241,x242,x243,x244,x245,x246,x247,x248,x249,x250,x251,x252,x253,x254,x255,x256,x257,x258,x259,x260,x261,x262,x263,x264,x265,x266,x267,x268,x269,x270,x271,x272,x273,x274,x275,x276,x277,x278,x279,x280,x281,x282,x283,x284,x285,x286,x287,x288,x289,x290,x291,x292,x293,x294,x295,x296,x297,x298,x299,x300,x301,x302,x303,x304,x305,x306,x307,x308,x309,x310,x311,x312,x313,x314,x315,x316,x317,x318,x319,x320,x321,x322,x323,x324,x325,x326,x327,x328,x329,x330,x331,x332,x333,x334,x335,x336,x337],[]⟩ w0:=by
 conv=>arg 2; whnf
 have HE:=Lib.hid h0
 have HRET:=Lib.hid hret
 have hw:=IntWalk.i64_in (d - 1) (by have:=h0.hd5; have:=h0.hdn; omega)
 clear h0 hret
 have HTN:=Lib.hid htn
 clear htn
 have HR:=HE
 have hWR:W.heap.size≤w0.heap.size:=HR.out.turn.size
 have hWz:g<W.heap.size:=by have:=HR.out.sizes; omega
 have hd5:=HE.out.hd5
 go_upto_region 42 with fail
 have QD:=Lib.hid (Turn.pair (q:=w.heap.size+1) (tDr g w0))
 have HSK:=Lib.hid fun (w':World) (h:Turn (Pair2 g (w.heap.size+1)) w0 w')=>And.intro (HR.out.held h).1 (HR.out.held h).2
 obtain ⟨q0,q1⟩:=HSK.out w0 (Turn.refl _ _)
 go_region_held3 (fun w'=>w'.cell? ⟨w.heap.size,0,none⟩ = some (.int .i64 t.kind)∧w'.cell? ⟨w.heap.size,1,none⟩ = some (.slice B t.args.length e))
   (first | with_reducible exact HSK.out _ QD.out | with_reducible exact HSK.out _ Q4.out | with_reducible exact HSK.out _ Q5.out | with_reducible exact HSK.out _ Q6.out | with_reducible exact HSK.out _ QA6.out | with_reducible exact HSK.out _ Q8.out | with_reducible exact HSK.out _ QF.out)
   (first
     | (go_at_call 67
        have P8:=n_call 8 (bulk_2 b5 b6) (tm_sl2 (Trm.below (Trm.turn X5.out ((tRf g w5).trans U6.out) hWz)) (Trm.below (Trm.turn X6.out (tRf g w6) hWz)))
        (with_reducible refine P8.mono ?_)
        rintro e w8 ⟨y8,v8,h8,rfl,t8,r8⟩
        clear P8
        have T8:=Lib.hid ((T6.out.trans (tAl g _ (Obj.cells #[.int .i64 y5.kind,.int .i64 y5.index,.int .i64 y5.type.kind,.slice B5 y5.type.args.length e5,.slice A5 y5.args.length c5,.int .i64 y6.kind,.int .i64 y6.index,.int .i64 y6.type.kind,.slice B6 y6.type.args.length e6,.slice A6 y6.args.length c6] 42))).trans (tCa g r8))
        obtain ⟨B8,e8,A8,c8,rfl,_⟩:=IsTm.form t8
        have X8:=Lib.hid (show Trm W.heap.size w8 y8 (.agg #[.int .i64 y8.kind,.int .i64 y8.index,.int .i64 y8.type.kind,.slice B8 y8.type.args.length e8,.slice A8 y8.args.length c8]) from Trm.mono t8 (Nat.le_trans hWR ((T6.out.trans (tAl g _ (Obj.cells #[.int .i64 y5.kind,.int .i64 y5.index,.int .i64 y5.type.kind,.slice B5 y5.type.args.length e5,.slice A5 y5.args.length c5,.int .i64 y6.kind,.int .i64 y6.index,.int .i64 y6.type.kind,.slice B6 y6.type.args.length e6,.slice A6 y6.args.length c6] 42)))).size))
        have U8:=Lib.hid ((tAl g _ (Obj.cells #[.int .i64 y5.kind,.int .i64 y5.index,.int .i64 y5.type.kind,.slice B5 y5.type.args.length e5,.slice A5 y5.args.length c5,.int .i64 y6.kind,.int .i64 y6.index,.int .i64 y6.type.kind,.slice B6 y6.type.args.length e6,.slice A6 y6.args.length c6] 42)).trans (tCa g r8))
        have K8:=Lib.hid (Deck.call (Deck.box K6.out (Obj.cells #[.int .i64 y5.kind,.int .i64 y5.index,.int .i64 y5.type.kind,.slice B5 y5.type.args.length e5,.slice A5 y5.args.length c5,.int .i64 y6.kind,.int .i64 y6.index,.int .i64 y6.type.kind,.slice B6 y6.type.args.length e6,.slice A6 y6.args.length c6] 42)) r8)
        obtain ⟨_,_,_,_,_,f0,f1,f2,f3,f4⟩:=(HR.out.result T8.out).facts5
        have E8:=Lib.hid h8
        clear t8 r8 h8
        have Q8:=Lib.hid (Turn.pair (q:=w.heap.size+1) T8.out)
        have QF:=Lib.hid (Turn.trans Q8.out (turn_set5 (g:=g) w8 (w.heap.size+1) (.int .i64 y8.kind) (.int .i64 y8.index) (.int .i64 y8.type.kind) (.slice B8 y8.type.args.length e8) (.slice A8 y8.args.length c8))))
     | (go_at_call 16
        have P6:=HR.out.term hdp (Ctx.turn HR.out.ctxAt T5.out) (Typ.turn HR.out.typAt T5.out) K5.out HR.out.hok HR.out.hn (by omega)
        (with_reducible refine P6.mono ?_)
        rintro e w6 ⟨y6,v6,rfl,m6,t6,k6,u6⟩
        clear P6
        have T6:=Lib.hid (T5.out.trans (u6))
        obtain ⟨B6,e6,A6,c6,rfl,_⟩:=IsTm.form t6
        have X6:=Lib.hid (show Trm W.heap.size w6 y6 (.agg #[.int .i64 y6.kind,.int .i64 y6.index,.int .i64 y6.type.kind,.slice B6 y6.type.args.length e6,.slice A6 y6.args.length c6]) from Trm.mono t6 (Nat.le_trans hWR (T5.out).size))
        have M6:=Lib.hid m6
        have b6:y6.bulk≤12000:=m6.bulk_le (bdN_le _ (by omega))
        have U6:=Lib.hid u6
        have K6:=Lib.hid k6
        clear m6 t6 k6 u6
        have Q6:=Lib.hid (Turn.pair (q:=w.heap.size+1) T6.out)
        have QA6:=Lib.hid (Turn.pair (q:=w.heap.size+1) (T6.out.trans (tAl g _ (Obj.cells #[.int .i64 y5.kind,.int .i64 y5.index,.int .i64 y5.type.kind,.slice B5 y5.type.args.length e5,.slice A5 y5.args.length c5,.int .i64 y6.kind,.int .i64 y6.index,.int .i64 y6.type.kind,.slice B6 y6.type.args.length e6,.slice A6 y6.args.length c6] 42)))))
     | (go_at_call 16
        have P5:=HR.out.term hdp (Ctx.turn HR.out.ctxAt T4.out) (Typ.leaf g w4 1) K4.out rfl (by decide) (by have:=nodes_pos t; simp only [Ty.nodes,nodesAll]; omega)
        (with_reducible refine P5.mono ?_)
        rintro e w5 ⟨y5,v5,rfl,m5,t5,k5,u5⟩
        clear P5
        have T5:=Lib.hid (T4.out.trans (u5))
        obtain ⟨B5,e5,A5,c5,rfl,_⟩:=IsTm.form t5
        have X5:=Lib.hid (show Trm W.heap.size w5 y5 (.agg #[.int .i64 y5.kind,.int .i64 y5.index,.int .i64 y5.type.kind,.slice B5 y5.type.args.length e5,.slice A5 y5.args.length c5]) from Trm.mono t5 (Nat.le_trans hWR (T4.out).size))
        have M5:=Lib.hid m5
        have b5:y5.bulk≤12000:=m5.bulk_le (bdN_le _ (by omega))
        have U5:=Lib.hid u5
        have K5:=Lib.hid k5
        clear m5 t5 k5 u5
        have Q5:=Lib.hid (Turn.pair (q:=w.heap.size+1) T5.out))
     | (go_at_call 23
        have P4:=nat_any w0.drew
        (with_reducible refine P4.mono ?_)
        rintro e w4 ⟨rfl,r4⟩
        clear P4
        have T4:=Lib.hid ((tDr g w0).trans (tCa g r4))
        have K4:=Lib.hid (Deck.call (Deck.drewd HR.out.deck) r4)
        clear r4
        have Q4:=Lib.hid (Turn.pair (q:=w.heap.size+1) T4.out)))
 go_wp2_with fail
 obtain ⟨z0,z1,z2,z3,z4⟩:=((HR.out.result T8.out).set5 (.int .i64 (Tm.kind y8)) (.int .i64 (Tm.index y8)) (.int .i64 (Tm.type y8).kind) (.slice B8 (Tm.type y8).args.length e8) (.slice A8 (Tm.args y8).length c8)).cells5
 refine HRET.out _ _ (bodyPost_ret (v:=.agg #[.int .i64 (Tm.kind y8),.int .i64 (Tm.index y8),.int .i64 (Tm.type y8).kind,.slice B8 (Tm.type y8).args.length e8,.slice A8 (Tm.args y8).length c8]) (by simp [results,Tryz.results16,go_sem,z0,z1,z2,z3,z4]) rfl ?_)
 exact term_end HR.out.box (HR.out.turn.trans T8.out) K8.out (by rw [show d.toNat=(d - 1).toNat+1 by omega]; rw [E8.out]; have m6:=M6.out; rw [HTN.out] at m6 ⊢; exact way_cons M5.out m6) X8.out (Nat.le_refl _)
end Go.Proofs.YtipfnkajdooiiaaGreatDoor
