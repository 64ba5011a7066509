/- A way of mk.Term. -/
import Derived.Test.YtipfnkajdooiiaaGreatDoorQMkWays
import Derived.IntWalk
import Derived.Deep.DeepFit
namespace Go.Proofs.YtipfnkajdooiiaaGreatDoor
open Go.RowKit

set_option maxRecDepth 1000000 in
set_option maxHeartbeats 4000000 in
theorem way14 {g M:Nat} {G:List Ty} {t:Ty} {d:Int} {A:Option Addr} {c:Nat} {B:Option Addr} {e:Nat} {w W w0:World} (h0:Here g M G t d A c B e w W w0) (hdp:0<d) (Q0:Exit→Act→World→Prop)
   (hret:∀ a' w',bodyPost Tryz.prog Tryz.f16 (TermR g G t (bdN d.toNat t) (bdO d.toNat t) w) .ret a' w'→Q0 .ret a' w')
   {x2 x4 x5 x7 x9 x10 x11 x12 x13 x14 x15 x16 x17 x18 x19 x20 x21 x22 x23 x24 x25 x26 x27 x28 x29 x30 x31 x32 x33 x34 x35 x36 x37 x38 x39 x40 x41 x42 x43 x44 x45 x46 x47 x48 x49 x50 x51 x52 x53 x54 x55 x56 x57 x58 x59 x60 x61 x62 x63 x64 x65 x66 x67 x68 x69 x70 x71 x72 x73 x74 x75 x76 x77 x78 x79 x80 x81 x82 x83 x84 x85 x86 x87 x88 x89 x90 x91 x92 x93 x94 x95 x96 x97 x98 x99 x100 x101 x102 x103 x104 x105 x106 x107 x108 x109 x110 x111 x112 x113 x114 x115 x116 x117 x118 x119 x120 x121 x122 x123 x124 x125 x126 x127 x128 x129 x130 x131 x132 x133 x134 x135 x136 x137 x138 x139 x140 x141 x142 x143 x144 x145 x146 x147 x148 x149 x150 x151 x152 x153 x154 x155 x156 x157 x158 x159 x160 x161 x162 x163 x164 x165 x166 x167 x168 x169 x170 x171 x172 x173 x174 x175 x176 x177 x178 x179 x180 x181 x182 x183 x184 x185 x186 x187 x188 x189 x190 x191 x192 x193 x194 x195 x196 x197 x198 x199 x200 x201 x202 x203 x204 x205 x206 x207 x208 x209 x210 x211 x212 x213 x214 x215 x216 x217 x218 x219 x220 x221 x222 x223 x224 x225 x226 x227 x228 x229 x230 x231 x232 x233 x234 x235 x236 x237 x238 x239 x240 x241 x242 x243 x244 x245 x246 x247 x248 x249 x250 x251 x252 x253 x254 x255 x256 x257 x258 x259 x260 x261 x262 x263 x264 x265 x266 x267 x268 x269 x270 x271 x272 x273 x274 x275 x276 x277 x278 x279 x280 x281 x282 x283 x284 x285 x286 x287 x288 x289 x290 x291 x292 x293 x294 x295 x296 x297 x298 x299 x300 x301 x302 x303 x304 x305 x306 x307 x308 x309 x310 x311 x312 x313 x314 x315 x316 x317 x318 x319 x320 x321 x322 x323 x324 x325 x326 x327 x328 x329 x330 x331 x332 x333 x334 x335 x336 x337:Value} :
   Code.wp Tryz.prog (piece 84) Q0 ⟨#[.pointer (some ⟨g,0,none⟩),.slice A G.length c,x2,.int .i64 d,x4,x5,.pointer (some ⟨w.heap.size,0,none⟩),x7,.pointer (some ⟨w.heap.size+1,0,none⟩),x9,x10,x11,x12,x13,x14,x15,x16,x17,x18,x19,x20,x21,x22,x23,x24,x25,x26,x27,x28,x29,x30,x31,x32,x33,x34,x35,x36,x37,x38,x39,x40,x41,x42,x43,x44,x45,x46,x47,x48,x49,x50,x51,x52,x53,x54,x55,x56,x57,x58,x59,x60,x61,x62,x63,x64,x65,x66,x67,x68,x69,x70,x71,x72,x73,x74,x75,x76,x77,x78,x79,x80,x81,x82,x83,x84,x85,x86,x87,x88,x89,x90,x91,x92,x93,x94,x95,x96,x97,x98,x99,x100,x101,x102,x103,x104,x105,x106,x107,x108,x109,x110,x111,x112,x113,x114,x115,x116,x117,x118,x119,x120,x121,x122,x123,x124,x125,x126,x127,x128,x129,x130,x131,x132,x133,x134,x135,x136,x137,x138,x139,x140,x141,x142,x143,x144,x145,x146,x147,x148,x149,x150,x151,x152,x153,x154,x155,x156,x157,x158,x159,x160,x161,x162,x163,x164,x165,x166,x167,x168,x169,x170,x171,x172,x173,x174,x175,x176,x177,x178,x179,x180,x181,x182,x183,x184,x185,x186,x187,x188,x189,x190,x191,x192,x193,x194,x195,x196,x197,x198,x199,x200,x201,x202,x203,x204,x205,x206,x207,x208,x209,x210,x211,x212,x213,x214,x215,x216,x217,x218,x219,x220,x221,x222,x223,x224,x225,x226,x227,x228,x229,x230,x231,x232,x233,x234,x235,x236,x237,x238,x239,x240,x241,x242,x243,x244,x245,x246,x247,x248,x249,x250,x251,x252,x253,x254,x255,x256,x257,x258,x259,x260,x261,x262,x263,x264,x265,x266,x267,x268,x269,x270,x271,x272,x273,x274,x275,x276,x277,x278,x279,x280,x281,x282,x283,x284,x285,x286,x287,x288,x289,x290,x291,x292,x293,x294,x295,x296,x297,x298,x299,x300,x301,x302,x303,x304,x305,x306,x307,x308,x309,x310,x311,x312,x313,x314,x315,x316,x317,x318,x319,x320,x321,x322,x323,x324,x325,x326,x327,x328,x329,x330,x331,x332,x333,x334,x335,x336,x337],[]⟩ w0:=by
 conv=>arg 2; whnf
 have HE:=Lib.hid h0
 have HRET:=Lib.hid hret
 have hw:=IntWalk.i64_in (d - 1) (by have:=h0.hd5; have:=h0.hdn; omega)
 clear h0 hret
 have HR:=HE
 have hWR:W.heap.size≤w0.heap.size:=HR.out.turn.size
 have hWz:g<W.heap.size:=by have:=HR.out.sizes; omega
 have hd5:=HE.out.hd5
 go_upto_region 13 with fail
 obtain ⟨YY,hYY⟩:∃ Y:Tm→Prop,Y=fun y=>∃ x,Made (G ++ [tyNat,t]) t (bdN (d - 1).toNat t) (bdO (d - 1).toNat t) x∧y=.mk 2 0 tyNat [.mk 2 0 t [x]]:=⟨_,rfl⟩
 have hw0:g<w0.heap.size:=HR.out.lt
 have hww:w.heap.size<w0.heap.size:=by have:=HR.out.sizes; omega
 have HYY:=Lib.hid hYY
 clear hYY
 try dsimp only
 go_cut [12] from 86 to 101 (fun x wx=>StepR g YY W w0 x wx)
 case first=>
     have QD:=Lib.hid (Turn.free (n:=w.heap.size) (tDr g w0))
     have QDZ:=Lib.hid (Turn.free (n:=w.heap.size) (tAl g w0 (Obj.cells #[.int .i64 0,.int .i64 0,.int .i64 0,.slice none 0 0,.slice none 0 0] 42)))
     have QDZD:=Lib.hid (Turn.free (n:=w.heap.size) ((tAl g w0 (Obj.cells #[.int .i64 0,.int .i64 0,.int .i64 0,.slice none 0 0,.slice none 0 0] 42)).trans (tDr g _)))
     have HSK:=Lib.hid fun (w':World) (h:Turn (Free g w.heap.size) w0 w')=>And.intro (HR.out.heldF h).1 (HR.out.heldF h).2
     obtain ⟨q0,q1⟩:=HSK.out w0 (Turn.refl _ _)
     go_region_held3 (fun w'=>w'.cell? ⟨w.heap.size,0,none⟩ = some (.int .i64 t.kind)∧w'.cell? ⟨w.heap.size,1,none⟩ = some (.slice B t.args.length e))
       (first | with_reducible exact HSK.out _ QD.out | with_reducible exact HSK.out _ QDZ.out | with_reducible exact HSK.out _ QDZD.out | with_reducible exact HSK.out _ Q4.out | with_reducible exact HSK.out _ QZ4.out | with_reducible exact HSK.out _ Q5.out | with_reducible exact HSK.out _ QZ5.out | with_reducible exact HSK.out _ QO5.out | with_reducible exact HSK.out _ QZO5.out | with_reducible exact HSK.out _ QOZ5.out | with_reducible exact HSK.out _ Q6.out | with_reducible exact HSK.out _ QZ6.out | with_reducible exact HSK.out _ Q7.out | with_reducible exact HSK.out _ QZ7.out | with_reducible exact HSK.out _ QO7.out | with_reducible exact HSK.out _ QZO7.out | with_reducible exact HSK.out _ QOZ7.out | with_reducible exact HSK.out _ Q8.out | with_reducible exact HSK.out _ QZ8.out | with_reducible exact HSK.out _ QO8.out | with_reducible exact HSK.out _ QZO8.out | with_reducible exact HSK.out _ QOZ8.out | with_reducible exact HSK.out _ Q9.out | with_reducible exact HSK.out _ QZ9.out | with_reducible exact HSK.out _ QF9.out | with_reducible exact HSK.out _ QS9.out)
       (first
         | (go_at_call 68
            have P9:=t_call 2 (T:=tyNat) (by decide) (bulk_1 b8) (Typ.below (Typ.turn (Typ.leaf g w0 1) ((T8.out.trans (tAl g _ (Obj.cells #[.int .i64 y8.kind,.int .i64 y8.index,.int .i64 y8.type.kind,.slice B8 y8.type.args.length e8,.slice A8 y8.args.length c8] 42))).trans (tAl g _ (Obj.cells #[.int .i64 0,.int .i64 0,.int .i64 0,.slice none 0 0,.slice none 0 0] 42))))) (sl_alloc (tm_sl1 (Trm.below (Trm.turn X8.out (tRf g w8) hWz))) (Obj.cells #[.int .i64 0,.int .i64 0,.int .i64 0,.slice none 0 0,.slice none 0 0] 42))
            (with_reducible refine P9.mono ?_)
            rintro e w9 ⟨y9,v9,h9,rfl,t9,r9⟩
            clear P9
            have T9:=Lib.hid (((T8.out.trans (tAl g _ (Obj.cells #[.int .i64 y8.kind,.int .i64 y8.index,.int .i64 y8.type.kind,.slice B8 y8.type.args.length e8,.slice A8 y8.args.length c8] 42))).trans (tAl g _ (Obj.cells #[.int .i64 0,.int .i64 0,.int .i64 0,.slice none 0 0,.slice none 0 0] 42))).trans (tCa g r9))
            have U9:=Lib.hid (((tAl g _ (Obj.cells #[.int .i64 y8.kind,.int .i64 y8.index,.int .i64 y8.type.kind,.slice B8 y8.type.args.length e8,.slice A8 y8.args.length c8] 42)).trans (tAl g _ (Obj.cells #[.int .i64 0,.int .i64 0,.int .i64 0,.slice none 0 0,.slice none 0 0] 42))).trans (tCa g r9))
            obtain ⟨B9,e9,A9,c9,rfl,_⟩:=IsTm.form t9
            have X9:=Lib.hid (show Trm W.heap.size w9 y9 (.agg #[.int .i64 y9.kind,.int .i64 y9.index,.int .i64 y9.type.kind,.slice B9 y9.type.args.length e9,.slice A9 y9.args.length c9]) from Trm.mono t9 (Nat.le_trans hWR (((T8.out.trans (tAl g _ (Obj.cells #[.int .i64 y8.kind,.int .i64 y8.index,.int .i64 y8.type.kind,.slice B8 y8.type.args.length e8,.slice A8 y8.args.length c8] 42))).trans (tAl g _ (Obj.cells #[.int .i64 0,.int .i64 0,.int .i64 0,.slice none 0 0,.slice none 0 0] 42)))).size))
            have K9:=Lib.hid (Deck.call (Deck.box (Deck.box K8.out (Obj.cells #[.int .i64 y8.kind,.int .i64 y8.index,.int .i64 y8.type.kind,.slice B8 y8.type.args.length e8,.slice A8 y8.args.length c8] 42)) (Obj.cells #[.int .i64 0,.int .i64 0,.int .i64 0,.slice none 0 0,.slice none 0 0] 42)) r9)
            have b9:y9.bulk≤12020:=by rw [h9]; exact bulkN1 (by decide) b8
            have E9:=Lib.hid h9
            clear h9
            have KS9:=Lib.hid (ks_ptr (And.intro (Turn.blk (tCa g r9) (Blk.new (w8.alloc (Obj.cells #[.int .i64 y8.kind,.int .i64 y8.index,.int .i64 y8.type.kind,.slice B8 y8.type.args.length e8,.slice A8 y8.args.length c8] 42)) _ _) (by have:=(T8.out.trans (tAl g _ (Obj.cells #[.int .i64 y8.kind,.int .i64 y8.index,.int .i64 y8.type.kind,.slice B8 y8.type.args.length e8,.slice A8 y8.args.length c8] 42))).size; omega)) ((T8.out.trans (tAl g _ (Obj.cells #[.int .i64 y8.kind,.int .i64 y8.index,.int .i64 y8.type.kind,.slice B8 y8.type.args.length e8,.slice A8 y8.args.length c8] 42))).size)) (World.size_alloc w8 (Obj.cells #[.int .i64 y8.kind,.int .i64 y8.index,.int .i64 y8.type.kind,.slice B8 y8.type.args.length e8,.slice A8 y8.args.length c8] 42)))
            have Q9:=Lib.hid (Turn.free (n:=w.heap.size) T9.out)
            have QZ9:=Lib.hid (Turn.free (n:=w.heap.size) (T9.out.trans (tAl g _ (Obj.cells #[.int .i64 0,.int .i64 0,.int .i64 0,.slice none 0 0,.slice none 0 0] 42))))
            have HYP:=Lib.hid (show YY y9 by rw [HYY.out]; exact ⟨y7,M7.out,by rw [E9.out,E8.out]⟩)
            have QF9:=Lib.hid (Turn.free (n:=w.heap.size) (T9.out.trans (tAl g _ (Obj.cells #[.int .i64 y9.kind,.int .i64 y9.index,.int .i64 y9.type.kind,.slice B9 y9.type.args.length e9,.slice A9 y9.args.length c9] 42))))
            have ENDN:=Lib.hid (step_new (Y:=YY) HYP.out (Nat.le_trans hWR (((T8.out.trans (tAl g _ (Obj.cells #[.int .i64 y8.kind,.int .i64 y8.index,.int .i64 y8.type.kind,.slice B8 y8.type.args.length e8,.slice A8 y8.args.length c8] 42))).trans (tAl g _ (Obj.cells #[.int .i64 0,.int .i64 0,.int .i64 0,.slice none 0 0,.slice none 0 0] 42)))).size) T9.out K9.out t9)
            (have END:=Lib.hid (step_set (Y:=YY) HYP.out KS9.out.1 hWz KS9.out.2 hWR (by simp) T9.out K9.out t9))
            (have QS9:=Lib.hid (Turn.trans Q9.out (free_set5 (n:=w.heap.size) (Nat.lt_of_lt_of_le hww KS9.out.2) (.int .i64 y9.kind) (.int .i64 y9.index) (.int .i64 y9.type.kind) (.slice B9 y9.type.args.length e9) (.slice A9 y9.args.length c9))))
            (obtain ⟨_,_,_,_,_,f0,f1,f2,f3,f4⟩:=KS9.out.1.facts5)
            skip)
         | (go_at_call 68
            have P9:=t_call 2 (T:=tyNat) (by decide) (bulk_1 b8) (Typ.below (Typ.turn (Typ.leaf g w0 1) ((T8.out.trans (tAl g _ (Obj.cells #[.int .i64 0,.int .i64 0,.int .i64 0,.slice none 0 0,.slice none 0 0] 42))).trans (tAl g _ (Obj.cells #[.int .i64 y8.kind,.int .i64 y8.index,.int .i64 y8.type.kind,.slice B8 y8.type.args.length e8,.slice A8 y8.args.length c8] 42))))) (sl_ptr (tm_sl1 (Trm.below (Trm.turn X8.out ((tRf g w8).trans (tAl g _ (Obj.cells #[.int .i64 0,.int .i64 0,.int .i64 0,.slice none 0 0,.slice none 0 0] 42))) hWz))) (World.size_alloc w8 (Obj.cells #[.int .i64 0,.int .i64 0,.int .i64 0,.slice none 0 0,.slice none 0 0] 42)).symm)
            (with_reducible refine P9.mono ?_)
            rintro e w9 ⟨y9,v9,h9,rfl,t9,r9⟩
            clear P9
            have T9:=Lib.hid (((T8.out.trans (tAl g _ (Obj.cells #[.int .i64 0,.int .i64 0,.int .i64 0,.slice none 0 0,.slice none 0 0] 42))).trans (tAl g _ (Obj.cells #[.int .i64 y8.kind,.int .i64 y8.index,.int .i64 y8.type.kind,.slice B8 y8.type.args.length e8,.slice A8 y8.args.length c8] 42))).trans (tCa g r9))
            have U9:=Lib.hid (((tAl g _ (Obj.cells #[.int .i64 0,.int .i64 0,.int .i64 0,.slice none 0 0,.slice none 0 0] 42)).trans (tAl g _ (Obj.cells #[.int .i64 y8.kind,.int .i64 y8.index,.int .i64 y8.type.kind,.slice B8 y8.type.args.length e8,.slice A8 y8.args.length c8] 42))).trans (tCa g r9))
            obtain ⟨B9,e9,A9,c9,rfl,_⟩:=IsTm.form t9
            have X9:=Lib.hid (show Trm W.heap.size w9 y9 (.agg #[.int .i64 y9.kind,.int .i64 y9.index,.int .i64 y9.type.kind,.slice B9 y9.type.args.length e9,.slice A9 y9.args.length c9]) from Trm.mono t9 (Nat.le_trans hWR (((T8.out.trans (tAl g _ (Obj.cells #[.int .i64 0,.int .i64 0,.int .i64 0,.slice none 0 0,.slice none 0 0] 42))).trans (tAl g _ (Obj.cells #[.int .i64 y8.kind,.int .i64 y8.index,.int .i64 y8.type.kind,.slice B8 y8.type.args.length e8,.slice A8 y8.args.length c8] 42)))).size))
            have K9:=Lib.hid (Deck.call (Deck.box (Deck.box K8.out (Obj.cells #[.int .i64 0,.int .i64 0,.int .i64 0,.slice none 0 0,.slice none 0 0] 42)) (Obj.cells #[.int .i64 y8.kind,.int .i64 y8.index,.int .i64 y8.type.kind,.slice B8 y8.type.args.length e8,.slice A8 y8.args.length c8] 42)) r9)
            have b9:y9.bulk≤12020:=by rw [h9]; exact bulkN1 (by decide) b8
            have E9:=Lib.hid h9
            clear h9
            have KS9:=Lib.hid (And.intro (Turn.blk ((tAl g _ (Obj.cells #[.int .i64 y8.kind,.int .i64 y8.index,.int .i64 y8.type.kind,.slice B8 y8.type.args.length e8,.slice A8 y8.args.length c8] 42)).trans (tCa g r9)) (Blk.new w8 _ _) (by have:=(T8.out).size; omega)) ((T8.out).size))
            have Q9:=Lib.hid (Turn.free (n:=w.heap.size) T9.out)
            have QZ9:=Lib.hid (Turn.free (n:=w.heap.size) (T9.out.trans (tAl g _ (Obj.cells #[.int .i64 0,.int .i64 0,.int .i64 0,.slice none 0 0,.slice none 0 0] 42))))
            have HYP:=Lib.hid (show YY y9 by rw [HYY.out]; exact ⟨y7,M7.out,by rw [E9.out,E8.out]⟩)
            have QF9:=Lib.hid (Turn.free (n:=w.heap.size) (T9.out.trans (tAl g _ (Obj.cells #[.int .i64 y9.kind,.int .i64 y9.index,.int .i64 y9.type.kind,.slice B9 y9.type.args.length e9,.slice A9 y9.args.length c9] 42))))
            have ENDN:=Lib.hid (step_new (Y:=YY) HYP.out (Nat.le_trans hWR (((T8.out.trans (tAl g _ (Obj.cells #[.int .i64 0,.int .i64 0,.int .i64 0,.slice none 0 0,.slice none 0 0] 42))).trans (tAl g _ (Obj.cells #[.int .i64 y8.kind,.int .i64 y8.index,.int .i64 y8.type.kind,.slice B8 y8.type.args.length e8,.slice A8 y8.args.length c8] 42)))).size) T9.out K9.out t9)
            (have END:=Lib.hid (step_set (Y:=YY) HYP.out KS9.out.1 hWz KS9.out.2 hWR (by simp; omega) T9.out K9.out t9))
            (have QS9:=Lib.hid (Turn.trans Q9.out (free_set5 (n:=w.heap.size) (Nat.lt_of_lt_of_le hww KS9.out.2) (.int .i64 y9.kind) (.int .i64 y9.index) (.int .i64 y9.type.kind) (.slice B9 y9.type.args.length e9) (.slice A9 y9.args.length c9))))
            (obtain ⟨_,_,_,_,_,f0,f1,f2,f3,f4⟩:=KS9.out.1.facts5)
            skip)
         | (go_at_call 68
            have P9:=t_call 2 (T:=tyNat) (by decide) (bulk_1 b8) (Typ.below (Typ.turn (Typ.leaf g w0 1) (T8.out.trans (tAl g _ (Obj.cells #[.int .i64 y8.kind,.int .i64 y8.index,.int .i64 y8.type.kind,.slice B8 y8.type.args.length e8,.slice A8 y8.args.length c8] 42))))) (tm_sl1 (Trm.below (Trm.turn X8.out (tRf g w8) hWz)))
            (with_reducible refine P9.mono ?_)
            rintro e w9 ⟨y9,v9,h9,rfl,t9,r9⟩
            clear P9
            have T9:=Lib.hid ((T8.out.trans (tAl g _ (Obj.cells #[.int .i64 y8.kind,.int .i64 y8.index,.int .i64 y8.type.kind,.slice B8 y8.type.args.length e8,.slice A8 y8.args.length c8] 42))).trans (tCa g r9))
            have U9:=Lib.hid ((tAl g _ (Obj.cells #[.int .i64 y8.kind,.int .i64 y8.index,.int .i64 y8.type.kind,.slice B8 y8.type.args.length e8,.slice A8 y8.args.length c8] 42)).trans (tCa g r9))
            obtain ⟨B9,e9,A9,c9,rfl,_⟩:=IsTm.form t9
            have X9:=Lib.hid (show Trm W.heap.size w9 y9 (.agg #[.int .i64 y9.kind,.int .i64 y9.index,.int .i64 y9.type.kind,.slice B9 y9.type.args.length e9,.slice A9 y9.args.length c9]) from Trm.mono t9 (Nat.le_trans hWR ((T8.out.trans (tAl g _ (Obj.cells #[.int .i64 y8.kind,.int .i64 y8.index,.int .i64 y8.type.kind,.slice B8 y8.type.args.length e8,.slice A8 y8.args.length c8] 42)))).size))
            have K9:=Lib.hid (Deck.call (Deck.box K8.out (Obj.cells #[.int .i64 y8.kind,.int .i64 y8.index,.int .i64 y8.type.kind,.slice B8 y8.type.args.length e8,.slice A8 y8.args.length c8] 42)) r9)
            have b9:y9.bulk≤12020:=by rw [h9]; exact bulkN1 (by decide) b8
            have E9:=Lib.hid h9
            clear h9
            try (have KS9:=Lib.hid (And.intro (Turn.blk U9.out KS8.out.1 (by have:=KS8.out.2; omega)) KS8.out.2))
            have Q9:=Lib.hid (Turn.free (n:=w.heap.size) T9.out)
            have QZ9:=Lib.hid (Turn.free (n:=w.heap.size) (T9.out.trans (tAl g _ (Obj.cells #[.int .i64 0,.int .i64 0,.int .i64 0,.slice none 0 0,.slice none 0 0] 42))))
            have HYP:=Lib.hid (show YY y9 by rw [HYY.out]; exact ⟨y7,M7.out,by rw [E9.out,E8.out]⟩)
            have QF9:=Lib.hid (Turn.free (n:=w.heap.size) (T9.out.trans (tAl g _ (Obj.cells #[.int .i64 y9.kind,.int .i64 y9.index,.int .i64 y9.type.kind,.slice B9 y9.type.args.length e9,.slice A9 y9.args.length c9] 42))))
            have ENDN:=Lib.hid (step_new (Y:=YY) HYP.out (Nat.le_trans hWR ((T8.out.trans (tAl g _ (Obj.cells #[.int .i64 y8.kind,.int .i64 y8.index,.int .i64 y8.type.kind,.slice B8 y8.type.args.length e8,.slice A8 y8.args.length c8] 42)))).size) T9.out K9.out t9)
            try (have END:=Lib.hid (step_set (Y:=YY) HYP.out KS9.out.1 hWz KS9.out.2 hWR (by have:=KS8.out.1.lt; simp; omega) T9.out K9.out t9))
            try (have QS9:=Lib.hid (Turn.trans Q9.out (free_set5 (n:=w.heap.size) (Nat.lt_of_lt_of_le hww KS9.out.2) (.int .i64 y9.kind) (.int .i64 y9.index) (.int .i64 y9.type.kind) (.slice B9 y9.type.args.length e9) (.slice A9 y9.args.length c9))))
            try (obtain ⟨_,_,_,_,_,f0,f1,f2,f3,f4⟩:=KS9.out.1.facts5)
            skip)
         | (go_at_call 68
            have P8:=t_call 2 (T:=t) (by have:=HR.out.hn; omega) (bulk_1 b7) (Typ.below (Typ.turn HR.out.typAt ((T7.out.trans (tAl g _ (Obj.cells #[.int .i64 y7.kind,.int .i64 y7.index,.int .i64 y7.type.kind,.slice B7 y7.type.args.length e7,.slice A7 y7.args.length c7] 42))).trans (tAl g _ (Obj.cells #[.int .i64 0,.int .i64 0,.int .i64 0,.slice none 0 0,.slice none 0 0] 42))))) (sl_alloc (tm_sl1 (Trm.below (Trm.turn X7.out (tRf g w7) hWz))) (Obj.cells #[.int .i64 0,.int .i64 0,.int .i64 0,.slice none 0 0,.slice none 0 0] 42))
            (with_reducible refine P8.mono ?_)
            rintro e w8 ⟨y8,v8,h8,rfl,t8,r8⟩
            clear P8
            have T8:=Lib.hid (((T7.out.trans (tAl g _ (Obj.cells #[.int .i64 y7.kind,.int .i64 y7.index,.int .i64 y7.type.kind,.slice B7 y7.type.args.length e7,.slice A7 y7.args.length c7] 42))).trans (tAl g _ (Obj.cells #[.int .i64 0,.int .i64 0,.int .i64 0,.slice none 0 0,.slice none 0 0] 42))).trans (tCa g r8))
            have U8:=Lib.hid (((tAl g _ (Obj.cells #[.int .i64 y7.kind,.int .i64 y7.index,.int .i64 y7.type.kind,.slice B7 y7.type.args.length e7,.slice A7 y7.args.length c7] 42)).trans (tAl g _ (Obj.cells #[.int .i64 0,.int .i64 0,.int .i64 0,.slice none 0 0,.slice none 0 0] 42))).trans (tCa g r8))
            obtain ⟨B8,e8,A8,c8,rfl,_⟩:=IsTm.form t8
            have X8:=Lib.hid (show Trm W.heap.size w8 y8 (.agg #[.int .i64 y8.kind,.int .i64 y8.index,.int .i64 y8.type.kind,.slice B8 y8.type.args.length e8,.slice A8 y8.args.length c8]) from Trm.mono t8 (Nat.le_trans hWR (((T7.out.trans (tAl g _ (Obj.cells #[.int .i64 y7.kind,.int .i64 y7.index,.int .i64 y7.type.kind,.slice B7 y7.type.args.length e7,.slice A7 y7.args.length c7] 42))).trans (tAl g _ (Obj.cells #[.int .i64 0,.int .i64 0,.int .i64 0,.slice none 0 0,.slice none 0 0] 42)))).size))
            have K8:=Lib.hid (Deck.call (Deck.box (Deck.box K7.out (Obj.cells #[.int .i64 y7.kind,.int .i64 y7.index,.int .i64 y7.type.kind,.slice B7 y7.type.args.length e7,.slice A7 y7.args.length c7] 42)) (Obj.cells #[.int .i64 0,.int .i64 0,.int .i64 0,.slice none 0 0,.slice none 0 0] 42)) r8)
            have b8:y8.bulk≤12010:=by rw [h8]; exact bulkN1 HR.out.hn b7
            have E8:=Lib.hid h8
            clear h8
            have KS8:=Lib.hid (ks_ptr (And.intro (Turn.blk (tCa g r8) (Blk.new (w7.alloc (Obj.cells #[.int .i64 y7.kind,.int .i64 y7.index,.int .i64 y7.type.kind,.slice B7 y7.type.args.length e7,.slice A7 y7.args.length c7] 42)) _ _) (by have:=(T7.out.trans (tAl g _ (Obj.cells #[.int .i64 y7.kind,.int .i64 y7.index,.int .i64 y7.type.kind,.slice B7 y7.type.args.length e7,.slice A7 y7.args.length c7] 42))).size; omega)) ((T7.out.trans (tAl g _ (Obj.cells #[.int .i64 y7.kind,.int .i64 y7.index,.int .i64 y7.type.kind,.slice B7 y7.type.args.length e7,.slice A7 y7.args.length c7] 42))).size)) (World.size_alloc w7 (Obj.cells #[.int .i64 y7.kind,.int .i64 y7.index,.int .i64 y7.type.kind,.slice B7 y7.type.args.length e7,.slice A7 y7.args.length c7] 42)))
            have Q8:=Lib.hid (Turn.free (n:=w.heap.size) T8.out)
            have QZ8:=Lib.hid (Turn.free (n:=w.heap.size) (T8.out.trans (tAl g _ (Obj.cells #[.int .i64 0,.int .i64 0,.int .i64 0,.slice none 0 0,.slice none 0 0] 42))))
            have QO8:=Lib.hid (Turn.free (n:=w.heap.size) (T8.out.trans (tAl g _ (Obj.cells #[.int .i64 y8.kind,.int .i64 y8.index,.int .i64 y8.type.kind,.slice B8 y8.type.args.length e8,.slice A8 y8.args.length c8] 42))))
            have QZO8:=Lib.hid (Turn.free (n:=w.heap.size) ((T8.out.trans (tAl g _ (Obj.cells #[.int .i64 0,.int .i64 0,.int .i64 0,.slice none 0 0,.slice none 0 0] 42))).trans (tAl g _ (Obj.cells #[.int .i64 y8.kind,.int .i64 y8.index,.int .i64 y8.type.kind,.slice B8 y8.type.args.length e8,.slice A8 y8.args.length c8] 42))))
            have QOZ8:=Lib.hid (Turn.free (n:=w.heap.size) ((T8.out.trans (tAl g _ (Obj.cells #[.int .i64 y8.kind,.int .i64 y8.index,.int .i64 y8.type.kind,.slice B8 y8.type.args.length e8,.slice A8 y8.args.length c8] 42))).trans (tAl g _ (Obj.cells #[.int .i64 0,.int .i64 0,.int .i64 0,.slice none 0 0,.slice none 0 0] 42)))))
         | (go_at_call 68
            have P8:=t_call 2 (T:=t) (by have:=HR.out.hn; omega) (bulk_1 b7) (Typ.below (Typ.turn HR.out.typAt ((T7.out.trans (tAl g _ (Obj.cells #[.int .i64 0,.int .i64 0,.int .i64 0,.slice none 0 0,.slice none 0 0] 42))).trans (tAl g _ (Obj.cells #[.int .i64 y7.kind,.int .i64 y7.index,.int .i64 y7.type.kind,.slice B7 y7.type.args.length e7,.slice A7 y7.args.length c7] 42))))) (sl_ptr (tm_sl1 (Trm.below (Trm.turn X7.out ((tRf g w7).trans (tAl g _ (Obj.cells #[.int .i64 0,.int .i64 0,.int .i64 0,.slice none 0 0,.slice none 0 0] 42))) hWz))) (World.size_alloc w7 (Obj.cells #[.int .i64 0,.int .i64 0,.int .i64 0,.slice none 0 0,.slice none 0 0] 42)).symm)
            (with_reducible refine P8.mono ?_)
            rintro e w8 ⟨y8,v8,h8,rfl,t8,r8⟩
            clear P8
            have T8:=Lib.hid (((T7.out.trans (tAl g _ (Obj.cells #[.int .i64 0,.int .i64 0,.int .i64 0,.slice none 0 0,.slice none 0 0] 42))).trans (tAl g _ (Obj.cells #[.int .i64 y7.kind,.int .i64 y7.index,.int .i64 y7.type.kind,.slice B7 y7.type.args.length e7,.slice A7 y7.args.length c7] 42))).trans (tCa g r8))
            have U8:=Lib.hid (((tAl g _ (Obj.cells #[.int .i64 0,.int .i64 0,.int .i64 0,.slice none 0 0,.slice none 0 0] 42)).trans (tAl g _ (Obj.cells #[.int .i64 y7.kind,.int .i64 y7.index,.int .i64 y7.type.kind,.slice B7 y7.type.args.length e7,.slice A7 y7.args.length c7] 42))).trans (tCa g r8))
            obtain ⟨B8,e8,A8,c8,rfl,_⟩:=IsTm.form t8
            have X8:=Lib.hid (show Trm W.heap.size w8 y8 (.agg #[.int .i64 y8.kind,.int .i64 y8.index,.int .i64 y8.type.kind,.slice B8 y8.type.args.length e8,.slice A8 y8.args.length c8]) from Trm.mono t8 (Nat.le_trans hWR (((T7.out.trans (tAl g _ (Obj.cells #[.int .i64 0,.int .i64 0,.int .i64 0,.slice none 0 0,.slice none 0 0] 42))).trans (tAl g _ (Obj.cells #[.int .i64 y7.kind,.int .i64 y7.index,.int .i64 y7.type.kind,.slice B7 y7.type.args.length e7,.slice A7 y7.args.length c7] 42)))).size))
            have K8:=Lib.hid (Deck.call (Deck.box (Deck.box K7.out (Obj.cells #[.int .i64 0,.int .i64 0,.int .i64 0,.slice none 0 0,.slice none 0 0] 42)) (Obj.cells #[.int .i64 y7.kind,.int .i64 y7.index,.int .i64 y7.type.kind,.slice B7 y7.type.args.length e7,.slice A7 y7.args.length c7] 42)) r8)
            have b8:y8.bulk≤12010:=by rw [h8]; exact bulkN1 HR.out.hn b7
            have E8:=Lib.hid h8
            clear h8
            have KS8:=Lib.hid (And.intro (Turn.blk ((tAl g _ (Obj.cells #[.int .i64 y7.kind,.int .i64 y7.index,.int .i64 y7.type.kind,.slice B7 y7.type.args.length e7,.slice A7 y7.args.length c7] 42)).trans (tCa g r8)) (Blk.new w7 _ _) (by have:=(T7.out).size; omega)) ((T7.out).size))
            have Q8:=Lib.hid (Turn.free (n:=w.heap.size) T8.out)
            have QZ8:=Lib.hid (Turn.free (n:=w.heap.size) (T8.out.trans (tAl g _ (Obj.cells #[.int .i64 0,.int .i64 0,.int .i64 0,.slice none 0 0,.slice none 0 0] 42))))
            have QO8:=Lib.hid (Turn.free (n:=w.heap.size) (T8.out.trans (tAl g _ (Obj.cells #[.int .i64 y8.kind,.int .i64 y8.index,.int .i64 y8.type.kind,.slice B8 y8.type.args.length e8,.slice A8 y8.args.length c8] 42))))
            have QZO8:=Lib.hid (Turn.free (n:=w.heap.size) ((T8.out.trans (tAl g _ (Obj.cells #[.int .i64 0,.int .i64 0,.int .i64 0,.slice none 0 0,.slice none 0 0] 42))).trans (tAl g _ (Obj.cells #[.int .i64 y8.kind,.int .i64 y8.index,.int .i64 y8.type.kind,.slice B8 y8.type.args.length e8,.slice A8 y8.args.length c8] 42))))
            have QOZ8:=Lib.hid (Turn.free (n:=w.heap.size) ((T8.out.trans (tAl g _ (Obj.cells #[.int .i64 y8.kind,.int .i64 y8.index,.int .i64 y8.type.kind,.slice B8 y8.type.args.length e8,.slice A8 y8.args.length c8] 42))).trans (tAl g _ (Obj.cells #[.int .i64 0,.int .i64 0,.int .i64 0,.slice none 0 0,.slice none 0 0] 42)))))
         | (go_at_call 68
            have P8:=t_call 2 (T:=t) (by have:=HR.out.hn; omega) (bulk_1 b7) (Typ.below (Typ.turn HR.out.typAt (T7.out.trans (tAl g _ (Obj.cells #[.int .i64 y7.kind,.int .i64 y7.index,.int .i64 y7.type.kind,.slice B7 y7.type.args.length e7,.slice A7 y7.args.length c7] 42))))) (tm_sl1 (Trm.below (Trm.turn X7.out (tRf g w7) hWz)))
            (with_reducible refine P8.mono ?_)
            rintro e w8 ⟨y8,v8,h8,rfl,t8,r8⟩
            clear P8
            have T8:=Lib.hid ((T7.out.trans (tAl g _ (Obj.cells #[.int .i64 y7.kind,.int .i64 y7.index,.int .i64 y7.type.kind,.slice B7 y7.type.args.length e7,.slice A7 y7.args.length c7] 42))).trans (tCa g r8))
            have U8:=Lib.hid ((tAl g _ (Obj.cells #[.int .i64 y7.kind,.int .i64 y7.index,.int .i64 y7.type.kind,.slice B7 y7.type.args.length e7,.slice A7 y7.args.length c7] 42)).trans (tCa g r8))
            obtain ⟨B8,e8,A8,c8,rfl,_⟩:=IsTm.form t8
            have X8:=Lib.hid (show Trm W.heap.size w8 y8 (.agg #[.int .i64 y8.kind,.int .i64 y8.index,.int .i64 y8.type.kind,.slice B8 y8.type.args.length e8,.slice A8 y8.args.length c8]) from Trm.mono t8 (Nat.le_trans hWR ((T7.out.trans (tAl g _ (Obj.cells #[.int .i64 y7.kind,.int .i64 y7.index,.int .i64 y7.type.kind,.slice B7 y7.type.args.length e7,.slice A7 y7.args.length c7] 42)))).size))
            have K8:=Lib.hid (Deck.call (Deck.box K7.out (Obj.cells #[.int .i64 y7.kind,.int .i64 y7.index,.int .i64 y7.type.kind,.slice B7 y7.type.args.length e7,.slice A7 y7.args.length c7] 42)) r8)
            have b8:y8.bulk≤12010:=by rw [h8]; exact bulkN1 HR.out.hn b7
            have E8:=Lib.hid h8
            clear h8
            try (have KS8:=Lib.hid (And.intro (Turn.blk U8.out KS7.out.1 (by have:=KS7.out.2; omega)) KS7.out.2))
            have Q8:=Lib.hid (Turn.free (n:=w.heap.size) T8.out)
            have QZ8:=Lib.hid (Turn.free (n:=w.heap.size) (T8.out.trans (tAl g _ (Obj.cells #[.int .i64 0,.int .i64 0,.int .i64 0,.slice none 0 0,.slice none 0 0] 42))))
            have QO8:=Lib.hid (Turn.free (n:=w.heap.size) (T8.out.trans (tAl g _ (Obj.cells #[.int .i64 y8.kind,.int .i64 y8.index,.int .i64 y8.type.kind,.slice B8 y8.type.args.length e8,.slice A8 y8.args.length c8] 42))))
            have QZO8:=Lib.hid (Turn.free (n:=w.heap.size) ((T8.out.trans (tAl g _ (Obj.cells #[.int .i64 0,.int .i64 0,.int .i64 0,.slice none 0 0,.slice none 0 0] 42))).trans (tAl g _ (Obj.cells #[.int .i64 y8.kind,.int .i64 y8.index,.int .i64 y8.type.kind,.slice B8 y8.type.args.length e8,.slice A8 y8.args.length c8] 42))))
            have QOZ8:=Lib.hid (Turn.free (n:=w.heap.size) ((T8.out.trans (tAl g _ (Obj.cells #[.int .i64 y8.kind,.int .i64 y8.index,.int .i64 y8.type.kind,.slice B8 y8.type.args.length e8,.slice A8 y8.args.length c8] 42))).trans (tAl g _ (Obj.cells #[.int .i64 0,.int .i64 0,.int .i64 0,.slice none 0 0,.slice none 0 0] 42)))))
         | (go_at_call 16
            have P7:=HR.out.term hdp (Ctx.turn C6.out (tAl g _ (Obj.cells #[.int .i64 0,.int .i64 0,.int .i64 0,.slice none 0 0,.slice none 0 0] 42))) (Typ.turn HR.out.typAt (T6.out.trans (tAl g _ (Obj.cells #[.int .i64 0,.int .i64 0,.int .i64 0,.slice none 0 0,.slice none 0 0] 42)))) (Deck.box K6.out (Obj.cells #[.int .i64 0,.int .i64 0,.int .i64 0,.slice none 0 0,.slice none 0 0] 42)) HR.out.hok HR.out.hn (by simp; omega)
            (with_reducible refine P7.mono ?_)
            rintro e w7 ⟨y7,v7,rfl,m7,t7,k7,u7⟩
            clear P7
            have T7:=Lib.hid ((T6.out.trans (tAl g _ (Obj.cells #[.int .i64 0,.int .i64 0,.int .i64 0,.slice none 0 0,.slice none 0 0] 42))).trans (u7))
            have U7:=Lib.hid ((tAl g _ (Obj.cells #[.int .i64 0,.int .i64 0,.int .i64 0,.slice none 0 0,.slice none 0 0] 42)).trans (u7))
            obtain ⟨B7,e7,A7,c7,rfl,_⟩:=IsTm.form t7
            have X7:=Lib.hid (show Trm W.heap.size w7 y7 (.agg #[.int .i64 y7.kind,.int .i64 y7.index,.int .i64 y7.type.kind,.slice B7 y7.type.args.length e7,.slice A7 y7.args.length c7]) from Trm.mono t7 (Nat.le_trans hWR ((T6.out.trans (tAl g _ (Obj.cells #[.int .i64 0,.int .i64 0,.int .i64 0,.slice none 0 0,.slice none 0 0] 42)))).size))
            have M7:=Lib.hid m7
            have b7:y7.bulk≤12000:=m7.bulk_le (bdN_le _ (by omega))
            have K7:=Lib.hid k7
            clear m7 t7
            have KS7:=Lib.hid (And.intro (Turn.blk (u7) (Blk.new w6 _ _) (by have:=(T6.out).size; omega)) ((T6.out).size))
            have Q7:=Lib.hid (Turn.free (n:=w.heap.size) T7.out)
            have QZ7:=Lib.hid (Turn.free (n:=w.heap.size) (T7.out.trans (tAl g _ (Obj.cells #[.int .i64 0,.int .i64 0,.int .i64 0,.slice none 0 0,.slice none 0 0] 42))))
            have QO7:=Lib.hid (Turn.free (n:=w.heap.size) (T7.out.trans (tAl g _ (Obj.cells #[.int .i64 y7.kind,.int .i64 y7.index,.int .i64 y7.type.kind,.slice B7 y7.type.args.length e7,.slice A7 y7.args.length c7] 42))))
            have QZO7:=Lib.hid (Turn.free (n:=w.heap.size) ((T7.out.trans (tAl g _ (Obj.cells #[.int .i64 0,.int .i64 0,.int .i64 0,.slice none 0 0,.slice none 0 0] 42))).trans (tAl g _ (Obj.cells #[.int .i64 y7.kind,.int .i64 y7.index,.int .i64 y7.type.kind,.slice B7 y7.type.args.length e7,.slice A7 y7.args.length c7] 42))))
            have QOZ7:=Lib.hid (Turn.free (n:=w.heap.size) ((T7.out.trans (tAl g _ (Obj.cells #[.int .i64 y7.kind,.int .i64 y7.index,.int .i64 y7.type.kind,.slice B7 y7.type.args.length e7,.slice A7 y7.args.length c7] 42))).trans (tAl g _ (Obj.cells #[.int .i64 0,.int .i64 0,.int .i64 0,.slice none 0 0,.slice none 0 0] 42)))))
         | (go_at_call 16
            have P7:=HR.out.term hdp C6.out (Typ.turn HR.out.typAt T6.out) K6.out HR.out.hok HR.out.hn (by simp; omega)
            (with_reducible refine P7.mono ?_)
            rintro e w7 ⟨y7,v7,rfl,m7,t7,k7,u7⟩
            clear P7
            have T7:=Lib.hid (T6.out.trans (u7))
            have U7:=Lib.hid (u7)
            obtain ⟨B7,e7,A7,c7,rfl,_⟩:=IsTm.form t7
            have X7:=Lib.hid (show Trm W.heap.size w7 y7 (.agg #[.int .i64 y7.kind,.int .i64 y7.index,.int .i64 y7.type.kind,.slice B7 y7.type.args.length e7,.slice A7 y7.args.length c7]) from Trm.mono t7 (Nat.le_trans hWR (T6.out).size))
            have M7:=Lib.hid m7
            have b7:y7.bulk≤12000:=m7.bulk_le (bdN_le _ (by omega))
            have K7:=Lib.hid k7
            clear m7 t7
            try (have KS7:=Lib.hid (And.intro (Turn.blk U7.out KS6.out.1 (by have:=KS6.out.2; omega)) KS6.out.2))
            have Q7:=Lib.hid (Turn.free (n:=w.heap.size) T7.out)
            have QZ7:=Lib.hid (Turn.free (n:=w.heap.size) (T7.out.trans (tAl g _ (Obj.cells #[.int .i64 0,.int .i64 0,.int .i64 0,.slice none 0 0,.slice none 0 0] 42))))
            have QO7:=Lib.hid (Turn.free (n:=w.heap.size) (T7.out.trans (tAl g _ (Obj.cells #[.int .i64 y7.kind,.int .i64 y7.index,.int .i64 y7.type.kind,.slice B7 y7.type.args.length e7,.slice A7 y7.args.length c7] 42))))
            have QZO7:=Lib.hid (Turn.free (n:=w.heap.size) ((T7.out.trans (tAl g _ (Obj.cells #[.int .i64 0,.int .i64 0,.int .i64 0,.slice none 0 0,.slice none 0 0] 42))).trans (tAl g _ (Obj.cells #[.int .i64 y7.kind,.int .i64 y7.index,.int .i64 y7.type.kind,.slice B7 y7.type.args.length e7,.slice A7 y7.args.length c7] 42))))
            have QOZ7:=Lib.hid (Turn.free (n:=w.heap.size) ((T7.out.trans (tAl g _ (Obj.cells #[.int .i64 y7.kind,.int .i64 y7.index,.int .i64 y7.type.kind,.slice B7 y7.type.args.length e7,.slice A7 y7.args.length c7] 42))).trans (tAl g _ (Obj.cells #[.int .i64 0,.int .i64 0,.int .i64 0,.slice none 0 0,.slice none 0 0] 42)))))
         | (go_at_call 57
            have P6:=longer_ctx (g:=g) (L:=[tyNat,t]) (Nat.lt_of_lt_of_le HR.out.lt (((T5.out.trans (tAl g _ (Obj.cells #[.int .i64 1,.slice none 0 0,.int .i64 t.kind,.slice B t.args.length e] 30))).trans (tAl g _ (Obj.cells #[.int .i64 0,.int .i64 0,.int .i64 0,.slice none 0 0,.slice none 0 0] 42)))).size) (by have:=HR.out.hlen; omega) (by simp) (Ctx.turn HR.out.ctxAt ((T5.out.trans (tAl g _ (Obj.cells #[.int .i64 1,.slice none 0 0,.int .i64 t.kind,.slice B t.args.length e] 30))).trans (tAl g _ (Obj.cells #[.int .i64 0,.int .i64 0,.int .i64 0,.slice none 0 0,.slice none 0 0] 42)))) (Rep.Sl.turn (R:=TyR) (ty_sl2 (Nat.lt_of_lt_of_le HR.out.lt (T5.out).size) (Typ.turn (Typ.leaf g w0 1) T5.out) (Typ.turn HR.out.typAt T5.out)) (tAl g _ (Obj.cells #[.int .i64 0,.int .i64 0,.int .i64 0,.slice none 0 0,.slice none 0 0] 42))) (fun U hU=>by simp at hU; rcases hU with rfl | rfl; exact ⟨rfl,by decide⟩; exact ⟨HR.out.hok,HR.out.hn⟩) (by simp)
            (with_reducible refine P6.mono ?_)
            rintro e w6 ⟨z6,rfl,h6,b6⟩
            clear P6
            have T6:=Lib.hid (((T5.out.trans (tAl g _ (Obj.cells #[.int .i64 1,.slice none 0 0,.int .i64 t.kind,.slice B t.args.length e] 30))).trans (tAl g _ (Obj.cells #[.int .i64 0,.int .i64 0,.int .i64 0,.slice none 0 0,.slice none 0 0] 42))).trans (tCa g b6))
            have U6:=Lib.hid (((tAl g _ (Obj.cells #[.int .i64 1,.slice none 0 0,.int .i64 t.kind,.slice B t.args.length e] 30)).trans (tAl g _ (Obj.cells #[.int .i64 0,.int .i64 0,.int .i64 0,.slice none 0 0,.slice none 0 0] 42))).trans (tCa g b6))
            have K6:=Lib.hid (Deck.call (Deck.box (Deck.box K5.out (Obj.cells #[.int .i64 1,.slice none 0 0,.int .i64 t.kind,.slice B t.args.length e] 30)) (Obj.cells #[.int .i64 0,.int .i64 0,.int .i64 0,.slice none 0 0,.slice none 0 0] 42)) b6)
            obtain ⟨A6,c6,rfl⟩:∃ A c,z6=.slice A (G.length+2) c:=by obtain ⟨A',c',e'⟩:=h6.sl.form; exact ⟨A',c',by rw [e']; simp⟩
            have C6:=Lib.hid h6
            clear h6
            have KS6:=Lib.hid (ks_ptr (And.intro (Turn.blk (tCa g b6) (Blk.new (w5.alloc (Obj.cells #[.int .i64 1,.slice none 0 0,.int .i64 t.kind,.slice B t.args.length e] 30)) _ _) (by have:=(T5.out.trans (tAl g _ (Obj.cells #[.int .i64 1,.slice none 0 0,.int .i64 t.kind,.slice B t.args.length e] 30))).size; omega)) ((T5.out.trans (tAl g _ (Obj.cells #[.int .i64 1,.slice none 0 0,.int .i64 t.kind,.slice B t.args.length e] 30))).size)) (World.size_alloc w5 (Obj.cells #[.int .i64 1,.slice none 0 0,.int .i64 t.kind,.slice B t.args.length e] 30)))
            have Q6:=Lib.hid (Turn.free (n:=w.heap.size) T6.out)
            have QZ6:=Lib.hid (Turn.free (n:=w.heap.size) (T6.out.trans (tAl g _ (Obj.cells #[.int .i64 0,.int .i64 0,.int .i64 0,.slice none 0 0,.slice none 0 0] 42))))
            skip)
         | (go_at_call 57
            have P6:=longer_ctx (g:=g) (L:=[tyNat,t]) (Nat.lt_of_lt_of_le HR.out.lt (((T5.out.trans (tAl g _ (Obj.cells #[.int .i64 0,.int .i64 0,.int .i64 0,.slice none 0 0,.slice none 0 0] 42))).trans (tAl g _ (Obj.cells #[.int .i64 1,.slice none 0 0,.int .i64 t.kind,.slice B t.args.length e] 30)))).size) (by have:=HR.out.hlen; omega) (by simp) (Ctx.turn HR.out.ctxAt ((T5.out.trans (tAl g _ (Obj.cells #[.int .i64 0,.int .i64 0,.int .i64 0,.slice none 0 0,.slice none 0 0] 42))).trans (tAl g _ (Obj.cells #[.int .i64 1,.slice none 0 0,.int .i64 t.kind,.slice B t.args.length e] 30)))) (sl_ptr (ty_sl2 (Nat.lt_of_lt_of_le HR.out.lt ((T5.out.trans (tAl g _ (Obj.cells #[.int .i64 0,.int .i64 0,.int .i64 0,.slice none 0 0,.slice none 0 0] 42)))).size) (Typ.turn (Typ.leaf g w0 1) (T5.out.trans (tAl g _ (Obj.cells #[.int .i64 0,.int .i64 0,.int .i64 0,.slice none 0 0,.slice none 0 0] 42)))) (Typ.turn HR.out.typAt (T5.out.trans (tAl g _ (Obj.cells #[.int .i64 0,.int .i64 0,.int .i64 0,.slice none 0 0,.slice none 0 0] 42))))) (World.size_alloc w5 (Obj.cells #[.int .i64 0,.int .i64 0,.int .i64 0,.slice none 0 0,.slice none 0 0] 42)).symm) (fun U hU=>by simp at hU; rcases hU with rfl | rfl; exact ⟨rfl,by decide⟩; exact ⟨HR.out.hok,HR.out.hn⟩) (by simp)
            (with_reducible refine P6.mono ?_)
            rintro e w6 ⟨z6,rfl,h6,b6⟩
            clear P6
            have T6:=Lib.hid (((T5.out.trans (tAl g _ (Obj.cells #[.int .i64 0,.int .i64 0,.int .i64 0,.slice none 0 0,.slice none 0 0] 42))).trans (tAl g _ (Obj.cells #[.int .i64 1,.slice none 0 0,.int .i64 t.kind,.slice B t.args.length e] 30))).trans (tCa g b6))
            have U6:=Lib.hid (((tAl g _ (Obj.cells #[.int .i64 0,.int .i64 0,.int .i64 0,.slice none 0 0,.slice none 0 0] 42)).trans (tAl g _ (Obj.cells #[.int .i64 1,.slice none 0 0,.int .i64 t.kind,.slice B t.args.length e] 30))).trans (tCa g b6))
            have K6:=Lib.hid (Deck.call (Deck.box (Deck.box K5.out (Obj.cells #[.int .i64 0,.int .i64 0,.int .i64 0,.slice none 0 0,.slice none 0 0] 42)) (Obj.cells #[.int .i64 1,.slice none 0 0,.int .i64 t.kind,.slice B t.args.length e] 30)) b6)
            obtain ⟨A6,c6,rfl⟩:∃ A c,z6=.slice A (G.length+2) c:=by obtain ⟨A',c',e'⟩:=h6.sl.form; exact ⟨A',c',by rw [e']; simp⟩
            have C6:=Lib.hid h6
            clear h6
            have KS6:=Lib.hid (And.intro (Turn.blk ((tAl g _ (Obj.cells #[.int .i64 1,.slice none 0 0,.int .i64 t.kind,.slice B t.args.length e] 30)).trans (tCa g b6)) (Blk.new w5 _ _) (by have:=(T5.out).size; omega)) ((T5.out).size))
            have Q6:=Lib.hid (Turn.free (n:=w.heap.size) T6.out)
            have QZ6:=Lib.hid (Turn.free (n:=w.heap.size) (T6.out.trans (tAl g _ (Obj.cells #[.int .i64 0,.int .i64 0,.int .i64 0,.slice none 0 0,.slice none 0 0] 42))))
            skip)
         | (go_at_call 57
            have P6:=longer_ctx (g:=g) (L:=[tyNat,t]) (Nat.lt_of_lt_of_le HR.out.lt ((T5.out.trans (tAl g _ (Obj.cells #[.int .i64 1,.slice none 0 0,.int .i64 t.kind,.slice B t.args.length e] 30)))).size) (by have:=HR.out.hlen; omega) (by simp) (Ctx.turn HR.out.ctxAt (T5.out.trans (tAl g _ (Obj.cells #[.int .i64 1,.slice none 0 0,.int .i64 t.kind,.slice B t.args.length e] 30)))) (ty_sl2 (Nat.lt_of_lt_of_le HR.out.lt (T5.out).size) (Typ.turn (Typ.leaf g w0 1) T5.out) (Typ.turn HR.out.typAt T5.out)) (fun U hU=>by simp at hU; rcases hU with rfl | rfl; exact ⟨rfl,by decide⟩; exact ⟨HR.out.hok,HR.out.hn⟩) (by simp)
            (with_reducible refine P6.mono ?_)
            rintro e w6 ⟨z6,rfl,h6,b6⟩
            clear P6
            have T6:=Lib.hid ((T5.out.trans (tAl g _ (Obj.cells #[.int .i64 1,.slice none 0 0,.int .i64 t.kind,.slice B t.args.length e] 30))).trans (tCa g b6))
            have U6:=Lib.hid ((tAl g _ (Obj.cells #[.int .i64 1,.slice none 0 0,.int .i64 t.kind,.slice B t.args.length e] 30)).trans (tCa g b6))
            have K6:=Lib.hid (Deck.call (Deck.box K5.out (Obj.cells #[.int .i64 1,.slice none 0 0,.int .i64 t.kind,.slice B t.args.length e] 30)) b6)
            obtain ⟨A6,c6,rfl⟩:∃ A c,z6=.slice A (G.length+2) c:=by obtain ⟨A',c',e'⟩:=h6.sl.form; exact ⟨A',c',by rw [e']; simp⟩
            have C6:=Lib.hid h6
            clear h6
            try (have KS6:=Lib.hid (And.intro (Turn.blk U6.out KS5.out.1 (by have:=KS5.out.2; omega)) KS5.out.2))
            have Q6:=Lib.hid (Turn.free (n:=w.heap.size) T6.out)
            have QZ6:=Lib.hid (Turn.free (n:=w.heap.size) (T6.out.trans (tAl g _ (Obj.cells #[.int .i64 0,.int .i64 0,.int .i64 0,.slice none 0 0,.slice none 0 0] 42))))
            skip)
         | (go_at_call 23
            have P5:=nat_any (w4.alloc (Obj.cells #[.int .i64 0,.int .i64 0,.int .i64 0,.slice none 0 0,.slice none 0 0] 42))
            (with_reducible refine P5.mono ?_)
            rintro e w5 ⟨rfl,r5⟩
            clear P5
            have T5:=Lib.hid ((T4.out.trans (tAl g _ (Obj.cells #[.int .i64 0,.int .i64 0,.int .i64 0,.slice none 0 0,.slice none 0 0] 42))).trans (tCa g r5))
            have U5:=Lib.hid ((tAl g _ (Obj.cells #[.int .i64 0,.int .i64 0,.int .i64 0,.slice none 0 0,.slice none 0 0] 42)).trans (tCa g r5))
            have K5:=Lib.hid (Deck.call (Deck.box K4.out (Obj.cells #[.int .i64 0,.int .i64 0,.int .i64 0,.slice none 0 0,.slice none 0 0] 42)) r5)
            have KS5:=Lib.hid (And.intro (Turn.blk (tCa g r5) (Blk.new w4 _ _) (by have:=(T4.out).size; omega)) ((T4.out).size))
            have Q5:=Lib.hid (Turn.free (n:=w.heap.size) T5.out)
            have QZ5:=Lib.hid (Turn.free (n:=w.heap.size) (T5.out.trans (tAl g _ (Obj.cells #[.int .i64 0,.int .i64 0,.int .i64 0,.slice none 0 0,.slice none 0 0] 42))))
            have QO5:=Lib.hid (Turn.free (n:=w.heap.size) (T5.out.trans (tAl g _ (Obj.cells #[.int .i64 1,.slice none 0 0,.int .i64 t.kind,.slice B t.args.length e] 30))))
            have QZO5:=Lib.hid (Turn.free (n:=w.heap.size) ((T5.out.trans (tAl g _ (Obj.cells #[.int .i64 0,.int .i64 0,.int .i64 0,.slice none 0 0,.slice none 0 0] 42))).trans (tAl g _ (Obj.cells #[.int .i64 1,.slice none 0 0,.int .i64 t.kind,.slice B t.args.length e] 30))))
            have QOZ5:=Lib.hid (Turn.free (n:=w.heap.size) ((T5.out.trans (tAl g _ (Obj.cells #[.int .i64 1,.slice none 0 0,.int .i64 t.kind,.slice B t.args.length e] 30))).trans (tAl g _ (Obj.cells #[.int .i64 0,.int .i64 0,.int .i64 0,.slice none 0 0,.slice none 0 0] 42)))))
         | (go_at_call 23
            have P5:=nat_any w4
            (with_reducible refine P5.mono ?_)
            rintro e w5 ⟨rfl,r5⟩
            clear P5
            have T5:=Lib.hid (T4.out.trans (tCa g r5))
            have U5:=Lib.hid (tCa g r5)
            have K5:=Lib.hid (Deck.call K4.out r5)
            try (have KS5:=Lib.hid (And.intro (Turn.blk U5.out KS4.out.1 (by have:=KS4.out.2; omega)) KS4.out.2))
            have Q5:=Lib.hid (Turn.free (n:=w.heap.size) T5.out)
            have QZ5:=Lib.hid (Turn.free (n:=w.heap.size) (T5.out.trans (tAl g _ (Obj.cells #[.int .i64 0,.int .i64 0,.int .i64 0,.slice none 0 0,.slice none 0 0] 42))))
            have QO5:=Lib.hid (Turn.free (n:=w.heap.size) (T5.out.trans (tAl g _ (Obj.cells #[.int .i64 1,.slice none 0 0,.int .i64 t.kind,.slice B t.args.length e] 30))))
            have QZO5:=Lib.hid (Turn.free (n:=w.heap.size) ((T5.out.trans (tAl g _ (Obj.cells #[.int .i64 0,.int .i64 0,.int .i64 0,.slice none 0 0,.slice none 0 0] 42))).trans (tAl g _ (Obj.cells #[.int .i64 1,.slice none 0 0,.int .i64 t.kind,.slice B t.args.length e] 30))))
            have QOZ5:=Lib.hid (Turn.free (n:=w.heap.size) ((T5.out.trans (tAl g _ (Obj.cells #[.int .i64 1,.slice none 0 0,.int .i64 t.kind,.slice B t.args.length e] 30))).trans (tAl g _ (Obj.cells #[.int .i64 0,.int .i64 0,.int .i64 0,.slice none 0 0,.slice none 0 0] 42)))))
         | (go_at_call 23
            have P4:=nat_any (w0.alloc (Obj.cells #[.int .i64 0,.int .i64 0,.int .i64 0,.slice none 0 0,.slice none 0 0] 42)).drew
            (with_reducible refine P4.mono ?_)
            rintro e w4 ⟨rfl,r4⟩
            clear P4
            have T4:=Lib.hid (((tAl g w0 (Obj.cells #[.int .i64 0,.int .i64 0,.int .i64 0,.slice none 0 0,.slice none 0 0] 42)).trans (tDr g _)).trans (tCa g r4))
            have U4:=Lib.hid (((tAl g _ (Obj.cells #[.int .i64 0,.int .i64 0,.int .i64 0,.slice none 0 0,.slice none 0 0] 42)).trans (tDr g _)).trans (tCa g r4))
            have K4:=Lib.hid (Deck.call (Deck.drewd (HR.out.deck.box (Obj.cells #[.int .i64 0,.int .i64 0,.int .i64 0,.slice none 0 0,.slice none 0 0] 42))) r4)
            have KS4:=Lib.hid (And.intro (Turn.blk ((tDr g _).trans (tCa g r4)) (Blk.new w0 _ _) (by have:=(Nat.le_refl w0.heap.size); omega)) ((Nat.le_refl w0.heap.size)))
            have Q4:=Lib.hid (Turn.free (n:=w.heap.size) T4.out)
            have QZ4:=Lib.hid (Turn.free (n:=w.heap.size) (T4.out.trans (tAl g _ (Obj.cells #[.int .i64 0,.int .i64 0,.int .i64 0,.slice none 0 0,.slice none 0 0] 42))))
            skip)
         | (go_at_call 23
            have P4:=nat_any w0.drew
            (with_reducible refine P4.mono ?_)
            rintro e w4 ⟨rfl,r4⟩
            clear P4
            have T4:=Lib.hid ((tDr g w0).trans (tCa g r4))
            have U4:=Lib.hid ((tDr g _).trans (tCa g r4))
            have K4:=Lib.hid (Deck.call (Deck.drewd HR.out.deck) r4)
            have Q4:=Lib.hid (Turn.free (n:=w.heap.size) T4.out)
            have QZ4:=Lib.hid (Turn.free (n:=w.heap.size) (T4.out.trans (tAl g _ (Obj.cells #[.int .i64 0,.int .i64 0,.int .i64 0,.slice none 0 0,.slice none 0 0] 42))))
            skip))
     all_goals (go_wp2_with fail; go_meet; first | exact END.out | exact ENDN.out)
 case rest=>
   obtain ⟨q,y,By,ey,Ay,cy,rfl,hy,ky,hq,ty,dy,uy⟩:=hcut
   have HKY:=Lib.hid (And.intro ky (And.intro ty (show YY y from hy)))
   have HR:=Lib.hid (HE.out.next uy dy)
   have npq:¬ Pair2 g (w.heap.size+1) q:=by have:=HE.out.sizes; unfold Pair2; omega
   have hWR:W.heap.size≤wc.heap.size:=HR.out.turn.size
   have XY:=Lib.hid (show Trm W.heap.size wc y (.agg #[.int .i64 y.kind,.int .i64 y.index,.int .i64 y.type.kind,.slice By y.type.args.length ey,.slice Ay y.args.length cy]) from IsTm.keep (fun b h=>⟨h.1,h.2.2⟩) (fun _ _=>rfl) _ ty)
   clear hy ky ty dy uy
   have hYm:=HKY.out.2.2
   rw [HYY.out] at hYm
   obtain ⟨yx,hyx,hyy⟩:=hYm
   have HYX:=Lib.hid (And.intro hyx hyy)
   have bY:y.bulk≤12020:=by rw [hyy]; exact bulkN1 (by decide) (bulkN1 HR.out.hn (hyx.bulk_le (bdN_le _ (by omega))))
   clear hyx hyy
   go_upto_region 14 with fail
   have QD:=Lib.hid (Turn.pair (q:=w.heap.size+1) (tDr g wc))
   have HSK:=Lib.hid fun (w':World) (h:Turn (Pair2 g (w.heap.size+1)) wc w')=>And.intro (HR.out.held h).1 (And.intro (HR.out.held h).2 (And.intro (h.blk HKY.out.1 npq).facts5.1 (And.intro (h.blk HKY.out.1 npq).facts5.2.1 (And.intro (h.blk HKY.out.1 npq).facts5.2.2.1 (And.intro (h.blk HKY.out.1 npq).facts5.2.2.2.1 (h.blk HKY.out.1 npq).facts5.2.2.2.2.1)))))
   obtain ⟨q0,q1,q2,q3,q4,q5,q6⟩:=HSK.out wc (Turn.refl _ _)
   go_region_held3 (fun w'=>w'.cell? ⟨w.heap.size,0,none⟩ = some (.int .i64 t.kind)∧w'.cell? ⟨w.heap.size,1,none⟩ = some (.slice B t.args.length e)∧w'.cell? ⟨q,0,none⟩ = some (.int .i64 y.kind)∧w'.cell? ⟨q,1,none⟩ = some (.int .i64 y.index)∧w'.cell? ⟨q,2,none⟩ = some (.int .i64 y.type.kind)∧w'.cell? ⟨q,3,none⟩ = some (.slice By y.type.args.length ey)∧w'.cell? ⟨q,4,none⟩ = some (.slice Ay y.args.length cy))
     (first | with_reducible exact HSK.out _ QD.out | with_reducible exact HSK.out _ Q5.out | with_reducible exact HSK.out _ Q6.out | with_reducible exact HSK.out _ Q7.out | with_reducible exact HSK.out _ QA7.out | with_reducible exact HSK.out _ Q8.out | with_reducible exact HSK.out _ QF.out)
     (first
     | (go_at_call 68
        have P8:=t_call 6 (T:=t) (by have:=HR.out.hn; omega) (bulk_3 b5 bY b7) (Typ.below (Typ.turn HR.out.typAt (T7.out.trans (tAl g _ (Obj.cells #[.int .i64 y5.kind,.int .i64 y5.index,.int .i64 y5.type.kind,.slice B5 y5.type.args.length e5,.slice A5 y5.args.length c5,.int .i64 y.kind,.int .i64 y.index,.int .i64 y.type.kind,.slice By y.type.args.length ey,.slice Ay y.args.length cy,.int .i64 y7.kind,.int .i64 y7.index,.int .i64 y7.type.kind,.slice B7 y7.type.args.length e7,.slice A7 y7.args.length c7] 42))))) (tm_sl3 (Trm.below (Trm.turn X5.out (((tRf g w5).trans U6.out).trans U7.out) hWz)) (Trm.below (Trm.turn XY.out T7.out hWz)) (Trm.below (Trm.turn X7.out (tRf g w7) hWz)))
        (with_reducible refine P8.mono ?_)
        rintro e w8 ⟨y8,v8,h8,rfl,t8,r8⟩
        clear P8
        have T8:=Lib.hid ((T7.out.trans (tAl g _ (Obj.cells #[.int .i64 y5.kind,.int .i64 y5.index,.int .i64 y5.type.kind,.slice B5 y5.type.args.length e5,.slice A5 y5.args.length c5,.int .i64 y.kind,.int .i64 y.index,.int .i64 y.type.kind,.slice By y.type.args.length ey,.slice Ay y.args.length cy,.int .i64 y7.kind,.int .i64 y7.index,.int .i64 y7.type.kind,.slice B7 y7.type.args.length e7,.slice A7 y7.args.length c7] 42))).trans (tCa g r8))
        obtain ⟨B8,e8,A8,c8,rfl,_⟩:=IsTm.form t8
        have X8:=Lib.hid (show Trm W.heap.size w8 y8 (.agg #[.int .i64 y8.kind,.int .i64 y8.index,.int .i64 y8.type.kind,.slice B8 y8.type.args.length e8,.slice A8 y8.args.length c8]) from Trm.mono t8 (Nat.le_trans hWR ((T7.out.trans (tAl g _ (Obj.cells #[.int .i64 y5.kind,.int .i64 y5.index,.int .i64 y5.type.kind,.slice B5 y5.type.args.length e5,.slice A5 y5.args.length c5,.int .i64 y.kind,.int .i64 y.index,.int .i64 y.type.kind,.slice By y.type.args.length ey,.slice Ay y.args.length cy,.int .i64 y7.kind,.int .i64 y7.index,.int .i64 y7.type.kind,.slice B7 y7.type.args.length e7,.slice A7 y7.args.length c7] 42)))).size))
        have U8:=Lib.hid ((tAl g _ (Obj.cells #[.int .i64 y5.kind,.int .i64 y5.index,.int .i64 y5.type.kind,.slice B5 y5.type.args.length e5,.slice A5 y5.args.length c5,.int .i64 y.kind,.int .i64 y.index,.int .i64 y.type.kind,.slice By y.type.args.length ey,.slice Ay y.args.length cy,.int .i64 y7.kind,.int .i64 y7.index,.int .i64 y7.type.kind,.slice B7 y7.type.args.length e7,.slice A7 y7.args.length c7] 42)).trans (tCa g r8))
        have K8:=Lib.hid (Deck.call (Deck.box K7.out (Obj.cells #[.int .i64 y5.kind,.int .i64 y5.index,.int .i64 y5.type.kind,.slice B5 y5.type.args.length e5,.slice A5 y5.args.length c5,.int .i64 y.kind,.int .i64 y.index,.int .i64 y.type.kind,.slice By y.type.args.length ey,.slice Ay y.args.length cy,.int .i64 y7.kind,.int .i64 y7.index,.int .i64 y7.type.kind,.slice B7 y7.type.args.length e7,.slice A7 y7.args.length c7] 42)) r8)
        obtain ⟨_,_,_,_,_,f0,f1,f2,f3,f4⟩:=(HR.out.result T8.out).facts5
        have E8:=Lib.hid h8
        clear t8 r8 h8
        have Q8:=Lib.hid (Turn.pair (q:=w.heap.size+1) T8.out)
        have QF:=Lib.hid (Turn.trans Q8.out (turn_set5 (g:=g) w8 (w.heap.size+1) (.int .i64 y8.kind) (.int .i64 y8.index) (.int .i64 y8.type.kind) (.slice B8 y8.type.args.length e8) (.slice A8 y8.args.length c8))))
     | (go_at_call 69
        have P7:=num_call i (w:=w6) hi
        (with_reducible refine P7.mono ?_)
        rintro e w7 ⟨y7,v7,h7,rfl,t7,r7⟩
        clear P7
        have T7:=Lib.hid (T6.out.trans (tCa g r7))
        obtain ⟨B7,e7,A7,c7,rfl,_⟩:=IsTm.form t7
        have X7:=Lib.hid (show Trm W.heap.size w7 y7 (.agg #[.int .i64 y7.kind,.int .i64 y7.index,.int .i64 y7.type.kind,.slice B7 y7.type.args.length e7,.slice A7 y7.args.length c7]) from Trm.mono t7 (Nat.le_trans hWR (T6.out).size))
        have U7:=Lib.hid (tCa g r7)
        have K7:=Lib.hid (Deck.call K6.out r7)
        have b7:y7.bulk≤100:=by rw [h7,numTm_bulk]; omega
        have E7:=Lib.hid h7
        clear t7 r7 h7
        have Q7:=Lib.hid (Turn.pair (q:=w.heap.size+1) T7.out)
        have QA7:=Lib.hid (Turn.pair (q:=w.heap.size+1) (T7.out.trans (tAl g _ (Obj.cells #[.int .i64 y5.kind,.int .i64 y5.index,.int .i64 y5.type.kind,.slice B5 y5.type.args.length e5,.slice A5 y5.args.length c5,.int .i64 y.kind,.int .i64 y.index,.int .i64 y.type.kind,.slice By y.type.args.length ey,.slice Ay y.args.length cy,.int .i64 y7.kind,.int .i64 y7.index,.int .i64 y7.type.kind,.slice B7 y7.type.args.length e7,.slice A7 y7.args.length c7] 42)))))
     | (go_at_call 24
        have P6:=next_any g 3 w5 (by omega) (by omega) K5.out
        (with_reducible refine P6.mono ?_)
        rintro e w6 ⟨ri,rfl,ri0,ri3,k6,u6⟩
        clear P6
        have T6:=Lib.hid (T5.out.trans (turn_of u6))
        obtain ⟨i,rfl⟩:∃ i:Nat,ri=(i:Int):=⟨ri.toNat,by omega⟩
        have hi:i≤2:=by omega
        have K6:=Lib.hid k6
        have U6:=Lib.hid (turn_of u6)
        clear k6 u6
        have Q6:=Lib.hid (Turn.pair (q:=w.heap.size+1) T6.out))
     | (go_at_call 16
        have P5:=HR.out.term hdp (Ctx.turn HR.out.ctxAt (tDr g wc)) (Typ.turn HR.out.typAt (tDr g wc)) (Deck.drewd HR.out.deck) HR.out.hok HR.out.hn (by omega)
        (with_reducible refine P5.mono ?_)
        rintro e w5 ⟨y5,v5,rfl,m5,t5,k5,u5⟩
        clear P5
        have T5:=Lib.hid ((tDr g wc).trans (u5))
        obtain ⟨B5,e5,A5,c5,rfl,_⟩:=IsTm.form t5
        have X5:=Lib.hid (show Trm W.heap.size w5 y5 (.agg #[.int .i64 y5.kind,.int .i64 y5.index,.int .i64 y5.type.kind,.slice B5 y5.type.args.length e5,.slice A5 y5.args.length c5]) from Trm.mono t5 (Nat.le_trans hWR ((tDr g wc)).size))
        have M5:=Lib.hid m5
        have b5:y5.bulk≤12000:=m5.bulk_le (bdN_le _ (by omega))
        have U5:=Lib.hid u5
        have K5:=Lib.hid k5
        clear m5 t5 k5 u5
        have Q5:=Lib.hid (Turn.pair (q:=w.heap.size+1) T5.out)))
   go_wp2_with fail
   obtain ⟨z0,z1,z2,z3,z4⟩:=((HR.out.result T8.out).set5 (.int .i64 (Tm.kind y8)) (.int .i64 (Tm.index y8)) (.int .i64 (Tm.type y8).kind) (.slice B8 (Tm.type y8).args.length e8) (.slice A8 (Tm.args y8).length c8)).cells5
   refine HRET.out _ _ (bodyPost_ret (v:=.agg #[.int .i64 (Tm.kind y8),.int .i64 (Tm.index y8),.int .i64 (Tm.type y8).kind,.slice B8 (Tm.type y8).args.length e8,.slice A8 (Tm.args y8).length c8]) (by simp [results,Tryz.results16,go_sem,z0,z1,z2,z3,z4]) rfl ?_)
   exact term_end HR.out.box (HR.out.turn.trans T8.out) K8.out (by rw [show d.toNat=(d - 1).toNat+1 by omega]; rw [E8.out,HYX.out.2,E7.out]; exact way_rec hi HR.out.hok HR.out.hn M5.out HYX.out.1) X8.out (Nat.le_refl _)
end Go.Proofs.YtipfnkajdooiiaaGreatDoor
