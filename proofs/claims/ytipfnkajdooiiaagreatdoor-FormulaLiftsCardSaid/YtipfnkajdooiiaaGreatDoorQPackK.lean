/- mk.Term: the choice of a way. -/
import Derived.Test.YtipfnkajdooiiaaGreatDoorQMkWA
import Derived.Test.YtipfnkajdooiiaaGreatDoorQMkW14
import Derived.Test.YtipfnkajdooiiaaGreatDoorQMkW17
import Derived.Test.YtipfnkajdooiiaaGreatDoorQMkW22
import Derived.IntWalk
import Derived.Test.YtipfnkajdooiiaaGreatDoorQMkWB
import Derived.Test.YtipfnkajdooiiaaGreatDoorQMkWC
namespace Go.Proofs.YtipfnkajdooiiaaGreatDoor
open Go.RowKit

set_option maxRecDepth 1000000 in
set_option maxHeartbeats 4000000 in
theorem term_switch {g M:Nat} {G:List Ty} {t:Ty} {d:Int} {A:Option Addr} {c:Nat} {B:Option Addr} {e0:Nat} {w W wb:World} (h0:Here g M G t d A c B e0 w W wb) (hdp:0<d) (hc0:Ctx g w G (.slice A G.length c)) (Q0:Exit→Act→World→Prop)
   (hret:∀ a' w',bodyPost Tryz.prog Tryz.f16 (TermR g G t (bdN d.toNat t) (bdO d.toNat t) w) .ret a' w'→Q0 .ret a' w')
   {x2 x4 x5 x7 x9 x10 x11 x12 x13 x14 x15 x16 x17 x18 x19 x20 x21 x22 x23 x24 x25 x26 x27 x28 x29 x30 x31 x32 x33 x34 x35 x36 x37 x38 x39 x40 x41 x42 x43 x44 x45 x46 x47 x48 x49 x50 x51 x52 x53 x54 x55 x56 x57 x58 x59 x60 x61 x62 x63 x64 x65 x66 x67 x68 x69 x70 x71 x72 x73 x74 x75 x76 x77 x78 x79 x80 x81 x82 x83 x84 x85 x86 x87 x88 x89 x90 x91 x92 x93 x94 x95 x96 x97 x98 x99 x100 x101 x102 x103 x104 x105 x106 x107 x108 x109 x110 x111 x112 x113 x114 x115 x116 x117 x118 x119 x120 x121 x122 x123 x124 x125 x126 x127 x128 x129 x130 x131 x132 x133 x134 x135 x136 x137 x138 x139 x140 x141 x142 x143 x144 x145 x146 x147 x148 x149 x150 x151 x152 x153 x154 x155 x156 x157 x158 x159 x160 x161 x162 x163 x164 x165 x166 x167 x168 x169 x170 x171 x172 x173 x174 x175 x176 x177 x178 x179 x180 x181 x182 x183 x184 x185 x186 x187 x188 x189 x190 x191 x192 x193 x194 x195 x196 x197 x198 x199 x200 x201 x202 x203 x204 x205 x206 x207 x208 x209 x210 x211 x212 x213 x214 x215 x216 x217 x218 x219 x220 x221 x222 x223 x224 x225 x226 x227 x228 x229 x230 x231 x232 x233 x234 x235 x236 x237 x238 x239 x240 x241 x242 x243 x244 x245 x246 x247 x248 x249 x250 x251 x252 x253 x254 x255 x256 x257 x258 x259 x260 x261 x262 x263 x264 x265 x266 x267 x268 x269 x270 x271 x272 x273 x274 x275 x276 x277 x278 x279 x280 x281 x282 x283 x284 x285 x286 x287 x288 x289 x290 x291 x292 x293 x294 x295 x296 x297 x298 x299 x300 x301 x302 x303 x304 x305 x306 x307 x308 x309 x310 x311 x312 x313 x314 x315 x316 x317 x318 x319 x320 x321 x322 x323 x324 x325 x326 x327 x328 x329 x330 x331 x332 x333 x334 x335 x336 x337:Value}
   (hnorm:∀ (z10 z11 z12 z13 z14 z15 z16 z38 z39 z40 z41 z42 z43 z44 z45 z46 z47 z48 z49 z50 z51 z52 z53 z54 z55 z56 z57 z58 z59 z60 z61 z62 z63 z64 z65 z66 z67 z68 z69 z70 z71 z72 z73 z74 z75 z76 z77 z78 z79 z80 z81 z82 z83 z84 z85 z86 z87 z88 z89 z90 z91 z92 z93 z94 z95 z96 z97 z98 z99 z100 z101 z102 z103 z104 z105 z106 z107 z108 z109 z110 z111 z112 z113 z114 z115 z116 z117 z118 z119 z120 z121 z122 z123 z124 z125 z126 z127 z128 z129 z130 z131 z132 z133 z134 z135 z136 z137 z138 z139 z140 z141 z142 z143 z144 z145 z146 z147 z148 z149 z150 z151 z152 z153 z154 z155 z156 z157 z158 z159 z160 z161 z162 z163 z164 z165 z166 z167 z168 z169 z170 z171 z172 z173 z174 z175 z176 z177 z178 z179 z180 z181 z182 z183 z184 z185 z186 z187 z188 z189 z190 z191 z192 z193 z194 z195 z196 z197 z198 z199 z200 z201 z202 z203 z204 z205 z206 z207 z208 z209 z210 z211 z212:Value) (w':World),Deck w' g→Turn (· = g) wb w'→Q0 .normal ⟨#[.pointer (some ⟨g,0,none⟩),.slice A G.length c,x2,.int .i64 d,x4,x5,.pointer (some ⟨w.heap.size,0,none⟩),x7,.pointer (some ⟨w.heap.size+1,0,none⟩),x9,z10,z11,z12,z13,z14,z15,z16,x17,x18,x19,x20,x21,x22,x23,x24,x25,x26,x27,x28,x29,x30,x31,x32,x33,x34,x35,x36,x37,z38,z39,z40,z41,z42,z43,z44,z45,z46,z47,z48,z49,z50,z51,z52,z53,z54,z55,z56,z57,z58,z59,z60,z61,z62,z63,z64,z65,z66,z67,z68,z69,z70,z71,z72,z73,z74,z75,z76,z77,z78,z79,z80,z81,z82,z83,z84,z85,z86,z87,z88,z89,z90,z91,z92,z93,z94,z95,z96,z97,z98,z99,z100,z101,z102,z103,z104,z105,z106,z107,z108,z109,z110,z111,z112,z113,z114,z115,z116,z117,z118,z119,z120,z121,z122,z123,z124,z125,z126,z127,z128,z129,z130,z131,z132,z133,z134,z135,z136,z137,z138,z139,z140,z141,z142,z143,z144,z145,z146,z147,z148,z149,z150,z151,z152,z153,z154,z155,z156,z157,z158,z159,z160,z161,z162,z163,z164,z165,z166,z167,z168,z169,z170,z171,z172,z173,z174,z175,z176,z177,z178,z179,z180,z181,z182,z183,z184,z185,z186,z187,z188,z189,z190,z191,z192,z193,z194,z195,z196,z197,z198,z199,z200,z201,z202,z203,z204,z205,z206,z207,z208,z209,z210,z211,z212,x213,x214,x215,x216,x217,x218,x219,x220,x221,x222,x223,x224,x225,x226,x227,x228,x229,x230,x231,x232,x233,x234,x235,x236,x237,x238,x239,x240,x241,x242,x243,x244,x245,x246,x247,x248,x249,x250,x251,x252,x253,x254,x255,x256,x257,x258,x259,x260,x261,x262,x263,x264,x265,x266,x267,x268,x269,x270,x271,x272,x273,x274,x275,x276,x277,x278,x279,x280,x281,x282,x283,x284,x285,x286,x287,x288,x289,x290,x291,x292,x293,x294,x295,x296,x297,x298,x299,x300,x301,x302,x303,x304,x305,x306,x307,x308,x309,x310,x311,x312,x313,x314,x315,x316,x317,x318,x319,x320,x321,x322,x323,x324,x325,x326,x327,x328,x329,x330,x331,x332,x333,x334,x335,x336,x337],[]⟩ w') :
   Code.wp Tryz.prog (piece 37) Q0 ⟨#[.pointer (some ⟨g,0,none⟩),.slice A G.length c,x2,.int .i64 d,x4,x5,.pointer (some ⟨w.heap.size,0,none⟩),x7,.pointer (some ⟨w.heap.size+1,0,none⟩),x9,x10,x11,x12,x13,x14,x15,x16,x17,x18,x19,x20,x21,x22,x23,x24,x25,x26,x27,x28,x29,x30,x31,x32,x33,x34,x35,x36,x37,x38,x39,x40,x41,x42,x43,x44,x45,x46,x47,x48,x49,x50,x51,x52,x53,x54,x55,x56,x57,x58,x59,x60,x61,x62,x63,x64,x65,x66,x67,x68,x69,x70,x71,x72,x73,x74,x75,x76,x77,x78,x79,x80,x81,x82,x83,x84,x85,x86,x87,x88,x89,x90,x91,x92,x93,x94,x95,x96,x97,x98,x99,x100,x101,x102,x103,x104,x105,x106,x107,x108,x109,x110,x111,x112,x113,x114,x115,x116,x117,x118,x119,x120,x121,x122,x123,x124,x125,x126,x127,x128,x129,x130,x131,x132,x133,x134,x135,x136,x137,x138,x139,x140,x141,x142,x143,x144,x145,x146,x147,x148,x149,x150,x151,x152,x153,x154,x155,x156,x157,x158,x159,x160,x161,x162,x163,x164,x165,x166,x167,x168,x169,x170,x171,x172,x173,x174,x175,x176,x177,x178,x179,x180,x181,x182,x183,x184,x185,x186,x187,x188,x189,x190,x191,x192,x193,x194,x195,x196,x197,x198,x199,x200,x201,x202,x203,x204,x205,x206,x207,x208,x209,x210,x211,x212,x213,x214,x215,x216,x217,x218,x219,x220,x221,x222,x223,x224,x225,x226,x227,x228,x229,x230,x231,x232,x233,x234,x235,x236,x237,x238,x239,x240,x241,x242,x243,x244,x245,x246,x247,x248,x249,x250,x251,x252,x253,x254,x255,x256,x257,x258,x259,x260,x261,x262,x263,x264,x265,x266,x267,x268,x269,x270,x271,x272,x273,x274,x275,x276,x277,x278,x279,x280,x281,x282,x283,x284,x285,x286,x287,x288,x289,x290,x291,x292,x293,x294,x295,x296,x297,x298,x299,x300,x301,x302,x303,x304,x305,x306,x307,x308,x309,x310,x311,x312,x313,x314,x315,x316,x317,x318,x319,x320,x321,x322,x323,x324,x325,x326,x327,x328,x329,x330,x331,x332,x333,x334,x335,x336,x337],[]⟩ wb:=by
 conv=>arg 2; whnf
 have HE:=Lib.hid h0
 have HRET:=Lib.hid hret
 have hw:=IntWalk.i64_in (d - 1) (by have:=h0.hd5; have:=h0.hdn; omega)
 clear h0 hret
 have HNORM:=Lib.hid hnorm
 have HC0:=Lib.hid hc0
 clear hnorm hc0
 have D2:=Lib.hid HE.out.deck
 have hd5:=HE.out.hd5
 have hdn:=HE.out.hdn
 try dsimp only
 go_wp2_with fail
 refine (next_any g 8 wb (by omega) (by omega) D2.out).mono ?_
 rintro e w3 ⟨r,rfl,hr0,hr8,hd3,hg3⟩
 have TB:=Lib.hid (turn_of hg3)
 have D3:=Lib.hid hd3
 have HERE:=Lib.hid (HE.out.next TB.out D3.out)
 clear hd3 hg3
 have hr:r=0∨r=1∨r=2∨r=3∨r=4∨r=5∨r=6∨r=7:=by omega
 clear hr0 hr8
 rcases hr with rfl | rfl | rfl | rfl | rfl | rfl | rfl | rfl
 · go_upto_if 40 with fail
   refine wp_cond_true rfl ?_
   refine way8 HERE.out hdp _ ?_
   exact fun a' w' h=>HRET.out a' w' h
 · go_upto_if 64 with fail
   refine wp_cond_true rfl ?_
   refine way11 HERE.out hdp _ ?_
   exact fun a' w' h=>HRET.out a' w' h
 · go_upto_if 84 with fail
   refine wp_cond_true rfl ?_
   refine way14 HERE.out hdp _ ?_
   exact fun a' w' h=>HRET.out a' w' h
 · go_upto_if 115 with fail
   refine wp_cond_true rfl ?_
   refine way17 HERE.out hdp _ ?_
   exact fun a' w' h=>HRET.out a' w' h
 · go_upto_if 153 with fail
   refine wp_cond_true rfl ?_
   refine way20 HERE.out hdp _ ?_
   exact fun a' w' h=>HRET.out a' w' h
 · go_upto_if 173 with fail
   refine wp_cond_true rfl ?_
   refine way22 HERE.out hdp HC0.out _ ?_ ?_
   · exact fun a' w' h=>HRET.out a' w' h
   intro z15 z16 z175 z176 z177 z178 z179 z180 z181 z182 z183 z184 z185 z186 z187 z188 z189 z190 z191 z192 z193 z194 z195 z196 z197 z198 z199 z200 z201 z202 z203 z204 z205 z206 z207 z208 z209 z210 z211 z212 w' hd' ht'
   go_wp2_with fail
   exact HNORM.out _ _ _ _ _ _ _ _ _ _ _ _ _ _ _ _ _ _ _ _ _ _ _ _ _ _ _ _ _ _ _ _ _ _ _ _ _ _ _ _ _ _ _ _ _ _ _ _ _ _ _ _ _ _ _ _ _ _ _ _ _ _ _ _ _ _ _ _ _ _ _ _ _ _ _ _ _ _ _ _ _ _ _ _ _ _ _ _ _ _ _ _ _ _ _ _ _ _ _ _ _ _ _ _ _ _ _ _ _ _ _ _ _ _ _ _ _ _ _ _ _ _ _ _ _ _ _ _ _ _ _ _ _ _ _ _ _ _ _ _ _ _ _ _ _ _ _ _ _ _ _ _ _ _ _ _ _ _ _ _ _ _ _ _ _ _ _ _ _ _ _ _ _ _ _ _ _ _ _ _ _ _ _ hd' (TB.out.trans ht')
 · go_wp2_with fail
   exact HNORM.out _ _ _ _ _ _ _ _ _ _ _ _ _ _ _ _ _ _ _ _ _ _ _ _ _ _ _ _ _ _ _ _ _ _ _ _ _ _ _ _ _ _ _ _ _ _ _ _ _ _ _ _ _ _ _ _ _ _ _ _ _ _ _ _ _ _ _ _ _ _ _ _ _ _ _ _ _ _ _ _ _ _ _ _ _ _ _ _ _ _ _ _ _ _ _ _ _ _ _ _ _ _ _ _ _ _ _ _ _ _ _ _ _ _ _ _ _ _ _ _ _ _ _ _ _ _ _ _ _ _ _ _ _ _ _ _ _ _ _ _ _ _ _ _ _ _ _ _ _ _ _ _ _ _ _ _ _ _ _ _ _ _ _ _ _ _ _ _ _ _ _ _ _ _ _ _ _ _ _ _ _ _ _ D3.out TB.out
 · go_wp2_with fail
   exact HNORM.out _ _ _ _ _ _ _ _ _ _ _ _ _ _ _ _ _ _ _ _ _ _ _ _ _ _ _ _ _ _ _ _ _ _ _ _ _ _ _ _ _ _ _ _ _ _ _ _ _ _ _ _ _ _ _ _ _ _ _ _ _ _ _ _ _ _ _ _ _ _ _ _ _ _ _ _ _ _ _ _ _ _ _ _ _ _ _ _ _ _ _ _ _ _ _ _ _ _ _ _ _ _ _ _ _ _ _ _ _ _ _ _ _ _ _ _ _ _ _ _ _ _ _ _ _ _ _ _ _ _ _ _ _ _ _ _ _ _ _ _ _ _ _ _ _ _ _ _ _ _ _ _ _ _ _ _ _ _ _ _ _ _ _ _ _ _ _ _ _ _ _ _ _ _ _ _ _ _ _ _ _ _ _ D3.out TB.out

set_option maxRecDepth 1000000 in
set_option maxHeartbeats 4000000 in
theorem term_if {g M:Nat} {G:List Ty} {t:Ty} {d:Int} {A:Option Addr} {c:Nat} {B:Option Addr} {e0:Nat} {w W wb:World} (h0:Here g M G t d A c B e0 w W wb) (hc0:Ctx g w G (.slice A G.length c)) {bd:Bool} (hbd:bd=decide (d > 0)) (Q0:Exit→Act→World→Prop)
   (hret:∀ a' w',bodyPost Tryz.prog Tryz.f16 (TermR g G t (bdN d.toNat t) (bdO d.toNat t) w) .ret a' w'→Q0 .ret a' w')
   {x2 x4 x5 x7 x9 x10 x11 x12 x13 x14 x15 x16 x17 x18 x19 x20 x21 x22 x23 x24 x25 x26 x27 x28 x29 x30 x31 x32 x33 x34 x35 x36 x38 x39 x40 x41 x42 x43 x44 x45 x46 x47 x48 x49 x50 x51 x52 x53 x54 x55 x56 x57 x58 x59 x60 x61 x62 x63 x64 x65 x66 x67 x68 x69 x70 x71 x72 x73 x74 x75 x76 x77 x78 x79 x80 x81 x82 x83 x84 x85 x86 x87 x88 x89 x90 x91 x92 x93 x94 x95 x96 x97 x98 x99 x100 x101 x102 x103 x104 x105 x106 x107 x108 x109 x110 x111 x112 x113 x114 x115 x116 x117 x118 x119 x120 x121 x122 x123 x124 x125 x126 x127 x128 x129 x130 x131 x132 x133 x134 x135 x136 x137 x138 x139 x140 x141 x142 x143 x144 x145 x146 x147 x148 x149 x150 x151 x152 x153 x154 x155 x156 x157 x158 x159 x160 x161 x162 x163 x164 x165 x166 x167 x168 x169 x170 x171 x172 x173 x174 x175 x176 x177 x178 x179 x180 x181 x182 x183 x184 x185 x186 x187 x188 x189 x190 x191 x192 x193 x194 x195 x196 x197 x198 x199 x200 x201 x202 x203 x204 x205 x206 x207 x208 x209 x210 x211 x212 x213 x214 x215 x216 x217 x218 x219 x220 x221 x222 x223 x224 x225 x226 x227 x228 x229 x230 x231 x232 x233 x234 x235 x236 x237 x238 x239 x240 x241 x242 x243 x244 x245 x246 x247 x248 x249 x250 x251 x252 x253 x254 x255 x256 x257 x258 x259 x260 x261 x262 x263 x264 x265 x266 x267 x268 x269 x270 x271 x272 x273 x274 x275 x276 x277 x278 x279 x280 x281 x282 x283 x284 x285 x286 x287 x288 x289 x290 x291 x292 x293 x294 x295 x296 x297 x298 x299 x300 x301 x302 x303 x304 x305 x306 x307 x308 x309 x310 x311 x312 x313 x314 x315 x316 x317 x318 x319 x320 x321 x322 x323 x324 x325 x326 x327 x328 x329 x330 x331 x332 x333 x334 x335 x336 x337:Value}
   (hnorm:∀ (z10 z11 z12 z13 z14 z15 z16 z38 z39 z40 z41 z42 z43 z44 z45 z46 z47 z48 z49 z50 z51 z52 z53 z54 z55 z56 z57 z58 z59 z60 z61 z62 z63 z64 z65 z66 z67 z68 z69 z70 z71 z72 z73 z74 z75 z76 z77 z78 z79 z80 z81 z82 z83 z84 z85 z86 z87 z88 z89 z90 z91 z92 z93 z94 z95 z96 z97 z98 z99 z100 z101 z102 z103 z104 z105 z106 z107 z108 z109 z110 z111 z112 z113 z114 z115 z116 z117 z118 z119 z120 z121 z122 z123 z124 z125 z126 z127 z128 z129 z130 z131 z132 z133 z134 z135 z136 z137 z138 z139 z140 z141 z142 z143 z144 z145 z146 z147 z148 z149 z150 z151 z152 z153 z154 z155 z156 z157 z158 z159 z160 z161 z162 z163 z164 z165 z166 z167 z168 z169 z170 z171 z172 z173 z174 z175 z176 z177 z178 z179 z180 z181 z182 z183 z184 z185 z186 z187 z188 z189 z190 z191 z192 z193 z194 z195 z196 z197 z198 z199 z200 z201 z202 z203 z204 z205 z206 z207 z208 z209 z210 z211 z212:Value) (w':World),Deck w' g→Turn (· = g) wb w'→Q0 .normal ⟨#[.pointer (some ⟨g,0,none⟩),.slice A G.length c,x2,.int .i64 d,x4,x5,.pointer (some ⟨w.heap.size,0,none⟩),x7,.pointer (some ⟨w.heap.size+1,0,none⟩),x9,z10,z11,z12,z13,z14,z15,z16,x17,x18,x19,x20,x21,x22,x23,x24,x25,x26,x27,x28,x29,x30,x31,x32,x33,x34,x35,x36,.bool bd,z38,z39,z40,z41,z42,z43,z44,z45,z46,z47,z48,z49,z50,z51,z52,z53,z54,z55,z56,z57,z58,z59,z60,z61,z62,z63,z64,z65,z66,z67,z68,z69,z70,z71,z72,z73,z74,z75,z76,z77,z78,z79,z80,z81,z82,z83,z84,z85,z86,z87,z88,z89,z90,z91,z92,z93,z94,z95,z96,z97,z98,z99,z100,z101,z102,z103,z104,z105,z106,z107,z108,z109,z110,z111,z112,z113,z114,z115,z116,z117,z118,z119,z120,z121,z122,z123,z124,z125,z126,z127,z128,z129,z130,z131,z132,z133,z134,z135,z136,z137,z138,z139,z140,z141,z142,z143,z144,z145,z146,z147,z148,z149,z150,z151,z152,z153,z154,z155,z156,z157,z158,z159,z160,z161,z162,z163,z164,z165,z166,z167,z168,z169,z170,z171,z172,z173,z174,z175,z176,z177,z178,z179,z180,z181,z182,z183,z184,z185,z186,z187,z188,z189,z190,z191,z192,z193,z194,z195,z196,z197,z198,z199,z200,z201,z202,z203,z204,z205,z206,z207,z208,z209,z210,z211,z212,x213,x214,x215,x216,x217,x218,x219,x220,x221,x222,x223,x224,x225,x226,x227,x228,x229,x230,x231,x232,x233,x234,x235,x236,x237,x238,x239,x240,x241,x242,x243,x244,x245,x246,x247,x248,x249,x250,x251,x252,x253,x254,x255,x256,x257,x258,x259,x260,x261,x262,x263,x264,x265,x266,x267,x268,x269,x270,x271,x272,x273,x274,x275,x276,x277,x278,x279,x280,x281,x282,x283,x284,x285,x286,x287,x288,x289,x290,x291,x292,x293,x294,x295,x296,x297,x298,x299,x300,x301,x302,x303,x304,x305,x306,x307,x308,x309,x310,x311,x312,x313,x314,x315,x316,x317,x318,x319,x320,x321,x322,x323,x324,x325,x326,x327,x328,x329,x330,x331,x332,x333,x334,x335,x336,x337],[]⟩ w') :
   Code.wp Tryz.prog (testAt 37) Q0 ⟨#[.pointer (some ⟨g,0,none⟩),.slice A G.length c,x2,.int .i64 d,x4,x5,.pointer (some ⟨w.heap.size,0,none⟩),x7,.pointer (some ⟨w.heap.size+1,0,none⟩),x9,x10,x11,x12,x13,x14,x15,x16,x17,x18,x19,x20,x21,x22,x23,x24,x25,x26,x27,x28,x29,x30,x31,x32,x33,x34,x35,x36,.bool bd,x38,x39,x40,x41,x42,x43,x44,x45,x46,x47,x48,x49,x50,x51,x52,x53,x54,x55,x56,x57,x58,x59,x60,x61,x62,x63,x64,x65,x66,x67,x68,x69,x70,x71,x72,x73,x74,x75,x76,x77,x78,x79,x80,x81,x82,x83,x84,x85,x86,x87,x88,x89,x90,x91,x92,x93,x94,x95,x96,x97,x98,x99,x100,x101,x102,x103,x104,x105,x106,x107,x108,x109,x110,x111,x112,x113,x114,x115,x116,x117,x118,x119,x120,x121,x122,x123,x124,x125,x126,x127,x128,x129,x130,x131,x132,x133,x134,x135,x136,x137,x138,x139,x140,x141,x142,x143,x144,x145,x146,x147,x148,x149,x150,x151,x152,x153,x154,x155,x156,x157,x158,x159,x160,x161,x162,x163,x164,x165,x166,x167,x168,x169,x170,x171,x172,x173,x174,x175,x176,x177,x178,x179,x180,x181,x182,x183,x184,x185,x186,x187,x188,x189,x190,x191,x192,x193,x194,x195,x196,x197,x198,x199,x200,x201,x202,x203,x204,x205,x206,x207,x208,x209,x210,x211,x212,x213,x214,x215,x216,x217,x218,x219,x220,x221,x222,x223,x224,x225,x226,x227,x228,x229,x230,x231,x232,x233,x234,x235,x236,x237,x238,x239,x240,x241,x242,x243,x244,x245,x246,x247,x248,x249,x250,x251,x252,x253,x254,x255,x256,x257,x258,x259,x260,x261,x262,x263,x264,x265,x266,x267,x268,x269,x270,x271,x272,x273,x274,x275,x276,x277,x278,x279,x280,x281,x282,x283,x284,x285,x286,x287,x288,x289,x290,x291,x292,x293,x294,x295,x296,x297,x298,x299,x300,x301,x302,x303,x304,x305,x306,x307,x308,x309,x310,x311,x312,x313,x314,x315,x316,x317,x318,x319,x320,x321,x322,x323,x324,x325,x326,x327,x328,x329,x330,x331,x332,x333,x334,x335,x336,x337],[]⟩ wb:=by
 conv=>arg 2; whnf
 have HE:=Lib.hid h0
 have HRET:=Lib.hid hret
 have hw:=IntWalk.i64_in (d - 1) (by have:=h0.hd5; have:=h0.hdn; omega)
 clear h0 hret
 have HNORM:=Lib.hid hnorm
 have HC0:=Lib.hid hc0
 clear hnorm hc0
 by_cases hdp:0<d
 · have hb:bd=true:=hbd.trans (decide_eq_true (by omega))
   clear hbd
   subst hb
   refine wp_cond_true rfl ?_
   refine term_switch HE.out hdp HC0.out _ ?_ ?_
   · exact fun a' w' h=>HRET.out a' w' h
   · exact fun z10 z11 z12 z13 z14 z15 z16 z38 z39 z40 z41 z42 z43 z44 z45 z46 z47 z48 z49 z50 z51 z52 z53 z54 z55 z56 z57 z58 z59 z60 z61 z62 z63 z64 z65 z66 z67 z68 z69 z70 z71 z72 z73 z74 z75 z76 z77 z78 z79 z80 z81 z82 z83 z84 z85 z86 z87 z88 z89 z90 z91 z92 z93 z94 z95 z96 z97 z98 z99 z100 z101 z102 z103 z104 z105 z106 z107 z108 z109 z110 z111 z112 z113 z114 z115 z116 z117 z118 z119 z120 z121 z122 z123 z124 z125 z126 z127 z128 z129 z130 z131 z132 z133 z134 z135 z136 z137 z138 z139 z140 z141 z142 z143 z144 z145 z146 z147 z148 z149 z150 z151 z152 z153 z154 z155 z156 z157 z158 z159 z160 z161 z162 z163 z164 z165 z166 z167 z168 z169 z170 z171 z172 z173 z174 z175 z176 z177 z178 z179 z180 z181 z182 z183 z184 z185 z186 z187 z188 z189 z190 z191 z192 z193 z194 z195 z196 z197 z198 z199 z200 z201 z202 z203 z204 z205 z206 z207 z208 z209 z210 z211 z212 w' hd' ht'=>HNORM.out z10 z11 z12 z13 z14 z15 z16 z38 z39 z40 z41 z42 z43 z44 z45 z46 z47 z48 z49 z50 z51 z52 z53 z54 z55 z56 z57 z58 z59 z60 z61 z62 z63 z64 z65 z66 z67 z68 z69 z70 z71 z72 z73 z74 z75 z76 z77 z78 z79 z80 z81 z82 z83 z84 z85 z86 z87 z88 z89 z90 z91 z92 z93 z94 z95 z96 z97 z98 z99 z100 z101 z102 z103 z104 z105 z106 z107 z108 z109 z110 z111 z112 z113 z114 z115 z116 z117 z118 z119 z120 z121 z122 z123 z124 z125 z126 z127 z128 z129 z130 z131 z132 z133 z134 z135 z136 z137 z138 z139 z140 z141 z142 z143 z144 z145 z146 z147 z148 z149 z150 z151 z152 z153 z154 z155 z156 z157 z158 z159 z160 z161 z162 z163 z164 z165 z166 z167 z168 z169 z170 z171 z172 z173 z174 z175 z176 z177 z178 z179 z180 z181 z182 z183 z184 z185 z186 z187 z188 z189 z190 z191 z192 z193 z194 z195 z196 z197 z198 z199 z200 z201 z202 z203 z204 z205 z206 z207 z208 z209 z210 z211 z212 w' hd' ht'
 · have hb:bd=false:=hbd.trans (decide_eq_false (by omega))
   clear hbd
   subst hb
   refine wp_cond_false rfl ?_
   go_wp2_with fail
   exact HNORM.out _ _ _ _ _ _ _ _ _ _ _ _ _ _ _ _ _ _ _ _ _ _ _ _ _ _ _ _ _ _ _ _ _ _ _ _ _ _ _ _ _ _ _ _ _ _ _ _ _ _ _ _ _ _ _ _ _ _ _ _ _ _ _ _ _ _ _ _ _ _ _ _ _ _ _ _ _ _ _ _ _ _ _ _ _ _ _ _ _ _ _ _ _ _ _ _ _ _ _ _ _ _ _ _ _ _ _ _ _ _ _ _ _ _ _ _ _ _ _ _ _ _ _ _ _ _ _ _ _ _ _ _ _ _ _ _ _ _ _ _ _ _ _ _ _ _ _ _ _ _ _ _ _ _ _ _ _ _ _ _ _ _ _ _ _ _ _ _ _ _ _ _ _ _ _ _ _ _ _ _ _ _ _ HE.out.deck (Turn.refl _ _)
end Go.Proofs.YtipfnkajdooiiaaGreatDoor
namespace Go.Proofs.YtipfnkajdooiiaaGreatDoor
open Go.RowKit

set_option maxRecDepth 1000000 in
set_option maxHeartbeats 4000000 in
theorem term_kinds {g M:Nat} {G:List Ty} {t:Ty} {d:Int} {A:Option Addr} {c:Nat} {B:Option Addr} {e0:Nat} {w W wk:World} (h0:Here g M G t d A c B e0 w W wk) (Q0:Exit→Act→World→Prop)
   (hret:∀ a' w',bodyPost Tryz.prog Tryz.f16 (TermR g G t (bdN d.toNat t) (bdO d.toNat t) w) .ret a' w'→Q0 .ret a' w')
   {x2 x4 x5 x7 x9 x10 x11 x12 x13 x14 x15 x16 x17 x18 x19 x20 x21 x22 x23 x24 x25 x26 x27 x28 x29 x30 x31 x32 x33 x34 x35 x36 x37 x38 x39 x40 x41 x42 x43 x44 x45 x46 x47 x48 x49 x50 x51 x52 x53 x54 x55 x56 x57 x58 x59 x60 x61 x62 x63 x64 x65 x66 x67 x68 x69 x70 x71 x72 x73 x74 x75 x76 x77 x78 x79 x80 x81 x82 x83 x84 x85 x86 x87 x88 x89 x90 x91 x92 x93 x94 x95 x96 x97 x98 x99 x100 x101 x102 x103 x104 x105 x106 x107 x108 x109 x110 x111 x112 x113 x114 x115 x116 x117 x118 x119 x120 x121 x122 x123 x124 x125 x126 x127 x128 x129 x130 x131 x132 x133 x134 x135 x136 x137 x138 x139 x140 x141 x142 x143 x144 x145 x146 x147 x148 x149 x150 x151 x152 x153 x154 x155 x156 x157 x158 x159 x160 x161 x162 x163 x164 x165 x166 x167 x168 x169 x170 x171 x172 x173 x174 x175 x176 x177 x178 x179 x180 x181 x182 x183 x184 x185 x186 x187 x188 x189 x190 x191 x192 x193 x194 x195 x196 x197 x198 x199 x200 x201 x202 x203 x204 x205 x206 x207 x208 x209 x210 x211 x212 x213 x214 x215 x216 x217 x218 x219 x220 x221 x222 x223 x224 x225 x226 x227 x228 x229 x230 x231 x232 x233 x234 x235 x236 x237 x238 x239 x240 x241 x242 x243 x244 x245 x246 x247 x248 x249 x250 x251 x252 x253 x254 x255 x256 x257 x258 x259 x260 x261 x262 x263 x264 x265 x266 x267 x268 x269 x270 x271 x272 x273 x274 x275 x276 x277 x278 x279 x280 x281 x282 x283 x284 x285 x286 x287 x288 x289 x290 x291 x292 x293 x294 x295 x296 x297 x298 x299 x300 x301 x302 x303 x304 x305 x306 x307 x308 x309 x310 x311 x312 x313 x314 x315 x316 x317 x318 x319 x320 x321 x322 x323 x324 x325 x326 x327 x328 x329 x330 x331 x332 x333 x334 x335 x336 x337:Value} :
   Code.wp Tryz.prog (tailAt 29) Q0 ⟨#[.pointer (some ⟨g,0,none⟩),.slice A G.length c,x2,.int .i64 d,x4,x5,.pointer (some ⟨w.heap.size,0,none⟩),x7,.pointer (some ⟨w.heap.size+1,0,none⟩),x9,x10,x11,x12,x13,x14,x15,x16,x17,x18,x19,x20,x21,x22,x23,x24,x25,x26,x27,x28,x29,x30,x31,x32,x33,x34,x35,x36,x37,x38,x39,x40,x41,x42,x43,x44,x45,x46,x47,x48,x49,x50,x51,x52,x53,x54,x55,x56,x57,x58,x59,x60,x61,x62,x63,x64,x65,x66,x67,x68,x69,x70,x71,x72,x73,x74,x75,x76,x77,x78,x79,x80,x81,x82,x83,x84,x85,x86,x87,x88,x89,x90,x91,x92,x93,x94,x95,x96,x97,x98,x99,x100,x101,x102,x103,x104,x105,x106,x107,x108,x109,x110,x111,x112,x113,x114,x115,x116,x117,x118,x119,x120,x121,x122,x123,x124,x125,x126,x127,x128,x129,x130,x131,x132,x133,x134,x135,x136,x137,x138,x139,x140,x141,x142,x143,x144,x145,x146,x147,x148,x149,x150,x151,x152,x153,x154,x155,x156,x157,x158,x159,x160,x161,x162,x163,x164,x165,x166,x167,x168,x169,x170,x171,x172,x173,x174,x175,x176,x177,x178,x179,x180,x181,x182,x183,x184,x185,x186,x187,x188,x189,x190,x191,x192,x193,x194,x195,x196,x197,x198,x199,x200,x201,x202,x203,x204,x205,x206,x207,x208,x209,x210,x211,x212,x213,x214,x215,x216,x217,x218,x219,x220,x221,x222,x223,x224,x225,x226,x227,x228,x229,x230,x231,x232,x233,x234,x235,x236,x237,x238,x239,x240,x241,x242,x243,x244,x245,x246,x247,x248,x249,x250,x251,x252,x253,x254,x255,x256,x257,x258,x259,x260,x261,x262,x263,x264,x265,x266,x267,x268,x269,x270,x271,x272,x273,x274,x275,x276,x277,x278,x279,x280,x281,x282,x283,x284,x285,x286,x287,x288,x289,x290,x291,x292,x293,x294,x295,x296,x297,x298,x299,x300,x301,x302,x303,x304,x305,x306,x307,x308,x309,x310,x311,x312,x313,x314,x315,x316,x317,x318,x319,x320,x321,x322,x323,x324,x325,x326,x327,x328,x329,x330,x331,x332,x333,x334,x335,x336,x337],[]⟩ wk:=by
 conv=>arg 2; whnf
 have HE:=Lib.hid h0
 have HRET:=Lib.hid hret
 have hw:=IntWalk.i64_in (d - 1) (by have:=h0.hd5; have:=h0.hdn; omega)
 clear h0 hret
 have HBX:=Lib.hid HE.out.box
 have T4:=Lib.hid HE.out.turn
 have D4:=Lib.hid HE.out.deck
 have HERE:=HE
 have HOK:=Lib.hid HE.out.hok
 have hn:=HE.out.hn
 have hd5:=HE.out.hd5
 have hdn:=HE.out.hdn
 have hlen:=HE.out.hlen
 have hWz:g<W.heap.size:=by have:=HE.out.sizes; omega
 obtain ⟨q0,q1⟩:=HBX.out.held T4.out.pair
 try dsimp only
 rcases Ty.ok_cases HOK.out with ⟨k,hk,hte⟩ | ⟨k,X,Y,hk,hte,_,_⟩
 · subst hte
   rcases hk with rfl | rfl | rfl
   · have q0:wk.cell? ⟨w.heap.size,0,none⟩ = some (.int .i64 1):=q0
     by_cases hdp:0<d
     · have e1:decide (d > 0)=true:=decide_eq_true (by omega)
       go_wp2_with fail
       refine (next_any g 5 wk (by omega) (by omega) D4.out).mono ?_
       rintro e w5 ⟨r,rfl,hr0,hr5,hd5',hg5⟩
       have T5:=Lib.hid (T4.out.trans (turn_of hg5))
       have D5:=Lib.hid hd5'
       have HE5:=Lib.hid (HERE.out.next (turn_of hg5) hd5')
       obtain ⟨p0,p1⟩:=HBX.out.held T5.out.pair
       have p0:w5.cell? ⟨w.heap.size,0,none⟩ = some (.int .i64 1):=p0
       have p1:w5.cell? ⟨w.heap.size,1,none⟩ = some (.slice B 0 e0):=p1
       have hr:r=0∨r=1∨r=2∨r=3∨r=4:=by omega
       clear hd5' hg5 hr0 hr5 q0 q1
       rcases hr with rfl | rfl | rfl | rfl | rfl
       · go_wp2_with fail
         refine (HE5.out.term hdp HE5.out.ctxAt (show Typ g w5 (.mk 1 []) (.agg #[.int .i64 1,.slice B 0 e0]) from HE5.out.typAt) D5.out HOK.out hn (by omega)).mono ?_
         rintro e w6 ⟨y6,v6,rfl,m6,t6,k6,u6⟩
         obtain ⟨B6,e6,A6,c6,rfl,_⟩:=IsTm.form t6
         have b6:y6.bulk≤12000:=m6.bulk_le (bdN_le _ (by omega))
         have M6:=Lib.hid m6
         have T6:=Lib.hid (T5.out.trans u6)
         have X6:=Lib.hid (show Trm W.heap.size w6 y6 (.agg #[.int .i64 y6.kind,.int .i64 y6.index,.int .i64 y6.type.kind,.slice B6 y6.type.args.length e6,.slice A6 y6.args.length c6]) from Trm.mono t6 T5.out.size)
         have K6:=Lib.hid k6
         clear m6 t6 k6 u6
         go_wp2_with fail
         refine (n_call 5 (bulk_1 b6) (tm_sl1 (Trm.below X6.out))).mono ?_
         rintro e w7 ⟨y7,v7,h7,rfl,t7,r7⟩
         obtain ⟨B7,e7,A7,c7,rfl,_⟩:=IsTm.form t7
         have T7:=Lib.hid ((T6.out.trans (tAl g _ _)).trans (tCa g r7))
         have X7:=Lib.hid (show Trm W.heap.size w7 y7 (.agg #[.int .i64 y7.kind,.int .i64 y7.index,.int .i64 y7.type.kind,.slice B7 y7.type.args.length e7,.slice A7 y7.args.length c7]) from Trm.mono t7 (T6.out.trans (tAl g _ _)).size)
         have K7:=Lib.hid (Deck.call (K6.out.box _) r7)
         have E7:=Lib.hid h7
         clear h7 t7 r7
         obtain ⟨_,_,_,_,_,f0,f1,f2,f3,f4⟩:=(HBX.out.result T7.out).facts5
         go_wp2_with fail
         obtain ⟨z0,z1,z2,z3,z4⟩:=((HBX.out.result T7.out).set5 (.int .i64 y7.kind) (.int .i64 y7.index) (.int .i64 y7.type.kind) (.slice B7 y7.type.args.length e7) (.slice A7 y7.args.length c7)).cells5
         refine HRET.out _ _ (bodyPost_ret (v:=.agg #[.int .i64 y7.kind,.int .i64 y7.index,.int .i64 y7.type.kind,.slice B7 y7.type.args.length e7,.slice A7 y7.args.length c7]) (by simp [results,Tryz.results16,go_sem,z0,z1,z2,z3,z4]) rfl ?_)
         exact term_end HBX.out T7.out K7.out (by rw [show d.toNat=(d - 1).toNat+1 by omega,E7.out]; exact way_succ M6.out) X7.out (Nat.le_refl W.heap.size)
       · go_upto_if 231 with fail
         refine wp_cond_true rfl ?_
         refine way36 HE5.out hdp rfl _ ?_
         exact fun a' w' h=>HRET.out a' w' h
       · go_upto_if 248 with fail
         refine wp_cond_true rfl ?_
         refine way38 HE5.out hdp rfl _ ?_
         exact fun a' w' h=>HRET.out a' w' h
       · clear p0 p1
         go_wp2_with fail
         refine (next_any g 3 w5 (by omega) (by omega) D5.out).mono ?_
         rintro e wn ⟨rn,rfl,rn0,rn3,kn,un⟩
         obtain ⟨i,rfl⟩:∃ i:Nat,rn=(i:Int):=⟨rn.toNat,by omega⟩
         have TN:=Lib.hid (T5.out.trans (turn_of un))
         have KN:=Lib.hid kn
         clear kn un
         go_wp2_with fail
         refine (num_call i (w:=wn) (by omega)).mono ?_
         rintro e wm ⟨ym,vm,hm',rfl,tm,rm⟩
         obtain ⟨Bm,em,Am,cm,rfl,_⟩:=IsTm.form tm
         have TMM:=Lib.hid (TN.out.trans (tCa g rm))
         have XM:=Lib.hid (show Trm W.heap.size wm ym (.agg #[.int .i64 ym.kind,.int .i64 ym.index,.int .i64 ym.type.kind,.slice Bm ym.type.args.length em,.slice Am ym.args.length cm]) from Trm.mono tm (TN.out.size))
         have KM:=Lib.hid (Deck.call KN.out rm)
         have EM:=Lib.hid hm'
         clear hm' tm rm
         obtain ⟨_,_,_,_,_,f0,f1,f2,f3,f4⟩:=(HBX.out.result TMM.out).facts5
         go_wp2_with fail
         obtain ⟨z0,z1,z2,z3,z4⟩:=((HBX.out.result TMM.out).set5 (.int .i64 ym.kind) (.int .i64 ym.index) (.int .i64 ym.type.kind) (.slice Bm ym.type.args.length em) (.slice Am ym.args.length cm)).cells5
         refine HRET.out _ _ (bodyPost_ret (v:=.agg #[.int .i64 ym.kind,.int .i64 ym.index,.int .i64 ym.type.kind,.slice Bm ym.type.args.length em,.slice Am ym.args.length cm]) (by simp [results,Tryz.results16,go_sem,z0,z1,z2,z3,z4]) rfl ?_)
         exact term_end HBX.out TMM.out KM.out (by rw [EM.out]; exact way_num (by omega)) XM.out (Nat.le_refl W.heap.size)
       · clear p0 p1
         go_wp2_with fail
         refine (next_any g 3 w5 (by omega) (by omega) D5.out).mono ?_
         rintro e wn ⟨rn,rfl,rn0,rn3,kn,un⟩
         obtain ⟨i,rfl⟩:∃ i:Nat,rn=(i:Int):=⟨rn.toNat,by omega⟩
         have TN:=Lib.hid (T5.out.trans (turn_of un))
         have KN:=Lib.hid kn
         clear kn un
         go_wp2_with fail
         refine (num_call i (w:=wn) (by omega)).mono ?_
         rintro e wm ⟨ym,vm,hm',rfl,tm,rm⟩
         obtain ⟨Bm,em,Am,cm,rfl,_⟩:=IsTm.form tm
         have TMM:=Lib.hid (TN.out.trans (tCa g rm))
         have XM:=Lib.hid (show Trm W.heap.size wm ym (.agg #[.int .i64 ym.kind,.int .i64 ym.index,.int .i64 ym.type.kind,.slice Bm ym.type.args.length em,.slice Am ym.args.length cm]) from Trm.mono tm (TN.out.size))
         have KM:=Lib.hid (Deck.call KN.out rm)
         have EM:=Lib.hid hm'
         clear hm' tm rm
         obtain ⟨_,_,_,_,_,f0,f1,f2,f3,f4⟩:=(HBX.out.result TMM.out).facts5
         go_wp2_with fail
         obtain ⟨z0,z1,z2,z3,z4⟩:=((HBX.out.result TMM.out).set5 (.int .i64 ym.kind) (.int .i64 ym.index) (.int .i64 ym.type.kind) (.slice Bm ym.type.args.length em) (.slice Am ym.args.length cm)).cells5
         refine HRET.out _ _ (bodyPost_ret (v:=.agg #[.int .i64 ym.kind,.int .i64 ym.index,.int .i64 ym.type.kind,.slice Bm ym.type.args.length em,.slice Am ym.args.length cm]) (by simp [results,Tryz.results16,go_sem,z0,z1,z2,z3,z4]) rfl ?_)
         exact term_end HBX.out TMM.out KM.out (by rw [EM.out]; exact way_num (by omega)) XM.out (Nat.le_refl W.heap.size)
     · have e1:decide (d > 0)=false:=decide_eq_false (by omega)
       go_wp2_with fail
       refine (next_any g 3 wk (by omega) (by omega) D4.out).mono ?_
       rintro e wn ⟨rn,rfl,rn0,rn3,kn,un⟩
       obtain ⟨i,rfl⟩:∃ i:Nat,rn=(i:Int):=⟨rn.toNat,by omega⟩
       have TN:=Lib.hid (T4.out.trans (turn_of un))
       have KN:=Lib.hid kn
       clear kn un
       go_wp2_with fail
       refine (num_call i (w:=wn) (by omega)).mono ?_
       rintro e wm ⟨ym,vm,hm',rfl,tm,rm⟩
       obtain ⟨Bm,em,Am,cm,rfl,_⟩:=IsTm.form tm
       have TMM:=Lib.hid (TN.out.trans (tCa g rm))
       have XM:=Lib.hid (show Trm W.heap.size wm ym (.agg #[.int .i64 ym.kind,.int .i64 ym.index,.int .i64 ym.type.kind,.slice Bm ym.type.args.length em,.slice Am ym.args.length cm]) from Trm.mono tm (TN.out.size))
       have KM:=Lib.hid (Deck.call KN.out rm)
       have EM:=Lib.hid hm'
       clear hm' tm rm
       obtain ⟨_,_,_,_,_,f0,f1,f2,f3,f4⟩:=(HBX.out.result TMM.out).facts5
       go_wp2_with fail
       obtain ⟨z0,z1,z2,z3,z4⟩:=((HBX.out.result TMM.out).set5 (.int .i64 ym.kind) (.int .i64 ym.index) (.int .i64 ym.type.kind) (.slice Bm ym.type.args.length em) (.slice Am ym.args.length cm)).cells5
       refine HRET.out _ _ (bodyPost_ret (v:=.agg #[.int .i64 ym.kind,.int .i64 ym.index,.int .i64 ym.type.kind,.slice Bm ym.type.args.length em,.slice Am ym.args.length cm]) (by simp [results,Tryz.results16,go_sem,z0,z1,z2,z3,z4]) rfl ?_)
       exact term_end HBX.out TMM.out KM.out (by rw [EM.out]; exact way_num (by omega)) XM.out (Nat.le_refl W.heap.size)
   · have q0:wk.cell? ⟨w.heap.size,0,none⟩ = some (.int .i64 2):=q0
     by_cases hdp:0<d
     · have e1:decide (d > 0)=true:=decide_eq_true (by omega)
       go_wp2_with fail
       refine (next_any g 2 wk (by omega) (by omega) D4.out).mono ?_
       rintro e w5 ⟨r,rfl,hr0,hr5,hd5',hg5⟩
       have T5:=Lib.hid (T4.out.trans (turn_of hg5))
       have D5:=Lib.hid hd5'
       have HE5:=Lib.hid (HERE.out.next (turn_of hg5) hd5')
       have hr:r=0∨r=1:=by omega
       clear hd5' hg5 hr0 hr5 q0 q1
       rcases hr with rfl | rfl
       · go_upto_if 276 with fail
         refine wp_cond_true rfl ?_
         refine way42 HE5.out hdp rfl _ ?_
         exact fun a' w' h=>HRET.out a' w' h
       · have hx1:=tRf g w5
         go_wp2_with fail
         refine (n_call 7 (l:=[]) (w:=w5) (by decide) (Rep.Sl.nil _ _)).mono ?_
         rintro e wm ⟨ym,vm,hm',rfl,tm,rm⟩
         obtain ⟨Bm,em,Am,cm,rfl,_⟩:=IsTm.form tm
         have TMM:=Lib.hid (T5.out.trans (tCa g rm))
         have XM:=Lib.hid (show Trm W.heap.size wm ym (.agg #[.int .i64 ym.kind,.int .i64 ym.index,.int .i64 ym.type.kind,.slice Bm ym.type.args.length em,.slice Am ym.args.length cm]) from Trm.mono tm (T5.out).size)
         have KM:=Lib.hid (Deck.call D5.out rm)
         have EM:=Lib.hid hm'
         clear hm' tm rm
         obtain ⟨_,_,_,_,_,f0,f1,f2,f3,f4⟩:=(HBX.out.result TMM.out).facts5
         go_wp2_with fail
         obtain ⟨z0,z1,z2,z3,z4⟩:=((HBX.out.result TMM.out).set5 (.int .i64 ym.kind) (.int .i64 ym.index) (.int .i64 ym.type.kind) (.slice Bm ym.type.args.length em) (.slice Am ym.args.length cm)).cells5
         refine HRET.out _ _ (bodyPost_ret (v:=.agg #[.int .i64 ym.kind,.int .i64 ym.index,.int .i64 ym.type.kind,.slice Bm ym.type.args.length em,.slice Am ym.args.length cm]) (by simp [results,Tryz.results16,go_sem,z0,z1,z2,z3,z4]) rfl ?_)
         exact term_end HBX.out TMM.out KM.out (by rw [EM.out]; exact way_nil) XM.out (Nat.le_refl W.heap.size)
     · have e1:decide (d > 0)=false:=decide_eq_false (by omega)
       go_wp2_with fail
       refine (n_call 7 (l:=[]) (w:=wk) (by decide) (Rep.Sl.nil _ _)).mono ?_
       rintro e wm ⟨ym,vm,hm',rfl,tm,rm⟩
       obtain ⟨Bm,em,Am,cm,rfl,_⟩:=IsTm.form tm
       have TMM:=Lib.hid (T4.out.trans (tCa g rm))
       have XM:=Lib.hid (show Trm W.heap.size wm ym (.agg #[.int .i64 ym.kind,.int .i64 ym.index,.int .i64 ym.type.kind,.slice Bm ym.type.args.length em,.slice Am ym.args.length cm]) from Trm.mono tm (T4.out).size)
       have KM:=Lib.hid (Deck.call D4.out rm)
       have EM:=Lib.hid hm'
       clear hm' tm rm
       obtain ⟨_,_,_,_,_,f0,f1,f2,f3,f4⟩:=(HBX.out.result TMM.out).facts5
       go_wp2_with fail
       obtain ⟨z0,z1,z2,z3,z4⟩:=((HBX.out.result TMM.out).set5 (.int .i64 ym.kind) (.int .i64 ym.index) (.int .i64 ym.type.kind) (.slice Bm ym.type.args.length em) (.slice Am ym.args.length cm)).cells5
       refine HRET.out _ _ (bodyPost_ret (v:=.agg #[.int .i64 ym.kind,.int .i64 ym.index,.int .i64 ym.type.kind,.slice Bm ym.type.args.length em,.slice Am ym.args.length cm]) (by simp [results,Tryz.results16,go_sem,z0,z1,z2,z3,z4]) rfl ?_)
       exact term_end HBX.out TMM.out KM.out (by rw [EM.out]; exact way_nil) XM.out (Nat.le_refl W.heap.size)
   · have q0:wk.cell? ⟨w.heap.size,0,none⟩ = some (.int .i64 5):=q0
     go_wp2_with fail
     refine (n_call 13 (l:=[]) (w:=wk) (by decide) (Rep.Sl.nil _ _)).mono ?_
     rintro e wm ⟨ym,vm,hm',rfl,tm,rm⟩
     obtain ⟨Bm,em,Am,cm,rfl,_⟩:=IsTm.form tm
     have TMM:=Lib.hid (T4.out.trans (tCa g rm))
     have XM:=Lib.hid (show Trm W.heap.size wm ym (.agg #[.int .i64 ym.kind,.int .i64 ym.index,.int .i64 ym.type.kind,.slice Bm ym.type.args.length em,.slice Am ym.args.length cm]) from Trm.mono tm (T4.out).size)
     have KM:=Lib.hid (Deck.call D4.out rm)
     have EM:=Lib.hid hm'
     clear hm' tm rm
     obtain ⟨_,_,_,_,_,f0,f1,f2,f3,f4⟩:=(HBX.out.result TMM.out).facts5
     go_wp2_with fail
     obtain ⟨z0,z1,z2,z3,z4⟩:=((HBX.out.result TMM.out).set5 (.int .i64 ym.kind) (.int .i64 ym.index) (.int .i64 ym.type.kind) (.slice Bm ym.type.args.length em) (.slice Am ym.args.length cm)).cells5
     refine HRET.out _ _ (bodyPost_ret (v:=.agg #[.int .i64 ym.kind,.int .i64 ym.index,.int .i64 ym.type.kind,.slice Bm ym.type.args.length em,.slice Am ym.args.length cm]) (by simp [results,Tryz.results16,go_sem,z0,z1,z2,z3,z4]) rfl ?_)
     exact term_end HBX.out TMM.out KM.out (by rw [EM.out]; exact way_unit) XM.out (Nat.le_refl W.heap.size)
 · subst hte
   rcases hk with rfl | rfl
   · have q0:wk.cell? ⟨w.heap.size,0,none⟩ = some (.int .i64 3):=q0
     go_upto_if 292 with fail
     refine wp_cond_true rfl ?_
     refine way45 HERE.out rfl _ ?_
     exact fun a' w' h=>HRET.out a' w' h
   · have q0:wk.cell? ⟨w.heap.size,0,none⟩ = some (.int .i64 4):=q0
     go_upto_if 314 with fail
     refine wp_cond_true rfl ?_
     refine way47 HERE.out rfl _ ?_
     exact fun a' w' h=>HRET.out a' w' h
end Go.Proofs.YtipfnkajdooiiaaGreatDoor
namespace Go.Proofs.YtipfnkajdooiiaaGreatDoor
open Go.RowKit

set_option maxRecDepth 1000000 in
set_option maxHeartbeats 4000000 in
theorem term_step (g M:Nat) (ih:IHT g M) (G:List Ty) (t:Ty) (d:Int) (s v:Value) (w:World) (hm:4 * d.toNat+t.nodes≤M) (hd5:d≤5) (hdn:(t.nodes:Int) - 20≤d) (hlen:G.length+4 * d.toNat+t.nodes≤60) (hok:t.ok=true) (hn:t.nodes≤3)
   (hc:Ctx g w G s) (ht:Typ g w t v) (hd:Deck w g):Calls Tryz.prog 16 #[.pointer (some ⟨g,0,none⟩),s,v,.int .i64 d] w (TermR g G t (bdN d.toNat t) (bdO d.toNat t) w):=by
 obtain ⟨A,c,rfl⟩:=hc.sl.form
 obtain ⟨B,e0,rfl⟩:=IsTy.form ht
 have hBX:=boxes_made hd.lt t B e0
 have IH:=Lib.hid ih
 have HC0:=Lib.hid hc
 have HT0:=Lib.hid ht
 have HD:=Lib.hid hd
 have HOK:=Lib.hid hok
 clear ih hc ht hd hok
 go_enter Tryz.func16,Tryz.ntmps16
 go_upto_region 1 with fail
 generalize ((w.alloc (Obj.cells #[.int .i64 t.kind,.slice B t.args.length e0] 30)).alloc (Obj.cells #[.int .i64 0,.int .i64 0,.int .i64 0,.slice none 0 0,.slice none 0 0] 42))=W at hBX ⊢
 have HCW:=Lib.hid (HC0.out.turn hBX.turn)
 have HTW:=Lib.hid (HT0.out.turn hBX.turn)
 have HDW:=Lib.hid (HD.out.call hBX.below)
 have HBX:=Lib.hid hBX
 have hWz:g<W.heap.size:=by have:=hBX.size; have:=hBX.lt; omega
 obtain ⟨q0,q1⟩:=hBX.held (Turn.refl _ _)
 clear hBX HD
 go_wp2_with fail
 refine (vars_any G t _ _ W (by omega) (fun U hU=>by have:=(HCW.out.ok U hU).2; omega) (by omega) (HCW.out.sl.keep (fun _ h=>h.2) (fun _ _=>rfl)) HTW.out.below).mono ?_
 rintro e w1 ⟨x,rfl,hx,hb1⟩
 obtain ⟨Ax,cx,rfl⟩:=hx.form
 have HX:=Lib.hid hx
 have T1:=Lib.hid (Turn.call (X:=(· = g)) hb1)
 have D1:=Lib.hid (HDW.out.call hb1)
 clear hx hb1 q0 q1
 go_upto_region 2 with fail
 go_cut [27] (fun x wx=>∃ b:Bool,x=.bool b∧(b=true→0<(varsOf G t G.length).length)∧Deck wx g∧Turn (· = g) w1 wx)
 case first=>
   by_cases hv:0<(varsOf G t G.length).length
   · have e1:decide (((varsOf G t G.length).length:Int) > 0)=true:=decide_eq_true (by omega)
     go_wp2_with fail
     refine (next_any g 3 w1 (by omega) (by omega) D1.out).mono ?_
     rintro e w2 ⟨r,rfl,hr0,hr3,hd2,hg2⟩
     have HG2:=Lib.hid (And.intro hd2 hg2)
     clear hd2 hg2
     go_wp2_with fail
     go_meet
     exact ⟨_,rfl,fun _=>hv,HG2.out.1,turn_of HG2.out.2⟩
   · have e1:decide (((varsOf G t G.length).length:Int) > 0)=false:=decide_eq_false (by omega)
     go_wp2_with fail
     go_meet
     exact ⟨_,rfl,fun h=>by simp at h,D1.out,Turn.refl _ _⟩
 case rest=>
   obtain ⟨b,rfl,hb,hd2,ht2⟩:=hcut
   rename World=>wb
   have D2:=Lib.hid hd2
   have T2:=Lib.hid (T1.out.trans ht2)
   have HX2:=Lib.hid ht2
   clear hd2 ht2
   cases b with
   | true=>
     have hv:=hb rfl
     have hvl:=varsOf_len G t G.length
     clear hb
     go_wp2_with fail
     refine (next_any g ((varsOf G t G.length).length:Int) _ (by omega) (by omega) D2.out).mono ?_
     rintro e w3 ⟨r,rfl,hr0,hr3,hd3,hg3⟩
     obtain ⟨i,rfl⟩:∃ i:Nat,r=(i:Int):=⟨r.toNat,by omega⟩
     have hi:i<(varsOf G t G.length).length:=by omega
     have T3:=Lib.hid (T2.out.trans (turn_of hg3))
     have hx3:=HX.out.keep (S':=fun _=>True) (w':=w3) (fun _ _=>trivial) (fun p hp=>World.cell?_of_block ((HX2.out.trans (turn_of hg3)).block p.block hp.2 (by have:=hp.1; omega)))
     obtain ⟨a,rfl,_,hat⟩:=hx3.get i hi
     obtain ⟨vs,hvs,hcell⟩:=hat
     have hvs:vs=[.int .i64 ((varsOf G t G.length)[i]:Nat)]:=hvs
     subst hvs
     have hq:=hcell 0 _ rfl
     rw [add_zero',show IntR.n=1 from rfl,Nat.mul_one] at hq
     have hmem:=varsOf_mem (List.getElem_mem hi)
     have HM:=Lib.hid (And.intro hmem hd3)
     clear hcell hx3 hmem hd3 hg3
     go_wp2_with fail
     refine (var_any _ w3).mono ?_
     rintro e w4 ⟨rfl,r4⟩
     have T4:=Lib.hid (T3.out.trans (tCa g r4))
     have K4:=Lib.hid (Deck.call HM.out.2 r4)
     clear r4 hq
     obtain ⟨_,_,_,_,_,f0,f1,f2,f3,f4⟩:=(HBX.out.result T4.out).facts5
     go_wp2_with fail
     obtain ⟨z0,z1,z2,z3,z4⟩:=((HBX.out.result T4.out).set5 (.int .i64 1) (.int .i64 ((varsOf G t G.length)[i]:Nat)) (.int .i64 0) (.slice none 0 0) (.slice none 0 0)).cells5
     refine bodyPost_ret (v:=.agg #[.int .i64 1,.int .i64 ((varsOf G t G.length)[i]:Nat),.int .i64 0,.slice none 0 0,.slice none 0 0]) (by simp [results,Tryz.results16,go_sem,z0,z1,z2,z3,z4]) rfl ?_
     exact term_end HBX.out T4.out K4.out (way_var HM.out.1.2) (show Trm W.heap.size w4 _ _ from var_is _ w4 _) (Nat.le_refl W.heap.size)
   | false=>
     clear hb
     go_upto_if 37 with fail
     go_cut [] (fun wx=>Deck wx g∧Turn (· = g) wb wx)
     case first=>
       refine term_if (show Here g M G t d A c B e0 w W wb from ⟨IH.out,hm,hd5,hdn,hlen,HOK.out,hn,HCW.out,HTW.out,HT0.out,HBX.out,T2.out,D2.out⟩) HC0.out rfl _ ?_ ?_
       · exact fun _ _ h=>h
       · intro z10 z11 z12 z13 z14 z15 z16 z38 z39 z40 z41 z42 z43 z44 z45 z46 z47 z48 z49 z50 z51 z52 z53 z54 z55 z56 z57 z58 z59 z60 z61 z62 z63 z64 z65 z66 z67 z68 z69 z70 z71 z72 z73 z74 z75 z76 z77 z78 z79 z80 z81 z82 z83 z84 z85 z86 z87 z88 z89 z90 z91 z92 z93 z94 z95 z96 z97 z98 z99 z100 z101 z102 z103 z104 z105 z106 z107 z108 z109 z110 z111 z112 z113 z114 z115 z116 z117 z118 z119 z120 z121 z122 z123 z124 z125 z126 z127 z128 z129 z130 z131 z132 z133 z134 z135 z136 z137 z138 z139 z140 z141 z142 z143 z144 z145 z146 z147 z148 z149 z150 z151 z152 z153 z154 z155 z156 z157 z158 z159 z160 z161 z162 z163 z164 z165 z166 z167 z168 z169 z170 z171 z172 z173 z174 z175 z176 z177 z178 z179 z180 z181 z182 z183 z184 z185 z186 z187 z188 z189 z190 z191 z192 z193 z194 z195 z196 z197 z198 z199 z200 z201 z202 z203 z204 z205 z206 z207 z208 z209 z210 z211 z212 w' hd' ht'
         try dsimp only
         go_wp2_with fail
         go_meet
         exact ⟨hd',ht'⟩
     case rest=>
       obtain ⟨hd4,ht4⟩:=hcut
       rename World=>wk
       refine ‹∀ (a:Act) (w:World),Code.wp Tryz.prog _ _ a w→_› _ _ ?_
       refine term_kinds (show Here g M G t d A c B e0 w W wk from ⟨IH.out,hm,hd5,hdn,hlen,HOK.out,hn,HCW.out,HTW.out,HT0.out,HBX.out,(T2.out.trans ht4),hd4⟩) _ ?_
       exact fun _ _ h=>h

theorem term_any (g:Nat):∀ M,IHT g M:=by
 intro M
 induction M with
 | zero=>intro G t d s v w h; omega
 | succ M ih=>
   intro G t d s v w h1 h2 h3 h4 h5 h6 hc ht hd
   exact term_step g M ih G t d s v w (by omega) h2 h3 h4 h5 h6 hc ht hd
end Go.Proofs.YtipfnkajdooiiaaGreatDoor
