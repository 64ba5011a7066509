/- A way of mk.Term. -/
import Derived.Test.YtipfnkajdooiiaaGreatDoorQMkWays
import Derived.IntWalk
import Derived.Deep.DeepFit
namespace Go.Proofs.YtipfnkajdooiiaaGreatDoor
open Go.RowKit

set_option maxRecDepth 1000000 in
set_option maxHeartbeats 4000000 in
theorem way22 {g M:Nat} {G:List Ty} {t:Ty} {d:Int} {A:Option Addr} {c:Nat} {B:Option Addr} {e:Nat} {w W w0:World} (h0:Here g M G t d A c B e w W w0) (hdp:0<d) (hc0:Ctx g w G (.slice A G.length c)) (Q0:Exit→Act→World→Prop)
   (hret:∀ a' w',bodyPost Tryz.prog Tryz.f16 (TermR g G t (bdN d.toNat t) (bdO d.toNat t) w) .ret a' w'→Q0 .ret a' w')
   {x2 x4 x5 x7 x9 x10 x11 x12 x13 x14 x15 x16 x17 x18 x19 x20 x21 x22 x23 x24 x25 x26 x27 x28 x29 x30 x31 x32 x33 x34 x35 x36 x37 x38 x39 x40 x41 x42 x43 x44 x45 x46 x47 x48 x49 x50 x51 x52 x53 x54 x55 x56 x57 x58 x59 x60 x61 x62 x63 x64 x65 x66 x67 x68 x69 x70 x71 x72 x73 x74 x75 x76 x77 x78 x79 x80 x81 x82 x83 x84 x85 x86 x87 x88 x89 x90 x91 x92 x93 x94 x95 x96 x97 x98 x99 x100 x101 x102 x103 x104 x105 x106 x107 x108 x109 x110 x111 x112 x113 x114 x115 x116 x117 x118 x119 x120 x121 x122 x123 x124 x125 x126 x127 x128 x129 x130 x131 x132 x133 x134 x135 x136 x137 x138 x139 x140 x141 x142 x143 x144 x145 x146 x147 x148 x149 x150 x151 x152 x153 x154 x155 x156 x157 x158 x159 x160 x161 x162 x163 x164 x165 x166 x167 x168 x169 x170 x171 x172 x173 x174 x175 x176 x177 x178 x179 x180 x181 x182 x183 x184 x185 x186 x187 x188 x189 x190 x191 x192 x193 x194 x195 x196 x197 x198 x199 x200 x201 x202 x203 x204 x205 x206 x207 x208 x209 x210 x211 x212 x213 x214 x215 x216 x217 x218 x219 x220 x221 x222 x223 x224 x225 x226 x227 x228 x229 x230 x231 x232 x233 x234 x235 x236 x237 x238 x239 x240 x241 x242 x243 x244 x245 x246 x247 x248 x249 x250 x251 x252 x253 x254 x255 x256 x257 x258 x259 x260 x261 x262 x263 x264 x265 x266 x267 x268 x269 x270 x271 x272 x273 x274 x275 x276 x277 x278 x279 x280 x281 x282 x283 x284 x285 x286 x287 x288 x289 x290 x291 x292 x293 x294 x295 x296 x297 x298 x299 x300 x301 x302 x303 x304 x305 x306 x307 x308 x309 x310 x311 x312 x313 x314 x315 x316 x317 x318 x319 x320 x321 x322 x323 x324 x325 x326 x327 x328 x329 x330 x331 x332 x333 x334 x335 x336 x337:Value}
   (hnorm:∀ (z15 z16 z175 z176 z177 z178 z179 z180 z181 z182 z183 z184 z185 z186 z187 z188 z189 z190 z191 z192 z193 z194 z195 z196 z197 z198 z199 z200 z201 z202 z203 z204 z205 z206 z207 z208 z209 z210 z211 z212:Value) (w':World),Deck w' g→Turn (· = g) w0 w'→Q0 .normal ⟨#[.pointer (some ⟨g,0,none⟩),.slice A G.length c,x2,.int .i64 d,x4,x5,.pointer (some ⟨w.heap.size,0,none⟩),x7,.pointer (some ⟨w.heap.size+1,0,none⟩),x9,x10,x11,x12,x13,x14,z15,z16,x17,x18,x19,x20,x21,x22,x23,x24,x25,x26,x27,x28,x29,x30,x31,x32,x33,x34,x35,x36,x37,x38,x39,x40,x41,x42,x43,x44,x45,x46,x47,x48,x49,x50,x51,x52,x53,x54,x55,x56,x57,x58,x59,x60,x61,x62,x63,x64,x65,x66,x67,x68,x69,x70,x71,x72,x73,x74,x75,x76,x77,x78,x79,x80,x81,x82,x83,x84,x85,x86,x87,x88,x89,x90,x91,x92,x93,x94,x95,x96,x97,x98,x99,x100,x101,x102,x103,x104,x105,x106,x107,x108,x109,x110,x111,x112,x113,x114,x115,x116,x117,x118,x119,x120,x121,x122,x123,x124,x125,x126,x127,x128,x129,x130,x131,x132,x133,x134,x135,x136,x137,x138,x139,x140,x141,x142,x143,x144,x145,x146,x147,x148,x149,x150,x151,x152,x153,x154,x155,x156,x157,x158,x159,x160,x161,x162,x163,x164,x165,x166,x167,x168,x169,x170,x171,x172,x173,x174,z175,z176,z177,z178,z179,z180,z181,z182,z183,z184,z185,z186,z187,z188,z189,z190,z191,z192,z193,z194,z195,z196,z197,z198,z199,z200,z201,z202,z203,z204,z205,z206,z207,z208,z209,z210,z211,z212,x213,x214,x215,x216,x217,x218,x219,x220,x221,x222,x223,x224,x225,x226,x227,x228,x229,x230,x231,x232,x233,x234,x235,x236,x237,x238,x239,x240,x241,x242,x243,x244,x245,x246,x247,x248,x249,x250,x251,x252,x253,x254,x255,x256,x257,x258,x259,x260,x261,x262,x263,x264,x265,x266,x267,x268,x269,x270,x271,x272,x273,x274,x275,x276,x277,x278,x279,x280,x281,x282,x283,x284,x285,x286,x287,x288,x289,x290,x291,x292,x293,x294,x295,x296,x297,x298,x299,x300,x301,x302,x303,x304,x305,x306,x307,x308,x309,x310,x311,x312,x313,x314,x315,x316,x317,x318,x319,x320,x321,x322,x323,x324,x325,x326,x327,x328,x329,x330,x331,x332,x333,x334,x335,x336,x337],[]⟩ w') :
   Code.wp Tryz.prog (piece 173) Q0 ⟨#[.pointer (some ⟨g,0,none⟩),.slice A G.length c,x2,.int .i64 d,x4,x5,.pointer (some ⟨w.heap.size,0,none⟩),x7,.pointer (some ⟨w.heap.size+1,0,none⟩),x9,x10,x11,x12,x13,x14,x15,x16,x17,x18,x19,x20,x21,x22,x23,x24,x25,x26,x27,x28,x29,x30,x31,x32,x33,x34,x35,x36,x37,x38,x39,x40,x41,x42,x43,x44,x45,x46,x47,x48,x49,x50,x51,x52,x53,x54,x55,x56,x57,x58,x59,x60,x61,x62,x63,x64,x65,x66,x67,x68,x69,x70,x71,x72,x73,x74,x75,x76,x77,x78,x79,x80,x81,x82,x83,x84,x85,x86,x87,x88,x89,x90,x91,x92,x93,x94,x95,x96,x97,x98,x99,x100,x101,x102,x103,x104,x105,x106,x107,x108,x109,x110,x111,x112,x113,x114,x115,x116,x117,x118,x119,x120,x121,x122,x123,x124,x125,x126,x127,x128,x129,x130,x131,x132,x133,x134,x135,x136,x137,x138,x139,x140,x141,x142,x143,x144,x145,x146,x147,x148,x149,x150,x151,x152,x153,x154,x155,x156,x157,x158,x159,x160,x161,x162,x163,x164,x165,x166,x167,x168,x169,x170,x171,x172,x173,x174,x175,x176,x177,x178,x179,x180,x181,x182,x183,x184,x185,x186,x187,x188,x189,x190,x191,x192,x193,x194,x195,x196,x197,x198,x199,x200,x201,x202,x203,x204,x205,x206,x207,x208,x209,x210,x211,x212,x213,x214,x215,x216,x217,x218,x219,x220,x221,x222,x223,x224,x225,x226,x227,x228,x229,x230,x231,x232,x233,x234,x235,x236,x237,x238,x239,x240,x241,x242,x243,x244,x245,x246,x247,x248,x249,x250,x251,x252,x253,x254,x255,x256,x257,x258,x259,x260,x261,x262,x263,x264,x265,x266,x267,x268,x269,x270,x271,x272,x273,x274,x275,x276,x277,x278,x279,x280,x281,x282,x283,x284,x285,x286,x287,x288,x289,x290,x291,x292,x293,x294,x295,x296,x297,x298,x299,x300,x301,x302,x303,x304,x305,x306,x307,x308,x309,x310,x311,x312,x313,x314,x315,x316,x317,x318,x319,x320,x321,x322,x323,x324,x325,x326,x327,x328,x329,x330,x331,x332,x333,x334,x335,x336,x337],[]⟩ w0:=by
 conv=>arg 2; whnf
 have HE:=Lib.hid h0
 have HRET:=Lib.hid hret
 have hw:=IntWalk.i64_in (d - 1) (by have:=h0.hd5; have:=h0.hdn; omega)
 clear h0 hret
 have HNORM:=Lib.hid hnorm
 have HC0:=Lib.hid hc0
 clear hnorm hc0
 have hWR:W.heap.size≤w0.heap.size:=HE.out.turn.size
 have hWz:g<W.heap.size:=by have:=HE.out.sizes; omega
 have hd5:=HE.out.hd5
 have hlen:=HE.out.hlen
 go_wp2_with fail
 go_loopw [177] (fun ix wr=>∃ j:Nat,j≤G.length∧ix=.int .i64 j∧Deck wr g∧Turn (· = g) w0 wr) (fun ix _=>G.length - (intOf ix).toNat)
 case atStart=>exact ⟨0,by omega,rfl,HE.out.deck,Turn.refl _ _⟩
 case round=>
   obtain ⟨j,hj,rfl,hdr,htr⟩:=hrel
   have HWR:=Lib.hid (HE.out.next htr hdr)
   have TWR:=Lib.hid htr
   clear hdr htr
   by_cases hlt:j<G.length
   · obtain ⟨b0,hA,hbg,hat⟩:=HC0.out.sl.get (G.length - 1 - j) (by omega)
     subst hA
     obtain ⟨A1,c1,q0',q1',hx0⟩:=at_ty hat
     simp only [show TyR.n=2 from rfl] at q0' q1'
     have TW:=Lib.hid (HE.out.box.turn.trans HWR.out.turn)
     have hbk:wr.heap[b0.block]? = w.heap[b0.block]?:=TW.out.block b0.block hbg.2 hbg.1
     have q0:=(World.cell?_of_block (w:=w) (w':=wr) (a:=b0.add ((G.length - 1 - j) * 2)) (by rw [add_block]; exact hbk)).trans q0'
     have q1:=(World.cell?_of_block (w:=w) (w':=wr) (a:=⟨(b0.add ((G.length - 1 - j) * 2)).block,(b0.add ((G.length - 1 - j) * 2)).off+1,none⟩) (by show wr.heap[(b0.add ((G.length - 1 - j) * 2)).block]? = _; rw [add_block]; exact hbk)).trans q1'
     have hx:=Typ.turn (show Typ g w _ _ from hx0) TW.out
     clear q0' q1' hbk
     have hmem:=HE.out.ctx.ok _ (List.getElem_mem (show G.length - 1 - j<G.length by omega))
     have hrev:G.reverse[j]? = some G[G.length - 1 - j]:=by rw [List.getElem?_reverse hlt,List.getElem?_eq_getElem (by omega)]
     have ex:(G.length:Int) - 1 - (j:Int)=((G.length - 1 - j:Nat):Int):=by omega
     generalize G[G.length - 1 - j]=U at q0 q1 hx hx0 hmem hrev
     have HU:=Lib.hid (And.intro (show Typ g wr U (.agg #[.int .i64 U.kind,.slice A1 U.args.length c1]) from hx) (And.intro hmem hrev))
     have hwr0:g<wr.heap.size:=HWR.out.lt
     have HU0:=Lib.hid hx0
     clear hat hx hx0 hmem hrev hbg
     go_upto_region 26 with fail
     obtain ⟨bR,zR,kR⟩:=new_blk (Below.refl wr.heap.size wr) (Nat.le_refl _) #[.int .i64 U.kind,.slice A1 U.args.length c1] 30
     generalize wr.alloc (Obj.cells #[.int .i64 U.kind,.slice A1 U.args.length c1] 30)=R at bR zR kR ⊢
     have HR:=Lib.hid (HWR.out.next (Turn.call bR) (HWR.out.deck.call bR))
     have hsz:=HWR.out.sizes
     have np:¬ Pair2 g (w.heap.size+1) wr.heap.size:=by unfold Pair2; omega
     have TRR:=Lib.hid (TWR.out.trans (Turn.call bR))
     by_cases hk:U.kind=4
     · obtain ⟨X,Y,hUe⟩:∃ X Y,U=.mk 4 [X,Y]:=by
         rcases Ty.ok_cases HU.out.2.1.1 with ⟨k,hk3,rfl⟩ | ⟨k,X,Y,hk3,rfl,hX,hY⟩
         · exact absurd hk (by simp only [Ty.kind]; omega)
         · exact ⟨X,Y,by simp only [Ty.kind] at hk; rw [hk]⟩
       subst hUe
       obtain ⟨a,B1,d1,B2,d2,rfl,ha,g0,g1,g2,g3,tX,tY⟩:=IsTy.two (A:=A1) (c:=c1) (k:=4) (T:=X) (U:=Y) (w:=w) (S:=Good (· = g) w) HU0.out
       have hwz:=HE.out.box.size
       have hap:¬ Pair2 g (w.heap.size+1) a.block:=by have h1:=ha.1; have h2:=ha.2; unfold Pair2; omega
       have hawr:a.block<wr.heap.size:=Nat.lt_of_lt_of_le ha.2 TW.out.size
       have hXY:1+(X.nodes+Y.nodes)≤3:=by have:=HU.out.2.1.2; simp only [Ty.nodes,nodesAll] at this; omega
       have hX1:=nodes_pos X
       have hY1:=nodes_pos Y
       have HOKX:=Lib.hid (show X.ok=true by have:=HU.out.2.1.1; simp only [Ty.ok,okAll,Bool.and_eq_true] at this; exact this.2.1)
       have HX:=Lib.hid (Typ.turn (show Typ g w X _ from tX) (TW.out.trans (Turn.call bR)))
       have HY:=Lib.hid (Typ.turn (show Typ g w Y _ from tY) (TW.out.trans (Turn.call bR)))
       have HKR:=Lib.hid (show Blk R wr.heap.size 30 #[.int .i64 4,.slice (some a) 2 c1] from kR)
       have HAR:∀ w',Turn (Pair2 g (w.heap.size+1)) R w'→w'.cell? ⟨w.heap.size,0,none⟩ = some (.int .i64 t.kind)∧w'.cell? ⟨w.heap.size,1,none⟩ = some (.slice B t.args.length e)∧w'.cell? ⟨wr.heap.size,0,none⟩ = some (.int .i64 4)∧w'.cell? ⟨wr.heap.size,1,none⟩ = some (.slice (some a) 2 c1)∧w'.cell? a=some (.int .i64 X.kind)∧w'.cell? ⟨a.block,a.off+1,none⟩ = some (.slice B1 X.args.length d1)∧w'.cell? ⟨a.block,a.off+2,none⟩ = some (.int .i64 Y.kind)∧w'.cell? ⟨a.block,a.off+2+1,none⟩ = some (.slice B2 Y.args.length d2):=fun w' h=>by
         have e:w'.heap[a.block]? = w.heap[a.block]?:=((h.block a.block (Nat.lt_of_lt_of_le hawr bR.size) hap).trans (bR.block a.block hawr)).trans (TW.out.block a.block ha.2 ha.1)
         have k':∀ o,w'.cell? ⟨a.block,o,none⟩ = w.cell? ⟨a.block,o,none⟩:=fun o=>World.cell?_of_block e
         have kk:=(h.blk HKR.out np).facts2
         have ht:=HR.out.held (w':=w') h
         exact ⟨ht.1,ht.2,kk.1,kk.2.1,(World.cell?_of_block e).trans g0,(k' _).trans g1,(k' _).trans g2,(k' _).trans g3⟩
       have HARP:=Lib.hid HAR
       have HAR:=Lib.hid fun (w':World) (h:Turn (· = g) R w')=>HARP.out w' h.pair
       obtain ⟨p0,p1,p2,p3,p4,p5,p6,p7⟩:=HAR.out R (Turn.refl _ _)
       have QD:=Lib.hid (tDr g R)
       clear g0 g1 g2 g3 tX tY kR bR zR q0 q1 hk hsz ex
       cases hq:Y.eqb t with
       | true=>
         have HQ:=Lib.hid hq
         go_region_held3 (fun w'=>w'.cell? ⟨w.heap.size,0,none⟩ = some (.int .i64 t.kind)∧w'.cell? ⟨w.heap.size,1,none⟩ = some (.slice B t.args.length e)∧w'.cell? ⟨wr.heap.size,0,none⟩ = some (.int .i64 4)∧w'.cell? ⟨wr.heap.size,1,none⟩ = some (.slice (some a) 2 c1)∧w'.cell? a=some (.int .i64 X.kind)∧w'.cell? ⟨a.block,a.off+1,none⟩ = some (.slice B1 X.args.length d1)∧w'.cell? ⟨a.block,a.off+2,none⟩ = some (.int .i64 Y.kind)∧w'.cell? ⟨a.block,a.off+2+1,none⟩ = some (.slice B2 Y.args.length d2))
           (first | with_reducible exact HAR.out _ QD.out | with_reducible exact HAR.out _ T5.out)
           ((go_at_call 71
             have P5:=refSame_any 1000 Y t _ _ R.drew (by omega) (by omega) (Typ.below (Typ.turn HY.out QD.out)) (Typ.below (Typ.turn HR.out.typAt QD.out)) (by have:=HR.out.hn; omega)
             (with_reducible refine P5.mono ?_)
             rintro e w5 ⟨rfl,r5⟩
             clear P5
             have T5:=Lib.hid (QD.out.trans (tCa g r5))
             have K5:=Lib.hid (Deck.call (Deck.drewd HR.out.deck) r5)))
         have T5F:=Lib.hid T5.out
         have H5:=Lib.hid (HR.out.next T5.out K5.out)
         have HX5:=Lib.hid (Typ.turn HX.out T5.out)
         have HAR5:=Lib.hid fun (w':World) (h:Turn (Pair2 g (w.heap.size+1)) w5 w')=>HARP.out w' (T5F.out.pair.trans h)
         have hWR:W.heap.size≤w5.heap.size:=H5.out.turn.size
         have bV:(varTm (j:Int)).bulk≤10:=by show (2:Nat)≤10; decide
         have hYt:=(eqb_iff Y t).1 HQ.out
         have HYT:=Lib.hid hYt
         clear hYt T5
         go_wp2_with fail
         have QD:=Lib.hid (Turn.pair (q:=w.heap.size+1) (tDr g w5))
         have HSK:=Lib.hid fun (w':World) (h:Turn (Pair2 g (w.heap.size+1)) w5 w')=>HAR5.out w' h
         obtain ⟨q0,q1,q2,q3,q4,q5,q6,q7⟩:=HSK.out w5 (Turn.refl _ _)
         go_region_held3 (fun w'=>w'.cell? ⟨w.heap.size,0,none⟩ = some (.int .i64 t.kind)∧w'.cell? ⟨w.heap.size,1,none⟩ = some (.slice B t.args.length e)∧w'.cell? ⟨wr.heap.size,0,none⟩ = some (.int .i64 4)∧w'.cell? ⟨wr.heap.size,1,none⟩ = some (.slice (some a) 2 c1)∧w'.cell? a=some (.int .i64 X.kind)∧w'.cell? ⟨a.block,a.off+1,none⟩ = some (.slice B1 X.args.length d1)∧w'.cell? ⟨a.block,a.off+2,none⟩ = some (.int .i64 Y.kind)∧w'.cell? ⟨a.block,a.off+2+1,none⟩ = some (.slice B2 Y.args.length d2))
           (first | with_reducible exact HSK.out _ QD.out | with_reducible exact HSK.out _ Q6.out | with_reducible exact HSK.out _ Q7.out | with_reducible exact HSK.out _ QA7.out | with_reducible exact HSK.out _ Q8.out | with_reducible exact HSK.out _ QF.out)
           (first
     | (go_at_call 67
        have P8:=n_call 3 (bulk_2 bV b7) (tm_sl2 (var_now w7 (j:Int)) (Trm.below (Trm.turn X7.out (tRf g w7) hWz)))
        (with_reducible refine P8.mono ?_)
        rintro e w8 ⟨y8,v8,h8,rfl,t8,r8⟩
        clear P8
        have T8:=Lib.hid ((T7.out.trans (tAl g _ (Obj.cells #[.int .i64 1,.int .i64 j,.int .i64 0,.slice none 0 0,.slice none 0 0,.int .i64 y7.kind,.int .i64 y7.index,.int .i64 y7.type.kind,.slice B7 y7.type.args.length e7,.slice A7 y7.args.length c7] 42))).trans (tCa g r8))
        obtain ⟨B8,e8,A8,c8,rfl,_⟩:=IsTm.form t8
        have X8:=Lib.hid (show Trm W.heap.size w8 y8 (.agg #[.int .i64 y8.kind,.int .i64 y8.index,.int .i64 y8.type.kind,.slice B8 y8.type.args.length e8,.slice A8 y8.args.length c8]) from Trm.mono t8 (Nat.le_trans hWR ((T7.out.trans (tAl g _ (Obj.cells #[.int .i64 1,.int .i64 j,.int .i64 0,.slice none 0 0,.slice none 0 0,.int .i64 y7.kind,.int .i64 y7.index,.int .i64 y7.type.kind,.slice B7 y7.type.args.length e7,.slice A7 y7.args.length c7] 42)))).size))
        have U8:=Lib.hid ((tAl g _ (Obj.cells #[.int .i64 1,.int .i64 j,.int .i64 0,.slice none 0 0,.slice none 0 0,.int .i64 y7.kind,.int .i64 y7.index,.int .i64 y7.type.kind,.slice B7 y7.type.args.length e7,.slice A7 y7.args.length c7] 42)).trans (tCa g r8))
        have K8:=Lib.hid (Deck.call (Deck.box K7.out (Obj.cells #[.int .i64 1,.int .i64 j,.int .i64 0,.slice none 0 0,.slice none 0 0,.int .i64 y7.kind,.int .i64 y7.index,.int .i64 y7.type.kind,.slice B7 y7.type.args.length e7,.slice A7 y7.args.length c7] 42)) r8)
        obtain ⟨_,_,_,_,_,f0,f1,f2,f3,f4⟩:=(H5.out.result T8.out).facts5
        have E8:=Lib.hid h8
        clear t8 r8 h8
        have Q8:=Lib.hid (Turn.pair (q:=w.heap.size+1) T8.out)
        have QF:=Lib.hid (Turn.trans Q8.out (turn_set5 (g:=g) w8 (w.heap.size+1) (.int .i64 y8.kind) (.int .i64 y8.index) (.int .i64 y8.type.kind) (.slice B8 y8.type.args.length e8) (.slice A8 y8.args.length c8))))
     | (go_at_call 16
        have P7:=H5.out.term hdp (Ctx.turn H5.out.ctxAt T6.out) (Typ.turn HX5.out T6.out) K6.out HOKX.out (by omega) (by have:=nodes_pos t; omega)
        (with_reducible refine P7.mono ?_)
        rintro e w7 ⟨y7,v7,rfl,m7,t7,k7,u7⟩
        clear P7
        have T7:=Lib.hid (T6.out.trans (u7))
        obtain ⟨B7,e7,A7,c7,rfl,_⟩:=IsTm.form t7
        have X7:=Lib.hid (show Trm W.heap.size w7 y7 (.agg #[.int .i64 y7.kind,.int .i64 y7.index,.int .i64 y7.type.kind,.slice B7 y7.type.args.length e7,.slice A7 y7.args.length c7]) from Trm.mono t7 (Nat.le_trans hWR (T6.out).size))
        have M7:=Lib.hid m7
        have b7:y7.bulk≤12000:=m7.bulk_le (bdN_le _ (by omega))
        have U7:=Lib.hid u7
        have K7:=Lib.hid k7
        clear m7 t7 k7 u7
        have Q7:=Lib.hid (Turn.pair (q:=w.heap.size+1) T7.out)
        have QA7:=Lib.hid (Turn.pair (q:=w.heap.size+1) (T7.out.trans (tAl g _ (Obj.cells #[.int .i64 1,.int .i64 j,.int .i64 0,.slice none 0 0,.slice none 0 0,.int .i64 y7.kind,.int .i64 y7.index,.int .i64 y7.type.kind,.slice B7 y7.type.args.length e7,.slice A7 y7.args.length c7] 42)))))
     | (go_at_call 51
        have P6:=var_any (j:Int) w5.drew
        (with_reducible refine P6.mono ?_)
        rintro e w6 ⟨rfl,r6⟩
        clear P6
        have T6:=Lib.hid ((tDr g w5).trans (tCa g r6))
        have K6:=Lib.hid (Deck.call (Deck.drewd H5.out.deck) r6)
        have U6:=Lib.hid (tCa g r6)
        clear r6
        have Q6:=Lib.hid (Turn.pair (q:=w.heap.size+1) T6.out)))
         go_wp2_with fail
         obtain ⟨z0,z1,z2,z3,z4⟩:=((H5.out.result T8.out).set5 (.int .i64 (Tm.kind y8)) (.int .i64 (Tm.index y8)) (.int .i64 (Tm.type y8).kind) (.slice B8 (Tm.type y8).args.length e8) (.slice A8 (Tm.args y8).length c8)).cells5
         refine HRET.out _ _ (bodyPost_ret (v:=.agg #[.int .i64 (Tm.kind y8),.int .i64 (Tm.index y8),.int .i64 (Tm.type y8).kind,.slice B8 (Tm.type y8).args.length e8,.slice A8 (Tm.args y8).length c8]) (by simp [results,Tryz.results16,go_sem,z0,z1,z2,z3,z4]) rfl ?_)
         exact term_end H5.out.box (H5.out.turn.trans T8.out) K8.out (by rw [show d.toNat=(d - 1).toNat+1 by omega]; rw [E8.out]; exact way_given (s:=X) (by rw [← HYT.out]; exact HU.out.2.2) (by omega) M7.out) X8.out (Nat.le_refl _)
       | false=>
         have HQ:=Lib.hid hq
         go_region_held3 (fun w'=>w'.cell? ⟨w.heap.size,0,none⟩ = some (.int .i64 t.kind)∧w'.cell? ⟨w.heap.size,1,none⟩ = some (.slice B t.args.length e)∧w'.cell? ⟨wr.heap.size,0,none⟩ = some (.int .i64 4)∧w'.cell? ⟨wr.heap.size,1,none⟩ = some (.slice (some a) 2 c1)∧w'.cell? a=some (.int .i64 X.kind)∧w'.cell? ⟨a.block,a.off+1,none⟩ = some (.slice B1 X.args.length d1)∧w'.cell? ⟨a.block,a.off+2,none⟩ = some (.int .i64 Y.kind)∧w'.cell? ⟨a.block,a.off+2+1,none⟩ = some (.slice B2 Y.args.length d2))
           (first | with_reducible exact HAR.out _ QD.out | with_reducible exact HAR.out _ T5.out)
           ((go_at_call 71
             have P5:=refSame_any 1000 Y t _ _ R.drew (by omega) (by omega) (Typ.below (Typ.turn HY.out QD.out)) (Typ.below (Typ.turn HR.out.typAt QD.out)) (by have:=HR.out.hn; omega)
             (with_reducible refine P5.mono ?_)
             rintro e w5 ⟨rfl,r5⟩
             clear P5
             have T5:=Lib.hid (QD.out.trans (tCa g r5))
             have K5:=Lib.hid (Deck.call (Deck.drewd HR.out.deck) r5)))
         go_wp2_with fail
         exact ⟨⟨j+1,by omega,by go_num,K5.out,TRR.out.trans T5.out⟩,by simp [intOf]; omega⟩
     · have e4:(U.kind == 4)=false:=by simpa using hk
       obtain ⟨k0,k1,_,_⟩:=kR.facts2
       clear hk bR zR ex
       go_quiet (fail)
       go_wp2_with fail
       exact ⟨⟨j+1,by omega,by go_num,HR.out.deck.grown (row:=none) (only_drewN (only_refl _ _) _) (by simp),TRR.out.trans (Turn.grown (only_drewN (only_refl R none) _) (by simp))⟩,by simp [intOf]; omega⟩
   · go_wp2_with fail
     exact HNORM.out _ _ _ _ _ _ _ _ _ _ _ _ _ _ _ _ _ _ _ _ _ _ _ _ _ _ _ _ _ _ _ _ _ _ _ _ _ _ _ _ _ HWR.out.deck TWR.out
end Go.Proofs.YtipfnkajdooiiaaGreatDoor
