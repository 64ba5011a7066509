/- Forms of terms, by the table of the kinds. -/
import Derived.Test.YtipfnkajdooiiaaGreatDoorQMakeT
import Derived.Test.YtipfnkajdooiiaaGreatDoorQPackSize
import Derived.Deep.QuietTactic
namespace Go.Proofs.YtipfnkajdooiiaaGreatDoor
open Go.RowKit

/-- How many parts the kinds have. -/
def arities:List Nat:=[0,0,1,2,0,1,3,0,2,3,2,1,1,0]
/-- The table stands where the program laid it. -/
def Tab (w:World):Prop:=∀ i u,arities[i]? = some u→w.cell? ⟨1,i,none⟩ = some (.int .i64 (u:Nat))
theorem Tab.lt {w:World} (h:Tab w):1 < w.heap.size:=World.block_lt_of_cell? w _ (h 0 0 rfl)
theorem Tab.below {w w':World} {B:Nat} (h:Tab w) (hb:Below B w w') (hB:1 < B):Tab w':=fun i u hu=>(hb.cell hB).trans (h i u hu)
theorem Tab.after {w w':World} (h:Tab w) (hb:Below w.heap.size w w'):Tab w':=h.below hb h.lt
theorem Tab.alloc {w:World} (h:Tab w) (o:Obj):Tab (w.alloc o):=h.after ((Below.refl _ _).alloc (Nat.le_refl _) o)

theorem nodes_args (T:Ty):T.args.length≤T.nodes:=by
 cases T
 have:=nodesAll_len
 simp only [Ty.args,Ty.nodes]
 have:=nodesAll_len (‹List Ty›)
 omega

/-- A node is as it must be. -/
def Tm.formed (t:Tm):Bool:=decide (1≤t.kind) && decide (t.kind≤13) && (t.args.length == arities.getD t.kind.toNat 0) && decide (0≤t.index) && (t.kind == 1 || t.index == 0) &&
 (if t.kind=2∨t.kind=6∨t.kind=9 then t.type.err == 0 else t.type.kind == 0 && t.type.args.length == 0)

theorem below_box (w:World) (o:Obj):Below w.heap.size w (w.alloc o):=(Below.refl _ _).alloc (Nat.le_refl _) o
theorem below_drewN {B:Nat} {a w:World} (h:Below B a w) (n:Nat):Below B a (w.drewN n):=h.trans ⟨rfl,rfl,rfl,Nat.le_refl _,fun _ _=>rfl⟩

set_option maxRecDepth 100000 in
set_option maxHeartbeats 4000000 in
theorem formedT_1 (i:Int) (T:Ty) (l:List Tm) (B A:Option Addr) (d c:Nat) (w:World) (_hT:IsTy (· < w.heap.size) w T (.agg #[.int .i64 T.kind,.slice B T.args.length d])) (htab:Tab w)
   (_hl:l.length≤1000000) (_hn:T.nodes≤400000):Calls Tryz.prog 194 #[.agg #[.int .i64 1,.int .i64 i,.int .i64 T.kind,.slice B T.args.length d,.slice A l.length c]] w
     fun e w'=>e=.returned (.bool (Tm.mk 1 i T l).formed)∧Below w.heap.size w w':=by
 have c0:=fun o=>htab.alloc o 1 0 rfl
 have hTl:=nodes_args T
 by_cases h1:l.length=0
 · have e1:((l.length:Int) != (0:Int))=false:=by simp [h1]
   have H1:=Lib.hid h1
   clear h1
   by_cases h2:i<0
   · have e2:decide (i<0)=true:=by simp [h2]
     have hf:(Tm.mk 1 i T l).formed=false:=by simp [Tm.formed,Tm.kind,Tm.index,Tm.type,Tm.args,arities,H1.out,show ¬ 0≤i from by omega]
     have HF:=Lib.hid hf
     clear hf
     go_enter Tryz.func194,Tryz.ntmps194
     go_wp2_with fail
     go_quiet (fail)
     go_wp2_with fail
     go_ret
     exact ⟨ret_bool (by rw [HF.out]),below_drewN (below_box _ _) _⟩
   · have e2:decide (i<0)=false:=by simp [h2]
     have h2':0≤i:=by omega
     by_cases h3:0<i
     · have e3:decide (0<i)=true:=by simp [h3]
       by_cases h5:T.kind=0
       · have e5:(T.kind == 0)=true:=by simp [h5]
         by_cases h6:T.args.length=0
         · have e6:((T.args.length:Int) == 0)=true:=by simp [h6]
           have hf:(Tm.mk 1 i T l).formed=true:=by simp [Tm.formed,Tm.kind,Tm.index,Tm.type,Tm.args,arities,H1.out,h2',h5,h6]
           have HF:=Lib.hid hf
           clear hf h5 h6
           go_enter Tryz.func194,Tryz.ntmps194
           go_wp2_with fail
           go_quiet (fail)
           go_wp2_with fail
           go_ret
           exact ⟨ret_bool (by rw [HF.out]),below_drewN (below_box _ _) _⟩
         · have e6:((T.args.length:Int) == 0)=false:=by rw [beq_eq_false_iff_ne]; omega
           have hf:(Tm.mk 1 i T l).formed=false:=by simp [Tm.formed,Tm.kind,Tm.index,Tm.type,Tm.args,arities,H1.out,h6]
           have HF:=Lib.hid hf
           clear hf h5 h6
           go_enter Tryz.func194,Tryz.ntmps194
           go_wp2_with fail
           go_quiet (fail)
           go_wp2_with fail
           go_ret
           exact ⟨ret_bool (by rw [HF.out]),below_drewN (below_box _ _) _⟩
       · have e5:(T.kind == 0)=false:=by simp [h5]
         have hf:(Tm.mk 1 i T l).formed=false:=by simp [Tm.formed,Tm.kind,Tm.index,Tm.type,Tm.args,arities,H1.out,h5]
         have HF:=Lib.hid hf
         clear hf h5
         go_enter Tryz.func194,Tryz.ntmps194
         go_wp2_with fail
         go_quiet (fail)
         go_wp2_with fail
         go_ret
         exact ⟨ret_bool (by rw [HF.out]),below_drewN (below_box _ _) _⟩
     · have e3:decide (0<i)=false:=by simp [h3]
       by_cases h5:T.kind=0
       · have e5:(T.kind == 0)=true:=by simp [h5]
         by_cases h6:T.args.length=0
         · have e6:((T.args.length:Int) == 0)=true:=by simp [h6]
           have hf:(Tm.mk 1 i T l).formed=true:=by simp [Tm.formed,Tm.kind,Tm.index,Tm.type,Tm.args,arities,H1.out,h2',h5,h6]
           have HF:=Lib.hid hf
           clear hf h5 h6
           go_enter Tryz.func194,Tryz.ntmps194
           go_wp2_with fail
           go_quiet (fail)
           go_wp2_with fail
           go_ret
           exact ⟨ret_bool (by rw [HF.out]),below_drewN (below_box _ _) _⟩
         · have e6:((T.args.length:Int) == 0)=false:=by rw [beq_eq_false_iff_ne]; omega
           have hf:(Tm.mk 1 i T l).formed=false:=by simp [Tm.formed,Tm.kind,Tm.index,Tm.type,Tm.args,arities,H1.out,h6]
           have HF:=Lib.hid hf
           clear hf h5 h6
           go_enter Tryz.func194,Tryz.ntmps194
           go_wp2_with fail
           go_quiet (fail)
           go_wp2_with fail
           go_ret
           exact ⟨ret_bool (by rw [HF.out]),below_drewN (below_box _ _) _⟩
       · have e5:(T.kind == 0)=false:=by simp [h5]
         have hf:(Tm.mk 1 i T l).formed=false:=by simp [Tm.formed,Tm.kind,Tm.index,Tm.type,Tm.args,arities,H1.out,h5]
         have HF:=Lib.hid hf
         clear hf h5
         go_enter Tryz.func194,Tryz.ntmps194
         go_wp2_with fail
         go_quiet (fail)
         go_wp2_with fail
         go_ret
         exact ⟨ret_bool (by rw [HF.out]),below_drewN (below_box _ _) _⟩
 · have e1:((l.length:Int) != (0:Int))=true:=by rw [bne_iff_ne]; omega
   have hf:(Tm.mk 1 i T l).formed=false:=by simp [Tm.formed,Tm.kind,Tm.index,Tm.type,Tm.args,arities,h1]
   have HF:=Lib.hid hf
   clear hf h1
   go_enter Tryz.func194,Tryz.ntmps194
   go_wp2_with fail
   go_quiet (fail)
   go_wp2_with fail
   go_ret
   exact ⟨ret_bool (by rw [HF.out]),below_drewN (below_box _ _) _⟩

set_option maxRecDepth 100000 in
set_option maxHeartbeats 4000000 in
theorem formedT_2 (i:Int) (T:Ty) (l:List Tm) (B A:Option Addr) (d c:Nat) (w:World) (hT:IsTy (· < w.heap.size) w T (.agg #[.int .i64 T.kind,.slice B T.args.length d])) (htab:Tab w)
   (_hl:l.length≤1000000) (hn:T.nodes≤400000):Calls Tryz.prog 194 #[.agg #[.int .i64 2,.int .i64 i,.int .i64 T.kind,.slice B T.args.length d,.slice A l.length c]] w
     fun e w'=>e=.returned (.bool (Tm.mk 2 i T l).formed)∧Below w.heap.size w w':=by
 have c0:=fun o=>htab.alloc o 2 1 rfl
 have hTl:=nodes_args T
 by_cases h1:l.length=1
 · have e1:((l.length:Int) != (1:Int))=false:=by simp [h1]
   have H1:=Lib.hid h1
   clear h1
   by_cases h2:i<0
   · have e2:decide (i<0)=true:=by simp [h2]
     have hf:(Tm.mk 2 i T l).formed=false:=by simp [Tm.formed,Tm.kind,Tm.index,Tm.type,Tm.args,arities,H1.out,show ¬ 0≤i from by omega]
     have HF:=Lib.hid hf
     clear hf
     go_enter Tryz.func194,Tryz.ntmps194
     go_wp2_with fail
     go_quiet (fail)
     go_wp2_with fail
     go_ret
     exact ⟨ret_bool (by rw [HF.out]),below_drewN (below_box _ _) _⟩
   · have e2:decide (i<0)=false:=by simp [h2]
     have h2':0≤i:=by omega
     by_cases h3:0<i
     · have e3:decide (0<i)=true:=by simp [h3]
       have hf:(Tm.mk 2 i T l).formed=false:=by simp [Tm.formed,Tm.kind,Tm.index,Tm.type,Tm.args,arities,H1.out,show ¬ i=0 from by omega]
       have HF:=Lib.hid hf
       clear hf
       go_enter Tryz.func194,Tryz.ntmps194
       go_wp2_with fail
       go_quiet (fail)
       go_wp2_with fail
       go_ret
       exact ⟨ret_bool (by rw [HF.out]),below_drewN (below_box _ _) _⟩
     · have e3:decide (0<i)=false:=by simp [h3]
       have h4:i=0:=by omega
       subst h4
       go_enter Tryz.func194,Tryz.ntmps194
       go_wp2_with fail
       go_quiet (fail)
       go_wp2_with fail
       refine (check_any T _ _ hn (IsTy.boxed hT (below_drewN (below_box _ _) _))).mono ?_
       rintro e w' ⟨rfl,hb⟩
       go_wp2_with fail
       go_ret
       exact ⟨ret_bool (by simp [Tm.formed,Tm.kind,Tm.index,Tm.type,Tm.args,arities,H1.out]),(below_drewN (below_box _ _) _).trans (hb.mono (by simp [World.drewN]))⟩
 · have e1:((l.length:Int) != (1:Int))=true:=by rw [bne_iff_ne]; omega
   have hf:(Tm.mk 2 i T l).formed=false:=by simp [Tm.formed,Tm.kind,Tm.index,Tm.type,Tm.args,arities,h1]
   have HF:=Lib.hid hf
   clear hf h1
   go_enter Tryz.func194,Tryz.ntmps194
   go_wp2_with fail
   go_quiet (fail)
   go_wp2_with fail
   go_ret
   exact ⟨ret_bool (by rw [HF.out]),below_drewN (below_box _ _) _⟩

set_option maxRecDepth 100000 in
set_option maxHeartbeats 4000000 in
theorem formedT_3 (i:Int) (T:Ty) (l:List Tm) (B A:Option Addr) (d c:Nat) (w:World) (_hT:IsTy (· < w.heap.size) w T (.agg #[.int .i64 T.kind,.slice B T.args.length d])) (htab:Tab w)
   (_hl:l.length≤1000000) (_hn:T.nodes≤400000):Calls Tryz.prog 194 #[.agg #[.int .i64 3,.int .i64 i,.int .i64 T.kind,.slice B T.args.length d,.slice A l.length c]] w
     fun e w'=>e=.returned (.bool (Tm.mk 3 i T l).formed)∧Below w.heap.size w w':=by
 have c0:=fun o=>htab.alloc o 3 2 rfl
 have hTl:=nodes_args T
 by_cases h1:l.length=2
 · have e1:((l.length:Int) != (2:Int))=false:=by simp [h1]
   have H1:=Lib.hid h1
   clear h1
   by_cases h2:i<0
   · have e2:decide (i<0)=true:=by simp [h2]
     have hf:(Tm.mk 3 i T l).formed=false:=by simp [Tm.formed,Tm.kind,Tm.index,Tm.type,Tm.args,arities,H1.out,show ¬ 0≤i from by omega]
     have HF:=Lib.hid hf
     clear hf
     go_enter Tryz.func194,Tryz.ntmps194
     go_wp2_with fail
     go_quiet (fail)
     go_wp2_with fail
     go_ret
     exact ⟨ret_bool (by rw [HF.out]),below_drewN (below_box _ _) _⟩
   · have e2:decide (i<0)=false:=by simp [h2]
     have h2':0≤i:=by omega
     by_cases h3:0<i
     · have e3:decide (0<i)=true:=by simp [h3]
       have hf:(Tm.mk 3 i T l).formed=false:=by simp [Tm.formed,Tm.kind,Tm.index,Tm.type,Tm.args,arities,H1.out,show ¬ i=0 from by omega]
       have HF:=Lib.hid hf
       clear hf
       go_enter Tryz.func194,Tryz.ntmps194
       go_wp2_with fail
       go_quiet (fail)
       go_wp2_with fail
       go_ret
       exact ⟨ret_bool (by rw [HF.out]),below_drewN (below_box _ _) _⟩
     · have e3:decide (0<i)=false:=by simp [h3]
       have h4:i=0:=by omega
       subst h4
       by_cases h5:T.kind=0
       · have e5:(T.kind == 0)=true:=by simp [h5]
         by_cases h6:T.args.length=0
         · have e6:((T.args.length:Int) == 0)=true:=by simp [h6]
           have hf:(Tm.mk 3 0 T l).formed=true:=by simp [Tm.formed,Tm.kind,Tm.index,Tm.type,Tm.args,arities,H1.out,h5,h6]
           have HF:=Lib.hid hf
           clear hf h5 h6
           go_enter Tryz.func194,Tryz.ntmps194
           go_wp2_with fail
           go_quiet (fail)
           go_wp2_with fail
           go_ret
           exact ⟨ret_bool (by rw [HF.out]),below_drewN (below_box _ _) _⟩
         · have e6:((T.args.length:Int) == 0)=false:=by rw [beq_eq_false_iff_ne]; omega
           have hf:(Tm.mk 3 0 T l).formed=false:=by simp [Tm.formed,Tm.kind,Tm.index,Tm.type,Tm.args,arities,H1.out,h6]
           have HF:=Lib.hid hf
           clear hf h5 h6
           go_enter Tryz.func194,Tryz.ntmps194
           go_wp2_with fail
           go_quiet (fail)
           go_wp2_with fail
           go_ret
           exact ⟨ret_bool (by rw [HF.out]),below_drewN (below_box _ _) _⟩
       · have e5:(T.kind == 0)=false:=by simp [h5]
         have hf:(Tm.mk 3 0 T l).formed=false:=by simp [Tm.formed,Tm.kind,Tm.index,Tm.type,Tm.args,arities,H1.out,h5]
         have HF:=Lib.hid hf
         clear hf h5
         go_enter Tryz.func194,Tryz.ntmps194
         go_wp2_with fail
         go_quiet (fail)
         go_wp2_with fail
         go_ret
         exact ⟨ret_bool (by rw [HF.out]),below_drewN (below_box _ _) _⟩
 · have e1:((l.length:Int) != (2:Int))=true:=by rw [bne_iff_ne]; omega
   have hf:(Tm.mk 3 i T l).formed=false:=by simp [Tm.formed,Tm.kind,Tm.index,Tm.type,Tm.args,arities,h1]
   have HF:=Lib.hid hf
   clear hf h1
   go_enter Tryz.func194,Tryz.ntmps194
   go_wp2_with fail
   go_quiet (fail)
   go_wp2_with fail
   go_ret
   exact ⟨ret_bool (by rw [HF.out]),below_drewN (below_box _ _) _⟩

set_option maxRecDepth 100000 in
set_option maxHeartbeats 4000000 in
theorem formedT_4 (i:Int) (T:Ty) (l:List Tm) (B A:Option Addr) (d c:Nat) (w:World) (_hT:IsTy (· < w.heap.size) w T (.agg #[.int .i64 T.kind,.slice B T.args.length d])) (htab:Tab w)
   (_hl:l.length≤1000000) (_hn:T.nodes≤400000):Calls Tryz.prog 194 #[.agg #[.int .i64 4,.int .i64 i,.int .i64 T.kind,.slice B T.args.length d,.slice A l.length c]] w
     fun e w'=>e=.returned (.bool (Tm.mk 4 i T l).formed)∧Below w.heap.size w w':=by
 have c0:=fun o=>htab.alloc o 4 0 rfl
 have hTl:=nodes_args T
 by_cases h1:l.length=0
 · have e1:((l.length:Int) != (0:Int))=false:=by simp [h1]
   have H1:=Lib.hid h1
   clear h1
   by_cases h2:i<0
   · have e2:decide (i<0)=true:=by simp [h2]
     have hf:(Tm.mk 4 i T l).formed=false:=by simp [Tm.formed,Tm.kind,Tm.index,Tm.type,Tm.args,arities,H1.out,show ¬ 0≤i from by omega]
     have HF:=Lib.hid hf
     clear hf
     go_enter Tryz.func194,Tryz.ntmps194
     go_wp2_with fail
     go_quiet (fail)
     go_wp2_with fail
     go_ret
     exact ⟨ret_bool (by rw [HF.out]),below_drewN (below_box _ _) _⟩
   · have e2:decide (i<0)=false:=by simp [h2]
     have h2':0≤i:=by omega
     by_cases h3:0<i
     · have e3:decide (0<i)=true:=by simp [h3]
       have hf:(Tm.mk 4 i T l).formed=false:=by simp [Tm.formed,Tm.kind,Tm.index,Tm.type,Tm.args,arities,H1.out,show ¬ i=0 from by omega]
       have HF:=Lib.hid hf
       clear hf
       go_enter Tryz.func194,Tryz.ntmps194
       go_wp2_with fail
       go_quiet (fail)
       go_wp2_with fail
       go_ret
       exact ⟨ret_bool (by rw [HF.out]),below_drewN (below_box _ _) _⟩
     · have e3:decide (0<i)=false:=by simp [h3]
       have h4:i=0:=by omega
       subst h4
       by_cases h5:T.kind=0
       · have e5:(T.kind == 0)=true:=by simp [h5]
         by_cases h6:T.args.length=0
         · have e6:((T.args.length:Int) == 0)=true:=by simp [h6]
           have hf:(Tm.mk 4 0 T l).formed=true:=by simp [Tm.formed,Tm.kind,Tm.index,Tm.type,Tm.args,arities,H1.out,h5,h6]
           have HF:=Lib.hid hf
           clear hf h5 h6
           go_enter Tryz.func194,Tryz.ntmps194
           go_wp2_with fail
           go_quiet (fail)
           go_wp2_with fail
           go_ret
           exact ⟨ret_bool (by rw [HF.out]),below_drewN (below_box _ _) _⟩
         · have e6:((T.args.length:Int) == 0)=false:=by rw [beq_eq_false_iff_ne]; omega
           have hf:(Tm.mk 4 0 T l).formed=false:=by simp [Tm.formed,Tm.kind,Tm.index,Tm.type,Tm.args,arities,H1.out,h6]
           have HF:=Lib.hid hf
           clear hf h5 h6
           go_enter Tryz.func194,Tryz.ntmps194
           go_wp2_with fail
           go_quiet (fail)
           go_wp2_with fail
           go_ret
           exact ⟨ret_bool (by rw [HF.out]),below_drewN (below_box _ _) _⟩
       · have e5:(T.kind == 0)=false:=by simp [h5]
         have hf:(Tm.mk 4 0 T l).formed=false:=by simp [Tm.formed,Tm.kind,Tm.index,Tm.type,Tm.args,arities,H1.out,h5]
         have HF:=Lib.hid hf
         clear hf h5
         go_enter Tryz.func194,Tryz.ntmps194
         go_wp2_with fail
         go_quiet (fail)
         go_wp2_with fail
         go_ret
         exact ⟨ret_bool (by rw [HF.out]),below_drewN (below_box _ _) _⟩
 · have e1:((l.length:Int) != (0:Int))=true:=by rw [bne_iff_ne]; omega
   have hf:(Tm.mk 4 i T l).formed=false:=by simp [Tm.formed,Tm.kind,Tm.index,Tm.type,Tm.args,arities,h1]
   have HF:=Lib.hid hf
   clear hf h1
   go_enter Tryz.func194,Tryz.ntmps194
   go_wp2_with fail
   go_quiet (fail)
   go_wp2_with fail
   go_ret
   exact ⟨ret_bool (by rw [HF.out]),below_drewN (below_box _ _) _⟩

set_option maxRecDepth 100000 in
set_option maxHeartbeats 4000000 in
theorem formedT_5 (i:Int) (T:Ty) (l:List Tm) (B A:Option Addr) (d c:Nat) (w:World) (_hT:IsTy (· < w.heap.size) w T (.agg #[.int .i64 T.kind,.slice B T.args.length d])) (htab:Tab w)
   (_hl:l.length≤1000000) (_hn:T.nodes≤400000):Calls Tryz.prog 194 #[.agg #[.int .i64 5,.int .i64 i,.int .i64 T.kind,.slice B T.args.length d,.slice A l.length c]] w
     fun e w'=>e=.returned (.bool (Tm.mk 5 i T l).formed)∧Below w.heap.size w w':=by
 have c0:=fun o=>htab.alloc o 5 1 rfl
 have hTl:=nodes_args T
 by_cases h1:l.length=1
 · have e1:((l.length:Int) != (1:Int))=false:=by simp [h1]
   have H1:=Lib.hid h1
   clear h1
   by_cases h2:i<0
   · have e2:decide (i<0)=true:=by simp [h2]
     have hf:(Tm.mk 5 i T l).formed=false:=by simp [Tm.formed,Tm.kind,Tm.index,Tm.type,Tm.args,arities,H1.out,show ¬ 0≤i from by omega]
     have HF:=Lib.hid hf
     clear hf
     go_enter Tryz.func194,Tryz.ntmps194
     go_wp2_with fail
     go_quiet (fail)
     go_wp2_with fail
     go_ret
     exact ⟨ret_bool (by rw [HF.out]),below_drewN (below_box _ _) _⟩
   · have e2:decide (i<0)=false:=by simp [h2]
     have h2':0≤i:=by omega
     by_cases h3:0<i
     · have e3:decide (0<i)=true:=by simp [h3]
       have hf:(Tm.mk 5 i T l).formed=false:=by simp [Tm.formed,Tm.kind,Tm.index,Tm.type,Tm.args,arities,H1.out,show ¬ i=0 from by omega]
       have HF:=Lib.hid hf
       clear hf
       go_enter Tryz.func194,Tryz.ntmps194
       go_wp2_with fail
       go_quiet (fail)
       go_wp2_with fail
       go_ret
       exact ⟨ret_bool (by rw [HF.out]),below_drewN (below_box _ _) _⟩
     · have e3:decide (0<i)=false:=by simp [h3]
       have h4:i=0:=by omega
       subst h4
       by_cases h5:T.kind=0
       · have e5:(T.kind == 0)=true:=by simp [h5]
         by_cases h6:T.args.length=0
         · have e6:((T.args.length:Int) == 0)=true:=by simp [h6]
           have hf:(Tm.mk 5 0 T l).formed=true:=by simp [Tm.formed,Tm.kind,Tm.index,Tm.type,Tm.args,arities,H1.out,h5,h6]
           have HF:=Lib.hid hf
           clear hf h5 h6
           go_enter Tryz.func194,Tryz.ntmps194
           go_wp2_with fail
           go_quiet (fail)
           go_wp2_with fail
           go_ret
           exact ⟨ret_bool (by rw [HF.out]),below_drewN (below_box _ _) _⟩
         · have e6:((T.args.length:Int) == 0)=false:=by rw [beq_eq_false_iff_ne]; omega
           have hf:(Tm.mk 5 0 T l).formed=false:=by simp [Tm.formed,Tm.kind,Tm.index,Tm.type,Tm.args,arities,H1.out,h6]
           have HF:=Lib.hid hf
           clear hf h5 h6
           go_enter Tryz.func194,Tryz.ntmps194
           go_wp2_with fail
           go_quiet (fail)
           go_wp2_with fail
           go_ret
           exact ⟨ret_bool (by rw [HF.out]),below_drewN (below_box _ _) _⟩
       · have e5:(T.kind == 0)=false:=by simp [h5]
         have hf:(Tm.mk 5 0 T l).formed=false:=by simp [Tm.formed,Tm.kind,Tm.index,Tm.type,Tm.args,arities,H1.out,h5]
         have HF:=Lib.hid hf
         clear hf h5
         go_enter Tryz.func194,Tryz.ntmps194
         go_wp2_with fail
         go_quiet (fail)
         go_wp2_with fail
         go_ret
         exact ⟨ret_bool (by rw [HF.out]),below_drewN (below_box _ _) _⟩
 · have e1:((l.length:Int) != (1:Int))=true:=by rw [bne_iff_ne]; omega
   have hf:(Tm.mk 5 i T l).formed=false:=by simp [Tm.formed,Tm.kind,Tm.index,Tm.type,Tm.args,arities,h1]
   have HF:=Lib.hid hf
   clear hf h1
   go_enter Tryz.func194,Tryz.ntmps194
   go_wp2_with fail
   go_quiet (fail)
   go_wp2_with fail
   go_ret
   exact ⟨ret_bool (by rw [HF.out]),below_drewN (below_box _ _) _⟩

set_option maxRecDepth 100000 in
set_option maxHeartbeats 4000000 in
theorem formedT_6 (i:Int) (T:Ty) (l:List Tm) (B A:Option Addr) (d c:Nat) (w:World) (hT:IsTy (· < w.heap.size) w T (.agg #[.int .i64 T.kind,.slice B T.args.length d])) (htab:Tab w)
   (_hl:l.length≤1000000) (hn:T.nodes≤400000):Calls Tryz.prog 194 #[.agg #[.int .i64 6,.int .i64 i,.int .i64 T.kind,.slice B T.args.length d,.slice A l.length c]] w
     fun e w'=>e=.returned (.bool (Tm.mk 6 i T l).formed)∧Below w.heap.size w w':=by
 have c0:=fun o=>htab.alloc o 6 3 rfl
 have hTl:=nodes_args T
 by_cases h1:l.length=3
 · have e1:((l.length:Int) != (3:Int))=false:=by simp [h1]
   have H1:=Lib.hid h1
   clear h1
   by_cases h2:i<0
   · have e2:decide (i<0)=true:=by simp [h2]
     have hf:(Tm.mk 6 i T l).formed=false:=by simp [Tm.formed,Tm.kind,Tm.index,Tm.type,Tm.args,arities,H1.out,show ¬ 0≤i from by omega]
     have HF:=Lib.hid hf
     clear hf
     go_enter Tryz.func194,Tryz.ntmps194
     go_wp2_with fail
     go_quiet (fail)
     go_wp2_with fail
     go_ret
     exact ⟨ret_bool (by rw [HF.out]),below_drewN (below_box _ _) _⟩
   · have e2:decide (i<0)=false:=by simp [h2]
     have h2':0≤i:=by omega
     by_cases h3:0<i
     · have e3:decide (0<i)=true:=by simp [h3]
       have hf:(Tm.mk 6 i T l).formed=false:=by simp [Tm.formed,Tm.kind,Tm.index,Tm.type,Tm.args,arities,H1.out,show ¬ i=0 from by omega]
       have HF:=Lib.hid hf
       clear hf
       go_enter Tryz.func194,Tryz.ntmps194
       go_wp2_with fail
       go_quiet (fail)
       go_wp2_with fail
       go_ret
       exact ⟨ret_bool (by rw [HF.out]),below_drewN (below_box _ _) _⟩
     · have e3:decide (0<i)=false:=by simp [h3]
       have h4:i=0:=by omega
       subst h4
       go_enter Tryz.func194,Tryz.ntmps194
       go_wp2_with fail
       go_quiet (fail)
       go_wp2_with fail
       refine (check_any T _ _ hn (IsTy.boxed hT (below_drewN (below_box _ _) _))).mono ?_
       rintro e w' ⟨rfl,hb⟩
       go_wp2_with fail
       go_ret
       exact ⟨ret_bool (by simp [Tm.formed,Tm.kind,Tm.index,Tm.type,Tm.args,arities,H1.out]),(below_drewN (below_box _ _) _).trans (hb.mono (by simp [World.drewN]))⟩
 · have e1:((l.length:Int) != (3:Int))=true:=by rw [bne_iff_ne]; omega
   have hf:(Tm.mk 6 i T l).formed=false:=by simp [Tm.formed,Tm.kind,Tm.index,Tm.type,Tm.args,arities,h1]
   have HF:=Lib.hid hf
   clear hf h1
   go_enter Tryz.func194,Tryz.ntmps194
   go_wp2_with fail
   go_quiet (fail)
   go_wp2_with fail
   go_ret
   exact ⟨ret_bool (by rw [HF.out]),below_drewN (below_box _ _) _⟩

set_option maxRecDepth 100000 in
set_option maxHeartbeats 4000000 in
theorem formedT_7 (i:Int) (T:Ty) (l:List Tm) (B A:Option Addr) (d c:Nat) (w:World) (_hT:IsTy (· < w.heap.size) w T (.agg #[.int .i64 T.kind,.slice B T.args.length d])) (htab:Tab w)
   (_hl:l.length≤1000000) (_hn:T.nodes≤400000):Calls Tryz.prog 194 #[.agg #[.int .i64 7,.int .i64 i,.int .i64 T.kind,.slice B T.args.length d,.slice A l.length c]] w
     fun e w'=>e=.returned (.bool (Tm.mk 7 i T l).formed)∧Below w.heap.size w w':=by
 have c0:=fun o=>htab.alloc o 7 0 rfl
 have hTl:=nodes_args T
 by_cases h1:l.length=0
 · have e1:((l.length:Int) != (0:Int))=false:=by simp [h1]
   have H1:=Lib.hid h1
   clear h1
   by_cases h2:i<0
   · have e2:decide (i<0)=true:=by simp [h2]
     have hf:(Tm.mk 7 i T l).formed=false:=by simp [Tm.formed,Tm.kind,Tm.index,Tm.type,Tm.args,arities,H1.out,show ¬ 0≤i from by omega]
     have HF:=Lib.hid hf
     clear hf
     go_enter Tryz.func194,Tryz.ntmps194
     go_wp2_with fail
     go_quiet (fail)
     go_wp2_with fail
     go_ret
     exact ⟨ret_bool (by rw [HF.out]),below_drewN (below_box _ _) _⟩
   · have e2:decide (i<0)=false:=by simp [h2]
     have h2':0≤i:=by omega
     by_cases h3:0<i
     · have e3:decide (0<i)=true:=by simp [h3]
       have hf:(Tm.mk 7 i T l).formed=false:=by simp [Tm.formed,Tm.kind,Tm.index,Tm.type,Tm.args,arities,H1.out,show ¬ i=0 from by omega]
       have HF:=Lib.hid hf
       clear hf
       go_enter Tryz.func194,Tryz.ntmps194
       go_wp2_with fail
       go_quiet (fail)
       go_wp2_with fail
       go_ret
       exact ⟨ret_bool (by rw [HF.out]),below_drewN (below_box _ _) _⟩
     · have e3:decide (0<i)=false:=by simp [h3]
       have h4:i=0:=by omega
       subst h4
       by_cases h5:T.kind=0
       · have e5:(T.kind == 0)=true:=by simp [h5]
         by_cases h6:T.args.length=0
         · have e6:((T.args.length:Int) == 0)=true:=by simp [h6]
           have hf:(Tm.mk 7 0 T l).formed=true:=by simp [Tm.formed,Tm.kind,Tm.index,Tm.type,Tm.args,arities,H1.out,h5,h6]
           have HF:=Lib.hid hf
           clear hf h5 h6
           go_enter Tryz.func194,Tryz.ntmps194
           go_wp2_with fail
           go_quiet (fail)
           go_wp2_with fail
           go_ret
           exact ⟨ret_bool (by rw [HF.out]),below_drewN (below_box _ _) _⟩
         · have e6:((T.args.length:Int) == 0)=false:=by rw [beq_eq_false_iff_ne]; omega
           have hf:(Tm.mk 7 0 T l).formed=false:=by simp [Tm.formed,Tm.kind,Tm.index,Tm.type,Tm.args,arities,H1.out,h6]
           have HF:=Lib.hid hf
           clear hf h5 h6
           go_enter Tryz.func194,Tryz.ntmps194
           go_wp2_with fail
           go_quiet (fail)
           go_wp2_with fail
           go_ret
           exact ⟨ret_bool (by rw [HF.out]),below_drewN (below_box _ _) _⟩
       · have e5:(T.kind == 0)=false:=by simp [h5]
         have hf:(Tm.mk 7 0 T l).formed=false:=by simp [Tm.formed,Tm.kind,Tm.index,Tm.type,Tm.args,arities,H1.out,h5]
         have HF:=Lib.hid hf
         clear hf h5
         go_enter Tryz.func194,Tryz.ntmps194
         go_wp2_with fail
         go_quiet (fail)
         go_wp2_with fail
         go_ret
         exact ⟨ret_bool (by rw [HF.out]),below_drewN (below_box _ _) _⟩
 · have e1:((l.length:Int) != (0:Int))=true:=by rw [bne_iff_ne]; omega
   have hf:(Tm.mk 7 i T l).formed=false:=by simp [Tm.formed,Tm.kind,Tm.index,Tm.type,Tm.args,arities,h1]
   have HF:=Lib.hid hf
   clear hf h1
   go_enter Tryz.func194,Tryz.ntmps194
   go_wp2_with fail
   go_quiet (fail)
   go_wp2_with fail
   go_ret
   exact ⟨ret_bool (by rw [HF.out]),below_drewN (below_box _ _) _⟩

set_option maxRecDepth 100000 in
set_option maxHeartbeats 4000000 in
theorem formedT_8 (i:Int) (T:Ty) (l:List Tm) (B A:Option Addr) (d c:Nat) (w:World) (_hT:IsTy (· < w.heap.size) w T (.agg #[.int .i64 T.kind,.slice B T.args.length d])) (htab:Tab w)
   (_hl:l.length≤1000000) (_hn:T.nodes≤400000):Calls Tryz.prog 194 #[.agg #[.int .i64 8,.int .i64 i,.int .i64 T.kind,.slice B T.args.length d,.slice A l.length c]] w
     fun e w'=>e=.returned (.bool (Tm.mk 8 i T l).formed)∧Below w.heap.size w w':=by
 have c0:=fun o=>htab.alloc o 8 2 rfl
 have hTl:=nodes_args T
 by_cases h1:l.length=2
 · have e1:((l.length:Int) != (2:Int))=false:=by simp [h1]
   have H1:=Lib.hid h1
   clear h1
   by_cases h2:i<0
   · have e2:decide (i<0)=true:=by simp [h2]
     have hf:(Tm.mk 8 i T l).formed=false:=by simp [Tm.formed,Tm.kind,Tm.index,Tm.type,Tm.args,arities,H1.out,show ¬ 0≤i from by omega]
     have HF:=Lib.hid hf
     clear hf
     go_enter Tryz.func194,Tryz.ntmps194
     go_wp2_with fail
     go_quiet (fail)
     go_wp2_with fail
     go_ret
     exact ⟨ret_bool (by rw [HF.out]),below_drewN (below_box _ _) _⟩
   · have e2:decide (i<0)=false:=by simp [h2]
     have h2':0≤i:=by omega
     by_cases h3:0<i
     · have e3:decide (0<i)=true:=by simp [h3]
       have hf:(Tm.mk 8 i T l).formed=false:=by simp [Tm.formed,Tm.kind,Tm.index,Tm.type,Tm.args,arities,H1.out,show ¬ i=0 from by omega]
       have HF:=Lib.hid hf
       clear hf
       go_enter Tryz.func194,Tryz.ntmps194
       go_wp2_with fail
       go_quiet (fail)
       go_wp2_with fail
       go_ret
       exact ⟨ret_bool (by rw [HF.out]),below_drewN (below_box _ _) _⟩
     · have e3:decide (0<i)=false:=by simp [h3]
       have h4:i=0:=by omega
       subst h4
       by_cases h5:T.kind=0
       · have e5:(T.kind == 0)=true:=by simp [h5]
         by_cases h6:T.args.length=0
         · have e6:((T.args.length:Int) == 0)=true:=by simp [h6]
           have hf:(Tm.mk 8 0 T l).formed=true:=by simp [Tm.formed,Tm.kind,Tm.index,Tm.type,Tm.args,arities,H1.out,h5,h6]
           have HF:=Lib.hid hf
           clear hf h5 h6
           go_enter Tryz.func194,Tryz.ntmps194
           go_wp2_with fail
           go_quiet (fail)
           go_wp2_with fail
           go_ret
           exact ⟨ret_bool (by rw [HF.out]),below_drewN (below_box _ _) _⟩
         · have e6:((T.args.length:Int) == 0)=false:=by rw [beq_eq_false_iff_ne]; omega
           have hf:(Tm.mk 8 0 T l).formed=false:=by simp [Tm.formed,Tm.kind,Tm.index,Tm.type,Tm.args,arities,H1.out,h6]
           have HF:=Lib.hid hf
           clear hf h5 h6
           go_enter Tryz.func194,Tryz.ntmps194
           go_wp2_with fail
           go_quiet (fail)
           go_wp2_with fail
           go_ret
           exact ⟨ret_bool (by rw [HF.out]),below_drewN (below_box _ _) _⟩
       · have e5:(T.kind == 0)=false:=by simp [h5]
         have hf:(Tm.mk 8 0 T l).formed=false:=by simp [Tm.formed,Tm.kind,Tm.index,Tm.type,Tm.args,arities,H1.out,h5]
         have HF:=Lib.hid hf
         clear hf h5
         go_enter Tryz.func194,Tryz.ntmps194
         go_wp2_with fail
         go_quiet (fail)
         go_wp2_with fail
         go_ret
         exact ⟨ret_bool (by rw [HF.out]),below_drewN (below_box _ _) _⟩
 · have e1:((l.length:Int) != (2:Int))=true:=by rw [bne_iff_ne]; omega
   have hf:(Tm.mk 8 i T l).formed=false:=by simp [Tm.formed,Tm.kind,Tm.index,Tm.type,Tm.args,arities,h1]
   have HF:=Lib.hid hf
   clear hf h1
   go_enter Tryz.func194,Tryz.ntmps194
   go_wp2_with fail
   go_quiet (fail)
   go_wp2_with fail
   go_ret
   exact ⟨ret_bool (by rw [HF.out]),below_drewN (below_box _ _) _⟩

set_option maxRecDepth 100000 in
set_option maxHeartbeats 4000000 in
theorem formedT_9 (i:Int) (T:Ty) (l:List Tm) (B A:Option Addr) (d c:Nat) (w:World) (hT:IsTy (· < w.heap.size) w T (.agg #[.int .i64 T.kind,.slice B T.args.length d])) (htab:Tab w)
   (_hl:l.length≤1000000) (hn:T.nodes≤400000):Calls Tryz.prog 194 #[.agg #[.int .i64 9,.int .i64 i,.int .i64 T.kind,.slice B T.args.length d,.slice A l.length c]] w
     fun e w'=>e=.returned (.bool (Tm.mk 9 i T l).formed)∧Below w.heap.size w w':=by
 have c0:=fun o=>htab.alloc o 9 3 rfl
 have hTl:=nodes_args T
 by_cases h1:l.length=3
 · have e1:((l.length:Int) != (3:Int))=false:=by simp [h1]
   have H1:=Lib.hid h1
   clear h1
   by_cases h2:i<0
   · have e2:decide (i<0)=true:=by simp [h2]
     have hf:(Tm.mk 9 i T l).formed=false:=by simp [Tm.formed,Tm.kind,Tm.index,Tm.type,Tm.args,arities,H1.out,show ¬ 0≤i from by omega]
     have HF:=Lib.hid hf
     clear hf
     go_enter Tryz.func194,Tryz.ntmps194
     go_wp2_with fail
     go_quiet (fail)
     go_wp2_with fail
     go_ret
     exact ⟨ret_bool (by rw [HF.out]),below_drewN (below_box _ _) _⟩
   · have e2:decide (i<0)=false:=by simp [h2]
     have h2':0≤i:=by omega
     by_cases h3:0<i
     · have e3:decide (0<i)=true:=by simp [h3]
       have hf:(Tm.mk 9 i T l).formed=false:=by simp [Tm.formed,Tm.kind,Tm.index,Tm.type,Tm.args,arities,H1.out,show ¬ i=0 from by omega]
       have HF:=Lib.hid hf
       clear hf
       go_enter Tryz.func194,Tryz.ntmps194
       go_wp2_with fail
       go_quiet (fail)
       go_wp2_with fail
       go_ret
       exact ⟨ret_bool (by rw [HF.out]),below_drewN (below_box _ _) _⟩
     · have e3:decide (0<i)=false:=by simp [h3]
       have h4:i=0:=by omega
       subst h4
       go_enter Tryz.func194,Tryz.ntmps194
       go_wp2_with fail
       go_quiet (fail)
       go_wp2_with fail
       refine (check_any T _ _ hn (IsTy.boxed hT (below_drewN (below_box _ _) _))).mono ?_
       rintro e w' ⟨rfl,hb⟩
       go_wp2_with fail
       go_ret
       exact ⟨ret_bool (by simp [Tm.formed,Tm.kind,Tm.index,Tm.type,Tm.args,arities,H1.out]),(below_drewN (below_box _ _) _).trans (hb.mono (by simp [World.drewN]))⟩
 · have e1:((l.length:Int) != (3:Int))=true:=by rw [bne_iff_ne]; omega
   have hf:(Tm.mk 9 i T l).formed=false:=by simp [Tm.formed,Tm.kind,Tm.index,Tm.type,Tm.args,arities,h1]
   have HF:=Lib.hid hf
   clear hf h1
   go_enter Tryz.func194,Tryz.ntmps194
   go_wp2_with fail
   go_quiet (fail)
   go_wp2_with fail
   go_ret
   exact ⟨ret_bool (by rw [HF.out]),below_drewN (below_box _ _) _⟩

set_option maxRecDepth 100000 in
set_option maxHeartbeats 4000000 in
theorem formedT_10 (i:Int) (T:Ty) (l:List Tm) (B A:Option Addr) (d c:Nat) (w:World) (_hT:IsTy (· < w.heap.size) w T (.agg #[.int .i64 T.kind,.slice B T.args.length d])) (htab:Tab w)
   (_hl:l.length≤1000000) (_hn:T.nodes≤400000):Calls Tryz.prog 194 #[.agg #[.int .i64 10,.int .i64 i,.int .i64 T.kind,.slice B T.args.length d,.slice A l.length c]] w
     fun e w'=>e=.returned (.bool (Tm.mk 10 i T l).formed)∧Below w.heap.size w w':=by
 have c0:=fun o=>htab.alloc o 10 2 rfl
 have hTl:=nodes_args T
 by_cases h1:l.length=2
 · have e1:((l.length:Int) != (2:Int))=false:=by simp [h1]
   have H1:=Lib.hid h1
   clear h1
   by_cases h2:i<0
   · have e2:decide (i<0)=true:=by simp [h2]
     have hf:(Tm.mk 10 i T l).formed=false:=by simp [Tm.formed,Tm.kind,Tm.index,Tm.type,Tm.args,arities,H1.out,show ¬ 0≤i from by omega]
     have HF:=Lib.hid hf
     clear hf
     go_enter Tryz.func194,Tryz.ntmps194
     go_wp2_with fail
     go_quiet (fail)
     go_wp2_with fail
     go_ret
     exact ⟨ret_bool (by rw [HF.out]),below_drewN (below_box _ _) _⟩
   · have e2:decide (i<0)=false:=by simp [h2]
     have h2':0≤i:=by omega
     by_cases h3:0<i
     · have e3:decide (0<i)=true:=by simp [h3]
       have hf:(Tm.mk 10 i T l).formed=false:=by simp [Tm.formed,Tm.kind,Tm.index,Tm.type,Tm.args,arities,H1.out,show ¬ i=0 from by omega]
       have HF:=Lib.hid hf
       clear hf
       go_enter Tryz.func194,Tryz.ntmps194
       go_wp2_with fail
       go_quiet (fail)
       go_wp2_with fail
       go_ret
       exact ⟨ret_bool (by rw [HF.out]),below_drewN (below_box _ _) _⟩
     · have e3:decide (0<i)=false:=by simp [h3]
       have h4:i=0:=by omega
       subst h4
       by_cases h5:T.kind=0
       · have e5:(T.kind == 0)=true:=by simp [h5]
         by_cases h6:T.args.length=0
         · have e6:((T.args.length:Int) == 0)=true:=by simp [h6]
           have hf:(Tm.mk 10 0 T l).formed=true:=by simp [Tm.formed,Tm.kind,Tm.index,Tm.type,Tm.args,arities,H1.out,h5,h6]
           have HF:=Lib.hid hf
           clear hf h5 h6
           go_enter Tryz.func194,Tryz.ntmps194
           go_wp2_with fail
           go_quiet (fail)
           go_wp2_with fail
           go_ret
           exact ⟨ret_bool (by rw [HF.out]),below_drewN (below_box _ _) _⟩
         · have e6:((T.args.length:Int) == 0)=false:=by rw [beq_eq_false_iff_ne]; omega
           have hf:(Tm.mk 10 0 T l).formed=false:=by simp [Tm.formed,Tm.kind,Tm.index,Tm.type,Tm.args,arities,H1.out,h6]
           have HF:=Lib.hid hf
           clear hf h5 h6
           go_enter Tryz.func194,Tryz.ntmps194
           go_wp2_with fail
           go_quiet (fail)
           go_wp2_with fail
           go_ret
           exact ⟨ret_bool (by rw [HF.out]),below_drewN (below_box _ _) _⟩
       · have e5:(T.kind == 0)=false:=by simp [h5]
         have hf:(Tm.mk 10 0 T l).formed=false:=by simp [Tm.formed,Tm.kind,Tm.index,Tm.type,Tm.args,arities,H1.out,h5]
         have HF:=Lib.hid hf
         clear hf h5
         go_enter Tryz.func194,Tryz.ntmps194
         go_wp2_with fail
         go_quiet (fail)
         go_wp2_with fail
         go_ret
         exact ⟨ret_bool (by rw [HF.out]),below_drewN (below_box _ _) _⟩
 · have e1:((l.length:Int) != (2:Int))=true:=by rw [bne_iff_ne]; omega
   have hf:(Tm.mk 10 i T l).formed=false:=by simp [Tm.formed,Tm.kind,Tm.index,Tm.type,Tm.args,arities,h1]
   have HF:=Lib.hid hf
   clear hf h1
   go_enter Tryz.func194,Tryz.ntmps194
   go_wp2_with fail
   go_quiet (fail)
   go_wp2_with fail
   go_ret
   exact ⟨ret_bool (by rw [HF.out]),below_drewN (below_box _ _) _⟩

set_option maxRecDepth 100000 in
set_option maxHeartbeats 4000000 in
theorem formedT_11 (i:Int) (T:Ty) (l:List Tm) (B A:Option Addr) (d c:Nat) (w:World) (_hT:IsTy (· < w.heap.size) w T (.agg #[.int .i64 T.kind,.slice B T.args.length d])) (htab:Tab w)
   (_hl:l.length≤1000000) (_hn:T.nodes≤400000):Calls Tryz.prog 194 #[.agg #[.int .i64 11,.int .i64 i,.int .i64 T.kind,.slice B T.args.length d,.slice A l.length c]] w
     fun e w'=>e=.returned (.bool (Tm.mk 11 i T l).formed)∧Below w.heap.size w w':=by
 have c0:=fun o=>htab.alloc o 11 1 rfl
 have hTl:=nodes_args T
 by_cases h1:l.length=1
 · have e1:((l.length:Int) != (1:Int))=false:=by simp [h1]
   have H1:=Lib.hid h1
   clear h1
   by_cases h2:i<0
   · have e2:decide (i<0)=true:=by simp [h2]
     have hf:(Tm.mk 11 i T l).formed=false:=by simp [Tm.formed,Tm.kind,Tm.index,Tm.type,Tm.args,arities,H1.out,show ¬ 0≤i from by omega]
     have HF:=Lib.hid hf
     clear hf
     go_enter Tryz.func194,Tryz.ntmps194
     go_wp2_with fail
     go_quiet (fail)
     go_wp2_with fail
     go_ret
     exact ⟨ret_bool (by rw [HF.out]),below_drewN (below_box _ _) _⟩
   · have e2:decide (i<0)=false:=by simp [h2]
     have h2':0≤i:=by omega
     by_cases h3:0<i
     · have e3:decide (0<i)=true:=by simp [h3]
       have hf:(Tm.mk 11 i T l).formed=false:=by simp [Tm.formed,Tm.kind,Tm.index,Tm.type,Tm.args,arities,H1.out,show ¬ i=0 from by omega]
       have HF:=Lib.hid hf
       clear hf
       go_enter Tryz.func194,Tryz.ntmps194
       go_wp2_with fail
       go_quiet (fail)
       go_wp2_with fail
       go_ret
       exact ⟨ret_bool (by rw [HF.out]),below_drewN (below_box _ _) _⟩
     · have e3:decide (0<i)=false:=by simp [h3]
       have h4:i=0:=by omega
       subst h4
       by_cases h5:T.kind=0
       · have e5:(T.kind == 0)=true:=by simp [h5]
         by_cases h6:T.args.length=0
         · have e6:((T.args.length:Int) == 0)=true:=by simp [h6]
           have hf:(Tm.mk 11 0 T l).formed=true:=by simp [Tm.formed,Tm.kind,Tm.index,Tm.type,Tm.args,arities,H1.out,h5,h6]
           have HF:=Lib.hid hf
           clear hf h5 h6
           go_enter Tryz.func194,Tryz.ntmps194
           go_wp2_with fail
           go_quiet (fail)
           go_wp2_with fail
           go_ret
           exact ⟨ret_bool (by rw [HF.out]),below_drewN (below_box _ _) _⟩
         · have e6:((T.args.length:Int) == 0)=false:=by rw [beq_eq_false_iff_ne]; omega
           have hf:(Tm.mk 11 0 T l).formed=false:=by simp [Tm.formed,Tm.kind,Tm.index,Tm.type,Tm.args,arities,H1.out,h6]
           have HF:=Lib.hid hf
           clear hf h5 h6
           go_enter Tryz.func194,Tryz.ntmps194
           go_wp2_with fail
           go_quiet (fail)
           go_wp2_with fail
           go_ret
           exact ⟨ret_bool (by rw [HF.out]),below_drewN (below_box _ _) _⟩
       · have e5:(T.kind == 0)=false:=by simp [h5]
         have hf:(Tm.mk 11 0 T l).formed=false:=by simp [Tm.formed,Tm.kind,Tm.index,Tm.type,Tm.args,arities,H1.out,h5]
         have HF:=Lib.hid hf
         clear hf h5
         go_enter Tryz.func194,Tryz.ntmps194
         go_wp2_with fail
         go_quiet (fail)
         go_wp2_with fail
         go_ret
         exact ⟨ret_bool (by rw [HF.out]),below_drewN (below_box _ _) _⟩
 · have e1:((l.length:Int) != (1:Int))=true:=by rw [bne_iff_ne]; omega
   have hf:(Tm.mk 11 i T l).formed=false:=by simp [Tm.formed,Tm.kind,Tm.index,Tm.type,Tm.args,arities,h1]
   have HF:=Lib.hid hf
   clear hf h1
   go_enter Tryz.func194,Tryz.ntmps194
   go_wp2_with fail
   go_quiet (fail)
   go_wp2_with fail
   go_ret
   exact ⟨ret_bool (by rw [HF.out]),below_drewN (below_box _ _) _⟩

set_option maxRecDepth 100000 in
set_option maxHeartbeats 4000000 in
theorem formedT_12 (i:Int) (T:Ty) (l:List Tm) (B A:Option Addr) (d c:Nat) (w:World) (_hT:IsTy (· < w.heap.size) w T (.agg #[.int .i64 T.kind,.slice B T.args.length d])) (htab:Tab w)
   (_hl:l.length≤1000000) (_hn:T.nodes≤400000):Calls Tryz.prog 194 #[.agg #[.int .i64 12,.int .i64 i,.int .i64 T.kind,.slice B T.args.length d,.slice A l.length c]] w
     fun e w'=>e=.returned (.bool (Tm.mk 12 i T l).formed)∧Below w.heap.size w w':=by
 have c0:=fun o=>htab.alloc o 12 1 rfl
 have hTl:=nodes_args T
 by_cases h1:l.length=1
 · have e1:((l.length:Int) != (1:Int))=false:=by simp [h1]
   have H1:=Lib.hid h1
   clear h1
   by_cases h2:i<0
   · have e2:decide (i<0)=true:=by simp [h2]
     have hf:(Tm.mk 12 i T l).formed=false:=by simp [Tm.formed,Tm.kind,Tm.index,Tm.type,Tm.args,arities,H1.out,show ¬ 0≤i from by omega]
     have HF:=Lib.hid hf
     clear hf
     go_enter Tryz.func194,Tryz.ntmps194
     go_wp2_with fail
     go_quiet (fail)
     go_wp2_with fail
     go_ret
     exact ⟨ret_bool (by rw [HF.out]),below_drewN (below_box _ _) _⟩
   · have e2:decide (i<0)=false:=by simp [h2]
     have h2':0≤i:=by omega
     by_cases h3:0<i
     · have e3:decide (0<i)=true:=by simp [h3]
       have hf:(Tm.mk 12 i T l).formed=false:=by simp [Tm.formed,Tm.kind,Tm.index,Tm.type,Tm.args,arities,H1.out,show ¬ i=0 from by omega]
       have HF:=Lib.hid hf
       clear hf
       go_enter Tryz.func194,Tryz.ntmps194
       go_wp2_with fail
       go_quiet (fail)
       go_wp2_with fail
       go_ret
       exact ⟨ret_bool (by rw [HF.out]),below_drewN (below_box _ _) _⟩
     · have e3:decide (0<i)=false:=by simp [h3]
       have h4:i=0:=by omega
       subst h4
       by_cases h5:T.kind=0
       · have e5:(T.kind == 0)=true:=by simp [h5]
         by_cases h6:T.args.length=0
         · have e6:((T.args.length:Int) == 0)=true:=by simp [h6]
           have hf:(Tm.mk 12 0 T l).formed=true:=by simp [Tm.formed,Tm.kind,Tm.index,Tm.type,Tm.args,arities,H1.out,h5,h6]
           have HF:=Lib.hid hf
           clear hf h5 h6
           go_enter Tryz.func194,Tryz.ntmps194
           go_wp2_with fail
           go_quiet (fail)
           go_wp2_with fail
           go_ret
           exact ⟨ret_bool (by rw [HF.out]),below_drewN (below_box _ _) _⟩
         · have e6:((T.args.length:Int) == 0)=false:=by rw [beq_eq_false_iff_ne]; omega
           have hf:(Tm.mk 12 0 T l).formed=false:=by simp [Tm.formed,Tm.kind,Tm.index,Tm.type,Tm.args,arities,H1.out,h6]
           have HF:=Lib.hid hf
           clear hf h5 h6
           go_enter Tryz.func194,Tryz.ntmps194
           go_wp2_with fail
           go_quiet (fail)
           go_wp2_with fail
           go_ret
           exact ⟨ret_bool (by rw [HF.out]),below_drewN (below_box _ _) _⟩
       · have e5:(T.kind == 0)=false:=by simp [h5]
         have hf:(Tm.mk 12 0 T l).formed=false:=by simp [Tm.formed,Tm.kind,Tm.index,Tm.type,Tm.args,arities,H1.out,h5]
         have HF:=Lib.hid hf
         clear hf h5
         go_enter Tryz.func194,Tryz.ntmps194
         go_wp2_with fail
         go_quiet (fail)
         go_wp2_with fail
         go_ret
         exact ⟨ret_bool (by rw [HF.out]),below_drewN (below_box _ _) _⟩
 · have e1:((l.length:Int) != (1:Int))=true:=by rw [bne_iff_ne]; omega
   have hf:(Tm.mk 12 i T l).formed=false:=by simp [Tm.formed,Tm.kind,Tm.index,Tm.type,Tm.args,arities,h1]
   have HF:=Lib.hid hf
   clear hf h1
   go_enter Tryz.func194,Tryz.ntmps194
   go_wp2_with fail
   go_quiet (fail)
   go_wp2_with fail
   go_ret
   exact ⟨ret_bool (by rw [HF.out]),below_drewN (below_box _ _) _⟩

set_option maxRecDepth 100000 in
set_option maxHeartbeats 4000000 in
theorem formedT_13 (i:Int) (T:Ty) (l:List Tm) (B A:Option Addr) (d c:Nat) (w:World) (_hT:IsTy (· < w.heap.size) w T (.agg #[.int .i64 T.kind,.slice B T.args.length d])) (htab:Tab w)
   (_hl:l.length≤1000000) (_hn:T.nodes≤400000):Calls Tryz.prog 194 #[.agg #[.int .i64 13,.int .i64 i,.int .i64 T.kind,.slice B T.args.length d,.slice A l.length c]] w
     fun e w'=>e=.returned (.bool (Tm.mk 13 i T l).formed)∧Below w.heap.size w w':=by
 have c0:=fun o=>htab.alloc o 13 0 rfl
 have hTl:=nodes_args T
 by_cases h1:l.length=0
 · have e1:((l.length:Int) != (0:Int))=false:=by simp [h1]
   have H1:=Lib.hid h1
   clear h1
   by_cases h2:i<0
   · have e2:decide (i<0)=true:=by simp [h2]
     have hf:(Tm.mk 13 i T l).formed=false:=by simp [Tm.formed,Tm.kind,Tm.index,Tm.type,Tm.args,arities,H1.out,show ¬ 0≤i from by omega]
     have HF:=Lib.hid hf
     clear hf
     go_enter Tryz.func194,Tryz.ntmps194
     go_wp2_with fail
     go_quiet (fail)
     go_wp2_with fail
     go_ret
     exact ⟨ret_bool (by rw [HF.out]),below_drewN (below_box _ _) _⟩
   · have e2:decide (i<0)=false:=by simp [h2]
     have h2':0≤i:=by omega
     by_cases h3:0<i
     · have e3:decide (0<i)=true:=by simp [h3]
       have hf:(Tm.mk 13 i T l).formed=false:=by simp [Tm.formed,Tm.kind,Tm.index,Tm.type,Tm.args,arities,H1.out,show ¬ i=0 from by omega]
       have HF:=Lib.hid hf
       clear hf
       go_enter Tryz.func194,Tryz.ntmps194
       go_wp2_with fail
       go_quiet (fail)
       go_wp2_with fail
       go_ret
       exact ⟨ret_bool (by rw [HF.out]),below_drewN (below_box _ _) _⟩
     · have e3:decide (0<i)=false:=by simp [h3]
       have h4:i=0:=by omega
       subst h4
       by_cases h5:T.kind=0
       · have e5:(T.kind == 0)=true:=by simp [h5]
         by_cases h6:T.args.length=0
         · have e6:((T.args.length:Int) == 0)=true:=by simp [h6]
           have hf:(Tm.mk 13 0 T l).formed=true:=by simp [Tm.formed,Tm.kind,Tm.index,Tm.type,Tm.args,arities,H1.out,h5,h6]
           have HF:=Lib.hid hf
           clear hf h5 h6
           go_enter Tryz.func194,Tryz.ntmps194
           go_wp2_with fail
           go_quiet (fail)
           go_wp2_with fail
           go_ret
           exact ⟨ret_bool (by rw [HF.out]),below_drewN (below_box _ _) _⟩
         · have e6:((T.args.length:Int) == 0)=false:=by rw [beq_eq_false_iff_ne]; omega
           have hf:(Tm.mk 13 0 T l).formed=false:=by simp [Tm.formed,Tm.kind,Tm.index,Tm.type,Tm.args,arities,H1.out,h6]
           have HF:=Lib.hid hf
           clear hf h5 h6
           go_enter Tryz.func194,Tryz.ntmps194
           go_wp2_with fail
           go_quiet (fail)
           go_wp2_with fail
           go_ret
           exact ⟨ret_bool (by rw [HF.out]),below_drewN (below_box _ _) _⟩
       · have e5:(T.kind == 0)=false:=by simp [h5]
         have hf:(Tm.mk 13 0 T l).formed=false:=by simp [Tm.formed,Tm.kind,Tm.index,Tm.type,Tm.args,arities,H1.out,h5]
         have HF:=Lib.hid hf
         clear hf h5
         go_enter Tryz.func194,Tryz.ntmps194
         go_wp2_with fail
         go_quiet (fail)
         go_wp2_with fail
         go_ret
         exact ⟨ret_bool (by rw [HF.out]),below_drewN (below_box _ _) _⟩
 · have e1:((l.length:Int) != (0:Int))=true:=by rw [bne_iff_ne]; omega
   have hf:(Tm.mk 13 i T l).formed=false:=by simp [Tm.formed,Tm.kind,Tm.index,Tm.type,Tm.args,arities,h1]
   have HF:=Lib.hid hf
   clear hf h1
   go_enter Tryz.func194,Tryz.ntmps194
   go_wp2_with fail
   go_quiet (fail)
   go_wp2_with fail
   go_ret
   exact ⟨ret_bool (by rw [HF.out]),below_drewN (below_box _ _) _⟩

set_option maxRecDepth 100000 in
theorem formedT_any (t:Tm) (v:Value) (w:World) (hT:IsTm (· < w.heap.size) w t v) (htab:Tab w) (hl:t.args.length≤1000000) (hn:t.type.nodes≤400000) :
   Calls Tryz.prog 194 #[v] w fun e w'=>e=.returned (.bool t.formed)∧Below w.heap.size w w':=by
 obtain ⟨B,d,A,c,rfl,hty,_⟩:=hT.parts
 obtain ⟨k,i,T,l⟩:=t
 simp only [Tm.kind,Tm.index,Tm.type,Tm.args] at *
 by_cases hk:1≤k∧k≤13
 · have hks:k=1∨k=2∨k=3∨k=4∨k=5∨k=6∨k=7∨k=8∨k=9∨k=10∨k=11∨k=12∨k=13:=by omega
   clear hk
   rcases hks with rfl | rfl | rfl | rfl | rfl | rfl | rfl | rfl | rfl | rfl | rfl | rfl | rfl
   · exact formedT_1 i T l B A d c w hty htab hl hn
   · exact formedT_2 i T l B A d c w hty htab hl hn
   · exact formedT_3 i T l B A d c w hty htab hl hn
   · exact formedT_4 i T l B A d c w hty htab hl hn
   · exact formedT_5 i T l B A d c w hty htab hl hn
   · exact formedT_6 i T l B A d c w hty htab hl hn
   · exact formedT_7 i T l B A d c w hty htab hl hn
   · exact formedT_8 i T l B A d c w hty htab hl hn
   · exact formedT_9 i T l B A d c w hty htab hl hn
   · exact formedT_10 i T l B A d c w hty htab hl hn
   · exact formedT_11 i T l B A d c w hty htab hl hn
   · exact formedT_12 i T l B A d c w hty htab hl hn
   · exact formedT_13 i T l B A d c w hty htab hl hn
 · have hf:(Tm.mk k i T l).formed=false:=by
     simp only [Tm.formed,Tm.kind,Tm.index,Tm.type,Tm.args]
     by_cases h1:1≤k
     · simp [show ¬ k≤13 from fun h=>hk ⟨h1,h⟩]
     · simp [h1]
   rw [hf]
   clear hf
   by_cases h1:1≤k
   · have e1:decide (k<1)=false:=by simp; omega
     have e2:decide (14≤k)=true:=by simp; omega
     go_enter Tryz.func194,Tryz.ntmps194
     go_wp2_with fail
     go_quiet (fail)
     go_wp2_with fail
     go_ret
     exact ⟨ret_bool (by rfl),below_drewN (below_box _ _) _⟩
   · have e1:decide (k<1)=true:=by simp; omega
     go_enter Tryz.func194,Tryz.ntmps194
     go_wp2_with fail
     go_quiet (fail)
     go_wp2_with fail
     go_ret
     exact ⟨ret_bool (by rfl),below_drewN (below_box _ _) _⟩
end Go.Proofs.YtipfnkajdooiiaaGreatDoor
