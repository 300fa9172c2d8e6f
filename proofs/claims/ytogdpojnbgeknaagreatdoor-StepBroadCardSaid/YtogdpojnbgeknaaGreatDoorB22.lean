import Derived.Test.YtogdpojnbgeknaaGreatDoorB10
import Derived.Test.YtogdpojnbgeknaaGreatDoorB0
set_option maxRecDepth 100000
set_option maxHeartbeats 16000000
namespace Go.Proofs.YtogdpojnbgeknaaGreatDoor
open Go.ChangeShapes Go.WideShapes Go.ChangeAt Go.RowKit
open Gen
open Lib (hid)
theorem t_e (Q:Nat→Prop) (t:Thr) (self A B C:Int) (fa la:Option Addr) (fn fc ln lc:Nat) (w:World) (F:ThQ Q w fa fn fc la ln lc t) (hQ:∀ b,w.heap.size≤b→Q b) (hf:c_6 (3,A,B,C)=true) (hr:a_R t=true) (hpc:t.pc≠1000) :
  Calls Tryz.prog 55 #[.agg (thC t fa fn fc la ln lc).toArray,.int .i64 self,.agg #[.int .i64 3,.int .i64 A,.int .i64 B,.int .i64 C]] w (b_8 Q (doT t self (3,A,B,C)) (doE t (3,A,B,C)) w):=by
 obtain ⟨f1,f2,f3,f4,f5⟩:=b_1 hf (show (1:Int)≤3 by decide) (show (3:Int)≤15 by decide);simp only at f1 f2 f3 f4 f5;have hp:=b_x hr;obtain ⟨W,hW⟩:=nm (((w.alloc (Obj.cells (thC t fa fn fc la ln lc).toArray 46)).alloc (Obj.cells #[.int .i64 3,.int .i64 A,.int .i64 B,.int .i64 C] 66)).alloc (Obj.cells thN.toArray 46));have X:=N4;have IV:a_p W (w.heap.size+1) [.int .i64 3,.int .i64 A,.int .i64 B,.int .i64 C]:=by rw [hW];exact a_s _ (a_e [.int .i64 3,.int .i64 A,.int .i64 B,.int .i64 C] _ (by simp))
 have R:=N13;have hB:=N2;have hz:=N32;have hF:=N33;have HQ0:=hid hQ;have HFl:=N49;have ⟨HF0,HX,HI,HR,HB,HW,HZ,HFW⟩:=hh8 F X IV R hB hW hz hF;have HP:=N45;have HRT:=hid (And.intro hr hpc);clear hW X IV R hB hF F hz hp hf hr hpc hQ;obtain ⟨z,hz⟩:=mn (doT t self (3,A,B,C));have HZZ:=hid hz;have HZF:=N35;clear hz;obtain ⟨jb,jbe,jb8⟩:=a_5 (f3 (by decide));subst jbe;have HA1:=hid (f1 (by decide));clear f1 f2 f3 f4 f5
 go_enter Tryz.func55,Tryz.ntmps55
 go_upto_region 1 with fail
 rw [←HW.out];have k0:=(HI.out 0 _ rfl).1;have k1:=(HI.out 1 _ rfl).1;have k2:=(HI.out 2 _ rfl).1;have k3:=(HI.out 3 _ rfl).1;have y0:=(HX.out 0 _ rfl).1
 go_upto_region 6 with (first | (refine wpList_load_mid rfl 43 _ rfl w.heap.size 1 rfl (rgC t.r) _ (c_k HX.out) Tryz.underlying43 rfl (by kernel_rfl) ?_) | (refine a_c rfl 43 _ _ rfl W.heap.size (rgC t.r).toArray rfl rfl _ (a_e rgZ W.heap.size rfl) rfl (by kernel_rfl) (b_H _ _ _ _ _ _ _ _) ?_;intro U HU))
 have hU:=HU.out;have hz:=HZ.out;have X5:=N11;have I5:a_p U (w.heap.size+1) [.int .i64 3,.int .i64 A,.int .i64 (jb:Nat),.int .i64 C]:=by rw [hU];exact a_j (by omega) (a_s _ HI.out)
 have R5:=N16;have A5:=N9;have B5:=N12;obtain ⟨V,hV⟩:=nm (U.setCell ⟨w.heap.size,0,none⟩ (.int .i64 (t.pc+1)));have X6:=N0;have I6:a_p V (w.heap.size+1) [.int .i64 3,.int .i64 A,.int .i64 (jb:Nat),.int .i64 C]:=by rw [hV];exact a_l I5 (by omega) _
 have R6:=N23;have A6:=N20;have B6:=N10;obtain ⟨y0',g0⟩:=X5 0 _ rfl;have p1:=HP.out.1;have p2:=HP.out.2;have ⟨HX6,HI6,HR6,HA6,HB6,HV⟩:=hh6 X6 I6 R6 A6 B6 hV;clear k0 k1 k2 k3 y0 hU hz X5 I5 R5 A5 B5 hV X6 I6 R6 A6 B6 HX HI HR HB
 go_upto_region 7 with fail
 rw [←HV.out];clear y0' g0 p1 p2;have k0:=(HI6.out 0 _ rfl).1;have k1:=(HI6.out 1 _ rfl).1;have k2:=(HI6.out 2 _ rfl).1;have k3:=(HI6.out 3 _ rfl).1;have kjb:=N104;have ijb1:(0:Int)≤jb:=by omega
 have ijb2:(jb:Int) < 8:=by omega
 go_upto_region 20 with fail
 go_quiet (fail)
 have HBD:=hid (b_5 HB6.out nq)
 go_wp2_with (first | (refine wpList_load_mid rfl 43 _ rfl W.heap.size 0 rfl (rgC t.r) _ (a_f HA6.out) Tryz.underlying43 rfl (by kernel_rfl) ?_))
 have h0:=b_R t.r A (wrap64 (t.r jb+C)) (V.drewN nq) HA1.out;refine h0.mono ?_;clear h0;rintro e w7 ⟨rfl,hb7⟩;obtain ⟨s,hs⟩:=mn (b_Y t.r A (wrap64 (t.r jb+C)));rw [hs];have hzs:=N40;have HX7:=hid (a_h hb7 HX6.out);have HR7:=hid (a_h hb7 HR6.out);have HB7:=hid (a_a HBD.out hb7);have HZS:=hid hzs;clear hb7 hs hzs
 go_upto_region 36 with (refine a_J rfl 43 _ _ rfl w.heap.size 1 (rgC s).toArray rfl rfl _ HX7.out (by simp) (by kernel_rfl) (b_H _ _ _ _ _ _ _ _) ?_;intro U8 HU8)
 have HX8:=N7;have HR8:=N25;have HB8:=N24;clear HX7 HR7 HB7 HU8 HZS
 go_wp2_with (first | (refine wpList_load_mid rfl 46 _ rfl w.heap.size 0 rfl (thC z fa fn fc la ln lc) _ (a_f HX8.out) Tryz.underlying46 rfl (by kernel_rfl) ?_) | (refine a_c rfl 46 _ _ rfl (w.heap.size+2) (thC z fa fn fc la ln lc).toArray rfl rfl _ HR8.out rfl (by kernel_rfl) (a_L _ _ _ _ _ _ _) ?_;intro U HU))
 refine a_m ⟨w.heap.size+2,0,none⟩ rfl rfl rfl (a_T HU HR8.out rfl) ?_;refine b_i HZZ.out rfl ?_ (a_x HU (by omega) HB8.out);have h:=N62;exact ⟨h.fcap,by rw [HZF.out.1];exact h.fs,h.lcap,by rw [HZF.out.2];exact h.lf⟩
theorem r_o (Q:Nat→Prop) (t:Thr) (self A B C:Int) (fa la:Option Addr) (fn fc ln lc:Nat) (w:World) (F:ThQ Q w fa fn fc la ln lc t) (hQ:∀ b,w.heap.size≤b→Q b) (hf:c_6 (15,A,B,C)=true) (hr:a_R t=true) (hpc:t.pc≠1000) :
  Calls Tryz.prog 55 #[.agg (thC t fa fn fc la ln lc).toArray,.int .i64 self,.agg #[.int .i64 15,.int .i64 A,.int .i64 B,.int .i64 C]] w (b_8 Q (doT t self (15,A,B,C)) (doE t (15,A,B,C)) w):=by
 obtain ⟨f1,f2,f3,f4,f5⟩:=b_1 hf (show (1:Int)≤15 by decide) (show (15:Int)≤15 by decide);simp only at f1 f2 f3 f4 f5;have hp:=b_x hr;obtain ⟨W,hW⟩:=nm (((w.alloc (Obj.cells (thC t fa fn fc la ln lc).toArray 46)).alloc (Obj.cells #[.int .i64 15,.int .i64 A,.int .i64 B,.int .i64 C] 66)).alloc (Obj.cells thN.toArray 46));have X:=N4;have IV:a_p W (w.heap.size+1) [.int .i64 15,.int .i64 A,.int .i64 B,.int .i64 C]:=by rw [hW];exact a_s _ (a_e [.int .i64 15,.int .i64 A,.int .i64 B,.int .i64 C] _ (by simp))
 have R:=N13;have hB:=N2;have hz:=N32;have hF:=N33;have HQ0:=hid hQ;have HFl:=N49;have ⟨HF0,HX,HI,HR,HB,HW,HZ,HFW⟩:=hh8 F X IV R hB hW hz hF;have HP:=N45;have HRT:=hid (And.intro hr hpc);clear hW X IV R hB hF F hz hp hf hr hpc hQ;obtain ⟨z,hz⟩:=mn (doT t self (15,A,B,C));have HZZ:=hid hz;have HZF:=N35;clear hz;have HA1:=hid (f1 (by decide));clear f1 f2 f3 f4 f5
 go_enter Tryz.func55,Tryz.ntmps55
 go_upto_region 1 with fail
 rw [←HW.out];have k0:=(HI.out 0 _ rfl).1;have k1:=(HI.out 1 _ rfl).1;have k2:=(HI.out 2 _ rfl).1;have k3:=(HI.out 3 _ rfl).1;have y0:=(HX.out 0 _ rfl).1
 go_upto_region 6 with (first | (refine wpList_load_mid rfl 43 _ rfl w.heap.size 1 rfl (rgC t.r) _ (c_k HX.out) Tryz.underlying43 rfl (by kernel_rfl) ?_) | (refine a_c rfl 43 _ _ rfl W.heap.size (rgC t.r).toArray rfl rfl _ (a_e rgZ W.heap.size rfl) rfl (by kernel_rfl) (b_H _ _ _ _ _ _ _ _) ?_;intro U HU))
 have hU:=HU.out;have hz:=HZ.out;have X5:=N11;have I5:a_p U (w.heap.size+1) [.int .i64 15,.int .i64 A,.int .i64 B,.int .i64 C]:=by rw [hU];exact a_j (by omega) (a_s _ HI.out)
 have R5:=N16;have A5:=N9;have B5:=N12;obtain ⟨V,hV⟩:=nm (U.setCell ⟨w.heap.size,0,none⟩ (.int .i64 (t.pc+1)));have X6:=N0;have I6:a_p V (w.heap.size+1) [.int .i64 15,.int .i64 A,.int .i64 B,.int .i64 C]:=by rw [hV];exact a_l I5 (by omega) _
 have R6:=N23;have A6:=N20;have B6:=N10;obtain ⟨y0',g0⟩:=X5 0 _ rfl;have p1:=HP.out.1;have p2:=HP.out.2;have ⟨HX6,HI6,HR6,HA6,HB6,HV⟩:=hh6 X6 I6 R6 A6 B6 hV;clear k0 k1 k2 k3 y0 hU hz X5 I5 R5 A5 B5 hV X6 I6 R6 A6 B6 HX HI HR HB
 go_upto_region 7 with fail
 rw [←HV.out];clear y0' g0 p1 p2;have k0:=(HI6.out 0 _ rfl).1;have k1:=(HI6.out 1 _ rfl).1;have k2:=(HI6.out 2 _ rfl).1;have k3:=(HI6.out 3 _ rfl).1
 go_wp2_with (first | (refine wpList_load_mid rfl 43 _ rfl W.heap.size 0 rfl (rgC t.r) _ (a_f HA6.out) Tryz.underlying43 rfl (by kernel_rfl) ?_))
 have h0:=b_R t.r A (self) V HA1.out;refine h0.mono ?_;clear h0;rintro e w7 ⟨rfl,hb7⟩;obtain ⟨s,hs⟩:=mn (b_Y t.r A (self));rw [hs];have hzs:=N40;have HX7:=hid (a_h hb7 HX6.out);have HR7:=hid (a_h hb7 HR6.out);have HB7:=hid (a_a HB6.out hb7);have HZS:=hid hzs;clear hb7 hs hzs
 go_upto_region 36 with (refine a_J rfl 43 _ _ rfl w.heap.size 1 (rgC s).toArray rfl rfl _ HX7.out (by simp) (by kernel_rfl) (b_H _ _ _ _ _ _ _ _) ?_;intro U8 HU8)
 have HX8:=N7;have HR8:=N25;have HB8:=N24;clear HX7 HR7 HB7 HU8 HZS
 go_wp2_with (first | (refine wpList_load_mid rfl 46 _ rfl w.heap.size 0 rfl (thC z fa fn fc la ln lc) _ (a_f HX8.out) Tryz.underlying46 rfl (by kernel_rfl) ?_) | (refine a_c rfl 46 _ _ rfl (w.heap.size+2) (thC z fa fn fc la ln lc).toArray rfl rfl _ HR8.out rfl (by kernel_rfl) (a_L _ _ _ _ _ _ _) ?_;intro U HU))
 refine a_m ⟨w.heap.size+2,0,none⟩ rfl rfl rfl (a_T HU HR8.out rfl) ?_;refine b_i HZZ.out rfl ?_ (a_x HU (by omega) HB8.out);have h:=N62;exact ⟨h.fcap,by rw [HZF.out.1];exact h.fs,h.lcap,by rw [HZF.out.2];exact h.lf⟩
theorem t_d (Q:Nat→Prop) (t:Thr) (self A B C:Int) (fa la:Option Addr) (fn fc ln lc:Nat) (w:World) (F:ThQ Q w fa fn fc la ln lc t) (hQ:∀ b,w.heap.size≤b→Q b) (hf:c_6 (2,A,B,C)=true) (hr:a_R t=true) (hpc:t.pc≠1000) :
  Calls Tryz.prog 55 #[.agg (thC t fa fn fc la ln lc).toArray,.int .i64 self,.agg #[.int .i64 2,.int .i64 A,.int .i64 B,.int .i64 C]] w (b_8 Q (doT t self (2,A,B,C)) (doE t (2,A,B,C)) w):=by
 obtain ⟨f1,f2,f3,f4,f5⟩:=b_1 hf (show (1:Int)≤2 by decide) (show (2:Int)≤15 by decide);simp only at f1 f2 f3 f4 f5;have hp:=b_x hr;obtain ⟨W,hW⟩:=nm (((w.alloc (Obj.cells (thC t fa fn fc la ln lc).toArray 46)).alloc (Obj.cells #[.int .i64 2,.int .i64 A,.int .i64 B,.int .i64 C] 66)).alloc (Obj.cells thN.toArray 46));have X:=N4;have IV:a_p W (w.heap.size+1) [.int .i64 2,.int .i64 A,.int .i64 B,.int .i64 C]:=by rw [hW];exact a_s _ (a_e [.int .i64 2,.int .i64 A,.int .i64 B,.int .i64 C] _ (by simp))
 have R:=N13;have hB:=N2;have hz:=N32;have hF:=N33;have HQ0:=hid hQ;have HFl:=N49;have ⟨HF0,HX,HI,HR,HB,HW,HZ,HFW⟩:=hh8 F X IV R hB hW hz hF;have HP:=N45;have HRT:=hid (And.intro hr hpc);clear hW X IV R hB hF F hz hp hf hr hpc hQ;obtain ⟨z,hz⟩:=mn (doT t self (2,A,B,C));have HZZ:=hid hz;have HZF:=N35;clear hz;obtain ⟨jb,jbe,jb8⟩:=a_5 (f3 (by decide));subst jbe;have HA1:=hid (f1 (by decide));clear f1 f2 f3 f4 f5
 go_enter Tryz.func55,Tryz.ntmps55
 go_upto_region 1 with fail
 rw [←HW.out];have k0:=(HI.out 0 _ rfl).1;have k1:=(HI.out 1 _ rfl).1;have k2:=(HI.out 2 _ rfl).1;have k3:=(HI.out 3 _ rfl).1;have y0:=(HX.out 0 _ rfl).1
 go_upto_region 6 with (first | (refine wpList_load_mid rfl 43 _ rfl w.heap.size 1 rfl (rgC t.r) _ (c_k HX.out) Tryz.underlying43 rfl (by kernel_rfl) ?_) | (refine a_c rfl 43 _ _ rfl W.heap.size (rgC t.r).toArray rfl rfl _ (a_e rgZ W.heap.size rfl) rfl (by kernel_rfl) (b_H _ _ _ _ _ _ _ _) ?_;intro U HU))
 have hU:=HU.out;have hz:=HZ.out;have X5:=N11;have I5:a_p U (w.heap.size+1) [.int .i64 2,.int .i64 A,.int .i64 (jb:Nat),.int .i64 C]:=by rw [hU];exact a_j (by omega) (a_s _ HI.out)
 have R5:=N16;have A5:=N9;have B5:=N12;obtain ⟨V,hV⟩:=nm (U.setCell ⟨w.heap.size,0,none⟩ (.int .i64 (t.pc+1)));have X6:=N0;have I6:a_p V (w.heap.size+1) [.int .i64 2,.int .i64 A,.int .i64 (jb:Nat),.int .i64 C]:=by rw [hV];exact a_l I5 (by omega) _
 have R6:=N23;have A6:=N20;have B6:=N10;obtain ⟨y0',g0⟩:=X5 0 _ rfl;have p1:=HP.out.1;have p2:=HP.out.2;have ⟨HX6,HI6,HR6,HA6,HB6,HV⟩:=hh6 X6 I6 R6 A6 B6 hV;clear k0 k1 k2 k3 y0 hU hz X5 I5 R5 A5 B5 hV X6 I6 R6 A6 B6 HX HI HR HB
 go_upto_region 7 with fail
 rw [←HV.out];clear y0' g0 p1 p2;have k0:=(HI6.out 0 _ rfl).1;have k1:=(HI6.out 1 _ rfl).1;have k2:=(HI6.out 2 _ rfl).1;have k3:=(HI6.out 3 _ rfl).1;have kjb:=N104;have ijb1:(0:Int)≤jb:=by omega
 have ijb2:(jb:Int) < 8:=by omega
 go_wp2_with (first | (refine wpList_load_mid rfl 43 _ rfl W.heap.size 0 rfl (rgC t.r) _ (a_f HA6.out) Tryz.underlying43 rfl (by kernel_rfl) ?_))
 have h0:=b_R t.r A (t.r jb) V HA1.out;refine h0.mono ?_;clear h0;rintro e w7 ⟨rfl,hb7⟩;obtain ⟨s,hs⟩:=mn (b_Y t.r A (t.r jb));rw [hs];have hzs:=N40;have HX7:=hid (a_h hb7 HX6.out);have HR7:=hid (a_h hb7 HR6.out);have HB7:=hid (a_a HB6.out hb7);have HZS:=hid hzs;clear hb7 hs hzs
 go_upto_region 36 with (refine a_J rfl 43 _ _ rfl w.heap.size 1 (rgC s).toArray rfl rfl _ HX7.out (by simp) (by kernel_rfl) (b_H _ _ _ _ _ _ _ _) ?_;intro U8 HU8)
 have HX8:=N7;have HR8:=N25;have HB8:=N24;clear HX7 HR7 HB7 HU8 HZS
 go_wp2_with (first | (refine wpList_load_mid rfl 46 _ rfl w.heap.size 0 rfl (thC z fa fn fc la ln lc) _ (a_f HX8.out) Tryz.underlying46 rfl (by kernel_rfl) ?_) | (refine a_c rfl 46 _ _ rfl (w.heap.size+2) (thC z fa fn fc la ln lc).toArray rfl rfl _ HR8.out rfl (by kernel_rfl) (a_L _ _ _ _ _ _ _) ?_;intro U HU))
 refine a_m ⟨w.heap.size+2,0,none⟩ rfl rfl rfl (a_T HU HR8.out rfl) ?_;refine b_i HZZ.out rfl ?_ (a_x HU (by omega) HB8.out);have h:=N62;exact ⟨h.fcap,by rw [HZF.out.1];exact h.fs,h.lcap,by rw [HZF.out.2];exact h.lf⟩
theorem t_f (Q:Nat→Prop) (t:Thr) (self A B C:Int) (fa la:Option Addr) (fn fc ln lc:Nat) (w:World) (F:ThQ Q w fa fn fc la ln lc t) (hQ:∀ b,w.heap.size≤b→Q b) (hf:c_6 (4,A,B,C)=true) (hr:a_R t=true) (hpc:t.pc≠1000) :
  Calls Tryz.prog 55 #[.agg (thC t fa fn fc la ln lc).toArray,.int .i64 self,.agg #[.int .i64 4,.int .i64 A,.int .i64 B,.int .i64 C]] w (b_8 Q (doT t self (4,A,B,C)) (doE t (4,A,B,C)) w):=by
 obtain ⟨f1,f2,f3,f4,f5⟩:=b_1 hf (show (1:Int)≤4 by decide) (show (4:Int)≤15 by decide);simp only at f1 f2 f3 f4 f5;have hp:=b_x hr;obtain ⟨W,hW⟩:=nm (((w.alloc (Obj.cells (thC t fa fn fc la ln lc).toArray 46)).alloc (Obj.cells #[.int .i64 4,.int .i64 A,.int .i64 B,.int .i64 C] 66)).alloc (Obj.cells thN.toArray 46));have X:=N4;have IV:a_p W (w.heap.size+1) [.int .i64 4,.int .i64 A,.int .i64 B,.int .i64 C]:=by rw [hW];exact a_s _ (a_e [.int .i64 4,.int .i64 A,.int .i64 B,.int .i64 C] _ (by simp))
 have R:=N13;have hB:=N2;have hz:=N32;have hF:=N33;have HQ0:=hid hQ;have HFl:=N49;have ⟨HF0,HX,HI,HR,HB,HW,HZ,HFW⟩:=hh8 F X IV R hB hW hz hF;have HP:=N45;have HRT:=hid (And.intro hr hpc);clear hW X IV R hB hF F hz hp hf hr hpc hQ;obtain ⟨z,hz⟩:=mn (doT t self (4,A,B,C));have HZZ:=hid hz;have HZF:=N35;clear hz;obtain ⟨jb,jbe,jb8⟩:=a_5 (f3 (by decide));subst jbe;have HA1:=hid (f1 (by decide));clear f1 f2 f3 f4 f5
 go_enter Tryz.func55,Tryz.ntmps55
 go_upto_region 1 with fail
 rw [←HW.out];have k0:=(HI.out 0 _ rfl).1;have k1:=(HI.out 1 _ rfl).1;have k2:=(HI.out 2 _ rfl).1;have k3:=(HI.out 3 _ rfl).1;have y0:=(HX.out 0 _ rfl).1
 go_upto_region 6 with (first | (refine wpList_load_mid rfl 43 _ rfl w.heap.size 1 rfl (rgC t.r) _ (c_k HX.out) Tryz.underlying43 rfl (by kernel_rfl) ?_) | (refine a_c rfl 43 _ _ rfl W.heap.size (rgC t.r).toArray rfl rfl _ (a_e rgZ W.heap.size rfl) rfl (by kernel_rfl) (b_H _ _ _ _ _ _ _ _) ?_;intro U HU))
 have hU:=HU.out;have hz:=HZ.out;have X5:=N11;have I5:a_p U (w.heap.size+1) [.int .i64 4,.int .i64 A,.int .i64 (jb:Nat),.int .i64 C]:=by rw [hU];exact a_j (by omega) (a_s _ HI.out)
 have R5:=N16;have A5:=N9;have B5:=N12;obtain ⟨V,hV⟩:=nm (U.setCell ⟨w.heap.size,0,none⟩ (.int .i64 (t.pc+1)));have X6:=N0;have I6:a_p V (w.heap.size+1) [.int .i64 4,.int .i64 A,.int .i64 (jb:Nat),.int .i64 C]:=by rw [hV];exact a_l I5 (by omega) _
 have R6:=N23;have A6:=N20;have B6:=N10;obtain ⟨y0',g0⟩:=X5 0 _ rfl;have p1:=HP.out.1;have p2:=HP.out.2;have ⟨HX6,HI6,HR6,HA6,HB6,HV⟩:=hh6 X6 I6 R6 A6 B6 hV;clear k0 k1 k2 k3 y0 hU hz X5 I5 R5 A5 B5 hV X6 I6 R6 A6 B6 HX HI HR HB
 go_upto_region 7 with fail
 rw [←HV.out];clear y0' g0 p1 p2;have k0:=(HI6.out 0 _ rfl).1;have k1:=(HI6.out 1 _ rfl).1;have k2:=(HI6.out 2 _ rfl).1;have k3:=(HI6.out 3 _ rfl).1;have kjb:=N104;have ijb1:(0:Int)≤jb:=by omega
 have ijb2:(jb:Int) < 8:=by omega
 go_upto_region 22 with fail
 go_quiet (fail)
 have HBD:=hid (b_5 HB6.out nq)
 go_wp2_with (first | (refine wpList_load_mid rfl 43 _ rfl W.heap.size 0 rfl (rgC t.r) _ (a_f HA6.out) Tryz.underlying43 rfl (by kernel_rfl) ?_))
 have h0:=b_R t.r A (bits .and .i64 (t.r jb) C) (V.drewN nq) HA1.out;refine h0.mono ?_;clear h0;rintro e w7 ⟨rfl,hb7⟩;obtain ⟨s,hs⟩:=mn (b_Y t.r A (bits .and .i64 (t.r jb) C));rw [hs];have hzs:=N40;have HX7:=hid (a_h hb7 HX6.out);have HR7:=hid (a_h hb7 HR6.out);have HB7:=hid (a_a HBD.out hb7);have HZS:=hid hzs;clear hb7 hs hzs
 go_upto_region 36 with (refine a_J rfl 43 _ _ rfl w.heap.size 1 (rgC s).toArray rfl rfl _ HX7.out (by simp) (by kernel_rfl) (b_H _ _ _ _ _ _ _ _) ?_;intro U8 HU8)
 have HX8:=N7;have HR8:=N25;have HB8:=N24;clear HX7 HR7 HB7 HU8 HZS
 go_wp2_with (first | (refine wpList_load_mid rfl 46 _ rfl w.heap.size 0 rfl (thC z fa fn fc la ln lc) _ (a_f HX8.out) Tryz.underlying46 rfl (by kernel_rfl) ?_) | (refine a_c rfl 46 _ _ rfl (w.heap.size+2) (thC z fa fn fc la ln lc).toArray rfl rfl _ HR8.out rfl (by kernel_rfl) (a_L _ _ _ _ _ _ _) ?_;intro U HU))
 refine a_m ⟨w.heap.size+2,0,none⟩ rfl rfl rfl (a_T HU HR8.out rfl) ?_;refine b_i HZZ.out rfl ?_ (a_x HU (by omega) HB8.out);have h:=N62;exact ⟨h.fcap,by rw [HZF.out.1];exact h.fs,h.lcap,by rw [HZF.out.2];exact h.lf⟩
theorem t_g (Q:Nat→Prop) (t:Thr) (self A B C:Int) (fa la:Option Addr) (fn fc ln lc:Nat) (w:World) (F:ThQ Q w fa fn fc la ln lc t) (hQ:∀ b,w.heap.size≤b→Q b) (hf:c_6 (5,A,B,C)=true) (hr:a_R t=true) (hpc:t.pc≠1000) :
  Calls Tryz.prog 55 #[.agg (thC t fa fn fc la ln lc).toArray,.int .i64 self,.agg #[.int .i64 5,.int .i64 A,.int .i64 B,.int .i64 C]] w (b_8 Q (doT t self (5,A,B,C)) (doE t (5,A,B,C)) w):=by
 obtain ⟨f1,f2,f3,f4,f5⟩:=b_1 hf (show (1:Int)≤5 by decide) (show (5:Int)≤15 by decide);simp only at f1 f2 f3 f4 f5;have hp:=b_x hr;obtain ⟨W,hW⟩:=nm (((w.alloc (Obj.cells (thC t fa fn fc la ln lc).toArray 46)).alloc (Obj.cells #[.int .i64 5,.int .i64 A,.int .i64 B,.int .i64 C] 66)).alloc (Obj.cells thN.toArray 46));have X:=N4;have IV:a_p W (w.heap.size+1) [.int .i64 5,.int .i64 A,.int .i64 B,.int .i64 C]:=by rw [hW];exact a_s _ (a_e [.int .i64 5,.int .i64 A,.int .i64 B,.int .i64 C] _ (by simp))
 have R:=N13;have hB:=N2;have hz:=N32;have hF:=N33;have HQ0:=hid hQ;have HFl:=N49;have ⟨HF0,HX,HI,HR,HB,HW,HZ,HFW⟩:=hh8 F X IV R hB hW hz hF;have HP:=N45;have HRT:=hid (And.intro hr hpc);clear hW X IV R hB hF F hz hp hf hr hpc hQ;obtain ⟨z,hz⟩:=mn (doT t self (5,A,B,C));have HZZ:=hid hz;have HZF:=N35;clear hz;obtain ⟨jb,jbe,jb8⟩:=a_5 (f3 (by decide));obtain ⟨jc,jce,jc8⟩:=a_5 (f5 (by decide));subst jbe;subst jce;have HA1:=hid (f1 (by decide));clear f1 f2 f3 f4 f5
 go_enter Tryz.func55,Tryz.ntmps55
 go_upto_region 1 with fail
 rw [←HW.out];have k0:=(HI.out 0 _ rfl).1;have k1:=(HI.out 1 _ rfl).1;have k2:=(HI.out 2 _ rfl).1;have k3:=(HI.out 3 _ rfl).1;have y0:=(HX.out 0 _ rfl).1
 go_upto_region 6 with (first | (refine wpList_load_mid rfl 43 _ rfl w.heap.size 1 rfl (rgC t.r) _ (c_k HX.out) Tryz.underlying43 rfl (by kernel_rfl) ?_) | (refine a_c rfl 43 _ _ rfl W.heap.size (rgC t.r).toArray rfl rfl _ (a_e rgZ W.heap.size rfl) rfl (by kernel_rfl) (b_H _ _ _ _ _ _ _ _) ?_;intro U HU))
 have hU:=HU.out;have hz:=HZ.out;have X5:=N11;have I5:a_p U (w.heap.size+1) [.int .i64 5,.int .i64 A,.int .i64 (jb:Nat),.int .i64 (jc:Nat)]:=by rw [hU];exact a_j (by omega) (a_s _ HI.out)
 have R5:=N16;have A5:=N9;have B5:=N12;obtain ⟨V,hV⟩:=nm (U.setCell ⟨w.heap.size,0,none⟩ (.int .i64 (t.pc+1)));have X6:=N0;have I6:a_p V (w.heap.size+1) [.int .i64 5,.int .i64 A,.int .i64 (jb:Nat),.int .i64 (jc:Nat)]:=by rw [hV];exact a_l I5 (by omega) _
 have R6:=N23;have A6:=N20;have B6:=N10;obtain ⟨y0',g0⟩:=X5 0 _ rfl;have p1:=HP.out.1;have p2:=HP.out.2;have ⟨HX6,HI6,HR6,HA6,HB6,HV⟩:=hh6 X6 I6 R6 A6 B6 hV;clear k0 k1 k2 k3 y0 hU hz X5 I5 R5 A5 B5 hV X6 I6 R6 A6 B6 HX HI HR HB
 go_upto_region 7 with fail
 rw [←HV.out];clear y0' g0 p1 p2;have k0:=(HI6.out 0 _ rfl).1;have k1:=(HI6.out 1 _ rfl).1;have k2:=(HI6.out 2 _ rfl).1;have k3:=(HI6.out 3 _ rfl).1;have kjb:=N104;have ijb1:(0:Int)≤jb:=by omega
 have ijb2:(jb:Int) < 8:=by omega
 have kjc:=N176;have ijc1:(0:Int)≤jc:=by omega
 have ijc2:(jc:Int) < 8:=by omega
 go_upto_region 24 with fail
 go_quiet (fail)
 have HBD:=hid (b_5 HB6.out nq)
 go_wp2_with (first | (refine wpList_load_mid rfl 43 _ rfl W.heap.size 0 rfl (rgC t.r) _ (a_f HA6.out) Tryz.underlying43 rfl (by kernel_rfl) ?_))
 have h0:=b_R t.r A (wrap64 (t.r jb+t.r jc)) (V.drewN nq) HA1.out;refine h0.mono ?_;clear h0;rintro e w7 ⟨rfl,hb7⟩;obtain ⟨s,hs⟩:=mn (b_Y t.r A (wrap64 (t.r jb+t.r jc)));rw [hs];have hzs:=N40;have HX7:=hid (a_h hb7 HX6.out);have HR7:=hid (a_h hb7 HR6.out);have HB7:=hid (a_a HBD.out hb7);have HZS:=hid hzs;clear hb7 hs hzs
 go_upto_region 36 with (refine a_J rfl 43 _ _ rfl w.heap.size 1 (rgC s).toArray rfl rfl _ HX7.out (by simp) (by kernel_rfl) (b_H _ _ _ _ _ _ _ _) ?_;intro U8 HU8)
 have HX8:=N7;have HR8:=N25;have HB8:=N24;clear HX7 HR7 HB7 HU8 HZS
 go_wp2_with (first | (refine wpList_load_mid rfl 46 _ rfl w.heap.size 0 rfl (thC z fa fn fc la ln lc) _ (a_f HX8.out) Tryz.underlying46 rfl (by kernel_rfl) ?_) | (refine a_c rfl 46 _ _ rfl (w.heap.size+2) (thC z fa fn fc la ln lc).toArray rfl rfl _ HR8.out rfl (by kernel_rfl) (a_L _ _ _ _ _ _ _) ?_;intro U HU))
 refine a_m ⟨w.heap.size+2,0,none⟩ rfl rfl rfl (a_T HU HR8.out rfl) ?_;refine b_i HZZ.out rfl ?_ (a_x HU (by omega) HB8.out);have h:=N62;exact ⟨h.fcap,by rw [HZF.out.1];exact h.fs,h.lcap,by rw [HZF.out.2];exact h.lf⟩
theorem t_h (Q:Nat→Prop) (t:Thr) (self A B C:Int) (fa la:Option Addr) (fn fc ln lc:Nat) (w:World) (F:ThQ Q w fa fn fc la ln lc t) (hQ:∀ b,w.heap.size≤b→Q b) (hf:c_6 (6,A,B,C)=true) (hr:a_R t=true) (hpc:t.pc≠1000) :
  Calls Tryz.prog 55 #[.agg (thC t fa fn fc la ln lc).toArray,.int .i64 self,.agg #[.int .i64 6,.int .i64 A,.int .i64 B,.int .i64 C]] w (b_8 Q (doT t self (6,A,B,C)) (doE t (6,A,B,C)) w):=by
 obtain ⟨f1,f2,f3,f4,f5⟩:=b_1 hf (show (1:Int)≤6 by decide) (show (6:Int)≤15 by decide);simp only at f1 f2 f3 f4 f5;have hp:=b_x hr;obtain ⟨W,hW⟩:=nm (((w.alloc (Obj.cells (thC t fa fn fc la ln lc).toArray 46)).alloc (Obj.cells #[.int .i64 6,.int .i64 A,.int .i64 B,.int .i64 C] 66)).alloc (Obj.cells thN.toArray 46));have X:=N4;have IV:a_p W (w.heap.size+1) [.int .i64 6,.int .i64 A,.int .i64 B,.int .i64 C]:=by rw [hW];exact a_s _ (a_e [.int .i64 6,.int .i64 A,.int .i64 B,.int .i64 C] _ (by simp))
 have R:=N13;have hB:=N2;have hz:=N32;have hF:=N33;have HQ0:=hid hQ;have HFl:=N49;have ⟨HF0,HX,HI,HR,HB,HW,HZ,HFW⟩:=hh8 F X IV R hB hW hz hF;have HP:=N45;have HRT:=hid (And.intro hr hpc);clear hW X IV R hB hF F hz hp hf hr hpc hQ;obtain ⟨z,hz⟩:=mn (doT t self (6,A,B,C));have HZZ:=hid hz;have HZF:=N35;clear hz;obtain ⟨jb,jbe,jb8⟩:=a_5 (f3 (by decide));obtain ⟨jc,jce,jc8⟩:=a_5 (f5 (by decide));subst jbe;subst jce;have HA1:=hid (f1 (by decide));clear f1 f2 f3 f4 f5
 go_enter Tryz.func55,Tryz.ntmps55
 go_upto_region 1 with fail
 rw [←HW.out];have k0:=(HI.out 0 _ rfl).1;have k1:=(HI.out 1 _ rfl).1;have k2:=(HI.out 2 _ rfl).1;have k3:=(HI.out 3 _ rfl).1;have y0:=(HX.out 0 _ rfl).1
 go_upto_region 6 with (first | (refine wpList_load_mid rfl 43 _ rfl w.heap.size 1 rfl (rgC t.r) _ (c_k HX.out) Tryz.underlying43 rfl (by kernel_rfl) ?_) | (refine a_c rfl 43 _ _ rfl W.heap.size (rgC t.r).toArray rfl rfl _ (a_e rgZ W.heap.size rfl) rfl (by kernel_rfl) (b_H _ _ _ _ _ _ _ _) ?_;intro U HU))
 have hU:=HU.out;have hz:=HZ.out;have X5:=N11;have I5:a_p U (w.heap.size+1) [.int .i64 6,.int .i64 A,.int .i64 (jb:Nat),.int .i64 (jc:Nat)]:=by rw [hU];exact a_j (by omega) (a_s _ HI.out)
 have R5:=N16;have A5:=N9;have B5:=N12;obtain ⟨V,hV⟩:=nm (U.setCell ⟨w.heap.size,0,none⟩ (.int .i64 (t.pc+1)));have X6:=N0;have I6:a_p V (w.heap.size+1) [.int .i64 6,.int .i64 A,.int .i64 (jb:Nat),.int .i64 (jc:Nat)]:=by rw [hV];exact a_l I5 (by omega) _
 have R6:=N23;have A6:=N20;have B6:=N10;obtain ⟨y0',g0⟩:=X5 0 _ rfl;have p1:=HP.out.1;have p2:=HP.out.2;have ⟨HX6,HI6,HR6,HA6,HB6,HV⟩:=hh6 X6 I6 R6 A6 B6 hV;clear k0 k1 k2 k3 y0 hU hz X5 I5 R5 A5 B5 hV X6 I6 R6 A6 B6 HX HI HR HB
 go_upto_region 7 with fail
 rw [←HV.out];clear y0' g0 p1 p2;have k0:=(HI6.out 0 _ rfl).1;have k1:=(HI6.out 1 _ rfl).1;have k2:=(HI6.out 2 _ rfl).1;have k3:=(HI6.out 3 _ rfl).1;have kjb:=N104;have ijb1:(0:Int)≤jb:=by omega
 have ijb2:(jb:Int) < 8:=by omega
 have kjc:=N176;have ijc1:(0:Int)≤jc:=by omega
 have ijc2:(jc:Int) < 8:=by omega
 go_upto_region 26 with fail
 go_quiet (fail)
 have HBD:=hid (b_5 HB6.out nq)
 go_wp2_with (first | (refine wpList_load_mid rfl 43 _ rfl W.heap.size 0 rfl (rgC t.r) _ (a_f HA6.out) Tryz.underlying43 rfl (by kernel_rfl) ?_))
 have h0:=b_R t.r A (wrap64 (t.r jb - t.r jc)) (V.drewN nq) HA1.out;refine h0.mono ?_;clear h0;rintro e w7 ⟨rfl,hb7⟩;obtain ⟨s,hs⟩:=mn (b_Y t.r A (wrap64 (t.r jb - t.r jc)));rw [hs];have hzs:=N40;have HX7:=hid (a_h hb7 HX6.out);have HR7:=hid (a_h hb7 HR6.out);have HB7:=hid (a_a HBD.out hb7);have HZS:=hid hzs;clear hb7 hs hzs
 go_upto_region 36 with (refine a_J rfl 43 _ _ rfl w.heap.size 1 (rgC s).toArray rfl rfl _ HX7.out (by simp) (by kernel_rfl) (b_H _ _ _ _ _ _ _ _) ?_;intro U8 HU8)
 have HX8:=N7;have HR8:=N25;have HB8:=N24;clear HX7 HR7 HB7 HU8 HZS
 go_wp2_with (first | (refine wpList_load_mid rfl 46 _ rfl w.heap.size 0 rfl (thC z fa fn fc la ln lc) _ (a_f HX8.out) Tryz.underlying46 rfl (by kernel_rfl) ?_) | (refine a_c rfl 46 _ _ rfl (w.heap.size+2) (thC z fa fn fc la ln lc).toArray rfl rfl _ HR8.out rfl (by kernel_rfl) (a_L _ _ _ _ _ _ _) ?_;intro U HU))
 refine a_m ⟨w.heap.size+2,0,none⟩ rfl rfl rfl (a_T HU HR8.out rfl) ?_;refine b_i HZZ.out rfl ?_ (a_x HU (by omega) HB8.out);have h:=N62;exact ⟨h.fcap,by rw [HZF.out.1];exact h.fs,h.lcap,by rw [HZF.out.2];exact h.lf⟩
theorem t_i (Q:Nat→Prop) (t:Thr) (self A B C:Int) (fa la:Option Addr) (fn fc ln lc:Nat) (w:World) (F:ThQ Q w fa fn fc la ln lc t) (hQ:∀ b,w.heap.size≤b→Q b) (hf:c_6 (7,A,B,C)=true) (hr:a_R t=true) (hpc:t.pc≠1000) :
  Calls Tryz.prog 55 #[.agg (thC t fa fn fc la ln lc).toArray,.int .i64 self,.agg #[.int .i64 7,.int .i64 A,.int .i64 B,.int .i64 C]] w (b_8 Q (doT t self (7,A,B,C)) (doE t (7,A,B,C)) w):=by
 obtain ⟨f1,f2,f3,f4,f5⟩:=b_1 hf (show (1:Int)≤7 by decide) (show (7:Int)≤15 by decide);simp only at f1 f2 f3 f4 f5;have hp:=b_x hr;obtain ⟨W,hW⟩:=nm (((w.alloc (Obj.cells (thC t fa fn fc la ln lc).toArray 46)).alloc (Obj.cells #[.int .i64 7,.int .i64 A,.int .i64 B,.int .i64 C] 66)).alloc (Obj.cells thN.toArray 46));have X:=N4;have IV:a_p W (w.heap.size+1) [.int .i64 7,.int .i64 A,.int .i64 B,.int .i64 C]:=by rw [hW];exact a_s _ (a_e [.int .i64 7,.int .i64 A,.int .i64 B,.int .i64 C] _ (by simp))
 have R:=N13;have hB:=N2;have hz:=N32;have hF:=N33;have HQ0:=hid hQ;have HFl:=N49;have ⟨HF0,HX,HI,HR,HB,HW,HZ,HFW⟩:=hh8 F X IV R hB hW hz hF;have HP:=N45;have HRT:=hid (And.intro hr hpc);clear hW X IV R hB hF F hz hp hf hr hpc hQ;obtain ⟨z,hz⟩:=mn (doT t self (7,A,B,C));have HZZ:=hid hz;have HZF:=N35;clear hz;obtain ⟨jb,jbe,jb8⟩:=a_5 (f3 (by decide));obtain ⟨jc,jce,jc8⟩:=a_5 (f5 (by decide));subst jbe;subst jce;have HA1:=hid (f1 (by decide));clear f1 f2 f3 f4 f5
 go_enter Tryz.func55,Tryz.ntmps55
 go_upto_region 1 with fail
 rw [←HW.out];have k0:=(HI.out 0 _ rfl).1;have k1:=(HI.out 1 _ rfl).1;have k2:=(HI.out 2 _ rfl).1;have k3:=(HI.out 3 _ rfl).1;have y0:=(HX.out 0 _ rfl).1
 go_upto_region 6 with (first | (refine wpList_load_mid rfl 43 _ rfl w.heap.size 1 rfl (rgC t.r) _ (c_k HX.out) Tryz.underlying43 rfl (by kernel_rfl) ?_) | (refine a_c rfl 43 _ _ rfl W.heap.size (rgC t.r).toArray rfl rfl _ (a_e rgZ W.heap.size rfl) rfl (by kernel_rfl) (b_H _ _ _ _ _ _ _ _) ?_;intro U HU))
 have hU:=HU.out;have hz:=HZ.out;have X5:=N11;have I5:a_p U (w.heap.size+1) [.int .i64 7,.int .i64 A,.int .i64 (jb:Nat),.int .i64 (jc:Nat)]:=by rw [hU];exact a_j (by omega) (a_s _ HI.out)
 have R5:=N16;have A5:=N9;have B5:=N12;obtain ⟨V,hV⟩:=nm (U.setCell ⟨w.heap.size,0,none⟩ (.int .i64 (t.pc+1)));have X6:=N0;have I6:a_p V (w.heap.size+1) [.int .i64 7,.int .i64 A,.int .i64 (jb:Nat),.int .i64 (jc:Nat)]:=by rw [hV];exact a_l I5 (by omega) _
 have R6:=N23;have A6:=N20;have B6:=N10;obtain ⟨y0',g0⟩:=X5 0 _ rfl;have p1:=HP.out.1;have p2:=HP.out.2;have ⟨HX6,HI6,HR6,HA6,HB6,HV⟩:=hh6 X6 I6 R6 A6 B6 hV;clear k0 k1 k2 k3 y0 hU hz X5 I5 R5 A5 B5 hV X6 I6 R6 A6 B6 HX HI HR HB
 go_upto_region 7 with fail
 rw [←HV.out];clear y0' g0 p1 p2;have k0:=(HI6.out 0 _ rfl).1;have k1:=(HI6.out 1 _ rfl).1;have k2:=(HI6.out 2 _ rfl).1;have k3:=(HI6.out 3 _ rfl).1;have kjb:=N104;have ijb1:(0:Int)≤jb:=by omega
 have ijb2:(jb:Int) < 8:=by omega
 have kjc:=N176;have ijc1:(0:Int)≤jc:=by omega
 have ijc2:(jc:Int) < 8:=by omega
 go_upto_region 28 with fail
 go_quiet (fail)
 have HBD:=hid (b_5 HB6.out nq)
 go_wp2_with (first | (refine wpList_load_mid rfl 43 _ rfl W.heap.size 0 rfl (rgC t.r) _ (a_f HA6.out) Tryz.underlying43 rfl (by kernel_rfl) ?_))
 have h0:=b_R t.r A (bits .and .i64 (t.r jb) (t.r jc)) (V.drewN nq) HA1.out;refine h0.mono ?_;clear h0;rintro e w7 ⟨rfl,hb7⟩;obtain ⟨s,hs⟩:=mn (b_Y t.r A (bits .and .i64 (t.r jb) (t.r jc)));rw [hs];have hzs:=N40;have HX7:=hid (a_h hb7 HX6.out);have HR7:=hid (a_h hb7 HR6.out);have HB7:=hid (a_a HBD.out hb7);have HZS:=hid hzs;clear hb7 hs hzs
 go_upto_region 36 with (refine a_J rfl 43 _ _ rfl w.heap.size 1 (rgC s).toArray rfl rfl _ HX7.out (by simp) (by kernel_rfl) (b_H _ _ _ _ _ _ _ _) ?_;intro U8 HU8)
 have HX8:=N7;have HR8:=N25;have HB8:=N24;clear HX7 HR7 HB7 HU8 HZS
 go_wp2_with (first | (refine wpList_load_mid rfl 46 _ rfl w.heap.size 0 rfl (thC z fa fn fc la ln lc) _ (a_f HX8.out) Tryz.underlying46 rfl (by kernel_rfl) ?_) | (refine a_c rfl 46 _ _ rfl (w.heap.size+2) (thC z fa fn fc la ln lc).toArray rfl rfl _ HR8.out rfl (by kernel_rfl) (a_L _ _ _ _ _ _ _) ?_;intro U HU))
 refine a_m ⟨w.heap.size+2,0,none⟩ rfl rfl rfl (a_T HU HR8.out rfl) ?_;refine b_i HZZ.out rfl ?_ (a_x HU (by omega) HB8.out);have h:=N62;exact ⟨h.fcap,by rw [HZF.out.1];exact h.fs,h.lcap,by rw [HZF.out.2];exact h.lf⟩
theorem t_j (Q:Nat→Prop) (t:Thr) (self A B C:Int) (fa la:Option Addr) (fn fc ln lc:Nat) (w:World) (F:ThQ Q w fa fn fc la ln lc t) (hQ:∀ b,w.heap.size≤b→Q b) (hf:c_6 (8,A,B,C)=true) (hr:a_R t=true) (hpc:t.pc≠1000) :
  Calls Tryz.prog 55 #[.agg (thC t fa fn fc la ln lc).toArray,.int .i64 self,.agg #[.int .i64 8,.int .i64 A,.int .i64 B,.int .i64 C]] w (b_8 Q (doT t self (8,A,B,C)) (doE t (8,A,B,C)) w):=by
 obtain ⟨f1,f2,f3,f4,f5⟩:=b_1 hf (show (1:Int)≤8 by decide) (show (8:Int)≤15 by decide);simp only at f1 f2 f3 f4 f5;have hp:=b_x hr;obtain ⟨W,hW⟩:=nm (((w.alloc (Obj.cells (thC t fa fn fc la ln lc).toArray 46)).alloc (Obj.cells #[.int .i64 8,.int .i64 A,.int .i64 B,.int .i64 C] 66)).alloc (Obj.cells thN.toArray 46));have X:=N4;have IV:a_p W (w.heap.size+1) [.int .i64 8,.int .i64 A,.int .i64 B,.int .i64 C]:=by rw [hW];exact a_s _ (a_e [.int .i64 8,.int .i64 A,.int .i64 B,.int .i64 C] _ (by simp))
 have R:=N13;have hB:=N2;have hz:=N32;have hF:=N33;have HQ0:=hid hQ;have HFl:=N49;have ⟨HF0,HX,HI,HR,HB,HW,HZ,HFW⟩:=hh8 F X IV R hB hW hz hF;have HP:=N45;have HRT:=hid (And.intro hr hpc);clear hW X IV R hB hF F hz hp hf hr hpc hQ;obtain ⟨z,hz⟩:=mn (doT t self (8,A,B,C));have HZZ:=hid hz;have HZF:=N35;clear hz;obtain ⟨jb,jbe,jb8⟩:=a_5 (f3 (by decide));obtain ⟨jc,jce,jc8⟩:=a_5 (f5 (by decide));subst jbe;subst jce;have HA1:=hid (f1 (by decide));clear f1 f2 f3 f4 f5
 go_enter Tryz.func55,Tryz.ntmps55
 go_upto_region 1 with fail
 rw [←HW.out];have k0:=(HI.out 0 _ rfl).1;have k1:=(HI.out 1 _ rfl).1;have k2:=(HI.out 2 _ rfl).1;have k3:=(HI.out 3 _ rfl).1;have y0:=(HX.out 0 _ rfl).1
 go_upto_region 6 with (first | (refine wpList_load_mid rfl 43 _ rfl w.heap.size 1 rfl (rgC t.r) _ (c_k HX.out) Tryz.underlying43 rfl (by kernel_rfl) ?_) | (refine a_c rfl 43 _ _ rfl W.heap.size (rgC t.r).toArray rfl rfl _ (a_e rgZ W.heap.size rfl) rfl (by kernel_rfl) (b_H _ _ _ _ _ _ _ _) ?_;intro U HU))
 have hU:=HU.out;have hz:=HZ.out;have X5:=N11;have I5:a_p U (w.heap.size+1) [.int .i64 8,.int .i64 A,.int .i64 (jb:Nat),.int .i64 (jc:Nat)]:=by rw [hU];exact a_j (by omega) (a_s _ HI.out)
 have R5:=N16;have A5:=N9;have B5:=N12;obtain ⟨V,hV⟩:=nm (U.setCell ⟨w.heap.size,0,none⟩ (.int .i64 (t.pc+1)));have X6:=N0;have I6:a_p V (w.heap.size+1) [.int .i64 8,.int .i64 A,.int .i64 (jb:Nat),.int .i64 (jc:Nat)]:=by rw [hV];exact a_l I5 (by omega) _
 have R6:=N23;have A6:=N20;have B6:=N10;obtain ⟨y0',g0⟩:=X5 0 _ rfl;have p1:=HP.out.1;have p2:=HP.out.2;have ⟨HX6,HI6,HR6,HA6,HB6,HV⟩:=hh6 X6 I6 R6 A6 B6 hV;clear k0 k1 k2 k3 y0 hU hz X5 I5 R5 A5 B5 hV X6 I6 R6 A6 B6 HX HI HR HB
 go_upto_region 7 with fail
 rw [←HV.out];clear y0' g0 p1 p2;have k0:=(HI6.out 0 _ rfl).1;have k1:=(HI6.out 1 _ rfl).1;have k2:=(HI6.out 2 _ rfl).1;have k3:=(HI6.out 3 _ rfl).1;have kjb:=N104;have ijb1:(0:Int)≤jb:=by omega
 have ijb2:(jb:Int) < 8:=by omega
 have kjc:=N176;have ijc1:(0:Int)≤jc:=by omega
 have ijc2:(jc:Int) < 8:=by omega
 go_upto_region 30 with fail
 go_quiet (fail)
 have HBD:=hid (b_5 HB6.out nq)
 go_wp2_with (first | (refine wpList_load_mid rfl 43 _ rfl W.heap.size 0 rfl (rgC t.r) _ (a_f HA6.out) Tryz.underlying43 rfl (by kernel_rfl) ?_))
 have h0:=b_R t.r A (bits .xor .i64 (t.r jb) (t.r jc)) (V.drewN nq) HA1.out;refine h0.mono ?_;clear h0;rintro e w7 ⟨rfl,hb7⟩;obtain ⟨s,hs⟩:=mn (b_Y t.r A (bits .xor .i64 (t.r jb) (t.r jc)));rw [hs];have hzs:=N40;have HX7:=hid (a_h hb7 HX6.out);have HR7:=hid (a_h hb7 HR6.out);have HB7:=hid (a_a HBD.out hb7);have HZS:=hid hzs;clear hb7 hs hzs
 go_upto_region 36 with (refine a_J rfl 43 _ _ rfl w.heap.size 1 (rgC s).toArray rfl rfl _ HX7.out (by simp) (by kernel_rfl) (b_H _ _ _ _ _ _ _ _) ?_;intro U8 HU8)
 have HX8:=N7;have HR8:=N25;have HB8:=N24;clear HX7 HR7 HB7 HU8 HZS
 go_wp2_with (first | (refine wpList_load_mid rfl 46 _ rfl w.heap.size 0 rfl (thC z fa fn fc la ln lc) _ (a_f HX8.out) Tryz.underlying46 rfl (by kernel_rfl) ?_) | (refine a_c rfl 46 _ _ rfl (w.heap.size+2) (thC z fa fn fc la ln lc).toArray rfl rfl _ HR8.out rfl (by kernel_rfl) (a_L _ _ _ _ _ _ _) ?_;intro U HU))
 refine a_m ⟨w.heap.size+2,0,none⟩ rfl rfl rfl (a_T HU HR8.out rfl) ?_;refine b_i HZZ.out rfl ?_ (a_x HU (by omega) HB8.out);have h:=N62;exact ⟨h.fcap,by rw [HZF.out.1];exact h.fs,h.lcap,by rw [HZF.out.2];exact h.lf⟩
theorem t_k (Q:Nat→Prop) (t:Thr) (self A B C:Int) (fa la:Option Addr) (fn fc ln lc:Nat) (w:World) (F:ThQ Q w fa fn fc la ln lc t) (hQ:∀ b,w.heap.size≤b→Q b) (hf:c_6 (9,A,B,C)=true) (hr:a_R t=true) (hpc:t.pc≠1000) :
  Calls Tryz.prog 55 #[.agg (thC t fa fn fc la ln lc).toArray,.int .i64 self,.agg #[.int .i64 9,.int .i64 A,.int .i64 B,.int .i64 C]] w (b_8 Q (doT t self (9,A,B,C)) (doE t (9,A,B,C)) w):=by
 obtain ⟨f1,f2,f3,f4,f5⟩:=b_1 hf (show (1:Int)≤9 by decide) (show (9:Int)≤15 by decide);simp only at f1 f2 f3 f4 f5;have hp:=b_x hr;obtain ⟨W,hW⟩:=nm (((w.alloc (Obj.cells (thC t fa fn fc la ln lc).toArray 46)).alloc (Obj.cells #[.int .i64 9,.int .i64 A,.int .i64 B,.int .i64 C] 66)).alloc (Obj.cells thN.toArray 46));have X:=N4;have IV:a_p W (w.heap.size+1) [.int .i64 9,.int .i64 A,.int .i64 B,.int .i64 C]:=by rw [hW];exact a_s _ (a_e [.int .i64 9,.int .i64 A,.int .i64 B,.int .i64 C] _ (by simp))
 have R:=N13;have hB:=N2;have hz:=N32;have hF:=N33;have HQ0:=hid hQ;have HFl:=N49;have ⟨HF0,HX,HI,HR,HB,HW,HZ,HFW⟩:=hh8 F X IV R hB hW hz hF;have HP:=N45;have HRT:=hid (And.intro hr hpc);clear hW X IV R hB hF F hz hp hf hr hpc hQ;obtain ⟨z,hz⟩:=mn (doT t self (9,A,B,C));have HZZ:=hid hz;have HZF:=N35;clear hz;obtain ⟨jb,jbe,jb8⟩:=a_5 (f3 (by decide));obtain ⟨jc,jce,jc8⟩:=a_5 (f5 (by decide));subst jbe;subst jce;have HA1:=hid (f1 (by decide));clear f1 f2 f3 f4 f5
 go_enter Tryz.func55,Tryz.ntmps55
 go_upto_region 1 with fail
 rw [←HW.out];have k0:=(HI.out 0 _ rfl).1;have k1:=(HI.out 1 _ rfl).1;have k2:=(HI.out 2 _ rfl).1;have k3:=(HI.out 3 _ rfl).1;have y0:=(HX.out 0 _ rfl).1
 go_upto_region 6 with (first | (refine wpList_load_mid rfl 43 _ rfl w.heap.size 1 rfl (rgC t.r) _ (c_k HX.out) Tryz.underlying43 rfl (by kernel_rfl) ?_) | (refine a_c rfl 43 _ _ rfl W.heap.size (rgC t.r).toArray rfl rfl _ (a_e rgZ W.heap.size rfl) rfl (by kernel_rfl) (b_H _ _ _ _ _ _ _ _) ?_;intro U HU))
 have hU:=HU.out;have hz:=HZ.out;have X5:=N11;have I5:a_p U (w.heap.size+1) [.int .i64 9,.int .i64 A,.int .i64 (jb:Nat),.int .i64 (jc:Nat)]:=by rw [hU];exact a_j (by omega) (a_s _ HI.out)
 have R5:=N16;have A5:=N9;have B5:=N12;obtain ⟨V,hV⟩:=nm (U.setCell ⟨w.heap.size,0,none⟩ (.int .i64 (t.pc+1)));have X6:=N0;have I6:a_p V (w.heap.size+1) [.int .i64 9,.int .i64 A,.int .i64 (jb:Nat),.int .i64 (jc:Nat)]:=by rw [hV];exact a_l I5 (by omega) _
 have R6:=N23;have A6:=N20;have B6:=N10;obtain ⟨y0',g0⟩:=X5 0 _ rfl;have p1:=HP.out.1;have p2:=HP.out.2;have ⟨HX6,HI6,HR6,HA6,HB6,HV⟩:=hh6 X6 I6 R6 A6 B6 hV;clear k0 k1 k2 k3 y0 hU hz X5 I5 R5 A5 B5 hV X6 I6 R6 A6 B6 HX HI HR HB
 go_upto_region 7 with fail
 rw [←HV.out];clear y0' g0 p1 p2;have k0:=(HI6.out 0 _ rfl).1;have k1:=(HI6.out 1 _ rfl).1;have k2:=(HI6.out 2 _ rfl).1;have k3:=(HI6.out 3 _ rfl).1;have kjb:=N104;have ijb1:(0:Int)≤jb:=by omega
 have ijb2:(jb:Int) < 8:=by omega
 have kjc:=N176;have ijc1:(0:Int)≤jc:=by omega
 have ijc2:(jc:Int) < 8:=by omega
 go_upto_region 33 with fail
 by_cases hlt:t.r jb < t.r jc
 ·have HLT:=hid hlt
  go_quiet (fail)
  have HBD:=hid (b_5 HB6.out nq)
  go_wp2_with (first | (refine wpList_load_mid rfl 43 _ rfl W.heap.size 0 rfl (rgC t.r) _ (a_f HA6.out) Tryz.underlying43 rfl (by kernel_rfl) ?_))
  have h0:=b_R t.r A (1) (V.drewN nq) HA1.out;refine h0.mono ?_;clear h0;rintro e w7 ⟨rfl,hb7⟩;obtain ⟨s,hs⟩:=mn (b_Y t.r A (1));rw [hs];have hzs:(⟨t.pc+1,s,t.fs,t.st,t.ft,t.lf⟩:Thr)=z:=by rw [←HZZ.out,←hs];show _=c_2 t A (if t.r jb < t.r jc then 1 else 0);rw [if_pos HLT.out];rfl
  have HX7:=hid (a_h hb7 HX6.out);have HR7:=hid (a_h hb7 HR6.out);have HB7:=hid (a_a HBD.out hb7);have HZS:=hid hzs;clear hb7 hs hzs
  go_upto_region 36 with (refine a_J rfl 43 _ _ rfl w.heap.size 1 (rgC s).toArray rfl rfl _ HX7.out (by simp) (by kernel_rfl) (b_H _ _ _ _ _ _ _ _) ?_;intro U8 HU8)
  have HX8:=N7;have HR8:=N25;have HB8:=N24;clear HX7 HR7 HB7 HU8 HZS;exact J19
 ·have HLT:=hid hlt
  go_quiet (fail)
  have HBD:=hid (b_5 HB6.out nq)
  go_wp2_with (first | (refine wpList_load_mid rfl 43 _ rfl W.heap.size 0 rfl (rgC t.r) _ (a_f HA6.out) Tryz.underlying43 rfl (by kernel_rfl) ?_))
  have h0:=b_R t.r A (0) (V.drewN nq) HA1.out;refine h0.mono ?_;clear h0;rintro e w7 ⟨rfl,hb7⟩;obtain ⟨s,hs⟩:=mn (b_Y t.r A (0));rw [hs];have hzs:(⟨t.pc+1,s,t.fs,t.st,t.ft,t.lf⟩:Thr)=z:=by rw [←HZZ.out,←hs];show _=c_2 t A (if t.r jb < t.r jc then 1 else 0);rw [if_neg (Int.not_lt.2 HLT.out)];rfl
  have HX7:=hid (a_h hb7 HX6.out);have HR7:=hid (a_h hb7 HR6.out);have HB7:=hid (a_a HBD.out hb7);have HZS:=hid hzs;clear hb7 hs hzs
  go_upto_region 36 with (refine a_J rfl 43 _ _ rfl w.heap.size 1 (rgC s).toArray rfl rfl _ HX7.out (by simp) (by kernel_rfl) (b_H _ _ _ _ _ _ _ _) ?_;intro U8 HU8)
  have HX8:=N7;have HR8:=N25;have HB8:=N24;clear HX7 HR7 HB7 HU8 HZS;exact J19
theorem r_j (Q:Nat→Prop) (t:Thr) (self A B C:Int) (fa la:Option Addr) (fn fc ln lc:Nat) (w:World) (F:ThQ Q w fa fn fc la ln lc t) (hQ:∀ b,w.heap.size≤b→Q b) (hf:c_6 (10,A,B,C)=true) (hr:a_R t=true) (hpc:t.pc≠1000) :
  Calls Tryz.prog 55 #[.agg (thC t fa fn fc la ln lc).toArray,.int .i64 self,.agg #[.int .i64 10,.int .i64 A,.int .i64 B,.int .i64 C]] w (b_8 Q (doT t self (10,A,B,C)) (doE t (10,A,B,C)) w):=by
 obtain ⟨f1,f2,f3,f4,f5⟩:=b_1 hf (show (1:Int)≤10 by decide) (show (10:Int)≤15 by decide);simp only at f1 f2 f3 f4 f5;have hp:=b_x hr;obtain ⟨W,hW⟩:=nm (((w.alloc (Obj.cells (thC t fa fn fc la ln lc).toArray 46)).alloc (Obj.cells #[.int .i64 10,.int .i64 A,.int .i64 B,.int .i64 C] 66)).alloc (Obj.cells thN.toArray 46));have X:=N4;have IV:a_p W (w.heap.size+1) [.int .i64 10,.int .i64 A,.int .i64 B,.int .i64 C]:=by rw [hW];exact a_s _ (a_e [.int .i64 10,.int .i64 A,.int .i64 B,.int .i64 C] _ (by simp))
 have R:=N13;have hB:=N2;have hz:=N32;have hF:=N33;have HQ0:=hid hQ;have HFl:=N49;have ⟨HF0,HX,HI,HR,HB,HW,HZ,HFW⟩:=hh8 F X IV R hB hW hz hF;have HP:=N45;have HRT:=hid (And.intro hr hpc);clear hW X IV R hB hF F hz hp hf hr hpc hQ;obtain ⟨z,hz⟩:=mn (doT t self (10,A,B,C));have HZZ:=hid hz;have HZF:=N35;clear hz;clear f1 f2 f3 f4 f5
 go_enter Tryz.func55,Tryz.ntmps55
 go_upto_region 1 with fail
 rw [←HW.out];have k0:=(HI.out 0 _ rfl).1;have k1:=(HI.out 1 _ rfl).1;have k2:=(HI.out 2 _ rfl).1;have k3:=(HI.out 3 _ rfl).1;have y0:=(HX.out 0 _ rfl).1
 go_upto_region 6 with (first | (refine wpList_load_mid rfl 43 _ rfl w.heap.size 1 rfl (rgC t.r) _ (c_k HX.out) Tryz.underlying43 rfl (by kernel_rfl) ?_) | (refine a_c rfl 43 _ _ rfl W.heap.size (rgC t.r).toArray rfl rfl _ (a_e rgZ W.heap.size rfl) rfl (by kernel_rfl) (b_H _ _ _ _ _ _ _ _) ?_;intro U HU))
 have hU:=HU.out;have hz:=HZ.out;have X5:=N11;have I5:a_p U (w.heap.size+1) [.int .i64 10,.int .i64 A,.int .i64 B,.int .i64 C]:=by rw [hU];exact a_j (by omega) (a_s _ HI.out)
 have R5:=N16;have A5:=N9;have B5:=N12;obtain ⟨V,hV⟩:=nm (U.setCell ⟨w.heap.size,0,none⟩ (.int .i64 (t.pc+1)));have X6:=N0;have I6:a_p V (w.heap.size+1) [.int .i64 10,.int .i64 A,.int .i64 B,.int .i64 C]:=by rw [hV];exact a_l I5 (by omega) _
 have R6:=N23;have A6:=N20;have B6:=N10;obtain ⟨y0',g0⟩:=X5 0 _ rfl;have p1:=HP.out.1;have p2:=HP.out.2;have ⟨HX6,HI6,HR6,HA6,HB6,HV⟩:=hh6 X6 I6 R6 A6 B6 hV;clear k0 k1 k2 k3 y0 hU hz X5 I5 R5 A5 B5 hV X6 I6 R6 A6 B6 HX HI HR HB
 go_upto_region 7 with fail
 rw [←HV.out];clear y0' g0 p1 p2;have k0:=(HI6.out 0 _ rfl).1;have k1:=(HI6.out 1 _ rfl).1;have k2:=(HI6.out 2 _ rfl).1;have k3:=(HI6.out 3 _ rfl).1;have hx6:=HX6.out;obtain ⟨y0,g0⟩:=hx6 0 _ rfl;obtain ⟨V1,hV1⟩:=nm (V.setCell ⟨w.heap.size,0,none⟩ (.int .i64 A));have x1:a_p V1 w.heap.size [.int .i64 A,.int .i64 (t.r 0),.int .i64 (t.r 1),.int .i64 (t.r 2),.int .i64 (t.r 3),.int .i64 (t.r 4),.int .i64 (t.r 5),.int .i64 (t.r 6),.int .i64 (t.r 7),.slice fa fn fc,.int .i64 t.st,.int .i64 t.ft,.slice la ln lc]:=by rw [hV1];exact a_y hx6 0 (by simp) _
 have i1:a_p V1 (w.heap.size+1) [.int .i64 10,.int .i64 A,.int .i64 B,.int .i64 C]:=by rw [hV1];exact a_l HI6.out (by omega) _
 have r1:=N142;have b1:=N105;have ⟨HV1,HX7,HI7,HR7,HB7⟩:=hh5 hV1 x1 i1 r1 b1;clear hV1 x1 i1 r1 b1 hx6
 go_upto_region 9 with fail
 rw [←HV1.out];clear y0 g0 k0 k1 k2 k3;have k0:=(HI7.out 0 _ rfl).1;have k2:=(HI7.out 2 _ rfl).1;have HX8:=hid (show a_p V1 w.heap.size (thC z fa fn fc la ln lc) by rw [←HZZ.out];exact HX7.out)
 go_wp2_with (first | (refine wpList_load_mid rfl 46 _ rfl w.heap.size 0 rfl (thC z fa fn fc la ln lc) _ (a_f HX8.out) Tryz.underlying46 rfl (by kernel_rfl) ?_) | (refine a_c rfl 46 _ _ rfl (w.heap.size+2) (thC z fa fn fc la ln lc).toArray rfl rfl _ HR7.out rfl (by kernel_rfl) (a_L _ _ _ _ _ _ _) ?_;intro U HU))
 refine a_m ⟨w.heap.size+2,0,none⟩ rfl rfl rfl (a_T HU HR7.out rfl) ?_;refine b_i HZZ.out rfl ?_ (a_x HU (by omega) HB7.out);have h:=a_v (a_C (a_x HU (by omega) HB7.out)) HF0.out;exact ⟨h.fcap,by rw [HZF.out.1];exact h.fs,h.lcap,by rw [HZF.out.2];exact h.lf⟩
theorem r_k (Q:Nat→Prop) (t:Thr) (self A B C:Int) (fa la:Option Addr) (fn fc ln lc:Nat) (w:World) (F:ThQ Q w fa fn fc la ln lc t) (hQ:∀ b,w.heap.size≤b→Q b) (hf:c_6 (11,A,B,C)=true) (hr:a_R t=true) (hpc:t.pc≠1000) :
  Calls Tryz.prog 55 #[.agg (thC t fa fn fc la ln lc).toArray,.int .i64 self,.agg #[.int .i64 11,.int .i64 A,.int .i64 B,.int .i64 C]] w (b_8 Q (doT t self (11,A,B,C)) (doE t (11,A,B,C)) w):=by
 obtain ⟨f1,f2,f3,f4,f5⟩:=b_1 hf (show (1:Int)≤11 by decide) (show (11:Int)≤15 by decide);simp only at f1 f2 f3 f4 f5;have hp:=b_x hr;obtain ⟨W,hW⟩:=nm (((w.alloc (Obj.cells (thC t fa fn fc la ln lc).toArray 46)).alloc (Obj.cells #[.int .i64 11,.int .i64 A,.int .i64 B,.int .i64 C] 66)).alloc (Obj.cells thN.toArray 46));have X:=N4;have IV:a_p W (w.heap.size+1) [.int .i64 11,.int .i64 A,.int .i64 B,.int .i64 C]:=by rw [hW];exact a_s _ (a_e [.int .i64 11,.int .i64 A,.int .i64 B,.int .i64 C] _ (by simp))
 have R:=N13;have hB:=N2;have hz:=N32;have hF:=N33;have HQ0:=hid hQ;have HFl:=N49;have ⟨HF0,HX,HI,HR,HB,HW,HZ,HFW⟩:=hh8 F X IV R hB hW hz hF;have HP:=N45;have HRT:=hid (And.intro hr hpc);clear hW X IV R hB hF F hz hp hf hr hpc hQ;obtain ⟨z,hz⟩:=mn (doT t self (11,A,B,C));have HZZ:=hid hz;have HZF:=hid (show z.fs=t.fs∧z.lf=t.lf by rw [←hz];exact h_2 _ _ _);clear hz;obtain ⟨ja,jae,ja8⟩:=a_5 (f1 (by decide));subst jae;clear f1 f2 f3 f4 f5
 go_enter Tryz.func55,Tryz.ntmps55
 go_upto_region 1 with fail
 rw [←HW.out];have k0:=(HI.out 0 _ rfl).1;have k1:=(HI.out 1 _ rfl).1;have k2:=(HI.out 2 _ rfl).1;have k3:=(HI.out 3 _ rfl).1;have y0:=(HX.out 0 _ rfl).1
 go_upto_region 6 with (first | (refine wpList_load_mid rfl 43 _ rfl w.heap.size 1 rfl (rgC t.r) _ (c_k HX.out) Tryz.underlying43 rfl (by kernel_rfl) ?_) | (refine a_c rfl 43 _ _ rfl W.heap.size (rgC t.r).toArray rfl rfl _ (a_e rgZ W.heap.size rfl) rfl (by kernel_rfl) (b_H _ _ _ _ _ _ _ _) ?_;intro U HU))
 have hU:=HU.out;have hz:=HZ.out;have X5:=N11;have I5:a_p U (w.heap.size+1) [.int .i64 11,.int .i64 (ja:Nat),.int .i64 B,.int .i64 C]:=by rw [hU];exact a_j (by omega) (a_s _ HI.out)
 have R5:=N16;have A5:=N9;have B5:=N12;obtain ⟨V,hV⟩:=nm (U.setCell ⟨w.heap.size,0,none⟩ (.int .i64 (t.pc+1)));have X6:=N0;have I6:a_p V (w.heap.size+1) [.int .i64 11,.int .i64 (ja:Nat),.int .i64 B,.int .i64 C]:=by rw [hV];exact a_l I5 (by omega) _
 have R6:=N23;have A6:=N20;have B6:=N10;obtain ⟨y0',g0⟩:=X5 0 _ rfl;have p1:=HP.out.1;have p2:=HP.out.2;have ⟨HX6,HI6,HR6,HA6,HB6,HV⟩:=hh6 X6 I6 R6 A6 B6 hV;clear k0 k1 k2 k3 y0 hU hz X5 I5 R5 A5 B5 hV X6 I6 R6 A6 B6 HX HI HR HB
 go_upto_region 7 with fail
 rw [←HV.out];clear y0' g0 p1 p2;have k0:=(HI6.out 0 _ rfl).1;have k1:=(HI6.out 1 _ rfl).1;have k2:=(HI6.out 2 _ rfl).1;have k3:=(HI6.out 3 _ rfl).1;have kja:=(HA6.out ja _ (b_M t.r ja ja8 _)).1;have ija1:(0:Int)≤ja:=by omega
 have ija2:(ja:Int) < 8:=by omega
 have doTk:doT t self (11,(ja:Int),B,C)=brT t (t.r ja==0) B:=rfl;have HDK:=hid doTk;clear doTk
 cases hq:(t.r ja==0) with
 | true =>
  have hx6:=HX6.out;obtain ⟨y0,g0⟩:=hx6 0 _ rfl;obtain ⟨V1,hV1⟩:=nm (V.setCell ⟨w.heap.size,0,none⟩ (.int .i64 (ja:Int)));have x1:=N50;have i1:a_p V1 (w.heap.size+1) [.int .i64 11,.int .i64 (ja:Nat),.int .i64 B,.int .i64 C]:=by rw [hV1];exact a_l HI6.out (by omega) _
  have r1:=N142;have b1:=N105;have ⟨HV1,HX7,HI7,HR7,HB7⟩:=hh5 hV1 x1 i1 r1 b1;clear hV1 x1 i1 r1 b1 hx6
  go_upto_region 9 with fail
  rw [←HV1.out];clear y0 g0 k0 k1 k2 k3 kja;have k0:=(HI7.out 0 _ rfl).1;have k2:=(HI7.out 2 _ rfl).1;obtain ⟨y0,g0⟩:=HX7.out 0 _ rfl;obtain ⟨V2,hV2⟩:=nm (V1.setCell ⟨w.heap.size,0,none⟩ (.int .i64 B));have HV2:=hid hV2;have HX8:=N140;have HR8:=N216;have HB8:=N151;clear hV2
  go_upto_region 11 with fail
  rw [←HV2.out];clear y0 g0;exact J19
 | false =>
  exact J36
theorem r_l (Q:Nat→Prop) (t:Thr) (self A B C:Int) (fa la:Option Addr) (fn fc ln lc:Nat) (w:World) (F:ThQ Q w fa fn fc la ln lc t) (hQ:∀ b,w.heap.size≤b→Q b) (hf:c_6 (12,A,B,C)=true) (hr:a_R t=true) (hpc:t.pc≠1000) :
  Calls Tryz.prog 55 #[.agg (thC t fa fn fc la ln lc).toArray,.int .i64 self,.agg #[.int .i64 12,.int .i64 A,.int .i64 B,.int .i64 C]] w (b_8 Q (doT t self (12,A,B,C)) (doE t (12,A,B,C)) w):=by
 obtain ⟨f1,f2,f3,f4,f5⟩:=b_1 hf (show (1:Int)≤12 by decide) (show (12:Int)≤15 by decide);simp only at f1 f2 f3 f4 f5;have hp:=b_x hr;obtain ⟨W,hW⟩:=nm (((w.alloc (Obj.cells (thC t fa fn fc la ln lc).toArray 46)).alloc (Obj.cells #[.int .i64 12,.int .i64 A,.int .i64 B,.int .i64 C] 66)).alloc (Obj.cells thN.toArray 46));have X:=N4;have IV:a_p W (w.heap.size+1) [.int .i64 12,.int .i64 A,.int .i64 B,.int .i64 C]:=by rw [hW];exact a_s _ (a_e [.int .i64 12,.int .i64 A,.int .i64 B,.int .i64 C] _ (by simp))
 have R:=N13;have hB:=N2;have hz:=N32;have hF:=N33;have HQ0:=hid hQ;have HFl:=N49;have ⟨HF0,HX,HI,HR,HB,HW,HZ,HFW⟩:=hh8 F X IV R hB hW hz hF;have HP:=N45;have HRT:=hid (And.intro hr hpc);clear hW X IV R hB hF F hz hp hf hr hpc hQ;obtain ⟨z,hz⟩:=mn (doT t self (12,A,B,C));have HZZ:=hid hz;have HZF:=hid (show z.fs=t.fs∧z.lf=t.lf by rw [←hz];exact h_2 _ _ _);clear hz;obtain ⟨ja,jae,ja8⟩:=a_5 (f1 (by decide));subst jae;clear f1 f2 f3 f4 f5
 go_enter Tryz.func55,Tryz.ntmps55
 go_upto_region 1 with fail
 rw [←HW.out];have k0:=(HI.out 0 _ rfl).1;have k1:=(HI.out 1 _ rfl).1;have k2:=(HI.out 2 _ rfl).1;have k3:=(HI.out 3 _ rfl).1;have y0:=(HX.out 0 _ rfl).1
 go_upto_region 6 with (first | (refine wpList_load_mid rfl 43 _ rfl w.heap.size 1 rfl (rgC t.r) _ (c_k HX.out) Tryz.underlying43 rfl (by kernel_rfl) ?_) | (refine a_c rfl 43 _ _ rfl W.heap.size (rgC t.r).toArray rfl rfl _ (a_e rgZ W.heap.size rfl) rfl (by kernel_rfl) (b_H _ _ _ _ _ _ _ _) ?_;intro U HU))
 have hU:=HU.out;have hz:=HZ.out;have X5:=N11;have I5:a_p U (w.heap.size+1) [.int .i64 12,.int .i64 (ja:Nat),.int .i64 B,.int .i64 C]:=by rw [hU];exact a_j (by omega) (a_s _ HI.out)
 have R5:=N16;have A5:=N9;have B5:=N12;obtain ⟨V,hV⟩:=nm (U.setCell ⟨w.heap.size,0,none⟩ (.int .i64 (t.pc+1)));have X6:=N0;have I6:a_p V (w.heap.size+1) [.int .i64 12,.int .i64 (ja:Nat),.int .i64 B,.int .i64 C]:=by rw [hV];exact a_l I5 (by omega) _
 have R6:=N23;have A6:=N20;have B6:=N10;obtain ⟨y0',g0⟩:=X5 0 _ rfl;have p1:=HP.out.1;have p2:=HP.out.2;have ⟨HX6,HI6,HR6,HA6,HB6,HV⟩:=hh6 X6 I6 R6 A6 B6 hV;clear k0 k1 k2 k3 y0 hU hz X5 I5 R5 A5 B5 hV X6 I6 R6 A6 B6 HX HI HR HB
 go_upto_region 7 with fail
 rw [←HV.out];clear y0' g0 p1 p2;have k0:=(HI6.out 0 _ rfl).1;have k1:=(HI6.out 1 _ rfl).1;have k2:=(HI6.out 2 _ rfl).1;have k3:=(HI6.out 3 _ rfl).1;have kja:=(HA6.out ja _ (b_M t.r ja ja8 _)).1;have ija1:(0:Int)≤ja:=by omega
 have ija2:(ja:Int) < 8:=by omega
 have doTk:doT t self (12,(ja:Int),B,C)=brT t (t.r ja != 0) B:=rfl;have HDK:=hid doTk;clear doTk
 cases hq:(t.r ja != 0) with
 | true =>
  have hx6:=HX6.out;obtain ⟨y0,g0⟩:=hx6 0 _ rfl;obtain ⟨V1,hV1⟩:=nm (V.setCell ⟨w.heap.size,0,none⟩ (.int .i64 (ja:Int)));have x1:=N50;have i1:a_p V1 (w.heap.size+1) [.int .i64 12,.int .i64 (ja:Nat),.int .i64 B,.int .i64 C]:=by rw [hV1];exact a_l HI6.out (by omega) _
  have r1:=N142;have b1:=N105;have ⟨HV1,HX7,HI7,HR7,HB7⟩:=hh5 hV1 x1 i1 r1 b1;clear hV1 x1 i1 r1 b1 hx6
  go_upto_region 9 with fail
  rw [←HV1.out];clear y0 g0 k0 k1 k2 k3 kja;have k0:=(HI7.out 0 _ rfl).1;have k2:=(HI7.out 2 _ rfl).1;obtain ⟨y0,g0⟩:=HX7.out 0 _ rfl;obtain ⟨V2,hV2⟩:=nm (V1.setCell ⟨w.heap.size,0,none⟩ (.int .i64 B));have HV2:=hid hV2;have HX8:=N140;have HR8:=N216;have HB8:=N151;clear hV2
  go_upto_region 11 with fail
  rw [←HV2.out];clear y0 g0;exact J19
 | false =>
  exact J36
theorem l_Q {t:Thr} {tg:Int} (h:a_R t=true) (h1:t.pc≠1000) (h2:0≤tg∧tg≤1000):h_3 t=d_B t tg∧g_C t tg=f_l t tg:=by
 have e:d_B t tg=if t.fs.length=6 then 13 else 0:=by rw [d_B,if_pos ⟨h,h1,h2.1,h2.2⟩]
 refine ⟨by rw [e];rfl,?_⟩;rw [f_l,e,g_C]
 by_cases h6:t.fs.length=6
 ·rw [if_pos h6,if_pos h6,if_neg (by decide)]
 ·rw [if_neg h6,if_neg h6,if_pos rfl]
theorem l_M {t:Thr} (h:a_R t=true):h_1 t=e_p t∧g_3 t=g_a t:=by
 have e:e_p t=if t.fs.length=0 then 8 else 0:=by rw [e_p,if_pos h]
 refine ⟨by rw [e];rfl,?_⟩;rw [g_a,e,g_3]
 by_cases h6:t.fs.length=0
 ·rw [if_pos h6,if_pos h6,if_neg (by decide)]
 ·rw [if_neg h6,if_neg h6,if_pos rfl]
theorem r_m (Q:Nat→Prop) (t:Thr) (self A B C:Int) (fa la:Option Addr) (fn fc ln lc:Nat) (w:World) (F:ThQ Q w fa fn fc la ln lc t) (hQ:∀ b,w.heap.size≤b→Q b) (hf:c_6 (13,A,B,C)=true) (hr:a_R t=true) (hpc:t.pc≠1000) :
  Calls Tryz.prog 55 #[.agg (thC t fa fn fc la ln lc).toArray,.int .i64 self,.agg #[.int .i64 13,.int .i64 A,.int .i64 B,.int .i64 C]] w (b_8 Q (doT t self (13,A,B,C)) (doE t (13,A,B,C)) w):=by
 obtain ⟨f1,f2,f3,f4,f5⟩:=b_1 hf (show (1:Int)≤13 by decide) (show (13:Int)≤15 by decide);simp only at f1 f2 f3 f4 f5;have hp:=b_x hr;obtain ⟨W,hW⟩:=nm (((w.alloc (Obj.cells (thC t fa fn fc la ln lc).toArray 46)).alloc (Obj.cells #[.int .i64 13,.int .i64 A,.int .i64 B,.int .i64 C] 66)).alloc (Obj.cells thN.toArray 46));have X:=N4;have IV:a_p W (w.heap.size+1) [.int .i64 13,.int .i64 A,.int .i64 B,.int .i64 C]:=by rw [hW];exact a_s _ (a_e [.int .i64 13,.int .i64 A,.int .i64 B,.int .i64 C] _ (by simp))
 have R:=N13;have hB:=N2;have hz:=N32;have hF:=N33;have HQ0:=hid hQ;have HFl:=N49;have ⟨HF0,HX,HI,HR,HB,HW,HZ,HFW⟩:=hh8 F X IV R hB hW hz hF;have HP:=N45;have HRT:=hid (And.intro hr hpc);clear hW X IV R hB hF F hz hp hf hr hpc hQ;obtain ⟨z,hz⟩:=mn (doT t self (13,A,B,C));have HZZ:=hid hz;clear hz;obtain ⟨x,hx⟩:=mn (doE t (13,A,B,C));have HXE:=hid hx;rw [hx];clear hx;have HA1:=hid (f2 (by simp));clear f1 f2 f3 f4 f5
 go_enter Tryz.func55,Tryz.ntmps55
 go_upto_region 1 with fail
 rw [←HW.out];have k0:=(HI.out 0 _ rfl).1;have k1:=(HI.out 1 _ rfl).1;have hl1:=HFl.out;have hl2:=d_l HRT.out.1;have HL:=hid (show fn≤1000 by omega);clear hl1 hl2
 go_wp2_with (refine wpList_load_mid rfl 46 _ rfl w.heap.size 0 rfl (thC t fa fn fc la ln lc) _ (a_f HX.out) Tryz.underlying46 rfl (by kernel_rfl) ?_)
 have h0:=i_V (fun b=>(Q b∧b < w.heap.size)∨W.heap.size≤b) t A fa la fn fc ln lc W (b_t (fun b hb=>Or.inl hb) (a_v (c_r HB.out (fun b hb=>hb.2)) (m_t HF0.out))) (fun b hb=>Or.inr hb) HL.out (by have:=HP.out;omega);rw [(l_Q HRT.out.1 HRT.out.2 HA1.out).1,(l_Q HRT.out.1 HRT.out.2 HA1.out).2,show d_B t A=x from HXE.out,show f_l t A=z from HZZ.out] at h0;exact J42
theorem r_n (Q:Nat→Prop) (t:Thr) (self A B C:Int) (fa la:Option Addr) (fn fc ln lc:Nat) (w:World) (F:ThQ Q w fa fn fc la ln lc t) (hQ:∀ b,w.heap.size≤b→Q b) (hf:c_6 (14,A,B,C)=true) (hr:a_R t=true) (hpc:t.pc≠1000) :
  Calls Tryz.prog 55 #[.agg (thC t fa fn fc la ln lc).toArray,.int .i64 self,.agg #[.int .i64 14,.int .i64 A,.int .i64 B,.int .i64 C]] w (b_8 Q (doT t self (14,A,B,C)) (doE t (14,A,B,C)) w):=by
 obtain ⟨f1,f2,f3,f4,f5⟩:=b_1 hf (show (1:Int)≤14 by decide) (show (14:Int)≤15 by decide);simp only at f1 f2 f3 f4 f5;have hp:=b_x hr;obtain ⟨W,hW⟩:=nm (((w.alloc (Obj.cells (thC t fa fn fc la ln lc).toArray 46)).alloc (Obj.cells #[.int .i64 14,.int .i64 A,.int .i64 B,.int .i64 C] 66)).alloc (Obj.cells thN.toArray 46));have X:=N4;have IV:a_p W (w.heap.size+1) [.int .i64 14,.int .i64 A,.int .i64 B,.int .i64 C]:=by rw [hW];exact a_s _ (a_e [.int .i64 14,.int .i64 A,.int .i64 B,.int .i64 C] _ (by simp))
 have R:=N13;have hB:=N2;have hz:=N32;have hF:=N33;have HQ0:=hid hQ;have HFl:=N49;have ⟨HF0,HX,HI,HR,HB,HW,HZ,HFW⟩:=hh8 F X IV R hB hW hz hF;have HP:=N45;have HRT:=hid (And.intro hr hpc);clear hW X IV R hB hF F hz hp hf hr hpc hQ;obtain ⟨z,hz⟩:=mn (doT t self (14,A,B,C));have HZZ:=hid hz;clear hz;obtain ⟨x,hx⟩:=mn (doE t (14,A,B,C));have HXE:=hid hx;rw [hx];clear hx;clear f1 f2 f3 f4 f5
 go_enter Tryz.func55,Tryz.ntmps55
 go_upto_region 1 with fail
 rw [←HW.out];have k0:=(HI.out 0 _ rfl).1;have k1:=(HI.out 1 _ rfl).1;have hl1:=HFl.out;have hl2:=d_l HRT.out.1;have HL:=hid (show fn≤1000 by omega);clear hl1 hl2
 go_wp2_with (refine wpList_load_mid rfl 46 _ rfl w.heap.size 0 rfl (thC t fa fn fc la ln lc) _ (a_f HX.out) Tryz.underlying46 rfl (by kernel_rfl) ?_)
 have h0:=i_U (fun b=>(Q b∧b < w.heap.size)∨W.heap.size≤b) t fa la fn fc ln lc W (b_t (fun b hb=>Or.inl hb) (a_v (c_r HB.out (fun b hb=>hb.2)) (m_t HF0.out))) (fun b hb=>Or.inr hb) HL.out;rw [(l_M HRT.out.1).1,(l_M HRT.out.1).2,show e_p t=x from HXE.out,show g_a t=z from HZZ.out] at h0;exact J42
end Go.Proofs.YtogdpojnbgeknaaGreatDoor
