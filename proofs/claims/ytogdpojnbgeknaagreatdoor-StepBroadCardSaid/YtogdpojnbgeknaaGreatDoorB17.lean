import Derived.Test.YtogdpojnbgeknaaGreatDoorB16
import Derived.Test.YtogdpojnbgeknaaGreatDoorB7
import Derived.Test.YtogdpojnbgeknaaGreatDoorB0
import Derived.Test.YtogdpojnbgeknaaGreatDoorB11
import Derived.Test.YtogdpojnbgeknaaGreatDoorB2
import Derived.Laws.Cover3
import Derived.Test.YtogdpojnbgeknaaGreatDoorB4
import Derived.Test.YtogdpojnbgeknaaGreatDoorB3
set_option maxRecDepth 100000
set_option maxHeartbeats 16000000
namespace Go.Proofs.YtogdpojnbgeknaaGreatDoor
open Go.ChangeShapes Go.WideShapes Go.ChangeAt Go.RowKit
open Gen
open Lib (hid)
def t_O (h:Nat) (L:WoL) (D:Int) (g b k ja jb:Nat) (vb cc at_ lv me:Int):b_v:=[isV 0 (.pointer (some ⟨b,k*13,none⟩)),isV 1 (.pointer (some ⟨h,1,none⟩)),isV 2 (.int .i64 ja),isV 3 (.pointer (some ⟨g,0,none⟩)),isV 4 (.pointer (some ⟨g,0,none⟩)),isV 5 (.pointer (some ⟨g,0,none⟩)),isV 6 (.pointer (some ⟨g,1,none⟩)),isV 7 (.agg #[.slice L.ws.a L.ws.n L.ws.c,.slice L.ts.a L.ts.n L.ts.c,.int .i64 D,.slice L.bs.a L.bs.n L.bs.c]),isV 8 (.pointer (some ⟨g,0,none⟩)),isV 9 (.pointer (some ⟨g,0,none⟩)),isV 10 (.pointer (some ⟨g,7,none⟩)),isV 11 (.int .i64 k),isV 12 (.pointer (some ⟨b,k*13,none⟩)),isV 13 (.pointer (some ⟨h,2,none⟩)),isV 14 (.int .i64 jb),isV 15 (.pointer (some ⟨b,k*13,none⟩)),isV 16 (.pointer (some ⟨b,k*13+1,none⟩)),isV 17 (.pointer (some ⟨b,k*13+1+jb,none⟩)),isV 18 (.int .i64 vb),isV 19 (.pointer (some ⟨h,3,none⟩)),isV 20 (.int .i64 cc),isV 21 (.int .i64 at_),isV 22 (.tuple #[.int .i64 lv,.int .i64 me]),isV 23 (.int .i64 lv),isV 24 (.int .i64 me),([25],fun vz _=>me=0∧vz=[.int .i64 lv]),isW 26 [] (.pointer (some ⟨b,k*13,none⟩)),isW 27 [26] (.pointer (some ⟨b,k*13+1,none⟩)),isW 28 [27,26] (.pointer (some ⟨b,k*13+1+ja,none⟩))]
theorem o_t (h:Nat) (L:WoL) (D:Int) (g b k ja jb:Nat) (vb cc at_ lv me:Int):c_q (t_O h  L  D  g b k ja jb  vb cc at_ lv me ):=a_d<|a_d<|a_d<|a_d<|a_d<|a_d<|a_d<|a_d<|a_d<|a_d<|a_d<|a_d<|a_d<|a_d<|a_d<|a_d<|a_d<|a_d<|a_d<|a_d<|a_d<|a_d<|a_d<|a_d<|a_d<|a_w (fun _ _ _ _ h=>h)<|a_2<|a_2<|a_2<|b_B
theorem o_c (Q:Nat→Prop) (g b:Nat) (Sx:Nat→Prop) (L:WoL) (X Y:Wo) (k:Nat) (i:Ins) (E:Int) (w:World) (H:Wk Q w g b L X k) (hN:Sx g∧Sx b) (hpc:0≤(thW X k).pc∧(thW X k).pc≤1000) (ho:i.1=16) (ha:0≤i.2.1∧i.2.1≤7) (hb:0≤i.2.2.1∧i.2.2.1≤7) (hE:c_8 X.ws X.ts X.D X.bs k (wrap64 (rgt (thW X k) i.2.2.1+i.2.2.2))=E) (hY:b_k X k (c_2 (thW X k) i.2.1 (f_m X.ws X.ts X.D X.bs k (wrap64 (rgt (thW X k) i.2.2.1+i.2.2.2))))=Y) :
  Calls Tryz.prog 94 #[.pointer (some ⟨g,0,none⟩),.agg #[.int .i64 i.1,.int .i64 i.2.1,.int .i64 i.2.2.1,.int .i64 i.2.2.2]] w (c_d g b Sx X Y k E w):=by
 obtain ⟨op,ra,rb,rc⟩:=i;simp only at *;obtain ⟨W,hW⟩:=nm (w.alloc (Obj.cells (inC (op,ra,rb,rc)).toArray 66));have HI:=N21;have HB:=N3
 have HGS:=hid (show g < w.heap.size∧b < w.heap.size from ⟨a_N H.x (by simp),by
  obtain ⟨TC,h1,h2⟩:=H.tc;have h3:=b_f h2;have h4:repTh.k=13:=rfl;have h5:=H.hk;exact a_N h1 (by rw [h3,h4];omega)⟩)
 have HH:=hid (d_y HB.out H);have HC:=N58;obtain ⟨t,htt⟩:=mn (thW X k);rw [htt] at hpc hE hY;have ⟨HTT,HNN,HPC,HW⟩:=hh4 htt hN hpc hW;have HRR:=hid (And.intro ha hb);obtain ⟨ja,rfl⟩:∃ j:Nat,ra=j:=⟨ra.toNat,by omega⟩;obtain ⟨jb,rfl⟩:∃ j:Nat,rb=j:=⟨rb.toNat,by omega⟩;obtain ⟨va,hva⟩:=mn (t.r ja);obtain ⟨vb,hvb⟩:=mn (t.r jb);simp only [rgt,Int.toNat_natCast] at *;rw [hvb] at hE hY;have HVA:=hid (And.intro hva hvb);obtain ⟨D,hD⟩:=mn (X.D);have HD:=hid hD;obtain ⟨at_,hat⟩:=mn (wrap64 (vb+rc));rw [hat] at hE hY;have HAT:=hid hat;have HWF:=N231;subst ho;obtain ⟨lv,hlv⟩:=mn (f_m X.ws X.ts X.D X.bs k at_);rw [hlv] at hY;have ⟨HLV,HY,HE⟩:=hh3 hlv hY hE;clear hY hE ha hb htt hva hvb hD hat hlv;clear hW H hN hpc
 go_enter Tryz.func94,Tryz.ntmps94
 go_upto_region 1 with fail
 rw [←HW.out]
 go_wp2_with fail
 refine HC.out.mono ?_;rintro e1 V ⟨rfl,m,hm⟩;have HB1:=N15;clear HC hm;have HHV:=hid (d_y HB1.out HH.out);have HIV:=hid (a_h HB1.out HI.out);have HBV:=hid (a_a HB.out HB1.out);have HBN:=N46;clear HB HB1 HH HI HW;obtain ⟨y0,-⟩:=HIV.out 0 _ rfl;have HXD:=N143;obtain ⟨y1,-⟩:=HIV.out 1 _ rfl;obtain ⟨y2,-⟩:=HIV.out 2 _ rfl;obtain ⟨y3,-⟩:=HIV.out 3 _ rfl;obtain ⟨x7,-⟩:=HXD.out 7 _ rfl;have i3:(0:Int)≤ja:=by omega
 have i4:(ja:Int) < 8:=by have:=HRR.out;omega
 have i5:(0:Int)≤jb:=by omega
 have i6:(jb:Int) < 8:=by have:=HRR.out;omega
 have zb:=i_t HHV.out jb (by omega);rw [HTT.out,HVA.out.2] at zb
 have HL:=hid (fun (u:World) (hu:Below V.heap.size V u)=>(show Calls Tryz.prog 120 #[.agg #[.slice L.ws.a L.ws.n L.ws.c,.slice L.ts.a L.ts.n L.ts.c,.int .i64 D,.slice L.bs.a L.bs.n L.bs.c],.int .i64 k,.int .i64 at_] u (g_L lv E u) from by
  have h:=l_s L.ws.a L.ts.a L.bs.a L.ws.n L.ws.c L.ts.n L.ts.c L.bs.n L.bs.c X.ws X.ts X.D X.bs k at_ u (f_s hu HHV.out.ws) (f_s hu HHV.out.ts) (a_G (a_C hu) HHV.out.bs).bl HWF.out;rw [HLV.out,HE.out,HD.out] at h;exact h))
 have hG:=o_t w.heap.size L D g b k ja jb vb rc at_ lv E
 go_wp2_with fail
 clear y0;refine c_I 29 [some 32,some 33,some 34,some 35,some 36,some 37,some 38,some 39,some 40,some 41,some 42,some 43,some 44,some 45,some 46,some 47,some 48,some 49,some 50,some 51,some 52,some 53,some 54,some 55,some 56,some 57,some 58,some 59,some 60] (fun w'=>Below V.heap.size V w') (t_O w.heap.size L D g b k ja jb vb rc at_ lv E) 100 100 (fun _ _ _=>True) (by kernel_rfl) (by kernel_rfl) (by decide) rfl rfl ((Below.refl _ _).drew) ?_
 show StepsL _ _ _ _ _ _ _
 refine InvZ.c (fun _ _ w1 _ C _ hK=>oR C hK (h:=by simp [execOp,go_sem,C.o 4 (.pointer (some ⟨b,k*13,none⟩))])) ?_;refine InvZ.c (fun _ _ w1 _ C _ hK=>oR C hK (h:=by simp [execOp,go_sem,C.o 3 (.pointer (some ⟨w.heap.size,0,none⟩))])) ?_;refine InvZ.c (fun _ _ w1 _ C _ hK=>oR C hK (h:=by simp [execOp,go_sem,C.i 1,a_t C.base y1])) ?_;refine InvZ.c (fun _ _ w1 _ C _ hK=>oR C hK (h:=by simp [execOp,go_sem,C.o 0 (.pointer (some ⟨g,0,none⟩))])) ?_;refine InvZ.c (fun _ _ w1 _ C _ hK=>oR C hK (h:=by simp [execOp,go_sem,C.i 3])) ?_;refine InvZ.c (fun _ _ w1 _ C _ hK=>oR C hK (h:=by simp [execOp,go_sem,C.i 4])) ?_;refine InvZ.c (fun _ _ w1 _ C _ hK=>oR C hK (h:=by simp [execOp,go_sem,C.i 5])) ?_;refine InvZ.c (fun a1 vals w1 hdf C K hK=>?_) ?_
 ·have e0:=C.i 6;exact J48
 refine InvZ.c (fun _ _ w1 _ C _ hK=>oR C hK (h:=by simp [execOp,go_sem,C.o 0 (.pointer (some ⟨g,0,none⟩))])) ?_;refine InvZ.c (fun _ _ w1 _ C _ hK=>oR C hK (h:=by simp [execOp,go_sem,C.i 8])) ?_;refine InvZ.c (fun _ _ w1 _ C _ hK=>oR C hK (h:=by simp [execOp,go_sem,C.i 9])) ?_;refine InvZ.c (fun _ _ w1 _ C _ hK=>oR C hK (h:=by simp [execOp,go_sem,C.i 10,a_t C.base x7])) ?_;refine InvZ.c (fun _ _ w1 _ C _ hK=>oR C hK (h:=by simp [execOp,go_sem,C.o 4 (.pointer (some ⟨b,k*13,none⟩))])) ?_;refine InvZ.c (fun _ _ w1 _ C _ hK=>oR C hK (h:=by simp [execOp,go_sem,C.o 3 (.pointer (some ⟨w.heap.size,0,none⟩))])) ?_;refine InvZ.c (fun _ _ w1 _ C _ hK=>oR C hK (h:=by simp [execOp,go_sem,C.i 13,a_t C.base y2])) ?_;refine InvZ.c (fun _ _ w1 _ C _ hK=>oR C hK (h:=by simp [execOp,go_sem,C.i 12])) ?_;refine InvZ.c (fun _ _ w1 _ C _ hK=>oR C hK (h:=by simp [execOp,go_sem,C.i 15])) ?_;refine InvZ.c (fun _ _ w1 _ C _ hK=>oR C hK (h:=by simp [execOp,go_sem,C.i 16,C.i 14,i5,i6])) ?_;refine InvZ.c (fun _ _ w1 _ C _ hK=>oR C hK (h:=by simp [execOp,go_sem,C.i 17,a_t C.base zb])) ?_;refine InvZ.c (fun _ _ w1 _ C _ hK=>oR C hK (h:=by simp [execOp,go_sem,C.o 3 (.pointer (some ⟨w.heap.size,0,none⟩))])) ?_;refine InvZ.c (fun _ _ w1 _ C _ hK=>oR C hK (h:=by simp [execOp,go_sem,C.i 19,a_t C.base y3])) ?_;refine InvZ.c (fun _ _ w1 _ C _ hK=>oR C hK (h:=by simp [execOp,go_sem,C.i 18,C.i 20,HAT.out,IntWalk.i64_left])) ?_;refine InvZ.c (fun a1 vals w1 hdf C K hK=>?_) ?_
 ·have e0:=C.i 7;have e1:=C.i 11;have e2:=C.i 21;rw [a_P] at e0 e1 e2;refine a_i rfl (a_Q _ _ _ rfl 120 rfl [.agg #[.slice L.ws.a L.ws.n L.ws.c,.slice L.ts.a L.ts.n L.ts.c,.int .i64 D,.slice L.bs.a L.bs.n L.bs.c],.int .i64 k,.int .i64 at_] (by simp only [List.map_cons,List.map_nil,e0,e1,e2]) (by kernel_rfl) ((HL.out w1 C.base).mono ?_));exact J81
 refine InvZ.c (fun _ _ w1 _ C _ hK=>oR C hK (h:=by simp [execOp,go_sem,C.i 22])) ?_;refine InvZ.c (fun _ _ w1 _ C _ hK=>oR C hK (h:=by simp [execOp,go_sem,C.i 22])) ?_;refine InvZ.c (fun a1 vals w1 hdf C K hK=>?_) ?_
 ·have e0:=C.i 23;have e1:=C.i 24;rw [a_P] at e0 e1;refine a_i rfl (f_7 _ _ _ rfl 119 rfl [.int .i64 lv,.int .i64 E] (by simp only [List.map_cons,List.map_nil,e0,e1]) (by kernel_rfl) ((o_V lv E w1).mono ?_));rintro e9 w2 ⟨(⟨hz,rfl⟩ | ⟨hz,rfl⟩),hb2⟩
  ·exact .inl ⟨_,rfl,p_p hK hG (fun _ _ _ _ _ _=>trivial) hb2 rfl ⟨hz,rfl⟩ (a_a C.base hb2)⟩
  ·exact J76
 refine InvZ.c (fun _ _ w1 _ C _ hK=>oR C hK (h:=by simp [execOp,go_sem,C.i 0])) ?_;refine InvZ.c (fun a1 vals w1 hdf C K hK=>?_) ?_
 ·have e0:=C.isw 26 58 [] (.pointer (some ⟨b,k*13,none⟩)) rfl rfl rfl rfl;refine a_i rfl (a_A (v:=.pointer (some ⟨b,k*13+1,none⟩)) ?_ (d_e hK C rfl rfl));simp [execOp,go_sem,e0]
 refine InvZ.c (fun a1 vals w1 hdf C K hK=>?_) ?_
 ·have e0:=C.isw 27 59 [26] (.pointer (some ⟨b,k*13+1,none⟩)) rfl rfl rfl rfl;have e1:=C.i 2;refine a_i rfl (a_A (v:=.pointer (some ⟨b,k*13+1+ja,none⟩)) ?_ (d_e hK C rfl rfl));simp [execOp,go_sem,e0,e1,i3,i4]
 refine InvZ.last (n:=29) ?_ ?_ ?_ ?_
 ·rfl
 ·kernel_rfl
 ·decide
 ·intro vals w1 aE hae hval hb hv hbo K hK;obtain ⟨hz,h1⟩:=c_i (k:=25) rfl (hv 25 (by decide));have HZE:=hid hz;clear hz;have y57:vals 25=.int .i64 lv:=List.head_eq_of_cons_eq h1;have y60:vals 28=.pointer (some ⟨b,k*13+1+ja,none⟩):=e_Y rfl (hv 28 (by decide));have HHW:=d_y hb HHV.out;have q1:=(hval 28 60 rfl rfl).trans y60;have q2:=(hval 25 57 rfl rfl).trans y57;obtain ⟨fa,fc,la,lc,-,ht⟩:=c_4 HHW;have zt:=ht (1+ja) _ (c_J (thW X k).r ja (by omega) _ _);rw [←Nat.add_assoc] at zt;obtain ⟨zz,zf⟩:=zt;refine a_i rfl (g_y (w':=w1.setCell ⟨b,k*13+1+ja,none⟩ (.int .i64 lv)) ?_ (hK _ _ ?_))
  ·rw [←a_P] at q1 q2;simp [execOp,go_sem,q1,q2,zz,zf]
  rw [hae.out];simp only [c_N,Act.put,sA,sB,sC,y57,y60];obtain ⟨U,hU⟩:=nm (w1.setCell ⟨b,k*13+1+ja,none⟩ (.int .i64 lv))
  have HHU:=hid (show Wk Q U g b L (b_k X k (g_K t ja lv)) k from by
   have h:=c_C HHW (1+ja) (.int .i64 lv) (g_K (thW X k) ja lv) (by omega) (fun fa fc la lc T=>⟨fa,fc,la,lc,(l_o (thW X k).r ja (by omega) lv (.int .i64 (thW X k).pc) _),⟨T.fcap,T.fs,T.lcap,T.lf⟩⟩);rw [←Nat.add_assoc] at h;rw [hU,←HTT.out];exact h)
  have HBU:=hid (show Bel Sx w U by rw [hU];exact (HBN.out.andB hb).setCell (p:=⟨b,k*13+1+ja,none⟩) HNN.out.2 _);have HTU:=hid (show thW (b_k X k (g_K t ja lv)) k=g_K t ja lv from f_J HHV.out.hk);rw [←hU];clear hb hv hbo HHW y57 y60 hval hae q1 q2 zz zf ht h1 hU;obtain ⟨fa2,fc2,la2,lc2,-,ht2⟩:=c_4 HHU.out;obtain ⟨p0,pf⟩:=ht2 0 _ rfl;have p0:U.cell? ⟨b,k*13,none⟩=some (.int .i64 (thW (b_k X k (g_K t ja lv)) k).pc):=p0;have pf:=N249;obtain ⟨pc,hpc2⟩:=mn ((thW (b_k X k (g_K t ja lv)) k).pc);rw [hpc2] at p0;have hwk:wrap64 (pc+1)=pc+1:=IntWalk.wrap64_in _ (by rw [←hpc2,HTU.out,show (g_K t ja lv).pc=t.pc from rfl];have:=HPC.out;omega)
  have HHE:=hid (show Wk Q (U.setCell ⟨b,k*13,none⟩ (.int .i64 (pc+1))) g b L (b_k (b_k X k (g_K t ja lv)) k (b_j (thW (b_k X k (g_K t ja lv)) k))) k from
   c_C HHU.out 0 (.int .i64 (pc+1)) (b_j (thW (b_k X k (g_K t ja lv)) k)) (by decide) (fun fa fc la lc T=>⟨fa,fc,la,lc,by rw [←hpc2];rfl,⟨T.fcap,T.fs,T.lcap,T.lf⟩⟩))
  have HBE:=N100;clear ht2 hpc2
  go_wp2
  first | go_ret | go_end0
  refine ⟨.inl ⟨HZE.out,rfl,Q,L,?_⟩,HBE.out⟩;have HYE:=HHE;rw [←HY.out];rw [HTU.out,g_T] at HYE;exact HYE.out
def t_P (h:Nat) (L:WoL) (D:Int) (g b k ja jb:Nat) (va vb cc at_ sD me:Int) (SW ST:List Int) (Q:Nat→Prop) (SB:List (List (Int×Int))):b_v:=[isV 0 (.pointer (some ⟨g,0,none⟩)),isV 1 (.pointer (some ⟨g,0,none⟩)),isV 2 (.pointer (some ⟨g,0,none⟩)),isV 3 (.pointer (some ⟨g,0,none⟩)),isV 4 (.pointer (some ⟨g,1,none⟩)),isV 5 (.agg #[.slice L.ws.a L.ws.n L.ws.c,.slice L.ts.a L.ts.n L.ts.c,.int .i64 D,.slice L.bs.a L.bs.n L.bs.c]),isV 6 (.pointer (some ⟨g,0,none⟩)),isV 7 (.pointer (some ⟨g,0,none⟩)),isV 8 (.pointer (some ⟨g,7,none⟩)),isV 9 (.int .i64 k),isV 10 (.pointer (some ⟨b,k*13,none⟩)),isV 11 (.pointer (some ⟨h,2,none⟩)),isV 12 (.int .i64 jb),isV 13 (.pointer (some ⟨b,k*13,none⟩)),isV 14 (.pointer (some ⟨b,k*13+1,none⟩)),isV 15 (.pointer (some ⟨b,k*13+1+jb,none⟩)),isV 16 (.int .i64 vb),isV 17 (.pointer (some ⟨h,3,none⟩)),isV 18 (.int .i64 cc),isV 19 (.int .i64 at_),isV 20 (.pointer (some ⟨b,k*13,none⟩)),isV 21 (.pointer (some ⟨h,1,none⟩)),isV 22 (.int .i64 ja),isV 23 (.pointer (some ⟨b,k*13,none⟩)),isV 24 (.pointer (some ⟨b,k*13+1,none⟩)),isV 25 (.pointer (some ⟨b,k*13+1+ja,none⟩)),isV 26 (.int .i64 va),([27],fun vz w=>∃ p q r:Sp,vz=[.tuple #[.agg #[.slice p.a p.n p.c,.slice q.a q.n q.c,.int .i64 sD,.slice r.a r.n r.c],.int .i64 me]]∧SlP Q w p.a p.n SW∧SlP Q w q.a q.n ST∧BlP Q w r.a r.n SB),([28],fun vz w=>∃ p q r:Sp,vz=[.agg #[.slice p.a p.n p.c,.slice q.a q.n q.c,.int .i64 sD,.slice r.a r.n r.c]]∧SlP Q w p.a p.n SW∧SlP Q w q.a q.n ST∧BlP Q w r.a r.n SB),isV 29 (.int .i64 me),([30],fun vz w=>me=0∧∃ p q r:Sp,vz=[.agg #[.slice p.a p.n p.c,.slice q.a q.n q.c,.int .i64 sD,.slice r.a r.n r.c]]∧SlP Q w p.a p.n SW∧SlP Q w q.a q.n ST∧BlP Q w r.a r.n SB),isW 31 [] (.pointer (some ⟨g,0,none⟩)),isW 32 [31] (.pointer (some ⟨g,0,none⟩)),isW 33 [32,31] (.pointer (some ⟨g,1,none⟩))]
theorem o_u (h:Nat) (L:WoL) (D:Int) (g b k ja jb:Nat) (va vb cc at_ sD me:Int) (SW ST:List Int) (Q:Nat→Prop) (SB:List (List (Int×Int))):c_q (t_P h  L  D  g b k ja jb  va vb cc at_ sD me  SW ST  Q  SB ):=a_d<|a_d<|a_d<|a_d<|a_d<|a_d<|a_d<|a_d<|a_d<|a_d<|a_d<|a_d<|a_d<|a_d<|a_d<|a_d<|a_d<|a_d<|a_d<|a_d<|a_d<|a_d<|a_d<|a_d<|a_d<|a_d<|a_d<|a_w (fun _ _ _ hb h=>by obtain ⟨p,q,r,h1,h2,h3,h4⟩:=h;exact ⟨p,q,r,h1,a_r (a_C hb) h2,a_r (a_C hb) h3,a_G (a_C hb) h4⟩)<|a_w (fun _ _ _ hb h=>by obtain ⟨p,q,r,h1,h2,h3,h4⟩:=h;exact ⟨p,q,r,h1,a_r (a_C hb) h2,a_r (a_C hb) h3,a_G (a_C hb) h4⟩)<|a_d<|a_w (fun _ _ _ hb h=>by obtain ⟨h0,p,q,r,h1,h2,h3,h4⟩:=h;exact ⟨h0,p,q,r,h1,a_r (a_C hb) h2,a_r (a_C hb) h3,a_G (a_C hb) h4⟩)<|a_2<|a_2<|a_2<|b_B
theorem o_d (Q:Nat→Prop) (g b:Nat) (Sx:Nat→Prop) (L:WoL) (X Y:Wo) (k:Nat) (i:Ins) (E:Int) (w:World) (H:Wk Q w g b L X k) (hN:Sx g∧Sx b) (hpc:0≤(thW X k).pc∧(thW X k).pc≤1000) (ho:i.1=17) (ha:0≤i.2.1∧i.2.1≤7) (hb:0≤i.2.2.1∧i.2.2.1≤7) (hE:b_g X.ws X.ts X.D X.bs k (wrap64 (rgt (thW X k) i.2.2.1+i.2.2.2))=E) (hY:{ b_k X k (b_j (thW X k)) with ws:=b_O X.ws X.D (wrap64 (rgt (thW X k) i.2.2.1+i.2.2.2)) (rgt (thW X k) i.2.1),bs:=b_J X.D X.bs k (wrap64 (rgt (thW X k) i.2.2.1+i.2.2.2)) (rgt (thW X k) i.2.1) }=Y) :
  Calls Tryz.prog 94 #[.pointer (some ⟨g,0,none⟩),.agg #[.int .i64 i.1,.int .i64 i.2.1,.int .i64 i.2.2.1,.int .i64 i.2.2.2]] w (c_d g b Sx X Y k E w):=by
 obtain ⟨op,ra,rb,rc⟩:=i;simp only at *;obtain ⟨W,hW⟩:=nm (w.alloc (Obj.cells (inC (op,ra,rb,rc)).toArray 66));have HI:=N21;have HB:=N3
 have HGS:=hid (show g < w.heap.size∧b < w.heap.size from ⟨a_N H.x (by simp),by
  obtain ⟨TC,h1,h2⟩:=H.tc;have h3:=b_f h2;have h4:repTh.k=13:=rfl;have h5:=H.hk;exact a_N h1 (by rw [h3,h4];omega)⟩)
 have HH:=hid (d_y HB.out H);have HC:=N58;obtain ⟨t,htt⟩:=mn (thW X k);rw [htt] at hpc hE hY;have ⟨HTT,HNN,HPC,HW⟩:=hh4 htt hN hpc hW;have HRR:=hid (And.intro ha hb);obtain ⟨ja,rfl⟩:∃ j:Nat,ra=j:=⟨ra.toNat,by omega⟩;obtain ⟨jb,rfl⟩:∃ j:Nat,rb=j:=⟨rb.toNat,by omega⟩;obtain ⟨va,hva⟩:=mn (t.r ja);obtain ⟨vb,hvb⟩:=mn (t.r jb);simp only [rgt,Int.toNat_natCast] at *;rw [hvb] at hE hY;have HVA:=hid (And.intro hva hvb);obtain ⟨D,hD⟩:=mn (X.D);have HD:=hid hD;obtain ⟨at_,hat⟩:=mn (wrap64 (vb+rc));rw [hat] at hE hY;rw [hva] at hY;have HAT:=hid hat;have HWF:=N231;subst ho;have ⟨HY,HE⟩:=hh2 hY hE;clear hY hE ha hb htt hva hvb hat;clear hW H hN hpc
 go_enter Tryz.func94,Tryz.ntmps94
 go_upto_region 1 with fail
 rw [←HW.out]
 go_wp2_with fail
 refine HC.out.mono ?_;rintro e1 V ⟨rfl,m,hm⟩;have HB1:=N15;clear HC hm;have HHV:=hid (d_y HB1.out HH.out);have HIV:=hid (a_h HB1.out HI.out);have HBV:=hid (a_a HB.out HB1.out);have HBN:=N46;clear HB HB1 HH HI HW;obtain ⟨y0,-⟩:=HIV.out 0 _ rfl;have HXD:=N143;obtain ⟨y1,-⟩:=HIV.out 1 _ rfl;obtain ⟨y2,-⟩:=HIV.out 2 _ rfl;obtain ⟨y3,-⟩:=HIV.out 3 _ rfl;obtain ⟨x7,-⟩:=HXD.out 7 _ rfl;have i3:(0:Int)≤ja:=by omega
 have i4:(ja:Int) < 8:=by have:=HRR.out;omega
 have i5:(0:Int)≤jb:=by omega
 have i6:(jb:Int) < 8:=by have:=HRR.out;omega
 have zb:=i_t HHV.out jb (by omega);rw [HTT.out,HVA.out.2] at zb;have za:=i_t HHV.out ja (by omega);rw [HTT.out,HVA.out.1] at za;obtain ⟨sD,hsD⟩:=mn (okZ E D);obtain ⟨SW,hSW⟩:=mn (okL E (b_O X.ws X.D at_ va));obtain ⟨ST,hST⟩:=mn (okL E X.ts);obtain ⟨SB,hSB⟩:=mn (okL E (b_J X.D X.bs k at_ va));have HOK:=hid (show E=0→D=sD∧b_O X.ws X.D at_ va=SW∧X.ts=ST∧b_J X.D X.bs k at_ va=SB from fun h=>by subst h;exact ⟨hsD,hSW,hST,hSB⟩)
 have HL:=hid (fun (u:World) (hu:Below V.heap.size V u)=>(show Calls Tryz.prog 122 #[.agg #[.slice L.ws.a L.ws.n L.ws.c,.slice L.ts.a L.ts.n L.ts.c,.int .i64 D,.slice L.bs.a L.bs.n L.bs.c],.int .i64 k,.int .i64 at_,.int .i64 va] u (e_L SW ST sD SB E u) from by
  have h:=k_b L.ws.a L.ts.a L.bs.a L.ws.n L.ws.c L.ts.n L.ts.c L.bs.n L.bs.c X.ws X.ts X.D X.bs k at_ va u (f_s hu HHV.out.ws) (f_s hu HHV.out.ts) (a_G (a_C hu) HHV.out.bs).bl HWF.out;rw [HE.out,hSW,hST,hSB,HD.out,hsD] at h;exact h))
 have hG:=o_u w.heap.size L D g b k ja jb va vb rc at_ sD E SW ST Q SB;clear hsD hSW hST hSB
 go_wp2_with fail
 clear y0;refine c_I 34 [some 63,some 64,some 65,some 66,some 67,some 68,some 69,some 70,some 71,some 72,some 73,some 74,some 75,some 76,some 77,some 78,some 79,some 80,some 81,some 82,some 83,some 84,some 85,some 86,some 87,some 88,some 89,some 90,some 91,some 92,some 93,some 94,some 95,some 96] (fun w'=>Below V.heap.size V w') (t_P w.heap.size L D g b k ja jb va vb rc at_ sD E SW ST Q SB) 100 100 (fun _ _ _=>True) (by kernel_rfl) (by kernel_rfl) (by decide) rfl rfl ((Below.refl _ _).drew) ?_
 show StepsL _ _ _ _ _ _ _
 refine InvZ.c (fun _ _ w1 _ C _ hK=>oR C hK (h:=by simp [execOp,go_sem,C.o 0 (.pointer (some ⟨g,0,none⟩))])) ?_;refine InvZ.c (fun _ _ w1 _ C _ hK=>oR C hK (h:=by simp [execOp,go_sem,C.o 0 (.pointer (some ⟨g,0,none⟩))])) ?_;refine InvZ.c (fun _ _ w1 _ C _ hK=>oR C hK (h:=by simp [execOp,go_sem,C.i 1])) ?_;refine InvZ.c (fun _ _ w1 _ C _ hK=>oR C hK (h:=by simp [execOp,go_sem,C.i 2])) ?_;refine InvZ.c (fun _ _ w1 _ C _ hK=>oR C hK (h:=by simp [execOp,go_sem,C.i 3])) ?_;refine InvZ.c (fun a1 vals w1 hdf C K hK=>?_) ?_
 ·have e0:=C.i 4;exact J48
 refine InvZ.c (fun _ _ w1 _ C _ hK=>oR C hK (h:=by simp [execOp,go_sem,C.o 0 (.pointer (some ⟨g,0,none⟩))])) ?_;refine InvZ.c (fun _ _ w1 _ C _ hK=>oR C hK (h:=by simp [execOp,go_sem,C.i 6])) ?_;refine InvZ.c (fun _ _ w1 _ C _ hK=>oR C hK (h:=by simp [execOp,go_sem,C.i 7])) ?_;refine InvZ.c (fun _ _ w1 _ C _ hK=>oR C hK (h:=by simp [execOp,go_sem,C.i 8,a_t C.base x7])) ?_;refine InvZ.c (fun _ _ w1 _ C _ hK=>oR C hK (h:=by simp [execOp,go_sem,C.o 4 (.pointer (some ⟨b,k*13,none⟩))])) ?_;refine InvZ.c (fun _ _ w1 _ C _ hK=>oR C hK (h:=by simp [execOp,go_sem,C.o 3 (.pointer (some ⟨w.heap.size,0,none⟩))])) ?_;refine InvZ.c (fun _ _ w1 _ C _ hK=>oR C hK (h:=by simp [execOp,go_sem,C.i 11,a_t C.base y2])) ?_;refine InvZ.c (fun _ _ w1 _ C _ hK=>oR C hK (h:=by simp [execOp,go_sem,C.i 10])) ?_;refine InvZ.c (fun _ _ w1 _ C _ hK=>oR C hK (h:=by simp [execOp,go_sem,C.i 13])) ?_;refine InvZ.c (fun _ _ w1 _ C _ hK=>oR C hK (h:=by simp [execOp,go_sem,C.i 14,C.i 12,i5,i6])) ?_;refine InvZ.c (fun _ _ w1 _ C _ hK=>oR C hK (h:=by simp [execOp,go_sem,C.i 15,a_t C.base zb])) ?_;refine InvZ.c (fun _ _ w1 _ C _ hK=>oR C hK (h:=by simp [execOp,go_sem,C.o 3 (.pointer (some ⟨w.heap.size,0,none⟩))])) ?_;refine InvZ.c (fun _ _ w1 _ C _ hK=>oR C hK (h:=by simp [execOp,go_sem,C.i 17,a_t C.base y3])) ?_;refine InvZ.c (fun _ _ w1 _ C _ hK=>oR C hK (h:=by simp [execOp,go_sem,C.i 16,C.i 18,HAT.out,IntWalk.i64_left])) ?_;refine InvZ.c (fun _ _ w1 _ C _ hK=>oR C hK (h:=by simp [execOp,go_sem,C.o 4 (.pointer (some ⟨b,k*13,none⟩))])) ?_
 refine InvZ.c (fun _ _ w1 _ C _ hK=>oR C hK (h:=by simp [execOp,go_sem,C.o 3 (.pointer (some ⟨w.heap.size,0,none⟩))])) ?_;refine InvZ.c (fun _ _ w1 _ C _ hK=>oR C hK (h:=by simp [execOp,go_sem,C.i 21,a_t C.base y1])) ?_;refine InvZ.c (fun _ _ w1 _ C _ hK=>oR C hK (h:=by simp [execOp,go_sem,C.i 20])) ?_;refine InvZ.c (fun _ _ w1 _ C _ hK=>oR C hK (h:=by simp [execOp,go_sem,C.i 23])) ?_;refine InvZ.c (fun _ _ w1 _ C _ hK=>oR C hK (h:=by simp [execOp,go_sem,C.i 24,C.i 22,i3,i4])) ?_;refine InvZ.c (fun _ _ w1 _ C _ hK=>oR C hK (h:=by simp [execOp,go_sem,C.i 25,a_t C.base za])) ?_;refine InvZ.c (fun a1 vals w1 hdf C K hK=>?_) ?_
 ·have e0:=C.i 5;have e1:=C.i 9;have e2:=C.i 19;have e3:=C.i 26;rw [a_P] at e0 e1 e2 e3;refine a_i rfl (a_Q _ _ _ rfl 122 rfl [.agg #[.slice L.ws.a L.ws.n L.ws.c,.slice L.ts.a L.ts.n L.ts.c,.int .i64 D,.slice L.bs.a L.bs.n L.bs.c],.int .i64 k,.int .i64 at_,.int .i64 va] (by simp only [List.map_cons,List.map_nil,e0,e1,e2,e3]) (by kernel_rfl) ((HL.out w1 C.base).mono ?_));rintro e9 w2 ⟨a1x,n1x,c1x,a2x,n2x,c2x,a3x,n3x,c3x,rfl,z1,z2,z3,hb2⟩;have hnew:∀ x,w1.heap.size≤x→Q x:=fun x hx=>HHV.out.new x (by have:=C.base.size;omega)
  exact ⟨_,rfl,p_p hK hG (fun _ _ _ _ _ _=>trivial) hb2 rfl ⟨⟨a1x,n1x,c1x⟩,⟨a2x,n2x,c2x⟩,⟨a3x,n3x,c3x⟩,rfl,c_M hnew z1,c_M hnew z2,a_H hnew z3⟩ (a_a C.base hb2)⟩
 refine InvZ.c (fun a1 vals w1 hdf C K hK=>?_) ?_
 ·have e0:=C.t 27 90 rfl rfl;obtain ⟨p,q,r,h1,h2,h3,h4⟩:=C.says 27 rfl;have h1:vals 27=_:=List.head_eq_of_cons_eq h1;rw [h1] at e0;refine a_i rfl (a_A (v:=.agg #[.slice p.a p.n p.c,.slice q.a q.n q.c,.int .i64 sD,.slice r.a r.n r.c]) ?_ (d_e hK C rfl ⟨p,q,r,rfl,h2,h3,h4⟩));simp [execOp,go_sem,e0]
 refine InvZ.c (fun a1 vals w1 hdf C K hK=>?_) ?_
 ·have e0:=C.t 27 90 rfl rfl;obtain ⟨p,q,r,h1,h2,h3,h4⟩:=C.says 27 rfl;have h1:vals 27=_:=List.head_eq_of_cons_eq h1;rw [h1] at e0;refine a_i rfl (a_A (v:=.int .i64 E) ?_ (d_e hK C rfl rfl));simp [execOp,go_sem,e0]
 refine InvZ.c (fun a1 vals w1 hdf C K hK=>?_) ?_
 ·have e0:=C.t 28 91 rfl rfl;obtain ⟨p,q,r,h1,h2,h3,h4⟩:=C.says 28 rfl;have h1:vals 28=_:=List.head_eq_of_cons_eq h1;rw [h1] at e0;have e1:=C.i 29;rw [a_P] at e0 e1;refine a_i rfl (f_7 _ _ _ rfl 121 rfl [.agg #[.slice p.a p.n p.c,.slice q.a q.n q.c,.int .i64 sD,.slice r.a r.n r.c],.int .i64 E] (by simp only [List.map_cons,List.map_nil,e0,e1]) (by kernel_rfl) ((j_P p q r sD E w1).mono ?_));rintro e9 w2 ⟨(⟨hz,rfl⟩ | ⟨hz,rfl⟩),hb2⟩
  ·exact .inl ⟨_,rfl,p_p hK hG (fun _ _ _ _ _ _=>trivial) hb2 rfl ⟨hz,p,q,r,rfl,a_r (a_C hb2) h2,a_r (a_C hb2) h3,a_G (a_C hb2) h4⟩ (a_a C.base hb2)⟩
  ·exact J76
 refine InvZ.c (fun _ _ w1 _ C _ hK=>oR C hK (h:=by simp [execOp,go_sem,C.i 0])) ?_;refine InvZ.c (fun a1 vals w1 hdf C K hK=>?_) ?_
 ·have e0:=C.isw 31 94 [] (.pointer (some ⟨g,0,none⟩)) rfl rfl rfl rfl;exact J89
 refine InvZ.c (fun a1 vals w1 hdf C K hK=>?_) ?_
 ·have e0:=C.isw 32 95 [31] (.pointer (some ⟨g,0,none⟩)) rfl rfl rfl rfl;exact J88
 refine InvZ.last (n:=34) ?_ ?_ ?_ ?_
 ·rfl
 ·kernel_rfl
 ·decide
 ·intro vals w1 aE hae hval hb hv hbo K hK;obtain ⟨hz,p,q,r,h1,h2,h3,h4⟩:=c_i (k:=30) rfl (hv 30 (by decide));obtain ⟨hD2,hW2,hT2,hB2⟩:=HOK.out hz;have HZE:=hid hz;clear hz;have y93:vals 30=_:=List.head_eq_of_cons_eq h1;have y96:vals 33=.pointer (some ⟨g,1,none⟩):=e_Y rfl (hv 33 (by decide));have HHW:=d_y hb HHV.out;refine a_i rfl (e_D 30 _ _ rfl g 1 #[.slice p.a p.n p.c,.slice q.a q.n q.c,.int .i64 sD,.slice r.a r.n r.c] ((hval 33 96 rfl rfl).trans y96) ((hval 30 93 rfl rfl).trans y93) _ HHW.x (by simp) (by kernel_rfl) (by simp [Value.oneCell']) ?_);intro U HU;refine hK _ _ ?_;rw [hae.out];simp only [c_N,Act.put,sA,sB,sC,y93,y96]
  have HHU:=hid (show Wk Q U g b (L.setTso p q r) { X with ws:=SW,ts:=ST,bs:=SB } k from by
   have h:=k_l HHW p q r h2 h3 h4;have hd:X.D=sD:=HD.out.trans hD2;rw [HU.out,←hd];exact h)
  have HBU:=hid (show Bel Sx w U by rw [HU.out];exact e_q HNN.out.1 (HBN.out.andB hb));have HTU:=hid (show thW { X with ws:=SW,ts:=ST,bs:=SB } k=t from HTT.out);have HYU:=hid (show b_k { X with ws:=SW,ts:=ST,bs:=SB } k (b_j t)=Y from by rw [←HY.out,←hW2,←hT2,←hB2];rfl);clear hb hv hbo HHW y93 y96 hval hae h1 h2 h3 h4 HU hD2 hW2 hT2 hB2;obtain ⟨fa2,fc2,la2,lc2,-,ht2⟩:=c_4 HHU.out;obtain ⟨p0,pf⟩:=ht2 0 _ rfl;have p0:U.cell? ⟨b,k*13,none⟩=some (.int .i64 (thW { X with ws:=SW,ts:=ST,bs:=SB } k).pc):=p0;have pf:=N249;obtain ⟨pc,hpc2⟩:∃ p,(thW { X with ws:=SW,ts:=ST,bs:=SB } k).pc=p:=⟨_,rfl⟩;rw [hpc2] at p0;have hwk:=N185
  have HHE:=hid (show Wk Q (U.setCell ⟨b,k*13,none⟩ (.int .i64 (pc+1))) g b (L.setTso p q r) (b_k { X with ws:=SW,ts:=ST,bs:=SB } k (b_j (thW { X with ws:=SW,ts:=ST,bs:=SB } k))) k from
   c_C HHU.out 0 (.int .i64 (pc+1)) (b_j (thW { X with ws:=SW,ts:=ST,bs:=SB } k)) (by decide) (fun fa fc la lc T=>⟨fa,fc,la,lc,by rw [←hpc2];rfl,⟨T.fcap,T.fs,T.lcap,T.lf⟩⟩))
  have HBE:=N100;clear ht2 hpc2
  go_wp2
  first | go_ret | go_end0
  refine ⟨.inl ⟨HZE.out,rfl,Q,(L.setTso p q r),?_⟩,HBE.out⟩;have HYE:=HHE;rw [←HYU.out];rw [HTU.out] at HYE;exact HYE.out
theorem i_H {α:Type} {r:Rep α} {Q:Nat→Prop} {w:World}:∀ {ys:List α} {cs:List Value},d_p r Q w cs ys→d_p r (fun b=>Q b∧b < w.heap.size) w cs ys
 | [],_,h=>h
 | _::_,_,⟨c,d,e,h1,h2⟩=>⟨c,d,e,r.und h1,i_H h2⟩
theorem r_P {Q:Nat→Prop} {V w1:World} {g b:Nat} {L:WoL} {X:Wo} {k:Nat} {ea fa:Option Addr} {en ec fc:Nat} {es six:List Value} {e:Ev} (H:Wk Q V g b L X k) (hp:L.ev=⟨ea,en,ec⟩) (hg:V.grownBy w1 (Value.slice ea en ec).ownBlock)
  (ho:w1.ownsRow 0 101 6 (.slice fa (en+1) fc) (en+1) (es++six)) (hb:(Value.slice fa (en+1) fc).ownBlock=(Value.slice ea en ec).ownBlock∨∃ q,(Value.slice fa (en+1) fc).ownBlock=some q∧V.heap.size≤q) (hf:d_p repEv Q V es X.ev) (h6:six=j_E e:=by rfl) :
  Wk (fun x=>Q x∧(Value.slice fa (en+1) fc).ownBlock≠some x) (w1.setCell ⟨g,6,none⟩ (.slice fa (en+1) fc)) g b (L.setEv ⟨fa,en+1,fc⟩) { X with ev:=X.ev++[e] } k:=by
 have hevo:=H.evo;rw [hp] at hevo;have hlo:=H.lo.2;rw [hp] at hlo;have hgs:g < V.heap.size:=a_N H.x (by simp)
 have hbs:b < V.heap.size:=by
  obtain ⟨TC,h1,h2⟩:=H.tc;have h3:=b_f h2;have h4:repTh.k=13:=rfl;have h5:=H.hk;exact a_N h1 (by rw [h3,h4];omega)
 have hneg:(Value.slice fa (en+1) fc).ownBlock≠some g:=fun h=>by
  rcases hb with h1 | ⟨q,h1,h2⟩
  ·rw [h1] at h;exact (hevo g h).1 rfl
  ·rw [h1] at h;cases h;omega
 have hneb:(Value.slice fa (en+1) fc).ownBlock≠some b:=fun h=>by
  rcases hb with h1 | ⟨q,h1,h2⟩
  ·rw [h1] at h;exact (hevo b h).2.1 rfl
  ·rw [h1] at h;cases h;omega
 have hK1:Kept Q V w1:=c_1 hg (fun c hc h=>(hevo c h).2.2 hc);have hK:Kept Q V (w1.setCell ⟨g,6,none⟩ (.slice fa (en+1) fc)):=a_3 hK1 (a_U _ _ _ (fun c hc=>(H.hQ c hc).1))
 have hu:∀ c,Q c∧c < V.heap.size→Q c∧(Value.slice fa (en+1) fc).ownBlock≠some c:=fun c hc=>⟨hc.1,fun h=>by
  rcases hb with h1 | ⟨q,h1,h2⟩
  ·rw [h1] at h;exact (hevo c h).2.2 hc.1
  ·rw [h1] at h;cases h;omega⟩
 have hKu:Kept (fun c=>Q c∧c < V.heap.size) V (w1.setCell ⟨g,6,none⟩ (.slice fa (en+1) fc)):=fun b o v hq hv=>hK b o v hq.1 hv
 obtain ⟨TC,t1,t2⟩:=H.tc;have tx:a_p w1 g (wkC L X.D k):=b_C hg (fun h=>(hevo g h).1 rfl) H.x;have h6x:=a_y tx 6 (by simp) (.slice fa (en+1) fc);subst h6;refine ⟨h6x,H.hb,⟨TC,a_l (b_C hg (fun h=>(hevo b h).2.1 rfl) t1) H.hgb _,c_n hu (b_n hKu (i_H t2))⟩,b_e hu (a_B hKu (c_S H.co)),a_n hu (a_r hKu (d_Y (fun _ q h=>⟨q,h⟩) H.ws)),a_n hu (a_r hKu (d_Y (fun _ q h=>⟨q,h⟩) H.ts)),a_H hu (a_G hKu (g_b (fun _ q h=>⟨q,h⟩) H.bs)),⟨es++j_E e,?_,?_⟩,?_,H.cco,H.cth,?_,H.hk,H.hn,fun c hc=>H.hQ c hc.1,H.hgb,fun c hc=>?_,fun c hc=>H.lo.1 c hc.1,fun c hc=>?_⟩
 ·exact a_0 (us:=[.slice fa (en+1) fc]) (k:=6) hneg ho
 ·exact e_V (r:=repEv) rfl (c_n hu (b_n hKu (i_H hf)))
 ·exact fun c hc=>⟨fun e=>hneg (e▸hc),fun e=>hneb (e▸hc),fun h=>h.2 hc⟩
 ·obtain ⟨a2,c2,e2,k1,k2,k3,-⟩:=e_G (r:=repEv) (Q:=Any) ho (show d_p repEv Any w1 (es++j_E e) (X.ev++[e]) from e_V (r:=repEv) rfl (c_n (fun _ _=>trivial) (b_n hK1 hf))) (fun _ _ _=>trivial)
  cases e2
  exact ⟨k1,k2,k3⟩
 ·have hs:w1.heap.size≤c:=by simpa using hc
  exact ⟨H.new c (Nat.le_trans hg.size hs),fun h=>by have:=(b_b ho h).2;omega⟩
 ·have hc':(Value.slice fa (en+1) fc).ownBlock=some c:=hc
  rcases hb with h1 | ⟨q,h1,h2⟩
  ·rw [h1] at hc';exact hlo c hc'
  ·rw [h1] at hc';cases hc';omega
def q_e (h:Nat) (V:World) (g b k:Nat) (ra:Int) (t:Thr) (ea:Option Addr) (en ec:Nat) (es:List Value):b_v:=[isV 0 (.pointer (some ⟨g,0,none⟩)),isV 1 (.pointer (some ⟨g,0,none⟩)),isV 2 (.pointer (some ⟨g,0,none⟩)),isV 3 (.pointer (some ⟨g,0,none⟩)),isV 4 (.pointer (some ⟨g,6,none⟩)),isV 5 (.slice ea en ec),isV 6 (.pointer (some ⟨h,1,none⟩)),isV 7 (.int .i64 ra),isV 8 (.pointer (some ⟨g,0,none⟩)),isV 9 (.pointer (some ⟨g,0,none⟩)),isV 10 (.pointer (some ⟨g,7,none⟩)),isV 11 (.int .i64 k),isV 12 (.pointer (some ⟨b,k*13,none⟩)),isV 13 (.pointer (some ⟨b,k*13,none⟩)),isV 14 (.pointer (some ⟨b,k*13+1,none⟩)),isV 15 (.slice (some ⟨b,k*13+1,none⟩) 4 8),isV 16 (.pointer (some ⟨b,k*13+1,none⟩)),isV 17 (.agg #[.int .i64 (t.r 0),.int .i64 (t.r 1),.int .i64 (t.r 2),.int .i64 (t.r 3)]),isV 18 (.agg #[.int .i64 ra,.int .i64 k,.int .i64 (t.r 0),.int .i64 (t.r 1),.int .i64 (t.r 2),.int .i64 (t.r 3)]),([19],fun vz w=>∃ g6,vz=[.slice (some ⟨g6,0,none⟩) 1 1]∧V.heap.size≤g6∧a_p w g6 [.int .i64 ra,.int .i64 k,.int .i64 (t.r 0),.int .i64 (t.r 1),.int .i64 (t.r 2),.int .i64 (t.r 3)]),([20],fun vz w=>∃ fa fc,vz=[.slice fa (en+1) fc]∧w.ownsRow 0 101 6 (.slice fa (en+1) fc) (en+1) (es++[.int .i64 ra,.int .i64 k,.int .i64 (t.r 0),.int .i64 (t.r 1),.int .i64 (t.r 2),.int .i64 (t.r 3)])∧((Value.slice fa (en+1) fc).ownBlock=(Value.slice ea en ec).ownBlock∨∃ q,(Value.slice fa (en+1) fc).ownBlock=some q∧V.heap.size≤q)),isW 21 [] (.pointer (some ⟨g,0,none⟩)),isW 22 [21] (.pointer (some ⟨g,0,none⟩)),isW 23 [22,21] (.pointer (some ⟨g,6,none⟩))]
theorem o_s (h:Nat) (V:World) (g b k:Nat) (ra:Int) (t:Thr) (ea:Option Addr) (en ec:Nat) (es:List Value):c_q (q_e h  V  g b k  ra  t  ea  en ec  es ):=a_d<|a_d<|a_d<|a_d<|a_d<|a_d<|a_d<|a_d<|a_d<|a_d<|a_d<|a_d<|a_d<|a_d<|a_d<|a_d<|a_d<|a_d<|a_d<|a_w (fun _ _ _ hb h=>by obtain ⟨g6,h1,h2,h3⟩:=h;exact ⟨g6,h1,h2,a_h hb h3⟩)<|a_w (fun _ _ _ hb h=>by obtain ⟨fa,fc,h1,h2,h3⟩:=h;exact ⟨fa,fc,h1,b_a h2 hb,h3⟩)<|a_2<|a_2<|a_2<|b_B
theorem q_F (h:Nat) (V:World) (g b k:Nat) (ra:Int) (t:Thr) (ea:Option Addr) (en ec:Nat) (es:List Value):∀ jz args wz wz',jz≠19→jz≠20→b_E (q_e h  V  g b k  ra  t  ea  en ec  es ) jz args wz→b_E (q_e h  V  g b k  ra  t  ea  en ec  es ) jz args wz':=by
 intro jz args wz wz' n0 n1 h
 match jz with
 | 0=>exact h
 | 1=>exact h
 | 2=>exact h
 | 3=>exact h
 | 4=>exact h
 | 5=>exact h
 | 6=>exact h
 | 7=>exact h
 | 8=>exact h
 | 9=>exact h
 | 10=>exact h
 | 11=>exact h
 | 12=>exact h
 | 13=>exact h
 | 14=>exact h
 | 15=>exact h
 | 16=>exact h
 | 17=>exact h
 | 18=>exact h
 | 19=>exact absurd rfl n0
 | 20=>exact absurd rfl n1
 | 21=>exact h
 | 22=>exact h
 | 23=>exact h
 | _+24=>exact trivial
theorem o_a (Q:Nat→Prop) (g b:Nat) (Sx:Nat→Prop) (L:WoL) (X Y:Wo) (k:Nat) (i:Ins) (E:Int) (w:World) (H:Wk Q w g b L X k) (hN:Sx g∧Sx b) (hpc:0≤(thW X k).pc∧(thW X k).pc≤1000) (ho:i.1=26) (hE:E=0) (hen:L.ev.n≤200000) (hno:∀ q,(Value.slice L.ev.a L.ev.n L.ev.c).ownBlock=some q→Sx q) (hY:{ b_k X k (b_j (thW X k)) with ev:=X.ev++[(i.2.1,(k:Int),(thW X k).r 0,(thW X k).r 1,(thW X k).r 2,(thW X k).r 3)] }=Y) :
  Calls Tryz.prog 94 #[.pointer (some ⟨g,0,none⟩),.agg #[.int .i64 i.1,.int .i64 i.2.1,.int .i64 i.2.2.1,.int .i64 i.2.2.2]] w (c_d g b Sx X Y k E w):=by
 obtain ⟨op,ra,rb,rc⟩:=i;simp only at *;obtain ⟨W,hW⟩:=nm (w.alloc (Obj.cells (inC (op,ra,rb,rc)).toArray 66));have HI:=N21;have HB:=N3
 have HGS:=hid (show g < w.heap.size∧b < w.heap.size from ⟨a_N H.x (by simp),by
  obtain ⟨TC,h1,h2⟩:=H.tc;have h3:=b_f h2;have h4:repTh.k=13:=rfl;have h5:=H.hk;exact a_N h1 (by rw [h3,h4];omega)⟩)
 have HH:=hid (d_y HB.out H);have HH0:=hid H;have HC:=N58;obtain ⟨t,htt⟩:=mn (thW X k);rw [htt] at hpc hY;have ⟨HTT,HNN,HPC,HW⟩:=hh4 htt hN hpc hW;subst ho hE;have ⟨HY,HEN0,HNO0⟩:=hh3 hY hen hno;clear hY hen hno htt;clear hW H hN hpc
 go_enter Tryz.func94,Tryz.ntmps94
 go_upto_region 1 with fail
 rw [←HW.out]
 go_wp2_with fail
 refine HC.out.mono ?_;rintro e1 V ⟨rfl,m,hm⟩;have HB1:=N15;clear HC hm;have HHV:=hid (d_y HB1.out HH.out);have HIV:=hid (a_h HB1.out HI.out);have HBV:=hid (a_a HB.out HB1.out);have HBN:=N46;clear HB HB1 HH HI HW;obtain ⟨y0,-⟩:=HIV.out 0 _ rfl;obtain ⟨p,hp⟩:=mn (L.ev);obtain ⟨ea,en,ec⟩:=p;have HEV:=hid hp;have HEN:=hid (show en≤200000 by have:=HEN0.out;rw [hp] at this;exact this);have HNO:=hid (show ∀ q,(Value.slice ea en ec).ownBlock=some q→Sx q by have:=HNO0.out;rw [hp] at this;exact this);obtain ⟨es,how,hfe⟩:=HHV.out.ev;have hevo:=HHV.out.evo;rw [hp] at how hevo;have ⟨HOW,HFE⟩:=hh2 how hfe;have HOB:=hid (show ∀ q,(Value.slice ea en ec).ownBlock=some q→q < V.heap.size from fun q hq=>(b_b how hq).2)
 have HNE:=hid (show some g≠(Value.slice ea en ec).ownBlock∧some b≠(Value.slice ea en ec).ownBlock∧some w.heap.size≠(Value.slice ea en ec).ownBlock from ⟨fun h=>(hevo g h.symm).1 rfl,fun h=>(hevo b h.symm).2.1 rfl,fun h=>by
  obtain ⟨es0,how0,-⟩:=HH0.out.ev;rw [hp] at how0;have:=(b_b how0 h.symm).2;omega⟩)
 obtain ⟨j0,ki,kz0,kz1,kz2⟩:=info_parts o_D;have HJ:=N73;obtain ⟨x6,f6⟩:=HHV.out.x 6 _ rfl;obtain ⟨x7,-⟩:=HHV.out.x 7 _ rfl;rw [hp] at x6;obtain ⟨y1,-⟩:=HIV.out 1 _ rfl
 have HR4:=hid (show V.rangeAt b (k*13+1) [.int .i64 (t.r 0),.int .i64 (t.r 1),.int .i64 (t.r 2),.int .i64 (t.r 3)] from fun j v hj=>by
  have h:=l_z HHV.out;rw [HTT.out] at h;refine h j v ?_
  match j,hj with
  | 0,hj=>exact hj
  | 1,hj=>exact hj
  | 2,hj=>exact hj
  | 3,hj=>exact hj)
 clear how hfe hevo hp ki kz0 kz1 kz2 HEN0 HNO0;have hG:=o_s w.heap.size V g b k ra t ea en ec es
 go_wp2_with fail
 clear y0;refine h_V 24 20 rfl [some 124,some 125,some 126,some 127,some 128,some 129,some 130,some 131,some 132,some 133,some 134,some 135,some 136,some 137,some 138,some 139,some 140,some 141,some 142,some 143,some 144,some 145,some 146,some 147] (fun bl w'=>(bl=false→Below V.heap.size V w')∧V.grownBy w' (Value.slice ea en ec).ownBlock) (q_e w.heap.size V g b k ra t ea en ec es) 100 100 (fun _ _ _=>True) (by kernel_rfl) (by kernel_rfl) (by decide) rfl rfl (⟨fun _=>(Below.refl _ _).drew,⟨rfl,rfl,rfl,Nat.le_refl _,fun _ _ _=>rfl⟩⟩) ?_
 show StepsL _ _ _ _ _ _ _
 refine InvY.c (fun _ _ w1 _ hbl _ C _ hK=>oR C hK (h:=by simp [execOp,go_sem,C.o 0 (.pointer (some ⟨g,0,none⟩))])) ?_;refine InvY.c (fun _ _ w1 _ hbl _ C _ hK=>oR C hK (h:=by simp [execOp,go_sem,C.o 0 (.pointer (some ⟨g,0,none⟩))])) ?_;refine InvY.c (fun _ _ w1 _ hbl _ C _ hK=>oR C hK (h:=by simp [execOp,go_sem,C.i 1])) ?_;refine InvY.c (fun _ _ w1 _ hbl _ C _ hK=>oR C hK (h:=by simp [execOp,go_sem,C.i 2])) ?_;refine InvY.c (fun _ _ w1 _ hbl _ C _ hK=>oR C hK (h:=by simp [execOp,go_sem,C.i 3])) ?_;refine InvY.c (fun a1 vals w1 bl hbl hdf C K hK=>?_) ?_
 ·have e0:=C.i 4;have kc:=C.base.2.cell x6 HNE.out.1;refine a_i rfl (a_A (v:=.slice ea en ec) ?_ (d_e hK C rfl rfl));simp [execOp,go_sem,e0,kc]
 refine InvY.c (fun _ _ w1 _ hbl _ C _ hK=>oR C hK (h:=by simp [execOp,go_sem,C.o 3 (.pointer (some ⟨w.heap.size,0,none⟩))])) ?_;refine InvY.c (fun a1 vals w1 bl hbl hdf C K hK=>?_) ?_
 ·have e0:=C.i 6;have kc:=C.base.2.cell y1 HNE.out.2.2;refine a_i rfl (a_A (v:=.int .i64 ra) ?_ (d_e hK C rfl rfl));simp [execOp,go_sem,e0,kc]
 refine InvY.c (fun _ _ w1 _ hbl _ C _ hK=>oR C hK (h:=by simp [execOp,go_sem,C.o 0 (.pointer (some ⟨g,0,none⟩))])) ?_;refine InvY.c (fun _ _ w1 _ hbl _ C _ hK=>oR C hK (h:=by simp [execOp,go_sem,C.i 8])) ?_;refine InvY.c (fun _ _ w1 _ hbl _ C _ hK=>oR C hK (h:=by simp [execOp,go_sem,C.i 9])) ?_;refine InvY.c (fun a1 vals w1 bl hbl hdf C K hK=>?_) ?_
 ·have e0:=C.i 10;have kc:=C.base.2.cell x7 HNE.out.1;refine a_i rfl (a_A (v:=.int .i64 k) ?_ (d_e hK C rfl rfl));simp [execOp,go_sem,e0,kc]
 refine InvY.c (fun _ _ w1 _ hbl _ C _ hK=>oR C hK (h:=by simp [execOp,go_sem,C.o 4 (.pointer (some ⟨b,k*13,none⟩))])) ?_;refine InvY.c (fun _ _ w1 _ hbl _ C _ hK=>oR C hK (h:=by simp [execOp,go_sem,C.i 12])) ?_;refine InvY.c (fun _ _ w1 _ hbl _ C _ hK=>oR C hK (h:=by simp [execOp,go_sem,C.i 13])) ?_;refine InvY.c (fun _ _ w1 _ hbl _ C _ hK=>oR C hK (h:=by simp [execOp,go_sem,C.i 14])) ?_;refine InvY.c (fun _ _ w1 _ hbl _ C _ hK=>oR C hK (h:=by simp [execOp,go_sem,C.i 15,run_arrayAt w1 99 _ 4 (some ⟨b,k*13+1,none⟩) 4 8 Tryz.underlying99 (by decide)])) ?_;refine InvY.c (fun a1 vals w1 bl hbl hdf C K hK=>?_) ?_
 ·have e0:=C.i 16;exact a_i rfl (wp_load_mid 99 _ rfl (b) (k*13+1) ((a_P a1 _).symm.trans e0) [.int .i64 (t.r 0),.int .i64 (t.r 1),.int .i64 (t.r 2),.int .i64 (t.r 3)] _ (fun j v hj=>C.base.2.cell (HR4.out j v hj) HNE.out.2.1) Tryz.underlying99 rfl (by kernel_rfl) (d_e hK C rfl rfl))
 refine InvY.c (fun _ _ w1 _ hbl _ C _ hK=>oR C hK (h:=by simp [execOp,go_sem,C.i 7,C.i 11,C.i 17])) ?_;refine InvY.c (fun a1 vals w1 bl hbl hdf C K hK=>?_) ?_
 ·have e0:=C.i 18;have hA:Below w1.heap.size w1 (w1.alloc (Obj.cells #[.int .i64 ra,.int .i64 k,.int .i64 (t.r 0),.int .i64 (t.r 1),.int .i64 (t.r 2),.int .i64 (t.r 3)] 101)):=(Below.refl _ _).alloc (Nat.le_refl _) _;have hbs:=C.base.2.size;refine a_i rfl (a_A (v:=.slice (some ⟨w1.heap.size,0,none⟩) 1 1) (w':=w1.alloc (Obj.cells #[.int .i64 ra,.int .i64 k,.int .i64 (t.r 0),.int .i64 (t.r 1),.int .i64 (t.r 2),.int .i64 (t.r 3)] 101)) ?_ (hK _ _ ⟨w1.heap.size,rfl,hbs,a_e [.int .i64 ra,.int .i64 k,.int .i64 (t.r 0),.int .i64 (t.r 1),.int .i64 (t.r 2),.int .i64 (t.r 3)] _ rfl⟩ ?_ (fun j _ h=>hG j _ _ _ hA h) (fun _ _ h=>h) (fun e=>absurd e (by decide)) (fun e=>absurd e (by decide)) (fun e=>absurd e (by decide))))
  ·simp [execOp,go_sem,e0]
  ·exact ⟨fun h=>(C.base.1 h).alloc hbs _,⟨C.base.2.os,C.base.2.tape,C.base.2.output,by simp;omega,fun q hq hne=>by rw [←C.base.2.block q hq hne];exact hA.block q (by omega)⟩⟩
 refine InvY.c (fun a1 vals w1 bl hbl hdf C K hK=>?_) ?_
 ·have e0:=C.v 5 129 rfl rfl;have y129:=C.i 5;rw [a_P] at y129;have e1:=C.v 19 143 rfl rfl;obtain ⟨g6,g1,g2,g3⟩:=C.says 19 rfl;have y143:vals 19=_:=List.head_eq_of_cons_eq g1;rw [y143] at e1;have hb1:=C.base.1 (hbl rfl);have hbs:=C.base.2.size;refine e_5 rfl (.tmp 129) (.tmp 143) 31 rfl 0 101 j0 (.agg #[.int .i64 0,.int .i64 0,.int .i64 0,.int .i64 0,.int .i64 0,.int .i64 0]) 6 48 Tryz.underlying31 HJ.out.1 HJ.out.2.1 HJ.out.2.2.1 HJ.out.2.2.2 rfl (by decide) (.slice ea en ec) en es y129 (b_a HOW.out hb1) ⟨g6,0,none⟩ 1 1 [.int .i64 ra,.int .i64 k,.int .i64 (t.r 0),.int .i64 (t.r 1),.int .i64 (t.r 2),.int .i64 (t.r 3)] e1 rfl (fun j u hj=>by rw [Gen.add_plain,Nat.zero_add];exact (g3 j u hj).1) (by intro u hu;simp at hu;rcases hu with rfl | rfl | rfl | rfl | rfl | rfl <;> rfl) (by have:=HEN.out;unfold maxLen;omega) (by have:=HEN.out;omega) (Nat.zero_le _) (fun v2 w2 ho hg hblk=>?_);obtain ⟨fa,fc,rfl⟩:=c_g ho;refine hK _ _ ⟨fa,fc,rfl,ho,?_⟩ ?_ (fun j hj h=>?_) (fun _ _ h=>h) (fun e=>absurd e (by decide)) (fun e=>absurd e (by decide)) (fun e=>absurd e (by decide))
  ·rcases hblk with h | h
   ·exact .inl h
   ·exact .inr ⟨_,h,hbs⟩
  ·exact ⟨fun h=>absurd h (by decide),⟨hg.os.trans C.base.2.os,hg.tape.trans C.base.2.tape,hg.output.trans C.base.2.output,Nat.le_trans hbs hg.size,fun q hq hne=>(hg.block q (by omega) hne).trans (C.base.2.block q hq hne)⟩⟩
  ·by_cases hj3:j=19
   ·subst hj3;exact ⟨g6,g1,g2,b_C hg (fun h=>by have:=HOB.out g6 h;omega) g3⟩
   ·exact q_F _ _ _ _ _ _ _ _ _ _ _ _ _ _ _ hj3 hj h
 refine InvY.c (fun _ _ w1 _ hbl _ C _ hK=>oR C hK (h:=by simp [execOp,go_sem,C.i 0])) ?_;refine InvY.c (fun a1 vals w1 bl hbl hdf C K hK=>?_) ?_
 ·have e0:=C.isw 21 145 [] (.pointer (some ⟨g,0,none⟩)) rfl rfl rfl rfl;exact J89
 refine InvY.c (fun a1 vals w1 bl hbl hdf C K hK=>?_) ?_
 ·have e0:=C.isw 22 146 [21] (.pointer (some ⟨g,0,none⟩)) rfl rfl rfl rfl;refine a_i rfl (a_A (v:=.pointer (some ⟨g,6,none⟩)) ?_ (d_e hK C rfl rfl));simp [execOp,go_sem,e0]
 refine InvY.last (n:=24) ?_ ?_ ?_ ?_
 ·rfl
 ·kernel_rfl
 ·decide
 ·intro vals w1 aE hae hval hb hv hbo K hK;obtain ⟨fa,fc,h1,h2,h3⟩:=c_i (k:=20) rfl (hv 20 (by decide));have y144:vals 20=_:=List.head_eq_of_cons_eq h1;have y147:vals 23=.pointer (some ⟨g,6,none⟩):=e_Y rfl (hv 23 (by decide));obtain ⟨bl,-,hgr⟩:=hb;have q1:=(hval 23 147 rfl rfl).trans y147;have q2:=(hval 20 144 rfl rfl).trans y144;have zz:w1.cell? ⟨g,6,none⟩=some (.slice ea en ec):=hgr.cell x6 HNE.out.1;have zf:w1.frozen? ⟨g,6,none⟩=false:=by rw [World.frozen?_of_block (w:=V) (hgr.block g (b_Q x6) HNE.out.1)];exact f6
  refine a_i rfl (g_y (w':=w1.setCell ⟨g,6,none⟩ (.slice fa (en+1) fc)) ?_ (hK _ _ ?_))
  ·rw [←a_P] at q1 q2;simp [execOp,go_sem,q1,q2,zz,zf]
  rw [hae.out];simp only [c_N,Act.put,sA,sB,sC,y144,y147];obtain ⟨U,hU⟩:=nm (w1.setCell ⟨g,6,none⟩ (.slice fa (en+1) fc))
  have HHU:=hid (show Wk (fun x=>Q x∧(Value.slice fa (en+1) fc).ownBlock≠some x) U g b (L.setEv ⟨fa,en+1,fc⟩) { X with ev:=X.ev++[(ra,(k:Int),t.r 0,t.r 1,t.r 2,t.r 3)] } k from by
   rw [hU];exact r_P HHV.out HEV.out hgr h2 h3 HFE.out)
  have HBU:=hid (show Bel Sx w U by rw [hU];exact (HBN.out.grown hgr (fun q hq=>HNO.out q hq)).setCell (p:=⟨g,6,none⟩) HNN.out.1 _);have HTU:=hid (show thW { X with ev:=X.ev++[(ra,(k:Int),t.r 0,t.r 1,t.r 2,t.r 3)] } k=t from HTT.out);rw [←hU];clear hv hbo y144 y147 hval hae h1 h2 h3 hU hgr q1 q2 zz zf;obtain ⟨fa2,fc2,la2,lc2,-,ht2⟩:=c_4 HHU.out;obtain ⟨p0,pf⟩:=ht2 0 _ rfl;have p0:U.cell? ⟨b,k*13,none⟩=some (.int .i64 (thW { X with ev:=X.ev++[(ra,(k:Int),t.r 0,t.r 1,t.r 2,t.r 3)] } k).pc):=p0;have pf:=N249;obtain ⟨pc,hpc2⟩:∃ p,(thW { X with ev:=X.ev++[(ra,(k:Int),t.r 0,t.r 1,t.r 2,t.r 3)] } k).pc=p:=⟨_,rfl⟩;rw [hpc2] at p0;have hwk:=N185
  have HHE:=hid (show Wk (fun x=>Q x∧(Value.slice fa (en+1) fc).ownBlock≠some x) (U.setCell ⟨b,k*13,none⟩ (.int .i64 (pc+1))) g b (L.setEv ⟨fa,en+1,fc⟩) (b_k { X with ev:=X.ev++[(ra,(k:Int),t.r 0,t.r 1,t.r 2,t.r 3)] } k (b_j (thW { X with ev:=X.ev++[(ra,(k:Int),t.r 0,t.r 1,t.r 2,t.r 3)] } k))) k from
   c_C HHU.out 0 (.int .i64 (pc+1)) (b_j (thW { X with ev:=X.ev++[(ra,(k:Int),t.r 0,t.r 1,t.r 2,t.r 3)] } k)) (by decide) (fun fa fc la lc T=>⟨fa,fc,la,lc,by rw [←hpc2];rfl,⟨T.fcap,T.fs,T.lcap,T.lf⟩⟩))
  have HBE:=N100;clear ht2 hpc2
  go_wp2
  first | go_ret | go_end0
  refine ⟨.inl ⟨rfl,rfl,(fun x=>Q x∧(Value.slice fa (en+1) fc).ownBlock≠some x),(L.setEv ⟨fa,en+1,fc⟩),?_⟩,HBE.out⟩;have HYE:=HHE;rw [←HY.out];rw [HTU.out] at HYE;exact HYE.out
end Go.Proofs.YtogdpojnbgeknaaGreatDoor
namespace Go.Proofs.YtogdpojnbgeknaaGreatDoor
open Go.ChangeShapes Go.WideShapes Go.ChangeAt Go.RowKit
open Gen
theorem j_o {g b:Nat} {Sx:Nat→Prop} {X Y Y':Wo} {k:Nat} {E:Int} {w w':World} {e:Ending} (h:E=0→Y=Y') (H:c_d g b Sx X Y k E w e w'):c_d g b Sx X Y' k E w e w':=by
 obtain ⟨(⟨h1,h2,Q',L',h3⟩ | h1),h4⟩:=H
 ·exact ⟨.inl ⟨h1,h2,Q',L',h h1▸h3⟩,h4⟩
 ·exact ⟨.inr h1,h4⟩
theorem t_a {t:Thr} {A v:Int} (h:0≤A):b_j (g_K t A.toNat v)=c_2 t A v:=by
 have e:((A.toNat:Nat):Int)=A:=by omega
 simp only [b_j,g_K,c_2,e]
theorem k_8 {X Z:Wo} {k:Nat} {t:Thr} {A v:Int} {sw:List Int} (hk:k < X.th.length) (hA:0≤A) (hZ:b_k { X with ws:=sw } k (g_K t A.toNat v)=Z):b_k Z k (b_j (thW Z k))={ b_k X k (c_2 t A v) with ws:=sw }:=by
 subst hZ;rw [f_J (show k < ({ X with ws:=sw }:Wo).th.length from hk),g_T,t_a hA];rfl
theorem j_8 (Q:Nat→Prop) (g b:Nat) (Sx:Nat→Prop) (L:WoL) (X:Wo) (k:Nat) (i:Ins) (w:World) (H:Wk Q w g b L X k) (hN:Sx g∧Sx b) (hrw:a_6 X=true) (hmi:c_K i X.code.length=true) (hloc:¬ (1≤i.1∧i.1≤15)) (hwf:∀ j,j < 8→(Lit.int .i64 ((thW X k).r j)).wf=true) (hen:L.ev.n≤200000) (hno:∀ q,(Value.slice L.ev.a L.ev.n L.ev.c).ownBlock=some q→Sx q) :
  Calls Tryz.prog 94 #[.pointer (some ⟨g,0,none⟩),.agg #[.int .i64 i.1,.int .i64 i.2.1,.int .i64 i.2.2.1,.int .i64 i.2.2.2]] w (c_d g b Sx X (d_3 X k (thW X k) i) k (d_f X k (thW X k) i) w):=by
 have hr27:=(d_T hmi).1;obtain ⟨-,hm,hl,hone⟩:=a_M hrw;have hpc:=(oneW_iff.1 (hone _ (g_r H.hk))).1;have hb8:=(a_S hm).2.1;have hcase:i.1=0∨i.1=16∨i.1=17∨(i.1=18∨i.1=23)∨i.1=19∨i.1=20∨i.1=21∨i.1=22∨i.1=24∨i.1=25∨i.1=26:=by omega
 rcases hcase with h | h | h | h | h | h | h | h | h | h | h
 ·exact n_9 Q g b Sx L X _ k i _ w H hN hpc h (by simp [d_f,h]) (by simp [d_3,h])
 ·obtain ⟨ha,hb,-⟩:=c_7 hmi (by omega);exact o_c Q g b Sx L X _ k i _ w H hN hpc h ha hb (by rw [d_f,if_neg (by omega),if_pos h]) (by rw [d_3,if_neg (by omega),if_neg (by omega),if_pos h])
 ·obtain ⟨ha,hb,-⟩:=c_7 hmi (by omega);exact o_d Q g b Sx L X _ k i _ w H hN hpc h ha hb (by rw [d_f,if_neg (by omega),if_neg (by omega),if_pos h]) (by rw [d_3,if_neg (by omega),if_neg (by omega),if_neg (by omega),if_pos h])
 ·exact o_b Q g b Sx L X _ k i _ w H hN hpc h (by rw [d_f,if_neg (by omega),if_neg (by omega),if_neg (by omega),if_neg (by omega),if_neg (by omega)]) (by rw [d_3,if_neg (by omega),if_neg (by omega),if_neg (by omega),if_neg (by omega),if_neg (by omega),if_neg (by omega),if_neg (by omega),if_neg (by omega)])
 ·obtain ⟨ha,hb,hc⟩:=c_7 hmi (by omega);have hE:d_f X k (thW X k) i=b_y X.ws X.ts X.D X.bs k 0 (rgt (thW X k) i.2.2.1):=by rw [d_f,if_neg (by omega),if_neg (by omega),if_neg (by omega),if_pos (by omega),h];rfl
  have hY:d_3 X k (thW X k) i={ b_k X k (c_2 (thW X k) i.2.1 (b_L X.ws X.ts (rgt (thW X k) i.2.2.1))) with ws:=b_z X.ws X.ts 0 (rgt (thW X k) i.2.2.1) (rgt (thW X k) i.2.1) (rgt (thW X k) i.2.2.2) }:=by rw [d_3,if_neg (by omega),if_neg (by omega),if_neg (by omega),if_neg (by omega),if_pos (by omega),h];rfl
  rw [hE,hY];exact k_I Q g b Sx L X _ k i _ w H hN hpc h hwf ha hb (hc (by omega)) _ rfl rfl (k_8 H.hk ha.1 rfl)
 ·obtain ⟨ha,hb,hc⟩:=c_7 hmi (by omega);have hE:d_f X k (thW X k) i=b_y X.ws X.ts X.D X.bs k 1 (rgt (thW X k) i.2.2.1):=by rw [d_f,if_neg (by omega),if_neg (by omega),if_neg (by omega),if_pos (by omega),h];rfl
  have hY:d_3 X k (thW X k) i={ b_k X k (c_2 (thW X k) i.2.1 (b_L X.ws X.ts (rgt (thW X k) i.2.2.1))) with ws:=b_z X.ws X.ts 1 (rgt (thW X k) i.2.2.1) (rgt (thW X k) i.2.1) (rgt (thW X k) i.2.2.2) }:=by rw [d_3,if_neg (by omega),if_neg (by omega),if_neg (by omega),if_neg (by omega),if_pos (by omega),h];rfl
  rw [hE,hY];exact k_J Q g b Sx L X _ k i _ w H hN hpc h hwf ha hb (hc (by omega)) _ rfl rfl (k_8 H.hk ha.1 rfl)
 ·obtain ⟨ha,hb,hc⟩:=c_7 hmi (by omega);have hE:d_f X k (thW X k) i=b_y X.ws X.ts X.D X.bs k 2 (rgt (thW X k) i.2.2.1):=by rw [d_f,if_neg (by omega),if_neg (by omega),if_neg (by omega),if_pos (by omega),h];rfl
  have hY:d_3 X k (thW X k) i={ b_k X k (c_2 (thW X k) i.2.1 (b_L X.ws X.ts (rgt (thW X k) i.2.2.1))) with ws:=b_z X.ws X.ts 2 (rgt (thW X k) i.2.2.1) (rgt (thW X k) i.2.1) (rgt (thW X k) i.2.2.2) }:=by rw [d_3,if_neg (by omega),if_neg (by omega),if_neg (by omega),if_neg (by omega),if_pos (by omega),h];rfl
  rw [hE,hY];exact k_K Q g b Sx L X _ k i _ w H hN hpc h hwf ha hb (hc (by omega)) _ rfl rfl (k_8 H.hk ha.1 rfl)
 ·by_cases h0:(thW X k).lf.length=0
  ·exact o_e Q g b Sx L X _ k i _ w H hN hpc h (by rw [d_f,if_neg (by omega),if_neg (by omega),if_neg (by omega),if_neg (by omega),if_neg (by omega)]) h0 (by rw [d_3,if_neg (by omega),if_neg (by omega),if_neg (by omega),if_neg (by omega),if_neg (by omega),if_pos h,if_pos h0]) hb8.1 hb8.2
  ·exact o_f Q g b Sx L X _ k i _ w H hN hpc h (by rw [d_f,if_neg (by omega),if_neg (by omega),if_neg (by omega),if_neg (by omega),if_neg (by omega)]) h0 (by rw [d_3,if_neg (by omega),if_neg (by omega),if_neg (by omega),if_neg (by omega),if_neg (by omega),if_pos h,if_neg h0])
 ·obtain ⟨ha,hb,-⟩:=c_7 hmi (by omega);have hE:d_f X k (thW X k) i=c_F X.ws X.ts (rgt (thW X k) i.2.1) (rgt (thW X k) i.2.2.1) 1:=by rw [d_f,if_neg (by omega),if_neg (by omega),if_neg (by omega),if_neg (by omega),if_pos (by omega),h];rfl
  have hY:d_3 X k (thW X k) i={ b_k X k (b_j (thW X k)) with ts:=c_O X.ws X.ts (rgt (thW X k) i.2.1) (rgt (thW X k) i.2.2.1) 1 }:=by rw [d_3,if_neg (by omega),if_neg (by omega),if_neg (by omega),if_neg (by omega),if_neg (by omega),if_neg (by omega),if_pos (by omega),h];rfl
  rw [hE,hY];refine (k_L Q g b Sx L X _ k i _ w H hN hpc h hwf ha hb _ rfl rfl rfl).mono (fun e w' hh=>j_o (fun h0=>?_) hh);rw [c_5,if_pos h0];rfl
 ·obtain ⟨ha,hb,-⟩:=c_7 hmi (by omega);have hE:d_f X k (thW X k) i=c_F X.ws X.ts (rgt (thW X k) i.2.1) (rgt (thW X k) i.2.2.1) 2:=by rw [d_f,if_neg (by omega),if_neg (by omega),if_neg (by omega),if_neg (by omega),if_pos (by omega),h];rfl
  have hY:d_3 X k (thW X k) i={ b_k X k (b_j (thW X k)) with ts:=c_O X.ws X.ts (rgt (thW X k) i.2.1) (rgt (thW X k) i.2.2.1) 2 }:=by rw [d_3,if_neg (by omega),if_neg (by omega),if_neg (by omega),if_neg (by omega),if_neg (by omega),if_neg (by omega),if_pos (by omega),h];rfl
  rw [hE,hY];refine (k_M Q g b Sx L X _ k i _ w H hN hpc h hwf ha hb _ rfl rfl rfl).mono (fun e w' hh=>j_o (fun h0=>?_) hh);rw [c_5,if_pos h0];rfl
 ·exact o_a Q g b Sx L X _ k i _ w H hN hpc h (by rw [d_f,if_neg (by omega),if_neg (by omega),if_neg (by omega),if_neg (by omega),if_neg (by omega)]) hen hno (by rw [d_3,if_neg (by omega),if_neg (by omega),if_neg (by omega),if_neg (by omega),if_neg (by omega),if_neg (by omega),if_neg (by omega),if_pos h])
end Go.Proofs.YtogdpojnbgeknaaGreatDoor
namespace Go.Proofs.YtogdpojnbgeknaaGreatDoor
open Go.ChangeShapes Go.WideShapes Go.ChangeAt Go.RowKit
open Gen
open Lib (hid)
theorem j_H (t:Thr) (fa la:Option Addr) (fn fc ln lc:Nat) (w:World) (F:ThF w fa fn fc la ln lc t) (h1:fn≤1000) (h2:ln≤1000) :
  Calls Tryz.prog 117 #[.agg (thC t fa fn fc la ln lc).toArray] w (u_U t w):=by
 obtain ⟨W,hW⟩:=nm ((w.alloc (Obj.cells (thC t fa fn fc la ln lc).toArray 46)).alloc (Obj.cells thN.toArray 46));have X:=N51;have R:=N14;have hB:=N2;have hz:=N85;have C1:=F.fcap;have C2:=F.lcap;have S1:=g_u hB F.fs;have S2:=a_B (a_C hB) (s_i F.lf);have ⟨HX,HR,HB,HW,HZ⟩:=hh5 X R hB hW hz;clear hW X R hB F hz
 go_enter Tryz.func117,Tryz.ntmps117
 exact J1
end Go.Proofs.YtogdpojnbgeknaaGreatDoor
