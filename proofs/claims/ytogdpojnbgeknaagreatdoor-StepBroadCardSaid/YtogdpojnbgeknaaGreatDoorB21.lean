import Derived.Test.YtogdpojnbgeknaaGreatDoorB15
import Derived.Deep.DeepCutAuto
import Derived.Test.YtogdpojnbgeknaaGreatDoorB0
import Derived.Test.YtogdpojnbgeknaaGreatDoorB5
import Derived.Test.YtogdpojnbgeknaaGreatDoorB1
import Derived.Test.YtogdpojnbgeknaaGreatDoorB20
import Derived.StillTailTactics
import Derived.Test.YtogdpojnbgeknaaGreatDoorB10
set_option maxRecDepth 100000
set_option maxHeartbeats 16000000
namespace Go.Proofs.YtogdpojnbgeknaaGreatDoor
open Go.ChangeShapes Go.WideShapes Go.ChangeAt Go.RowKit
open Gen
open Lib (hid)
def l_H (Q1:Nat→Prop) (h:Nat) (V:World) (L:WoL) (D:Int) (j ra rb:Nat) (kd va vb bz lv se sD:Int) (SW ST:List Int) (SB:List (List (Int×Int))):b_v:=[isV 0 (.pointer (some ⟨h,1,none⟩)),isV 1 (.agg #[.slice L.ws.a L.ws.n L.ws.c,.slice L.ts.a L.ts.n L.ts.c,.int .i64 D,.slice L.bs.a L.bs.n L.bs.c]),isV 2 (.int .i64 j),isV 3 (.int .i64 kd),isV 4 (.pointer (some ⟨h+1,2,none⟩)),isV 5 (.int .i64 rb),isV 6 (.pointer (some ⟨h+3,1,none⟩)),isV 7 (.pointer (some ⟨h+3,1+rb,none⟩)),isV 8 (.int .i64 vb),isV 9 (.pointer (some ⟨h+1,1,none⟩)),isV 10 (.int .i64 ra),isV 11 (.pointer (some ⟨h+3,1,none⟩)),isV 12 (.pointer (some ⟨h+3,1+ra,none⟩)),isV 13 (.int .i64 va),isV 14 (.int .i64 bz),([15],fun vz w=>∃ a n c a' n' c' q l d,vz=[.tuple #[.agg #[.slice a n c,.slice a' n' c',.int .i64 sD,.slice q l d],.int .i64 lv,.int .i64 se]]∧SlP Q1 w a n SW∧SlP Q1 w a' n' ST∧BlP Q1 w q l SB),([16,15],fun vz _=>∃ a n c a' n' c' q l d,vz=[.tuple #[.agg #[.slice a n c,.slice a' n' c',.int .i64 sD,.slice q l d],.int .i64 lv,.int .i64 se],.tuple #[.agg #[.slice a n c,.slice a' n' c',.int .i64 sD,.slice q l d],.int .i64 lv,.int .i64 se]]),([17,15],fun vz _=>∃ a n c a' n' c' q l d,vz=[.agg #[.slice a n c,.slice a' n' c',.int .i64 sD,.slice q l d],.tuple #[.agg #[.slice a n c,.slice a' n' c',.int .i64 sD,.slice q l d],.int .i64 lv,.int .i64 se]]),isV 18 (.int .i64 lv),isV 19 (.int .i64 se),([20],fun vz w=>∃ g,vz=[.pointer (some ⟨g,0,none⟩)]∧V.heap.size≤g∧∃ xs,a_p w g xs∧xs.length=4),([20,15],fun vz w=>∃ g a n c a' n' c' q l d,vz=[.pointer (some ⟨g,0,none⟩),.tuple #[.agg #[.slice a n c,.slice a' n' c',.int .i64 sD,.slice q l d],.int .i64 lv,.int .i64 se]]∧V.heap.size≤g∧a_p w g [.slice a n c,.slice a' n' c',.int .i64 sD,.slice q l d]∧SlP (fun b=>Q1 b∧b≠g) w a n SW∧SlP (fun b=>Q1 b∧b≠g) w a' n' ST∧BlP (fun b=>Q1 b∧b≠g) w q l SB),isV 22 (.int .i64 lv),isV 23 (.int .i64 se)]
theorem m_Q (Q1:Nat→Prop) (h:Nat) (V:World) (L:WoL) (D:Int) (j ra rb:Nat) (kd va vb bz lv se sD:Int) (SW ST:List Int) (SB:List (List (Int×Int))):c_q (l_H Q1  h  V  L  D  j ra rb  kd va vb bz lv se sD  SW ST  SB ):=a_d<|a_d<|a_d<|a_d<|a_d<|a_d<|a_d<|a_d<|a_d<|a_d<|a_d<|a_d<|a_d<|a_d<|a_d<|a_w (fun _ _ _ hb h=>by obtain ⟨a,n,c,a',n',c',q,l,d,h1,h0x,h1x,h2x⟩:=h;exact ⟨a,n,c,a',n',c',q,l,d,h1,a_r (fun _ _ _ _ h=>a_t hb h) h0x,a_r (fun _ _ _ _ h=>a_t hb h) h1x,a_G (fun _ _ _ _ h=>a_t hb h) h2x⟩)<|a_w (fun _ _ _ _ h=>h)<|a_w (fun _ _ _ _ h=>h)<|a_d<|a_d<|a_w (fun _ _ _ hb h=>by obtain ⟨g,h1,h2,xs,h3,h4⟩:=h;exact ⟨g,h1,h2,xs,a_h hb h3,h4⟩)<|a_w (fun _ _ _ hb h=>by obtain ⟨g,a,n,c,a',n',c',q,l,d,h1,h2,h3,h0x,h1x,h2x⟩:=h;exact ⟨g,a,n,c,a',n',c',q,l,d,h1,h2,a_h hb h3,a_r (fun _ _ _ _ h=>a_t hb h) h0x,a_r (fun _ _ _ _ h=>a_t hb h) h1x,a_G (fun _ _ _ _ h=>a_t hb h) h2x⟩)<|a_d<|a_d<|b_B
theorem o_i (Q1:Nat→Prop) (h:Nat) (V:World) (L:WoL) (D:Int) (j ra rb:Nat) (kd va vb bz lv se sD:Int) (SW ST:List Int) (SB:List (List (Int×Int))):∀ jz args wz wz',jz≠15→jz≠20→jz≠21→b_E (l_H Q1  h  V  L  D  j ra rb  kd va vb bz lv se sD  SW ST  SB ) jz args wz→b_E (l_H Q1  h  V  L  D  j ra rb  kd va vb bz lv se sD  SW ST  SB ) jz args wz':=by
 intro jz args wz wz' n0 n1 n2 h
 match jz with
 | 0=>exact h
 | 1=>exact h
 | 2=>exact h
 | 3=>exact h
 | 4=>exact h
 | 5=>exact h
 | 6=>exact h
 | 7=>exact h
 | 8=>exact h
 | 9=>exact h
 | 10=>exact h
 | 11=>exact h
 | 12=>exact h
 | 13=>exact h
 | 14=>exact h
 | 15=>exact absurd rfl n0
 | 16=>exact h
 | 17=>exact h
 | 18=>exact h
 | 19=>exact h
 | 20=>exact absurd rfl n1
 | 21=>exact absurd rfl n2
 | 22=>exact h
 | 23=>exact h
 | _+24=>exact trivial
theorem k_9 (Q:Nat→Prop) (L:WoL) (X:Wo) (j:Nat) (i:Ins) (w:World) (R:RWo Q w L X) (hj:j < L.th.n) (hQ:∀ b,w.heap.size≤b→Q b) (hn:L.th.n≤1000) (hh:j_D X.ws X.ts X.D X.bs j=true) (ha:0≤i.2.1∧i.2.1≤7) (hb:0≤i.2.2.1∧i.2.2.1≤7) (hc:0≤i.2.2.2∧i.2.2.2≤7) (ho:19≤i.1∧i.1≤21) (hpc:0≤(thW X j).pc∧(thW X j).pc≤1000) :
  Calls Tryz.prog 57 #[woV L X.D,.int .i64 j,inV i] w (b_D Q (k_7 X j (thW X j) i) w):=by
 obtain ⟨Y,hY⟩:=mn (k_7 X j (thW X j) i);rw [hY];obtain ⟨D,hD⟩:=mn (X.D);rw [hD];obtain ⟨tb,tq,t,ta,tc,qa,qc,htl,htt,-,T,hr⟩:=c_3 R.th hj;have htw:=N54;rw [htw] at hY;have HTW:=hid htw;rw [htw] at hpc;obtain ⟨op,A,B,cc⟩:=i;unfold k_7 at hY;simp only at hY ha hb hc ho;obtain ⟨ra,hra,hra8⟩:=a_5 ha;obtain ⟨rb,hrb,hrb8⟩:=a_5 hb;obtain ⟨rc,hrc,hrc8⟩:=a_5 hc;subst hra hrb hrc;have ⟨HP,HH⟩:=hh2 hpc hh;obtain ⟨va,hva⟩:=mn (t.r ra);obtain ⟨vb,hvb⟩:=mn (t.r rb);obtain ⟨vc,hvc⟩:=mn (t.r rc);have HVC:=hid hvc;obtain ⟨kd,hkd⟩:=mn (op - 19);have hkw:wrap64 (op - 19)=kd:=by rw [←hkd];exact IntWalk.wrap64_in _ (by omega)
 have HKW:=hid hkw;have HKD:=hid (show 0≤kd∧kd≤2 by omega);have HKO:=hid hkd;have HVA:=hid (And.intro hva hvb);have HA8:=hid (show (0:Int)≤ra∧(ra:Int)≤7 by omega);have i3:(0:Int)≤ra:=by omega
 have i4:(ra:Int) < 8:=by omega
 have i5:(0:Int)≤rb:=by omega
 have i6:(rb:Int) < 8:=by omega
 have i7:(0:Int)≤rc:=by omega
 have i8:(rc:Int) < 8:=by omega
 clear hh hpc ha hb hc ho hva hvb hvc hkd hkw;obtain ⟨tn,htn⟩:=mn (t.fs.length);obtain ⟨tm,htm⟩:=mn (t.lf.length);have HTN:=hid (And.intro htn htm);obtain ⟨Q1,hQ1⟩:∃ Q1:Nat→Prop,Q1=fun b=>Q b∧(b < w.heap.size∨w.heap.size+4≤b):=⟨_,rfl⟩
 have HQ1:=hid hQ1;have HQ2:=N57;have HR1:=N41;have HT1:=N36;obtain ⟨W,hW⟩:=nm (((w.alloc (Obj.cells (woC L D).toArray 33)).alloc (Obj.cells (inL op ra rb rc).toArray 66)).alloc (Obj.cells woZ.toArray 33));have HX:=N71;have HI:=hid (show a_p W (w.heap.size+1) (inL op ra rb rc) by rw [hW];exact a_s _ (a_e _ _ (by simp)));have HZ:=N84;have HB:=N3;have HSZ:=N124;have HRA:=N28;have ⟨HW,HY,HTL,HD,HN⟩:=hh5 hW hY htl hD hn;rw [htn,htm] at HT1;have i1:(0:Int)≤j:=by omega
 have i2:(j:Int) < L.th.n:=by omega
 clear htl hY hD htt T hr htn htm hQ1 R hW htw hQ hn;unfold woV
 go_enter Tryz.func57,Tryz.ntmps57
 go_upto_region 1 with fail
 rw [←HW.out];obtain ⟨k5,-⟩:=HX.out 5 _ rfl;rw [HTL.out] at k5
 go_upto_region 2 with (first | (refine wpList_load_mid rfl 46 _ rfl tb (tq+j*13) rfl (thC t ta tn tc qa tm qc) _ HRA.out Tryz.underlying46 rfl (by kernel_rfl) ?_) | (refine a_c rfl 46 _ _ rfl W.heap.size (thC t ta tn tc qa tm qc).toArray rfl rfl _ (a_e thN W.heap.size rfl) rfl (by kernel_rfl) (a_L _ _ _ _ _ _ _) ?_;intro V HV))
 rw [HSZ.out];simp only [Act.put];have HX2:=N31;have HI2:=hid (show a_p V (w.heap.size+1) (inL op ra rb rc) by rw [HV.out];exact a_j (by have:=HSZ.out;omega) (a_s _ HI.out));have HZ2:=N114;have HT2:=N92;have HB2:=N27;have HS2:=N157;clear HV HX HZ HB HSZ HRA HW k5 i1 i2 HI;obtain ⟨x1,-⟩:=HX2.out 1 _ rfl;obtain ⟨x2,-⟩:=HX2.out 2 _ rfl;obtain ⟨x3,-⟩:=HX2.out 3 _ rfl;obtain ⟨x4,-⟩:=HX2.out 4 _ rfl;obtain ⟨y0,-⟩:=HI2.out 0 _ rfl;obtain ⟨y1,-⟩:=HI2.out 1 _ rfl;obtain ⟨y2,-⟩:=HI2.out 2 _ rfl;obtain ⟨y3,-⟩:=HI2.out 3 _ rfl;obtain ⟨za,-⟩:=HT2.out (1+ra) _ (c_J t.r ra hra8 _ _);obtain ⟨zb,-⟩:=HT2.out (1+rb) _ (c_J t.r rb hrb8 _ _);rw [HVA.out.1] at za;rw [HVA.out.2] at zb;have HRV:=N109;have HT3:=N65;obtain ⟨zc,-⟩:=HT2.out (1+rc) _ (c_J t.r rc hrc8 _ _);rw [HVC.out] at zc;obtain ⟨bz,hbz⟩:=mn ((if kd=0 then vc else 0));have HBZ:=hid hbz;clear hbz;have hkw:=HKW.out
 go_upto_if 22 with fail
 clear hkw
 go_cut [9,8] (fun s9 s8 wx=>s9=.int .i64 bz∧s8=.int .i64 kd∧wx=V)
 case first =>
  by_cases hk0:kd=0
  ·have hk1:(kd==0)=true:=by simpa using hk0
   have hb1:vc=bz:=by rw [←HBZ.out,if_pos hk0]
   subst hb1;clear hk0
   go_wp2_with fail
   go_meet
   exact ⟨rfl,by first | rfl | rw [HKW.out],rfl⟩
  ·have hk1:(kd==0)=false:=by simpa using hk0
   have hb1:0=bz:=by rw [←HBZ.out,if_neg hk0]
   subst hb1;clear hk0
   go_wp2_with fail
   go_meet
   exact ⟨rfl,by first | rfl | rw [HKW.out],rfl⟩
 case rest =>
  obtain ⟨rfl,rfl,rfl⟩:=hcut;obtain ⟨V,hV⟩:=nm (wc);subst hV
  have HYL:=hid (show (if b_y X.ws X.ts D X.bs j kd vb=0 then { b_k X j (c_2 t ra (b_L X.ws X.ts vb)) with ws:=b_z X.ws X.ts kd vb va bz } else b_k X j (b_w t (b_y X.ws X.ts D X.bs j kd vb)))=Y by
   have hbz:b_z X.ws X.ts kd vb va bz=b_z X.ws X.ts kd vb va vc:=by
    rw [←HBZ.out]
    by_cases hk0:kd=0
    ·rw [if_pos hk0]
    ·rw [if_neg hk0,b_z,b_z,d_D,d_D,if_neg hk0,if_neg hk0]
   rw [hbz,←HY.out,←HVA.out.2,←HVA.out.1,←HVC.out,←HD.out,←HKO.out];rfl)
  obtain ⟨se,hse⟩:=mn (b_y X.ws X.ts D X.bs j kd vb);rw [hse] at HYL;obtain ⟨sD,hsD⟩:=mn (okZ se D);obtain ⟨lv,hlv⟩:=mn (okZ se (b_L X.ws X.ts vb));obtain ⟨SW,hSW⟩:=mn (okL se (b_z X.ws X.ts kd vb va bz));obtain ⟨ST,hST⟩:=mn (okL se X.ts);obtain ⟨SB,hSB⟩:=mn (okL se X.bs);have HLV:=hid (show se=0→b_L X.ws X.ts vb=lv from fun h=>by subst h;exact hlv);have HOK:=hid (show se=0→D=sD∧b_z X.ws X.ts kd vb va bz=SW∧X.ts=ST∧X.bs=SB from fun h=>by subst h;exact ⟨hsD,hSW,hST,hSB⟩)
  have HMK:=hid (show ∀ u,Below V.heap.size V u→Calls Tryz.prog 103 #[.agg #[.slice L.ws.a L.ws.n L.ws.c,.slice L.ts.a L.ts.n L.ts.c,.int .i64 D,.slice L.bs.a L.bs.n L.bs.c],.int .i64 j,.int .i64 kd,.int .i64 vb,.int .i64 va,.int .i64 bz] u (fun e w'=>∃ a n c a' n' c' q l d,e=.returned (.tuple #[.agg #[.slice a n c,.slice a' n' c',.int .i64 sD,.slice q l d],.int .i64 lv,.int .i64 se])∧SlP (fun b=>Q1 b∧(b < V.heap.size∨u.heap.size≤b)) w' a n SW∧SlP (fun b=>Q1 b∧(b < V.heap.size∨u.heap.size≤b)) w' a' n' ST∧BlP (fun b=>Q1 b∧(b < V.heap.size∨u.heap.size≤b)) w' q l SB∧Below u.heap.size u w') from fun u hu=>by
   have h:=h_q (fun b=>Q1 b∧(b < V.heap.size∨u.heap.size≤b)) L.ws.a L.ts.a L.bs.a L.ws.n L.ws.c L.ts.n L.ts.c L.bs.n L.bs.c X.ws X.ts D X.bs j kd vb va bz u (a_r (fun _ _ _ _ h=>a_t hu h) (a_n (fun b h=>⟨h.1,.inl h.2⟩) (c_j HRV.out.ws))) (a_r (fun _ _ _ _ h=>a_t hu h) (a_n (fun b h=>⟨h.1,.inl h.2⟩) (c_j HRV.out.ts))) (a_G (fun _ _ _ _ h=>a_t hu h) (a_H (fun b h=>⟨h.1,.inl h.2⟩) (f_x HRV.out.bs))) (fun b hb=>⟨HQ2.out.2.2 b (by have:=hu.size;have:=HS2.out;omega),.inr hb⟩) (by rw [←HD.out];exact HH.out) (decide_eq_true HKD.out);rw [hse,hsD,hSW,hST,hSB,hlv] at h;exact h)
  clear hse hsD hSW hST hSB hlv;have hG:=m_Q Q1 w.heap.size V L D j ra rb kd va vb bz lv se sD SW ST SB
  go_upto_region 6 with fail
  refine d_K [some 29,some 30,some 31,some 32,some 33,some 34,some 35,some 36,some 37,some 38,some 39,some 40,some 41,some 42,some 43,some 44,some 28,some 45,some 46,some 47,some 10,none,some 11,some 12] (fun w'=>Below V.heap.size V w') (l_H Q1 w.heap.size V L D j ra rb kd va vb bz lv se sD SW ST SB) 15 20 (fun x y w=>∃ a n c a' n' c' q l d g,x=.tuple #[.agg #[.slice a n c,.slice a' n' c',.int .i64 sD,.slice q l d],.int .i64 lv,.int .i64 se]∧y=.pointer (some ⟨g,0,none⟩)∧SlP (fun b=>Q1 b∧b≠g) w a n SW∧SlP (fun b=>Q1 b∧b≠g) w a' n' ST∧BlP (fun b=>Q1 b∧b≠g) w q l SB) (by kernel_rfl) (by kernel_rfl) (by decide) rfl ((Below.refl _ _).drew) ?_ ?_
  ·show StepsL _ _ _ _ _ _ _
   refine InvD.c (fun _ _ w1 C _ hK=>oR C hK (h:=by simp [execOp,go_sem,C.o 3 (.pointer (some ⟨w.heap.size,0,none⟩))])) ?_;refine InvD.c (fun a1 vals w1 C K hK=>?_) ?_
   ·have e0:=C.i 0;exact a_i rfl (wp_load_mid 30 _ rfl (w.heap.size) (1) ((a_P a1 _).symm.trans e0) [.slice L.ws.a L.ws.n L.ws.c,.slice L.ts.a L.ts.n L.ts.c,.int .i64 D,.slice L.bs.a L.bs.n L.bs.c] _ (f_5 (a_h C.base HX2.out)) Tryz.underlying30 rfl (by kernel_rfl) (d_e hK C rfl rfl))
   refine InvD.c (fun _ _ w1 C _ hK=>oR C hK (h:=by simp [execOp,go_sem,C.o 1 (.int .i64 j)])) ?_;refine InvD.c (fun _ _ w1 C _ hK=>oR C hK (h:=by simp [execOp,go_sem,C.o 8 (.int .i64 kd)])) ?_;refine InvD.c (fun _ _ w1 C _ hK=>oR C hK (h:=by simp [execOp,go_sem,C.o 5 (.pointer (some ⟨w.heap.size+1,0,none⟩))])) ?_;refine InvD.c (fun _ _ w1 C _ hK=>oR C hK (h:=by simp [execOp,go_sem,C.i 4,a_t C.base y2])) ?_;refine InvD.c (fun _ _ w1 C _ hK=>oR C hK (h:=by simp [execOp,go_sem,C.o 7 (.pointer (some ⟨w.heap.size+3,0,none⟩))])) ?_;refine InvD.c (fun _ _ w1 C _ hK=>oR C hK (h:=by simp [execOp,go_sem,C.i 5,C.i 6,i5,i6])) ?_;refine InvD.c (fun _ _ w1 C _ hK=>oR C hK (h:=by simp [execOp,go_sem,C.i 7,a_t C.base zb])) ?_;refine InvD.c (fun _ _ w1 C _ hK=>oR C hK (h:=by simp [execOp,go_sem,C.o 5 (.pointer (some ⟨w.heap.size+1,0,none⟩))])) ?_;refine InvD.c (fun _ _ w1 C _ hK=>oR C hK (h:=by simp [execOp,go_sem,C.i 9,a_t C.base y1])) ?_;refine InvD.c (fun _ _ w1 C _ hK=>oR C hK (h:=by simp [execOp,go_sem,C.o 7 (.pointer (some ⟨w.heap.size+3,0,none⟩))])) ?_;refine InvD.c (fun _ _ w1 C _ hK=>oR C hK (h:=by simp [execOp,go_sem,C.i 10,C.i 11,i3,i4])) ?_;refine InvD.c (fun _ _ w1 C _ hK=>oR C hK (h:=by simp [execOp,go_sem,C.i 12,a_t C.base za])) ?_;refine InvD.c (fun _ _ w1 C _ hK=>oR C hK (h:=by simp [execOp,go_sem,C.o 9 (.int .i64 bz)])) ?_;refine InvD.c (fun a1 vals w1 C K hK=>?_) ?_
   ·have e0:=C.i 1;have e1:=C.i 2;have e2:=C.i 3;have e3:=C.i 8;have e4:=C.i 13;have e5:=C.i 14;rw [a_P] at e0 e1 e2 e3 e4 e5;refine a_i rfl (a_Q _ _ _ rfl 103 rfl [.agg #[.slice L.ws.a L.ws.n L.ws.c,.slice L.ts.a L.ts.n L.ts.c,.int .i64 D,.slice L.bs.a L.bs.n L.bs.c],.int .i64 j,.int .i64 kd,.int .i64 vb,.int .i64 va,.int .i64 bz] (by simp only [List.map_cons,List.map_nil,e0,e1,e2,e3,e4,e5]) (by kernel_rfl) ((HMK.out w1 C.base).mono ?_));exact J25
   refine InvD.c (fun a1 vals w1 C K hK=>?_) ?_
   ·have e0:=C.t 15 44 rfl rfl;obtain ⟨a,n,c,a',n',c',q,l,d,h1,-⟩:=C.says 15 rfl;refine a_i rfl (a_A (v:=vals 15) ?_ (d_e hK C rfl ⟨a,n,c,a',n',c',q,l,d,by show [vals 15,vals 15]=_;rw [List.head_eq_of_cons_eq h1]⟩));simp [execOp,go_sem,e0]
   refine InvD.c (fun a1 vals w1 C K hK=>?_) ?_
   ·have e0:=C.t 16 28 rfl rfl;obtain ⟨a,n,c,a',n',c',q,l,d,h1⟩:=C.says 16 rfl;have h2:=N68;have h3:=N38;rw [h2] at e0;refine a_i rfl (a_A (v:=.agg #[.slice a n c,.slice a' n' c',.int .i64 sD,.slice q l d]) ?_ (d_e hK C rfl (⟨a,n,c,a',n',c',q,l,d,by show [.agg #[.slice a n c,.slice a' n' c',.int .i64 sD,.slice q l d],vals 15]=_;rw [h3]⟩)));simp [execOp,go_sem,e0]
   refine InvD.c (fun a1 vals w1 C K hK=>?_) ?_
   ·have e0:=C.t 16 28 rfl rfl;obtain ⟨a,n,c,a',n',c',q,l,d,h1⟩:=C.says 16 rfl;have h2:=N68;have h3:=N38;rw [h2] at e0;refine a_i rfl (a_A (v:=.int .i64 lv) ?_ (d_e hK C rfl (rfl)));simp [execOp,go_sem,e0]
   refine InvD.c (fun a1 vals w1 C K hK=>?_) ?_
   ·have e0:=C.t 16 28 rfl rfl;obtain ⟨a,n,c,a',n',c',q,l,d,h1⟩:=C.says 16 rfl;have h2:=N68;have h3:=N38;exact J91
   refine InvD.c (fun a1 vals w1 C K hK=>?_) ?_
   ·exact J14
   refine InvD.c (fun a1 vals w1 C K hK=>?_) ?_
   ·have e0:=C.v 20 10 rfl rfl;have e1:=C.v 17 45 rfl rfl;obtain ⟨g,g1,g2,xs,hx,hx2⟩:=C.says 20 rfl;obtain ⟨a,n,c,a',n',c',q,l,d,h1⟩:=C.says 17 rfl;have y0:=N242;have y1:vals 17=.agg #[.slice a n c,.slice a' n' c',.int .i64 sD,.slice q l d]:=List.head_eq_of_cons_eq h1;have y2:=N38;obtain ⟨a2,n2,c2,a'2,n'2,c'2,q2,l2,d2,gg,z1,z2,p0x,p1x,p2x⟩:=C.two rfl rfl rfl rfl;rw [y2] at z1;rw [y0] at z2
    cases z1
    cases z2
    rw [y0] at e0;rw [y1] at e1;refine a_i rfl (a_7 30 _ _ rfl g #[.slice a n c,.slice a' n' c',.int .i64 sD,.slice q l d] e0 e1 xs hx (by rw [hx2];rfl) (by kernel_rfl) (by simp [Value.oneCell']) ?_);intro U HU;have hUx:=N98;have hk:=N113;have q0x:=a_r (w':=U) hk p0x;have q1x:=a_r (w':=U) hk p1x;have q2x:=a_G (w':=U) hk p2x;refine hK _ U ⟨g,a,n,c,a',n',c',q,l,d,by show [vals 20,vals 15]=_;rw [y0,y2],g2,hUx,q0x,q1x,q2x⟩ (by rw [HU.out];exact a_g g2 C.base) (fun jz hj h=>?_) (fun _ _ _=>⟨a,n,c,a',n',c',q,l,d,g,y2,y0,q0x,q1x,q2x⟩) (fun e=>absurd e (by decide)) (fun e=>absurd e (by decide)) (fun e=>absurd e (by decide))
    by_cases j16:jz=15
    ·subst j16;exact ⟨a,n,c,a',n',c',q,l,d,by show [vals 15]=_;rw [y2],a_n (fun _ h=>h.1) q0x,a_n (fun _ h=>h.1) q1x,a_H (fun _ h=>h.1) q2x⟩
    ·by_cases j20:jz=20
     ·subst j20;exact ⟨g,by show [vals 20]=_;rw [y0],g2,_,hUx,rfl⟩
     ·exact o_i _ _ _ _ _ _ _ _ _ _ _ _ _ _ _ _ _ _ _ _ _ _ j16 j20 hj h
   refine InvD.c (fun _ _ w1 C _ hK=>oR C hK (h:=by simp [execOp,go_sem,C.i 18])) ?_;refine InvD.c (fun _ _ w1 C _ hK=>oR C hK (h:=by simp [execOp,go_sem,C.i 19])) ?_;exact StepsL.nil
  ·intro vals w1 hb hv hbo;obtain ⟨g,a,n,c,a',n',c',q,l,d,e1,g2,hm,q5,q6,q7⟩:=hv 21 (by decide);have y20:=N243;have y22:vals 22=.int .i64 lv:=List.head_eq_of_cons_eq (hv 22 (by decide));have y23:vals 23=.int .i64 se:=List.head_eq_of_cons_eq (hv 23 (by decide));simp only [c_N,Act.put,sA,sB,sC,y20,y22,y23];have HXE:=hid (a_h hb HX2.out);have HIE:=hid (a_h hb HI2.out);have HZE:=hid (a_h hb HZ2.out);have HTE:=hid (a_h hb HT2.out);have HBE:=hid (a_a HB2.out hb);have HRE:=hid (show RWo Q1 w1 L X from b_q hb HRV.out);have HHE:=hid (a_v (a_C hb) HT3.out);have HSE:=N229;have HMV:=hid hm;have HQM:=hid (And.intro q5 (And.intro q6 q7));clear hb hbo hv e1 y20 y22 y23 hm q5 q6 q7 g2 HX2 HZ2 HT2 HB2 HRV HT3 HMK x1 x2 x3 x4 y0 y1 y2 y3 za zb zc hG i5 i6 i7 i8
   by_cases se0:se=0
   ·subst se0;obtain ⟨hD2,hW2,hT2,hB2⟩:=HOK.out rfl;subst hD2 hW2 hT2 hB2;have HYF:=hid (show b_k { X with ws:=b_z X.ws X.ts kd vb va bz } j (c_2 t ra lv)=Y by rw [←HYL.out,if_pos rfl,HLV.out rfl];rfl);obtain ⟨X2,hX2⟩:∃ X2:Wo,X2={ X with ws:=b_z X.ws X.ts kd vb va bz }:=⟨_,rfl⟩;rw [←hX2] at HYF;have HX2:=N252;have hp1:0≤t.pc:=HP.out.1;have hp2:t.pc≤1000:=HP.out.2
    go_upto_region 10 with (first | (refine wpList_load_mid rfl 30 _ rfl g 0 rfl [.slice a n c,.slice a' n' c',.int .i64 D,.slice q l d] _ (a_f HMV.out) Tryz.underlying30 rfl (by kernel_rfl) ?_) | (refine a_J rfl 30 _ _ rfl w.heap.size 1 #[.slice a n c,.slice a' n' c',.int .i64 D,.slice q l d] rfl rfl _ HXE.out (by simp) (by kernel_rfl) (by simp [Value.oneCell']) ?_;intro U9 HU9))
    simp only [Act.put];have HX9:=N95;have HT9:=N166;have HZ9:=N212;have HI9:=hid (show a_p U9 (w.heap.size+1) (inL op ra rb rc) by rw [HU9.out];exact a_j (by omega) HIE.out);have HB9:=N209;have hk9:=N193;have HS9:=N247;clear HU9 HMV;obtain ⟨z0,f0⟩:=HT9.out 0 _ rfl;obtain ⟨V2,hV2⟩:=nm ((U9.setCell ⟨(w.heap.size+3),0,none⟩ (.int .i64 (t.pc+1))));have HX9s:=N137;have HZ9s:=N135;have HI9s:=hid (show a_p V2 (w.heap.size+1) _ by rw [hV2];exact (a_l (g':=(w.heap.size+3)) (o:=0) HI9.out (by omega) (.int .i64 (t.pc+1))));have HT9s:=N126;have hkV2:=N145;have HB9s:=N130;have HZV2:=hid (show V2.heap.size=U9.heap.size by rw [hV2];simp);have HV2:=hid hV2;clear hV2
    go_upto_region 11 with fail
    rw [←HV2.out];clear z0 f0 hp1 hp2;have hkW:Kept Q1 w1 V2:=a_3 hk9 hkV2
    have HR9s:=hid (show RWo Q1 V2 (L.setTso ⟨a,n,c⟩ ⟨a',n',c'⟩ ⟨q,l,d⟩) X2 by
     rw [hX2];exact i_l (a_z hkW HRE.out) (a_r hkW (a_n (fun _ h=>h.1) HQM.out.1)) (a_r hkW (a_n (fun _ h=>h.1) HQM.out.2.1)) (a_G hkW (a_H (fun _ h=>h.1) HQM.out.2.2)))
    have HH9s:=hid (a_v hkW HHE.out);have HS9s:=hid (show w.heap.size+4≤V2.heap.size by have:=HZV2.out;have:=HS9.out;omega);clear hX2 hkW HRE HHE HZE HXE HTE HBE HIE HQM HV2 HS9 HX9 HZ9 HT9 HB9 HI9 hk9 hkV2 HZV2;obtain ⟨x1,-⟩:=HI9s.out 1 _ rfl;have h0:=b_R t.r ra lv V2 HA8.out;have HC:=hid h0;clear h0
    go_wp2_with (refine wpList_load_mid rfl 43 _ rfl (w.heap.size+3) 1 rfl (rgC t.r) _ (c_k (t:=b_j t) HT9s.out) Tryz.underlying43 rfl (by kernel_rfl) ?_)
    refine HC.out.mono ?_;clear HC;rintro e7 w7 ⟨rfl,hb7⟩;obtain ⟨s,hs⟩:=mn (b_Y t.r ra lv);rw [hs];have HSS:=hid hs;clear hs;have HX7:=hid (a_h hb7 HX9s.out);have HI7:=hid (a_h hb7 HI9s.out);have HZ7:=hid (a_h hb7 HZ9s.out);have HT7:=hid (a_h hb7 HT9s.out);have HB7:=hid (a_a HB9s.out hb7);have HR7:=hid (show RWo Q1 w7 (L.setTso ⟨a,n,c⟩ ⟨a',n',c'⟩ ⟨q,l,d⟩) X2 from b_q hb7 HR9s.out);have HH7:=hid (a_v (a_C hb7) HH9s.out);have HS7:=hid (show w.heap.size+4≤w7.heap.size by have:=(hb7).size;have:=HS9s.out;omega);clear hb7 HX9s HI9s HZ9s HT9s
    go_upto_region 12 with (refine a_J rfl 43 _ _ rfl (w.heap.size+3) 1 (rgC s).toArray rfl rfl _ HT7.out (by simp) (by kernel_rfl) (b_H _ _ _ _ _ _ _ _) ?_;intro U8 HU8)
    simp only [Act.put];have HT8:=hid (show a_p U8 (w.heap.size+3) (thC (c_2 t ra lv) ta tn tc qa tm qc) by rw [HU8.out,c_2,HSS.out];exact b_c (xs:=(rgC s)) 1 HT7.out (by simp));have HX8:=hid (show a_p U8 w.heap.size _ by rw [HU8.out];exact a_j (by omega) HX7.out);have HZ8:=N211;have HB8:=N223;have hk8:=N192;have HR8:=hid (a_z hk8 HR7.out);have HH8:=hid (a_v hk8 HH7.out);have HS8:=N246;clear hk8 HU8 HX7 HZ7 HT7 HB7 HR7 HH7
    have h0:Calls Tryz.prog 53 #[woV (L.setTso ⟨a,n,c⟩ ⟨a',n',c'⟩ ⟨q,l,d⟩) D,.int .i64 j,thV (c_2 t ra lv) ta tn tc qa tm qc] U8 (b_D Q1 Y U8):=by
     have h:=c_U Q1 (L.setTso ⟨a,n,c⟩ ⟨a',n',c'⟩ ⟨q,l,d⟩) X2 j (c_2 t ra lv) ta tc qa qc U8 HR8.out (by rw [show (c_2 t ra lv).fs.length=tn from HTN.out.1,show (c_2 t ra lv).lf.length=tm from HTN.out.2];exact d_c HH8.out) (fun b hb=>HQ2.out.2.2 b (by have:=HS8.out;omega)) HN.out;rw [show (c_2 t ra lv).fs.length=tn from HTN.out.1,show (c_2 t ra lv).lf.length=tm from HTN.out.2,show (X2).D=D from HX2.out,HYF.out] at h;exact h
    have HYD:=hid (show Y.D=D by rw [←HYF.out];exact HX2.out);have HC:=hid h0;clear h0
    go_wp2_with (first | (refine wpList_load_mid rfl 33 _ rfl (w.heap.size) 0 rfl (woC (L.setTso ⟨a,n,c⟩ ⟨a',n',c'⟩ ⟨q,l,d⟩) D) _ (a_f HX8.out) Tryz.underlying33 rfl (by kernel_rfl) ?_) | (refine wpList_load_mid rfl 46 _ rfl (w.heap.size+3) 0 rfl (thC (c_2 t ra lv) ta tn tc qa tm qc) _ (a_f HT8.out) Tryz.underlying46 rfl (by kernel_rfl) ?_))
    refine HC.out.mono ?_;rintro e9 w9 ⟨L9,rfl,R9,hb9⟩;have HZ9:=hid (a_h hb9 HZ8.out);have HB9:=hid (a_a HB8.out hb9);have HR9:=hid R9;clear hb9 R9 HC;rw [HYD.out]
    go_wp2_with (refine a_c rfl 33 _ _ rfl (w.heap.size+2) (woC L9 D).toArray rfl rfl _ HZ9.out rfl (by kernel_rfl) (b_p _ _) ?_;intro U HU)
    have HZ10:=N103;refine a_X ⟨w.heap.size+2,0,none⟩ rfl rfl rfl (a_E HZ10.out 33 Tryz.underlying33 rfl (by kernel_rfl)) ?_;have hkU:=N8;exact a_Z (L:=L9) (by rw [HYD.out]) (a_D HQ2.out.1 (a_z hkU HR9.out)) (by rw [HU.out];exact a_g (by omega) HB9.out)
   ·have hse:(se != 0)=true:=by simpa using se0
    have HYF:=hid (show b_k X j (b_w t se)=Y by rw [←HYL.out,if_neg se0])
    have h0:Calls Tryz.prog 52 #[woV L D,.int .i64 j,.int .i64 se] w1 (b_D Q1 Y w1):=by
     exact J104
    have HYD:=N136;have HC:=hid h0;clear h0
    go_wp2_with (first | (refine wpList_load_mid rfl 33 _ rfl (w.heap.size) 0 rfl (woC L D) _ (a_f HXE.out) Tryz.underlying33 rfl (by kernel_rfl) ?_))
    refine HC.out.mono ?_;rintro e9 w9 ⟨L9,rfl,R9,hb9⟩;have HZ9:=hid (a_h hb9 HZE.out);have HB9:=hid (a_a HBE.out hb9);exact J16
def j_n (zs:List Int) (n:Nat) (w:World) (e:Ending) (w':World):Prop:=∃ a c,e=.returned (.slice a n c)∧Cap a n c∧Vs repInt (fun b=>w.heap.size≤b) w' a n zs∧Below w.heap.size w w'
theorem k_k {zs:List Int} {i x:Int} {w w':World} {v:Value} {n:Nat} (hn:zs.length=n) (h:w'.ownsRow w.heap.size 3 1 v n (k_v zs i x n)) (hb:Below w.heap.size w w'):j_n (e_B zs i x) n w (.returned v) w':=by
 subst hn;obtain ⟨a,c,rfl,h1,h2,h3,V⟩:=e_G (r:=repInt) (Q:=fun b=>w.heap.size≤b) h (h_e (.int .i64) (e_B zs i x)) (fun b h _=>h);exact ⟨a,c,rfl,⟨h1,h2,h3⟩,V,hb⟩
theorem n_Q (a:Option Addr) (n c:Nat) (zs:List Int) (i x:Int) (w:World) (S:Sl w a n zs) (hn:n≤1000) :
  Calls Tryz.prog 62 #[.slice a n c,.int .i64 i,.int .i64 x] w (j_n (e_B zs i x) n w):=by
 obtain ⟨i0,hi,hz0,hz1,hz2⟩:=N178;have Hn:=hid S.1;have HI:=N47;clear hi hz0 hz1 hz2
 go_enter Tryz.func62,Tryz.ntmps62
 go_wp2
 go_loopw [7,13] (fun v s wr=>∃ k:Nat,k≤n∧s=.int .i64 k∧wr.ownsRow w.heap.size 3 1 v k (k_v zs i x k)∧Below w.heap.size w wr) (fun _ s _=>n - (intOf s).toNat)
 case atStart=>exact ⟨0,by omega,rfl,World.ownsRow_made w #[] 0 (Nat.le_refl _) (by decide) (by simp),(Below.refl _ _).alloc (Nat.le_refl _) _⟩
 case round =>
  obtain ⟨k,hk,rfl,hown,hb⟩:=hrel
  by_cases hlt:k < n
  ·obtain ⟨b,o,rfl,R⟩:=N179;have g:=a_t hb (R k (by rw [Hn.out];exact hlt));have hsz:=hb.size;have ⟨HB,HO⟩:=hh2 hb hown
   by_cases e:(k:Int)=i
   ·have HS:=hid (e_7 zs i x k (by rw [k_i,if_pos e]));have q:=N253;clear e hb hown
    go_wp2_with (at_builtin;refine wpList_append_own _ rfl _ _ 23 rfl w.heap.size 3 i0 (.int .i64 0) 1 8 Tryz.underlying23 HI.out.1 HI.out.2.1 HI.out.2.2.1 HI.out.2.2.2 rfl (by decide) _ _ _ rfl (HO.out.alloc _) ⟨wr.heap.size,0,none⟩ 1 1 [.int .i64 x] rfl rfl ?c1 ?c2 ?c3 ?c4 ?c5 ?_)
    case c1=>exact e_r _ _ _
    case c2=>intro v hv;simp at hv;subst hv;rfl
    case c3=>unfold maxLen;omega
    case c4=>omega
    case c5=>simp;omega
    intro v' w1 hown' hgrow _;have hb':=N116;rw [←HS.out] at hown';have ⟨HO',HB'⟩:=hh2 hown' hb';clear hown' hb' hgrow
    go_wp2
    go_roundw
    case rel=>exact ⟨k+1,by omega,by go_num,HO'.out,HB'.out⟩
    case measure=>simp [intOf];omega
   ·have HS:=hid (e_7 zs i x k (y:=zs.getD k 0) (by rw [k_i,if_neg e]))
    generalize zs.getD k 0=y at g HS
    have q:=N251;clear e hb hown
    go_wp2_with (at_builtin;refine wpList_append_own _ rfl _ _ 23 rfl w.heap.size 3 i0 (.int .i64 0) 1 8 Tryz.underlying23 HI.out.1 HI.out.2.1 HI.out.2.2.1 HI.out.2.2.2 rfl (by decide) _ _ _ rfl (HO.out.alloc _) ⟨wr.heap.size,0,none⟩ 1 1 [.int .i64 y] rfl rfl ?c1 ?c2 ?c3 ?c4 ?c5 ?_)
    case c1=>exact e_r _ _ _
    case c2=>intro v hv;simp at hv;subst hv;rfl
    case c3=>unfold maxLen;omega
    case c4=>omega
    case c5=>simp;omega
    intro v' w1 hown' hgrow _;have hb':=N117;rw [←HS.out] at hown';have ⟨HO',HB'⟩:=hh2 hown' hb';clear hown' hb' hgrow
    go_wp2
    go_roundw
    case rel=>exact ⟨k+1,by omega,by go_num,HO'.out,HB'.out⟩
    case measure=>simp [intOf];omega
  ·obtain rfl:k=n:=by omega
   have ⟨HB,HO⟩:=hh2 hb hown;clear hb hown
   go_wp2
   go_ret
   exact k_k Hn.out HO.out HB.out
theorem k_e {Q:Nat→Prop} {w:World} {a:Option Addr} {n:Nat} {zs:List Int} (h:Vs repInt Q w a n zs):Sl w a n zs:=by
 obtain ⟨h1,h2⟩:=h;refine ⟨h1,h2.imp id ?_⟩;rintro ⟨b,o,e,_,f⟩;refine ⟨b,o,e,fun i hi=>?_⟩;have h5:=f i _ (List.getElem?_eq_getElem hi);rw [show repInt.k=1 from rfl,Nat.mul_one] at h5;rw [n_V h5];simp [hi]
theorem j_6 {α:Type} (l:List α) (k:Nat) (d:α):l.set k (l.getD k d)=l:=by
 apply List.ext_getElem?
 intro i;rw [List.getElem?_set]
 by_cases e:k=i
 ·subst e
  by_cases h:k < l.length
  ·rw [if_pos rfl,if_pos h,List.getD_eq_getElem?_getD,List.getElem?_eq_getElem h];rfl
  ·rw [if_pos rfl,if_neg h,List.getElem?_eq_none (by omega)]
 ·rw [if_neg e]
def t_A (n:Nat) (ts:List Thr):Prop:=∀ t∈ts,(t.lf.length=0∨t.lf.length=n)∧∀ z∈t.lf,0≤z∧z≤8
theorem q_V {n k:Nat} {ts:List Thr} {t:Thr} (h:t_A n ts) (ht:(t.lf.length=0∨t.lf.length=n)∧∀ z∈t.lf,0≤z∧z≤8):t_A n (ts.set k t):=fun u hu=>by
 rcases List.mem_or_eq_of_mem_set hu with h1 | h1
 ·exact h u h1
 ·subst h1;exact ht
theorem s_Y {n k:Nat} {ts:List Thr} (h:t_A n ts):((ts.getD k d_z).lf.length=0∨(ts.getD k d_z).lf.length=n)∧∀ z∈(ts.getD k d_z).lf,0≤z∧z≤8:=by
 by_cases hk:k < ts.length
 ·rw [List.getD_eq_getElem?_getD,List.getElem?_eq_getElem hk];exact h _ (List.getElem_mem hk)
 ·rw [List.getD_eq_getElem?_getD,List.getElem?_eq_none (by omega)];exact ⟨.inl rfl,fun _ h=>by cases h⟩
theorem t_8 (X:Wo) (k:Nat):(flT X k).lf=(thW X k).lf:=by
 unfold flT;split <;> rfl
def n_B (ts:List Thr) (j k:Nat):List Thr:=(ts.take k).map (i_M j)
theorem o_P {ts:List Thr} {j k:Nat} {x:Thr} (hx:ts[k]?=some x):n_B ts j (k+1)=n_B ts j k++[i_M j x]:=by
 obtain ⟨hk,rfl⟩:=List.getElem?_eq_some_iff.1 hx;rw [n_B,List.take_succ_eq_append_getElem hk,List.map_append];rfl
theorem q_X {ts:List Thr} {j n:Nat} (hn:ts.length=n):n_B ts j n=ts.map (i_M j):=by rw [n_B,List.take_of_length_le (by omega)]
def WoL.setBs (L:WoL) (p:Sp):WoL:={ L with bs:=p }
theorem p_w {Q:Nat→Prop} {w:World} {L:WoL} {X:Wo} (R:RWo Q w L X) {p:Sp} {bs:List (List (Int×Int))} (h:BlP Q w p.a p.n bs):RWo Q w (L.setBs p) { X with bs:=bs }:=⟨R.co,R.ws,R.ts,h,R.th,R.ev,R.cco,R.cth,R.cev⟩
abbrev u_V (F:Nat) (Q:Nat→Prop) (w:World) (v:Value) (n:Nat) (ts:List Thr):Prop:=d_q F (fun b=>Q b∧b < w.heap.size∧v.ownBlock≠some b) w v n ts
theorem h_D {F:Nat} {Q Q':Nat→Prop} {w:World} {v:Value} {n:Nat} {ts:List Thr} (hQ:∀ b,Q b→Q' b) (h:d_q F Q w v n ts):d_q F Q' w v n ts:=by
 obtain ⟨cs,h1,h2⟩:=h;exact ⟨cs,h1,c_n hQ h2⟩
def p_4 (X:Wo) (j:Nat):Wo:={ d_x X j with th:=X.th.set j (flT X j) }
def t_I (Q:Nat→Prop) (W:World) (g:Nat) (x:Value) (k:Nat) (ys:List Thr) (u:Thr) (n m:Nat) (wx:World):Prop:=
 ∃ (a p:Option Addr) (c d:Nat),a_p wx g (thC u a n c p m d)∧d_q W.heap.size (fun b=>Q b∧b < wx.heap.size∧x.ownBlock≠some b) wx x k ys∧ThQ (fun b=>Q b∧b < wx.heap.size∧x.ownBlock≠some b) wx a n c p m d u∧Below W.heap.size W wx
def u_A (Q:Nat→Prop) (w:World) (X2:Wo) (D:Int) (wx:World):Prop:=∃ L2:WoL,a_p wx w.heap.size (woC L2 D)∧a_p wx (w.heap.size+1) woZ∧RWo Q wx L2 X2∧Below w.heap.size w wx∧w.heap.size+3≤wx.heap.size
theorem m_O (Q:Nat→Prop) (L:WoL) (X:Wo) (j:Nat) (w:World) (R:RWo Q w L X) (hj:j < L.th.n) (hQ:∀ b,w.heap.size≤b→Q b) (hn:L.th.n≤8) (hbn:L.bs.n=L.th.n) (hb8:(bfW X j).length≤8) (hb0:0 < (bfW X j).length) (hm:d_g X.ws X.ts=true) (hlf:t_A L.th.n X.th) :
  Calls Tryz.prog 24 #[woV L X.D,.int .i64 j] w (b_D Q (d_x X j) w):=by
 obtain ⟨D,hD⟩:=mn (X.D);rw [hD];have HD:=hid hD;obtain ⟨tb,tq,t,ta,tc,qa,qc,htl,htt,-,T,hr⟩:=c_3 R.th hj;have htw:=N54;have HTW:=hid htw;obtain ⟨Q1,hQ1⟩:∃ Q1:Nat→Prop,Q1=fun b=>Q b∧(b < w.heap.size∨w.heap.size+3≤b):=⟨_,rfl⟩
 have HQ2:=N30;have HR1:=N41;obtain ⟨bb,bo,q,c,hba,hbc,-,hpl⟩:=f_p R.bs (i:=j) (by omega);obtain ⟨bl,hbl⟩:=mn ((X.bs.getD j []).length);have hbl1:(bfW X j).length=bl:=hbl;obtain ⟨pb,po,hq,-,hrow⟩:=hpl.2.resolve_left (by omega);have hp0:=hrow 0 hb0;rw [hq,hbl] at hbc;obtain ⟨pa,hpa⟩:=mn ((f_O (bfW X j)).1);obtain ⟨pv,hpv⟩:=mn ((f_O (bfW X j)).2);rw [show ((X.bs.getD j []).getD 0 (0,0)).1=pa from hpa,show ((X.bs.getD j []).getD 0 (0,0)).2=pv from hpv,Nat.zero_mul,Nat.add_zero] at hp0;rw [hbl1] at hb8 hb0;obtain ⟨W,hW⟩:=nm ((w.alloc (Obj.cells (woC L D).toArray 33)).alloc (Obj.cells woZ.toArray 33));have HX:=N53;have HZ:=N64;have HB:=N3;have HSZ:=N43
 have HPR:=hid (show W.rangeAt pb po [.int .i64 pa,.int .i64 pv] from fun x v hx=>by
  match x,hx with
  | 0,hx=>cases hx;exact a_t HB.out hp0.1
  | 1,hx=>cases hx;exact a_t HB.out hp0.2)
 have k5:=a_t HB.out hbc;have HC10:=hid (hr 10 _ rfl);have ⟨HW,HTL,HBA,HN,HM⟩:=hh5 hW htl hba hn hm;have HB8:=hid (And.intro hbn (And.intro hbl1 hb8));have HP:=hid (And.intro hpa hpv);have HLF:=hid hlf;have i1:(0:Int)≤j:=by omega
 have i2:(j:Int) < L.bs.n:=by omega
 have i3:(0:Int) < bl:=by omega
 obtain ⟨k4,-⟩:=HX.out 4 _ rfl;rw [hba] at k4;clear htl hD htt T hr hQ1 R hW htw hQ hn hbn hb8 hb0 hm hlf hba hbc hpl hbl hbl1 hrow hp0 hpa hpv hq;unfold woV
 go_enter Tryz.func24,Tryz.ntmps24
 go_upto_region 1 with fail
 rw [←HW.out]
 go_upto_region 2 with (first | (refine wpList_load_mid rfl 59 _ rfl pb po rfl [.int .i64 pa,.int .i64 pv] _ HPR.out Tryz.underlying59 rfl (by kernel_rfl) ?_) | (refine a_c rfl 59 _ _ rfl W.heap.size #[.int .i64 pa,.int .i64 pv] rfl rfl _ (a_e [.int .i64 0,.int .i64 0] W.heap.size rfl) rfl (by kernel_rfl) (by simp [Value.oneCell']) ?_;intro V HV))
 rw [HSZ.out];simp only [Act.put];have HX2:=N31;have HZ2:=N75;have HP2:=hid (show a_p V (w.heap.size+2) [.int .i64 pa,.int .i64 pv] by rw [HV.out,HSZ.out];exact a_q (a_e [.int .i64 0,.int .i64 0] _ HSZ.out.symm) rfl);have HB2:=N27;have HS2:=N119;have HR2:=N109;clear HV HX HZ HB HSZ HW k5 k4 i2 i3 HPR;have h0:=j_S L.ws.a L.ts.a L.bs.a L.ws.n L.ws.c L.ts.n L.ts.c L.bs.n L.bs.c D X.bs j V Q1 HR2.out.bs (by have:=HB8.out.1;omega) (by have:=HB8.out.1;have:=HN.out;omega) (by have:=HB8.out.2;show (bfW X j).length≤8;omega) (fun b hb=>HQ2.out.2.2 b (by have:=HS2.out;omega));have HC:=hid h0;clear h0
 go_wp2_with (refine wpList_load_mid rfl 30 _ rfl w.heap.size 1 rfl [.slice L.ws.a L.ws.n L.ws.c,.slice L.ts.a L.ts.n L.ts.c,.int .i64 D,.slice L.bs.a L.bs.n L.bs.c] _ (f_5 HX2.out) Tryz.underlying30 rfl (by kernel_rfl) ?_)
 refine HC.out.mono ?_;clear HC;rintro e2 w2 ⟨r,f,rfl,hbs2,hb2⟩;have HX3:=hid (a_h hb2 HX2.out);have HZ3:=hid (a_h hb2 HZ2.out);have HP3:=hid (a_h hb2 HP2.out);have HB3:=hid (a_a HB2.out hb2);have HR3:=hid (p_w (p:=⟨r,L.bs.n,f⟩) (b_q hb2 HR2.out) hbs2);have HS3:=hid (show w.heap.size+3≤w2.heap.size by have:=hb2.size;have:=HS2.out;omega);clear hb2 hbs2 HX2 HZ2 HP2 HB2 HR2 HS2
 go_upto_region 3 with (refine a_J rfl 30 _ _ rfl w.heap.size 1 #[.slice L.ws.a L.ws.n L.ws.c,.slice L.ts.a L.ts.n L.ts.c,.int .i64 D,.slice r L.bs.n f] rfl rfl _ HX3.out (by simp) (by kernel_rfl) (by simp [Value.oneCell']) ?_;intro U3 HU3)
 simp only [Act.put];have HX4:=hid (show a_p U3 w.heap.size (woC (L.setBs ⟨r,L.bs.n,f⟩) D) by rw [HU3.out];exact b_c (xs:=[.slice L.ws.a L.ws.n L.ws.c,.slice L.ts.a L.ts.n L.ts.c,.int .i64 D,.slice r L.bs.n f]) 1 HX3.out (by simp));have HZ4:=hid (show a_p U3 (w.heap.size+1) woZ by rw [HU3.out];exact a_j (by omega) HZ3.out);have HP4:=hid (show a_p U3 (w.heap.size+2) [.int .i64 pa,.int .i64 pv] by rw [HU3.out];exact a_j (by omega) HP3.out);have HB4:=hid (show Below w.heap.size w U3 by rw [HU3.out];exact a_g (Nat.le_refl _) HB3.out);have HR4:=hid (show RWo Q1 U3 (L.setBs ⟨r,L.bs.n,f⟩) { X with bs:=X.bs.set j (e_K (bfW X j)) } from a_z (by rw [HU3.out];exact a_u (fun b hb=>by have:=HQ2.out.2.1 b hb;omega)) HR3.out);have HS4:=hid (show w.heap.size+3≤U3.heap.size by rw [HU3.out,a_O];exact HS3.out);clear HU3 HX3 HZ3 HP3 HB3 HR3 HS3;obtain ⟨p0,-⟩:=HP4.out 0 _ rfl;obtain ⟨p1,-⟩:=HP4.out 1 _ rfl;have h0:=c_G Q1 L.ws.a L.ts.a L.ws.n L.ws.c L.ts.n L.ts.c X.ws X.ts pa pv U3 HR4.out.ws.sl HR4.out.ts (fun b hb=>HQ2.out.2.2 b (by have:=HS4.out;omega)) HM.out;obtain ⟨e,he⟩:=mn (a_I X.ws X.ts pa);rw [he] at h0;have ⟨HE,HC⟩:=hh2 he h0;clear h0 he
 go_wp2_with (refine wpList_load_mid rfl 26 _ rfl w.heap.size 1 rfl [.slice L.ws.a L.ws.n L.ws.c,.slice L.ts.a L.ts.n L.ts.c] _ (mem_range (L:=L.setBs ⟨r,L.bs.n,f⟩) HX4.out) Tryz.underlying26 rfl (by kernel_rfl) ?_)
 refine HC.out.mono ?_;clear HC p0 p1;rintro e4 w4 ⟨a,n,c,a',n',c',rfl,s1,s2,hb4⟩;have HX5:=hid (a_h hb4 HX4.out);have HZ5:=hid (a_h hb4 HZ4.out);have HB5:=hid (a_a HB4.out hb4);have HR5:=hid (b_q hb4 HR4.out);have HS5:=hid (show w.heap.size+3≤w4.heap.size by have:=hb4.size;have:=HS4.out;omega);have HL5:=hid (And.intro (c_j s1) (c_j s2));clear hb4 s1 s2 HX4 HZ4 HP4 HB4 HR4 HS4
 go_upto_if 36 with (refine a_c rfl 26 _ _ rfl w4.heap.size #[.slice a n c,.slice a' n' c'] rfl rfl _ (a_e [.slice none 0 0,.slice none 0 0] w4.heap.size rfl) rfl (by kernel_rfl) (by simp [Value.oneCell']) ?_;intro U HU)
 have hk6:Kept (fun b=>Q1 b∧b < w4.heap.size) w4 U:=by rw [HU.out];exact a_3 (e_h _ _) (a_u (fun b hb=>by have:=hb.2;omega))
 have HM6:=hid (show a_p U w4.heap.size [.slice a n c,.slice a' n' c'] by rw [HU.out];exact a_q (a_e [.slice none 0 0,.slice none 0 0] _ rfl) rfl);have HX6:=hid (show a_p U w.heap.size (woC (L.setBs ⟨r,L.bs.n,f⟩) D) by rw [HU.out];exact a_j (by have:=HS5.out;omega) (a_s _ HX5.out));have HZ6:=hid (show a_p U (w.heap.size+1) woZ by rw [HU.out];exact a_j (by have:=HS5.out;omega) (a_s _ HZ5.out));have HB6:=hid (show Below w.heap.size w U by rw [HU.out];exact a_g (by have:=HS5.out;omega) (HB5.out.alloc HB5.out.size _));have HR6:=hid (show RWo (fun b=>Q1 b∧b < w4.heap.size) U (L.setBs ⟨r,L.bs.n,f⟩) { X with bs:=X.bs.set j (e_K (bfW X j)) } from a_z hk6 (c_h HR5.out));have HL6:=hid (And.intro (a_r hk6 HL5.out.1) (a_r hk6 HL5.out.2));have HS6:=hid (show U.heap.size=w4.heap.size+1 by rw [HU.out,a_O];simp);clear hk6 HU HX5 HZ5 HB5 HR5 HL5
 go_cut [] (fun wx=>u_A Q1 w (p_4 X j) D wx)
 case first =>
  by_cases e0:e=0
  ·subst e0
   go_wp2_with (first | (refine wpList_load_mid rfl 26 _ rfl w4.heap.size 0 rfl [.slice a n c,.slice a' n' c'] _ (a_f HM6.out) Tryz.underlying26 rfl (by kernel_rfl) ?_) | (refine a_J rfl 26 _ _ rfl w.heap.size 1 #[.slice a n c,.slice a' n' c'] rfl rfl _ HX6.out (by simp) (by kernel_rfl) (by simp [Value.oneCell']) ?_;intro V HV))
   go_meet
   have hk:Kept Q1 U V:=by rw [HV.out];exact a_u (fun b hb=>by have:=HQ2.out.2.1 b hb;omega)
   have hX:p_4 X j={ X with bs:=X.bs.set j (e_K (bfW X j)),ws:=c_t X.ws X.ts pa pv,ts:=c_s X.ws X.ts pa }:=by
    unfold p_4 d_x;have h1:flE X j=0:=by rw [flE,HP.out.1];exact HE.out
    have h2:flT X j=thW X j:=by rw [flT,if_pos (.inl h1)]
    rw [if_pos h1,h2,c_t,c_s,if_pos HE.out,if_pos HE.out,HP.out.1,HP.out.2];simp only [thW,j_6]
   refine ⟨((L.setBs ⟨r,L.bs.n,f⟩).setMem ⟨a,n,c⟩ ⟨a',n',c'⟩),?_,?_,?_,?_,?_⟩
   ·rw [HV.out];exact b_c (xs:=[.slice a n c,.slice a' n' c']) 1 HX6.out (by simp)
   ·rw [HV.out];exact a_j (by omega) HZ6.out
   ·rw [hX];exact i_k (a_z hk (a_D (fun b h=>h.1) HR6.out)) (a_r hk (a_n (fun b h=>h.1) HL6.out.1)) (a_r hk (a_n (fun b h=>h.1) HL6.out.2))
   ·rw [HV.out];exact a_g (Nat.le_refl _) HB6.out
   ·rw [HV.out,a_O,HS6.out];have:=HS5.out;omega
  ·have hk0:(e==0)=false:=by simpa using e0
   have h1:flE X j=e:=by rw [flE,HP.out.1];exact HE.out
   have HF1:=hid h1;have c10:U.cell? ⟨tb,tq+j*13+10,none⟩=some (.int .i64 t.st):=a_t HB6.out HC10.out;obtain ⟨k5,-⟩:=HX6.out 5 _ rfl;rw [show ((L.setBs ⟨r,L.bs.n,f⟩).th)=L.th from rfl,HTL.out] at k5;have i2:(j:Int) < L.th.n:=by omega
   clear h1 e0
   by_cases st2:t.st=2
   ·have hs2:(t.st != 2)=false:=by simp [st2]
    have HST:=hid st2;clear st2
    go_wp2_with fail
    go_meet
    have hX:p_4 X j={ X with bs:=X.bs.set j (e_K (bfW X j)) }:=by
     unfold p_4 d_x;have h2:flT X j=thW X j:=by rw [flT,if_pos (.inr (by rw [HTW.out];exact HST.out))]
     rw [h2,if_neg (by rw [HF1.out];simpa using hk0)];simp only [thW,j_6]
    refine ⟨(L.setBs ⟨r,L.bs.n,f⟩),HX6.out,HZ6.out,?_,HB6.out,?_⟩
    ·rw [hX];exact a_D (fun b h=>h.1) HR6.out
    ·rw [HS6.out];have:=HS5.out;omega
   ·have hs2:(t.st != 2)=true:=by simpa using st2
    have HST:=hid st2;have h0:=c_Z Q1 (L.setBs ⟨r,L.bs.n,f⟩) { X with bs:=X.bs.set j (e_K (bfW X j)) } j e U (a_D (fun b h=>h.1) HR6.out) hj (fun b hb=>HQ2.out.2.2 b (by have:=HS6.out;have:=HS5.out;omega)) (by have:=HN.out;show L.th.n≤1000;omega)
    have hX:b_k { X with bs:=X.bs.set j (e_K (bfW X j)) } j (b_w (thW { X with bs:=X.bs.set j (e_K (bfW X j)) } j) e)=p_4 X j:=by
     unfold p_4 d_x;have h2:flT X j=b_w (thW X j) e:=by rw [flT,if_neg (by rw [HTW.out,HF1.out];exact fun h=>h.elim (by simpa using hk0) HST.out),HF1.out]
     rw [h2,if_neg (by rw [HF1.out];simpa using hk0)];rfl
    rw [hX,show ({ X with bs:=X.bs.set j (e_K (bfW X j)) }:Wo).D=D from HD.out] at h0;have HC:=hid h0;clear h0 hX st2
    go_wp2_with (refine wpList_load_mid rfl 33 _ rfl (w.heap.size) 0 rfl (woC (L.setBs ⟨r,L.bs.n,f⟩) D) _ (a_f HX6.out) Tryz.underlying33 rfl (by kernel_rfl) ?_)
    refine HC.out.mono ?_;rintro e9 w9 ⟨L9,rfl,R9,hb9⟩;have HX9:=hid (a_h hb9 HX6.out);have HZ9:=hid (a_h hb9 HZ6.out);have HB9:=hid (a_a HB6.out hb9);have HR9:=hid R9;have HS9:=hid (show w.heap.size+3≤w9.heap.size by have:=hb9.size;have:=HS6.out;have:=HS5.out;omega);clear hb9 R9 HC;rw [show (p_4 X j).D=D from HD.out]
    go_wp2_with (refine a_c rfl 33 _ _ rfl (w.heap.size) (woC L9 D).toArray rfl rfl _ HX9.out rfl (by kernel_rfl) (b_p _ _) ?_;intro V HV)
    go_meet
    have hk:Kept Q1 w9 V:=by rw [HV.out];exact a_u (fun b hb=>by have:=HQ2.out.2.1 b hb;omega)
    refine ⟨L9,?_,?_,a_z hk HR9.out,?_,?_⟩
    ·rw [HV.out];exact a_q HX9.out rfl
    ·rw [HV.out];exact a_j (by omega) HZ9.out
    ·rw [HV.out];exact a_g (Nat.le_refl _) HB9.out
    ·rw [HV.out,a_O];exact HS9.out
 case rest =>
  clear HX6 HZ6 HB6 HR6 HL6 HM6 HS6 HS5 HC10 HTL HBA;obtain ⟨L2,hx2,hz2,r2,hb2,hs2⟩:=hcut;obtain ⟨W,hW⟩:=nm (wc);subst hW;obtain ⟨n2,hn2⟩:=mn (L2.th.n);obtain ⟨a2,ha2⟩:=mn (L2.th.a);obtain ⟨c2,hc2⟩:=mn (L2.th.c);have ⟨HX,HZ,HR,HB,HS⟩:=hh5 hx2 hz2 r2 hb2 hs2;obtain ⟨XT,hXT⟩:=mn ((p_4 X j).th);have hlen:XT.length=n2:=by rw [←hXT,r2.th.1,hn2]
  have hn2L:n2=L.th.n:=by
   rw [←hlen,←hXT]
   show (X.th.set j (flT X j)).length=_
   rw [List.length_set];exact HR1.out.th.1
  have HXL:=hid (show t_A n2 XT by
   rw [hn2L,←hXT];exact q_V HLF.out (by rw [t_8];exact s_Y HLF.out))
  have HVT:=hid (show Vs repTh (fun b=>Q1 b∧b < W.heap.size) W a2 n2 XT by rw [←hXT,←hn2,←ha2];exact c_S r2.th);have ⟨HXT,HLN⟩:=hh2 hXT hlen;have hj2:j < n2:=by omega
  have HN2:=hid (show n2≤8 by have:=HN.out;omega);have HCC:=hid (show n2=L2.th.n from hn2.symm);obtain ⟨j0,ki,kz0,kz1,kz2⟩:=info_parts l_Z;have HJ:=N73;obtain ⟨x5,-⟩:=(a_s (Obj.cells #[] 46) HX.out) 5 _ rfl;rw [ha2,hn2,hc2] at x5;clear hx2 hz2 r2 hb2 hs2 ha2 hc2 hn2 hn2L hXT hlen ki kz0 kz1 kz2
  go_wp2_with fail
  clear x5
  go_loopw [8,55] (fun v i wr=>∃ (k:Nat) (va:Option Addr) (vc:Nat),k≤n2∧i=.int .i64 k∧v=.slice va k vc∧Hid (u_V W.heap.size Q1 wr (.slice va k vc) k (n_B XT j k))∧Below W.heap.size W wr) (fun _ i _=>n2 - (intOf i).toNat)
  case atStart =>
   refine ⟨0,_,_,Nat.zero_le _,rfl,rfl,⟨[],?_,rfl⟩,(Below.refl _ _).alloc (Nat.le_refl _) _⟩;exact World.ownsRow_lit W #[] 0 (Nat.le_refl _) (by decide) rfl (e:=46) (size:=13)
  case round =>
   obtain ⟨k,va,vc,hk,rfl,rfl,ho,hb⟩:=hrel;have HB1:=hid hb
   by_cases hlt:k < n2
   ·obtain ⟨b,o,x,xa,xc,ya,yc,rfl,hxx,hqb,X5,hr⟩:=c_3 HVT.out hlt;have i1:(0:Int)≤k:=by omega
    have i2:(k:Int) < n2:=by omega
    have hkL:Kept (fun b=>Q1 b∧b < W.heap.size) W wr:=c_r hb (fun b hb=>hb.2);have HR5:=hid (show wr.rangeAt b (o+k*13) (thC x xa x.fs.length xc ya x.lf.length yc) from fun j v hj=>hkL b _ v hqb (hr j v hj));have HXQ:=hid (a_v hkL X5);have hsz:=hb.size;have HNX:=hid (o_P (j:=j) hxx);have HLX:=hid (HXL.out x (List.mem_of_getElem? hxx));obtain ⟨xn,hxn⟩:=mn (x.fs.length);obtain ⟨xm,hxm⟩:=mn (x.lf.length);have HXN:=hid (And.intro hxn hxm);rw [hxn,hxm] at HR5 HXQ;obtain ⟨wo,hwo⟩:=nm (wr);subst hwo;have HKN:=hid (show k+1≤8 by have:=HN2.out;omega);clear hxx X5 hr hxn hxm hb hqb hkL
    go_upto_region 12 with (first | (refine wpList_load_mid rfl 46 _ rfl b (o+k*13) rfl (thC x xa xn xc ya xm yc) _ HR5.out Tryz.underlying46 rfl (by kernel_rfl) ?_) | (refine a_c rfl 46 _ _ rfl wo.heap.size (thC x xa xn xc ya xm yc).toArray rfl rfl _ (a_e thN wo.heap.size rfl) rfl (by kernel_rfl) (a_L _ _ _ _ _ _ _) ?_;intro U HU))
    have hkU:Kept (fun b=>Q1 b∧b < wo.heap.size) wo U:=by rw [HU.out];exact a_3 (e_h _ _) (a_u (fun b hb=>by have:=hb.2;omega))
    have Y:=N153;have HOB:=hid (show ∀ g,(Value.slice va k vc).ownBlock=some g→W.heap.size≤g∧g < wo.heap.size from fun g hg=>by obtain ⟨cs,h1,-⟩:=ho.out;exact h1.lt g hg);have HNE:=hid (show (Value.slice va k vc).ownBlock≠some wo.heap.size from fun h=>by have:=(HOB.out _ h).2;omega)
    have HO5:=hid (show d_q W.heap.size (fun b=>Q1 b∧b < wo.heap.size∧(Value.slice va k vc).ownBlock≠some b) U (.slice va k vc) k (n_B XT j k) by
     rw [HU.out];exact f_h (i_6 ((Below.refl _ _).alloc (Nat.le_refl _) _) ho.out) HNE.out (fun b hb=>by have:=hb.2.1;omega))
    have HB5:=hid (show Below W.heap.size W U by rw [HU.out];exact a_g hsz (HB1.out.alloc hsz _));have HZ5:=hid (show U.heap.size=wo.heap.size+1 by rw [HU.out];simp [a_O]);have HXU:=hid (show ThQ (fun b=>Q1 b∧b < W.heap.size) U xa xn xc ya xm yc x from a_v (fun b o v hq hv=>hkU b o v ⟨hq.1,by have:=hq.2;omega⟩ hv) HXQ.out);obtain ⟨y12,-⟩:=Y.out 12 _ rfl;clear HU HR5 HXQ hkU;obtain ⟨u,hu⟩:=mn (i_M j x);have HUL:=hid hu;have HNX2:=hid (show n_B XT j (k+1)=n_B XT j k++[u] by rw [HNX.out,hu]);clear hu
    have HUN:=hid (show u.fs.length=xn∧u.lf.length=xm by
     rw [←HUL.out,i_M]
     split
     ·exact HXN.out
     ·exact ⟨HXN.out.1,by rw [show ∀ l:List Int,({ x with lf:=l }:Thr).lf=l from fun _=>rfl,List.length_set];exact HXN.out.2⟩)
    go_upto_if 62 with fail
    go_cut [] (fun wx=>t_I Q1 W wo.heap.size (.slice va k vc) k (n_B XT j k) u xn xm wx)
    case first =>
     by_cases hm0:0 < xm
     ·have i3:(0:Int) < xm:=by omega
      have i4:(0:Int)≤j:=by omega
      have i5:(j:Int) < xm:=by have h:=HLX.out.1;rw [HXN.out.2] at h;omega
      obtain ⟨lb,lo,z,rfl,hz,hzc⟩:=j_F (d_9 HXU.out.lf) (show j < xm by omega);have hz8:=HLX.out.2 z (List.mem_of_getElem? hz);have hwz:wrap64 (z - 1)=z - 1:=IntWalk.wrap64_in _ (by omega);obtain ⟨ll,hll⟩:=mn (e_B x.lf j (max 0 (z - 1)));have HLL:=hid hll
      have HUX:=hid (show (⟨x.pc,x.r,x.fs,x.st,x.ft,ll⟩:Thr)=u by
       rw [←HUL.out,i_M,if_neg (by rw [HXN.out.2];omega),←hll,h_K,List.getD_eq_getElem?_getD,hz];rfl)
      have HWL:=hid (show ll.length=xm by rw [←hll,e_B,c_B];exact HXN.out.2);have HXM:=hid (show xm≤1000 by have:=HN2.out;have h:=HLX.out.1;rw [HXN.out.2] at h;omega);clear hz hll
      go_upto_region 13 with fail
      go_still_tail 10,(by kernel_rfl)
      change wpList _ _ _ _ _ U.drew;clear y12 hzc
      go_wp2_with fail
      all_goals
       obtain ⟨v0,hv0⟩:=nm (max 0 (z - 1));have hv:e_B x.lf j v0=ll:=by rw [←HLL.out,hv0]
       first
        | (rw [show z - 1=v0 by rw [hv0];omega])
        | (rw [show (Value.int .i64 0)=.int .i64 v0 by rw [hv0,show max 0 (z - 1)=(0:Int) by omega]])
       refine (n_Q (some ⟨lb,lo,none⟩) xm yc x.lf j v0 U.drew (k_e (a_B (u_c _) HXU.out.lf)) HXM.out).mono ?_;rintro e2 w2 ⟨p2,d2,rfl,hcp,s2,hb2⟩;rw [hv] at s2;have HCP:=hid hcp;clear hv hcp;have hB2:Below U.heap.size U w2:=a_a (Below.refl _ _).drew hb2;have HY2:=hid (a_h hB2 Y.out);have HW2:=hid hB2;have HS2:=hid (show Vs repInt (fun b=>(Q1 b∧wo.heap.size < b)∧b < w2.heap.size) w2 p2 xm ll from c_S (b_e (fun b hb=>⟨HQ2.out.2.2 b (by have h1:U.heap.size≤b:=hb;have:=HZ5.out;have:=HS.out;omega),by have h1:U.heap.size≤b:=hb;have:=HZ5.out;omega⟩) s2));have HZ7:=hid (show U.heap.size≤w2.heap.size from hB2.size);clear s2 hb2 hB2 hv0;obtain ⟨u4,t4⟩:=HY2.out 12 _ rfl
       go_wp2_with fail
       go_meet
       clear u4 t4;obtain ⟨V,hV⟩:=nm (w2.setCell ⟨wo.heap.size,12,none⟩ (.slice p2 xm d2));rw [←hV];have HV:=hid (show V=d_u w2 wo.heap.size 12 [.slice p2 xm d2] from hV);clear hV;have hz6:V.heap.size=w2.heap.size:=by rw [HV.out,a_O]
       have hkV:Kept (fun b=>Q1 b∧b < wo.heap.size) U V:=by rw [HV.out];exact a_3 (a_C HW2.out) (a_u (fun b hb=>by have:=hb.2;omega))
       have hBV:Below W.heap.size W V:=by rw [HV.out];exact a_g hsz (a_a HB5.out HW2.out)
       have h1:=hBV.size;have hz7:=HZ7.out;have hz5:=HZ5.out;rw [←HUX.out];refine ⟨xa,p2,xc,d2,?_,?_,⟨HXU.out.fcap,?_,?_,?_⟩,hBV⟩
       ·rw [HV.out];exact b_c (xs:=[.slice p2 xm d2]) 12 HY2.out (by simp)
       ·refine h_D (fun b hb=>⟨hb.1,by have:=hb.2.1;omega,hb.2.2⟩) (show d_q W.heap.size (fun b=>Q1 b∧b < wo.heap.size∧(Value.slice va k vc).ownBlock≠some b) V (.slice va k vc) k (n_B XT j k) from ?_);rw [HV.out];exact f_h (i_6 HW2.out HO5.out) HNE.out (fun b hb=>by have:=hb.2.1;omega)
       ·exact b_e (fun b hb=>⟨hb.1,by have:=hb.2;omega,fun h=>by have:=(HOB.out _ h).1;have:=hb.2;omega⟩) (a_B (fun b o v hq hv=>hkV b o v ⟨hq.1,by have:=hq.2;omega⟩ hv) HXU.out.fs)
       ·exact HCP.out
       ·refine b_e (fun b hb=>⟨hb.1.1,by have:=hb.2;omega,fun h=>by have:=(HOB.out _ h).2;have:=hb.1.2;omega⟩) (a_B (Q:=fun b=>(Q1 b∧wo.heap.size < b)∧b < w2.heap.size) (w:=w2) ?_ HS2.out);rw [HV.out];exact a_u (fun b hb=>by have:=hb.1.2;omega)
     ·obtain rfl:xm=0:=by omega
      have HUX:=hid (show x=u by rw [←HUL.out,i_M,if_pos HXN.out.2]);clear hm0
      go_wp2_with fail
      go_meet
      have hz5:=HZ5.out;rw [←HUX.out];exact ⟨xa,ya,xc,yc,Y.out,h_D (fun b hb=>⟨hb.1,by have:=hb.2.1;omega,hb.2.2⟩) HO5.out,b_t (fun b hb=>⟨hb.1,by have:=hb.2;omega,fun h=>by have:=(HOB.out _ h).1;have:=hb.2;omega⟩) HXU.out,HB5.out⟩
    case rest =>
     obtain ⟨xa9,p9,xc9,d9,hy9,ho9,hf9,hb9⟩:=hcut;obtain ⟨V,hV⟩:=nm (wc);subst hV;have ⟨Y2,HO6,HF,HB6⟩:=hh4 hy9 ho9 hf9 hb9;clear hy9 ho9 hf9 hb9 y12;obtain ⟨cs6,own6,fl6⟩:=HO6.out;have ⟨HOW,HFL⟩:=hh2 own6 fl6;clear own6 fl6
     go_wp2_with (first | (refine wpList_load_mid rfl 46 _ rfl wo.heap.size 0 rfl (thC u xa9 xn xc9 p9 xm d9) _ (a_f Y2.out) Tryz.underlying46 rfl (by kernel_rfl) ?_) | (at_builtin;refine wpList_append_own_at _ rfl (.tmp 75) (.tmp 77) 24 rfl W.heap.size 46 j0 (.agg thN.toArray) 13 136 Tryz.underlying24 HJ.out.1 HJ.out.2.1 HJ.out.2.2.1 HJ.out.2.2.2 rfl (by decide) (.slice va k vc) k cs6 rfl (b_a HOW.out ((Below.refl _ _).alloc (Nat.le_refl _) _)) ⟨V.heap.size,0,none⟩ 1 1 (thC u xa9 xn xc9 p9 xm d9) rfl rfl (e_Q _ _ _) (h_l _ _ _ _ _ _ _) (by have:=HKN.out;unfold maxLen;omega) (by have:=HKN.out;omega) (by have:=HB6.out.size;simp;omega) ?_))
     intro v4 w4 hown hgrow _ hat;obtain ⟨va4,vc4,rfl⟩:=c_g hown;have hbo:∀ g,(Value.slice va k vc).ownBlock=some g→W.heap.size≤g∧g < V.heap.size:=fun g hg=>HOW.out.lt g hg
     have HB7:=hid (show Below W.heap.size W w4 from (HB6.out.alloc (HB6.out.size) _).grown hgrow (by have:=HB6.out.size;simp;omega) (fun g hr=>(hbo g hr).1));have hsz4:V.heap.size≤w4.heap.size:=by have h:=hgrow.size;simp at h;omega
     have HO7:=hid (show u_V W.heap.size Q1 w4 (.slice va4 (k+1) vc4) (k+1) (n_B XT j (k+1)) by
      rw [HNX2.out];have hk:Kept (fun b=>Q1 b∧b < V.heap.size∧(Value.slice va k vc).ownBlock≠some b) V w4:=a_3 (e_h _ _) (c_1 hgrow (fun b hb h=>hb.2.2 h));have hf:=i_G (b_n hk HFL.out) HUN.out (a_v hk HF.out);refine ⟨_,hown,c_n (fun b hb=>⟨hb.1,by have:=hb.2.1;omega,fun h=>?_⟩) hf⟩
      rcases hat with h1 | h1
      ·rw [h1] at h;exact hb.2.2 h
      ·rw [h1] at h;have h3:=Option.some.inj h;have h4:=hb.2.1
       first
        | omega
        | (simp at h3;omega))
     clear hown hgrow hbo hsz4 hat;have hkn:=HKN.out;have hwk:=N174
     go_wp2_with fail
     go_roundw
     case rel=>exact ⟨k+1,va4,vc4,by omega,by go_num,rfl,HO7.out,HB7.out⟩
     case measure=>simp [intOf];omega
   ·obtain rfl:k=n2:=by omega
    obtain ⟨W3,hW3⟩:=nm (wr);subst hW3;obtain ⟨cs,h1,h2⟩:=ho.out;obtain ⟨a9,c9,e9,k1,k2,k3,V9⟩:=e_G (r:=repTh) (Q:=Q1) h1 (c_n (fun b hb=>hb.1) h2) (fun b hb _=>HQ2.out.2.2 b (by have:=HS.out;omega))
    cases e9
    rw [q_X HLN.out] at V9;have HV9:=hid (And.intro (show Cap va k vc from ⟨k1,k2,k3⟩) V9);have HX9:=hid (a_h HB1.out HX.out);have HZ9:=hid (a_h HB1.out HZ.out);have HB9:=hid (a_a HB.out HB1.out);have HR9:=hid (b_q HB1.out HR.out);clear h1 h2 k1 k2 k3 V9 hb ho;obtain ⟨x5,f5⟩:=HX9.out 5 _ rfl
    go_upto_region 17 with fail
    clear x5 f5;obtain ⟨U6,hU6⟩:=nm (W3.setCell ⟨w.heap.size,5,none⟩ (.slice va k vc));rw [←hU6];have HU6:=hid (show U6=d_u W3 w.heap.size 5 [.slice va k vc] from hU6);clear hU6;have HX10:=hid (show a_p U6 w.heap.size (woC (L2.setTh va k vc) D) by rw [HU6.out];exact b_c (xs:=[.slice va k vc]) 5 HX9.out (by simp));have HZ10:=hid (show a_p U6 (w.heap.size+1) woZ by rw [HU6.out];exact a_j (by omega) HZ9.out);have HB10:=hid (show Below w.heap.size w U6 by rw [HU6.out];exact a_g (Nat.le_refl _) HB9.out);have hk10:Kept Q1 W3 U6:=by rw [HU6.out];exact a_u (fun b hb=>by have:=HQ2.out.2.1 b hb;omega)
    have HR10:=hid (show RWo Q1 U6 (L2.setTh va k vc) (d_x X j) from by
     have h:=j_5 (X:=p_4 X j) (a_z hk10 HR9.out) HV9.out.1 (a_B hk10 HV9.out.2);rw [←HXT.out] at h;exact h)
    clear hk10 HU6 HX9 HZ9 HB9 HR9 HV9
    go_wp2_with (first | (refine wpList_load_mid rfl 33 _ rfl (w.heap.size) 0 rfl (woC (L2.setTh va k vc) D) _ (a_f HX10.out) Tryz.underlying33 rfl (by kernel_rfl) ?_) | (refine a_c rfl 33 _ _ rfl (w.heap.size+1) (woC (L2.setTh va k vc) D).toArray rfl rfl _ HZ10.out rfl (by kernel_rfl) (b_p _ _) ?_;intro U HU))
    have HZ11:=hid (show a_p U (w.heap.size+1) (woC (L2.setTh va k vc) D) by rw [HU.out];exact a_q HZ10.out rfl);refine a_X ⟨w.heap.size+1,0,none⟩ rfl rfl rfl (a_E HZ11.out 33 Tryz.underlying33 rfl (by kernel_rfl)) ?_;have hkU:Kept Q1 U6 U:=by rw [HU.out];exact a_u (fun b hb=>by have:=HQ2.out.2.1 b hb;omega)
    exact a_Z (L:=L2.setTh va k vc) (by rw [show (d_x X j).D=D from HD.out]) (a_D HQ2.out.1 (a_z hkU HR10.out)) (by rw [HU.out];exact a_g (by omega) HB10.out)
theorem t_c (Q:Nat→Prop) (t:Thr) (self A B C:Int) (fa la:Option Addr) (fn fc ln lc:Nat) (w:World) (F:ThQ Q w fa fn fc la ln lc t) (hQ:∀ b,w.heap.size≤b→Q b) (hf:c_6 (1,A,B,C)=true) (hr:a_R t=true) (hpc:t.pc≠1000) :
  Calls Tryz.prog 55 #[.agg (thC t fa fn fc la ln lc).toArray,.int .i64 self,.agg #[.int .i64 1,.int .i64 A,.int .i64 B,.int .i64 C]] w (b_8 Q (doT t self (1,A,B,C)) (doE t (1,A,B,C)) w):=by
 obtain ⟨f1,f2,f3,f4,f5⟩:=b_1 hf (show (1:Int)≤1 by decide) (show (1:Int)≤15 by decide);simp only at f1 f2 f3 f4 f5;have hp:=b_x hr;obtain ⟨W,hW⟩:=nm (((w.alloc (Obj.cells (thC t fa fn fc la ln lc).toArray 46)).alloc (Obj.cells #[.int .i64 1,.int .i64 A,.int .i64 B,.int .i64 C] 66)).alloc (Obj.cells thN.toArray 46));have X:=N4;have IV:a_p W (w.heap.size+1) [.int .i64 1,.int .i64 A,.int .i64 B,.int .i64 C]:=by rw [hW];exact a_s _ (a_e [.int .i64 1,.int .i64 A,.int .i64 B,.int .i64 C] _ (by simp))
 have R:=N13;have hB:=N2;have hz:=N32;have hF:=N33;have HQ0:=hid hQ;have HFl:=N49;have ⟨HF0,HX,HI,HR,HB,HW,HZ,HFW⟩:=hh8 F X IV R hB hW hz hF;have HP:=N45;have HRT:=hid (And.intro hr hpc);clear hW X IV R hB hF F hz hp hf hr hpc hQ;obtain ⟨z,hz⟩:=mn (doT t self (1,A,B,C));have HZZ:=hid hz;have HZF:=N35;clear hz;have HA1:=hid (f1 (by decide));clear f1 f2 f3 f4 f5
 go_enter Tryz.func55,Tryz.ntmps55
 go_upto_region 1 with fail
 rw [←HW.out];have k0:=(HI.out 0 _ rfl).1;have k1:=(HI.out 1 _ rfl).1;have k2:=(HI.out 2 _ rfl).1;have k3:=(HI.out 3 _ rfl).1;have y0:=(HX.out 0 _ rfl).1
 go_upto_region 6 with (first | (refine wpList_load_mid rfl 43 _ rfl w.heap.size 1 rfl (rgC t.r) _ (c_k HX.out) Tryz.underlying43 rfl (by kernel_rfl) ?_) | (refine a_c rfl 43 _ _ rfl W.heap.size (rgC t.r).toArray rfl rfl _ (a_e rgZ W.heap.size rfl) rfl (by kernel_rfl) (b_H _ _ _ _ _ _ _ _) ?_;intro U HU))
 have hU:=HU.out;have hz:=HZ.out;have X5:=N11;have I5:a_p U (w.heap.size+1) [.int .i64 1,.int .i64 A,.int .i64 B,.int .i64 C]:=by rw [hU];exact a_j (by omega) (a_s _ HI.out)
 have R5:=N16;have A5:=N9;have B5:=N12;obtain ⟨V,hV⟩:=nm (U.setCell ⟨w.heap.size,0,none⟩ (.int .i64 (t.pc+1)));have X6:=N0;have I6:a_p V (w.heap.size+1) [.int .i64 1,.int .i64 A,.int .i64 B,.int .i64 C]:=by rw [hV];exact a_l I5 (by omega) _
 have R6:=N23;have A6:=N20;have B6:=N10;obtain ⟨y0',g0⟩:=X5 0 _ rfl;have p1:=HP.out.1;have p2:=HP.out.2;have ⟨HX6,HI6,HR6,HA6,HB6,HV⟩:=hh6 X6 I6 R6 A6 B6 hV;clear k0 k1 k2 k3 y0 hU hz X5 I5 R5 A5 B5 hV X6 I6 R6 A6 B6 HX HI HR HB
 go_upto_region 7 with fail
 rw [←HV.out];clear y0' g0 p1 p2;have k0:=(HI6.out 0 _ rfl).1;have k1:=(HI6.out 1 _ rfl).1;have k2:=(HI6.out 2 _ rfl).1;have k3:=(HI6.out 3 _ rfl).1
 go_wp2_with (first | (refine wpList_load_mid rfl 43 _ rfl W.heap.size 0 rfl (rgC t.r) _ (a_f HA6.out) Tryz.underlying43 rfl (by kernel_rfl) ?_))
 have h0:=b_R t.r A (B) V HA1.out;refine h0.mono ?_;clear h0;rintro e w7 ⟨rfl,hb7⟩;obtain ⟨s,hs⟩:=mn (b_Y t.r A (B));rw [hs];have hzs:=N40;have HX7:=hid (a_h hb7 HX6.out);have HR7:=hid (a_h hb7 HR6.out);have HB7:=hid (a_a HB6.out hb7);have HZS:=hid hzs;clear hb7 hs hzs
 go_upto_region 36 with (refine a_J rfl 43 _ _ rfl w.heap.size 1 (rgC s).toArray rfl rfl _ HX7.out (by simp) (by kernel_rfl) (b_H _ _ _ _ _ _ _ _) ?_;intro U8 HU8)
 have HX8:=N7;have HR8:=N25;have HB8:=N24;clear HX7 HR7 HB7 HU8 HZS
 go_wp2_with (first | (refine wpList_load_mid rfl 46 _ rfl w.heap.size 0 rfl (thC z fa fn fc la ln lc) _ (a_f HX8.out) Tryz.underlying46 rfl (by kernel_rfl) ?_) | (refine a_c rfl 46 _ _ rfl (w.heap.size+2) (thC z fa fn fc la ln lc).toArray rfl rfl _ HR8.out rfl (by kernel_rfl) (a_L _ _ _ _ _ _ _) ?_;intro U HU))
 refine a_m ⟨w.heap.size+2,0,none⟩ rfl rfl rfl (a_T HU HR8.out rfl) ?_;refine b_i HZZ.out rfl ?_ (a_x HU (by omega) HB8.out);have h:=N62;exact ⟨h.fcap,by rw [HZF.out.1];exact h.fs,h.lcap,by rw [HZF.out.2];exact h.lf⟩
end Go.Proofs.YtogdpojnbgeknaaGreatDoor
