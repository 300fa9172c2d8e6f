import Derived.Test.YtogdpojnbgeknaaGreatDoorT31
import Derived.Deep.DeepCutAuto
import Derived.Test.YtogdpojnbgeknaaGreatDoorT0
import Derived.Test.YtogdpojnbgeknaaGreatDoorT10
import Derived.Test.YtogdpojnbgeknaaGreatDoorT2
set_option maxRecDepth 100000
set_option maxHeartbeats 16000000
namespace Go.Proofs.YtogdpojnbgeknaaGreatDoor
open Go.ChangeShapes Go.WideShapes Go.ChangeAt Go.RowKit
open Gen
open Lib (hid)
def l_s (Q1:Nat→Prop) (h:Nat) (V:World) (L:WoL) (D:Int) (j ra rb:Nat) (kd va vb bz lv se sD:Int) (SW ST:List Int) (SB:List (List (Int×Int))):b_p:=[isV 0 (.pointer (some ⟨h,1,none⟩)),isV 1 (.agg #[.slice L.ws.a L.ws.n L.ws.c,.slice L.ts.a L.ts.n L.ts.c,.int .i64 D,.slice L.bs.a L.bs.n L.bs.c]),isV 2 (.int .i64 j),isV 3 (.int .i64 kd),isV 4 (.pointer (some ⟨h+1,2,none⟩)),isV 5 (.int .i64 rb),isV 6 (.pointer (some ⟨h+3,1,none⟩)),isV 7 (.pointer (some ⟨h+3,1+rb,none⟩)),isV 8 (.int .i64 vb),isV 9 (.pointer (some ⟨h+1,1,none⟩)),isV 10 (.int .i64 ra),isV 11 (.pointer (some ⟨h+3,1,none⟩)),isV 12 (.pointer (some ⟨h+3,1+ra,none⟩)),isV 13 (.int .i64 va),isV 14 (.int .i64 bz),([15],fun vz w=>∃ a n c a' n' c' q l d,vz=[.tuple #[.agg #[.slice a n c,.slice a' n' c',.int .i64 sD,.slice q l d],.int .i64 lv,.int .i64 se]]∧SlP Q1 w a n SW∧SlP Q1 w a' n' ST∧BlP Q1 w q l SB),([16,15],fun vz _=>∃ a n c a' n' c' q l d,vz=[.tuple #[.agg #[.slice a n c,.slice a' n' c',.int .i64 sD,.slice q l d],.int .i64 lv,.int .i64 se],.tuple #[.agg #[.slice a n c,.slice a' n' c',.int .i64 sD,.slice q l d],.int .i64 lv,.int .i64 se]]),([17,15],fun vz _=>∃ a n c a' n' c' q l d,vz=[.agg #[.slice a n c,.slice a' n' c',.int .i64 sD,.slice q l d],.tuple #[.agg #[.slice a n c,.slice a' n' c',.int .i64 sD,.slice q l d],.int .i64 lv,.int .i64 se]]),isV 18 (.int .i64 lv),isV 19 (.int .i64 se),([20],fun vz w=>∃ g,vz=[.pointer (some ⟨g,0,none⟩)]∧V.heap.size≤g∧∃ xs,a_p w g xs∧xs.length=4),([20,15],fun vz w=>∃ g a n c a' n' c' q l d,vz=[.pointer (some ⟨g,0,none⟩),.tuple #[.agg #[.slice a n c,.slice a' n' c',.int .i64 sD,.slice q l d],.int .i64 lv,.int .i64 se]]∧V.heap.size≤g∧a_p w g [.slice a n c,.slice a' n' c',.int .i64 sD,.slice q l d]∧SlP (fun b=>Q1 b∧b≠g) w a n SW∧SlP (fun b=>Q1 b∧b≠g) w a' n' ST∧BlP (fun b=>Q1 b∧b≠g) w q l SB),isV 22 (.int .i64 lv),isV 23 (.int .i64 se)]
theorem m_C (Q1:Nat→Prop) (h:Nat) (V:World) (L:WoL) (D:Int) (j ra rb:Nat) (kd va vb bz lv se sD:Int) (SW ST:List Int) (SB:List (List (Int×Int))):c_j (l_s Q1  h  V  L  D  j ra rb  kd va vb bz lv se sD  SW ST  SB ):=a_d<|a_d<|a_d<|a_d<|a_d<|a_d<|a_d<|a_d<|a_d<|a_d<|a_d<|a_d<|a_d<|a_d<|a_d<|a_v (fun _ _ _ hb h=>by obtain ⟨a,n,c,a',n',c',q,l,d,h1,h0x,h1x,h2x⟩:=h;exact ⟨a,n,c,a',n',c',q,l,d,h1,a_r (fun _ _ _ _ h=>a_u hb h) h0x,a_r (fun _ _ _ _ h=>a_u hb h) h1x,a_G (fun _ _ _ _ h=>a_u hb h) h2x⟩)<|a_v (fun _ _ _ _ h=>h)<|a_v (fun _ _ _ _ h=>h)<|a_d<|a_d<|a_v (fun _ _ _ hb h=>by obtain ⟨g,h1,h2,xs,h3,h4⟩:=h;exact ⟨g,h1,h2,xs,a_i hb h3,h4⟩)<|a_v (fun _ _ _ hb h=>by obtain ⟨g,a,n,c,a',n',c',q,l,d,h1,h2,h3,h0x,h1x,h2x⟩:=h;exact ⟨g,a,n,c,a',n',c',q,l,d,h1,h2,a_i hb h3,a_r (fun _ _ _ _ h=>a_u hb h) h0x,a_r (fun _ _ _ _ h=>a_u hb h) h1x,a_G (fun _ _ _ _ h=>a_u hb h) h2x⟩)<|a_d<|a_d<|b_u
theorem n_4 (Q1:Nat→Prop) (h:Nat) (V:World) (L:WoL) (D:Int) (j ra rb:Nat) (kd va vb bz lv se sD:Int) (SW ST:List Int) (SB:List (List (Int×Int))):∀ jz args wz wz',jz≠15→jz≠20→jz≠21→b_x (l_s Q1  h  V  L  D  j ra rb  kd va vb bz lv se sD  SW ST  SB ) jz args wz→b_x (l_s Q1  h  V  L  D  j ra rb  kd va vb bz lv se sD  SW ST  SB ) jz args wz':=by
 intro jz args wz wz' n0 n1 n2 h
 match jz with
 | 0=>exact h
 | 1=>exact h
 | 2=>exact h
 | 3=>exact h
 | 4=>exact h
 | 5=>exact h
 | 6=>exact h
 | 7=>exact h
 | 8=>exact h
 | 9=>exact h
 | 10=>exact h
 | 11=>exact h
 | 12=>exact h
 | 13=>exact h
 | 14=>exact h
 | 15=>exact absurd rfl n0
 | 16=>exact h
 | 17=>exact h
 | 18=>exact h
 | 19=>exact h
 | 20=>exact absurd rfl n1
 | 21=>exact absurd rfl n2
 | 22=>exact h
 | 23=>exact h
 | _+24=>exact trivial
theorem k_K (Q:Nat→Prop) (L:WoL) (X:Wo) (j:Nat) (i:Ins) (w:World) (R:RWo Q w L X) (hj:j < L.th.n) (hQ:∀ b,w.heap.size≤b→Q b) (hn:L.th.n≤1000) (hh:j_i X.ws X.ts X.D X.bs j=true) (ha:0≤i.2.1∧i.2.1≤7) (hb:0≤i.2.2.1∧i.2.2.1≤7) (hc:0≤i.2.2.2∧i.2.2.2≤7) (ho:19≤i.1∧i.1≤21) (hpc:0≤(thW X j).pc∧(thW X j).pc≤1000) :
  Calls Tryz.prog 57 #[woV L X.D,.int .i64 j,inV i] w (b_B Q (k_I X j (thW X j) i) w):=by
 obtain ⟨Y,hY⟩:=mn (k_I X j (thW X j) i);rw [hY];obtain ⟨D,hD⟩:=mn (X.D);rw [hD];obtain ⟨tb,tq,t,ta,tc,qa,qc,htl,htt,-,T,hr⟩:=d_b R.th hj;have htw:=N53;rw [htw] at hY;have HTW:=hid htw;rw [htw] at hpc;obtain ⟨op,A,B,cc⟩:=i;unfold k_I at hY;simp only at hY ha hb hc ho;obtain ⟨ra,hra,hra8⟩:=a_5 ha;obtain ⟨rb,hrb,hrb8⟩:=a_5 hb;obtain ⟨rc,hrc,hrc8⟩:=a_5 hc;subst hra hrb hrc;have ⟨HP,HH⟩:=hh2 hpc hh;obtain ⟨va,hva⟩:=mn (t.r ra);obtain ⟨vb,hvb⟩:=mn (t.r rb);obtain ⟨vc,hvc⟩:=mn (t.r rc);have HVC:=hid hvc;obtain ⟨kd,hkd⟩:=mn (op - 19);have hkw:wrap64 (op - 19)=kd:=by rw [←hkd];exact IntWalk.wrap64_in _ (by omega)
 have HKW:=hid hkw;have HKD:=hid (show 0≤kd∧kd≤2 by omega);have HKO:=hid hkd;have HVA:=hid (And.intro hva hvb);have HA8:=hid (show (0:Int)≤ra∧(ra:Int)≤7 by omega);have i3:(0:Int)≤ra:=by omega
 have i4:(ra:Int) < 8:=by omega
 have i5:(0:Int)≤rb:=by omega
 have i6:(rb:Int) < 8:=by omega
 have i7:(0:Int)≤rc:=by omega
 have i8:(rc:Int) < 8:=by omega
 clear hh hpc ha hb hc ho hva hvb hvc hkd hkw;obtain ⟨tn,htn⟩:=mn (t.fs.length);obtain ⟨tm,htm⟩:=mn (t.lf.length);have HTN:=hid (And.intro htn htm);obtain ⟨Q1,hQ1⟩:∃ Q1:Nat→Prop,Q1=fun b=>Q b∧(b < w.heap.size∨w.heap.size+4≤b):=⟨_,rfl⟩
 have HQ1:=hid hQ1;have HQ2:=N56;have HR1:=N41;have HT1:=N36;obtain ⟨W,hW⟩:=nm (((w.alloc (Obj.cells (woC L D).toArray 33)).alloc (Obj.cells (inL op ra rb rc).toArray 66)).alloc (Obj.cells woZ.toArray 33));have HX:=N70;have HI:=hid (show a_p W (w.heap.size+1) (inL op ra rb rc) by rw [hW];exact a_s _ (a_e _ _ (by simp)));have HZ:=N83;have HB:=N3;have HSZ:=N123;have HRA:=N28;have ⟨HW,HY,HTL,HD,HN⟩:=hh5 hW hY htl hD hn;rw [htn,htm] at HT1;have i1:(0:Int)≤j:=by omega
 have i2:(j:Int) < L.th.n:=by omega
 clear htl hY hD htt T hr htn htm hQ1 R hW htw hQ hn;unfold woV
 go_enter Tryz.func57,Tryz.ntmps57
 go_upto_region 1 with fail
 rw [←HW.out];obtain ⟨k5,-⟩:=HX.out 5 _ rfl;rw [HTL.out] at k5
 go_upto_region 2 with (first | (refine wpList_load_mid rfl 46 _ rfl tb (tq+j*13) rfl (thC t ta tn tc qa tm qc) _ HRA.out Tryz.underlying46 rfl (by kernel_rfl) ?_) | (refine a_c rfl 46 _ _ rfl W.heap.size (thC t ta tn tc qa tm qc).toArray rfl rfl _ (a_e thN W.heap.size rfl) rfl (by kernel_rfl) (a_K _ _ _ _ _ _ _) ?_;intro V HV))
 rw [HSZ.out];simp only [Act.put];have HX2:=N31;have HI2:=hid (show a_p V (w.heap.size+1) (inL op ra rb rc) by rw [HV.out];exact a_j (by have:=HSZ.out;omega) (a_s _ HI.out));have HZ2:=N114;have HT2:=N91;have HB2:=N27;have HS2:=N155;clear HV HX HZ HB HSZ HRA HW k5 i1 i2 HI;obtain ⟨x1,-⟩:=HX2.out 1 _ rfl;obtain ⟨x2,-⟩:=HX2.out 2 _ rfl;obtain ⟨x3,-⟩:=HX2.out 3 _ rfl;obtain ⟨x4,-⟩:=HX2.out 4 _ rfl;obtain ⟨y0,-⟩:=HI2.out 0 _ rfl;obtain ⟨y1,-⟩:=HI2.out 1 _ rfl;obtain ⟨y2,-⟩:=HI2.out 2 _ rfl;obtain ⟨y3,-⟩:=HI2.out 3 _ rfl;obtain ⟨za,-⟩:=HT2.out (1+ra) _ (c_H t.r ra hra8 _ _);obtain ⟨zb,-⟩:=HT2.out (1+rb) _ (c_H t.r rb hrb8 _ _);rw [HVA.out.1] at za;rw [HVA.out.2] at zb;have HRV:=N109;have HT3:=N64;obtain ⟨zc,-⟩:=HT2.out (1+rc) _ (c_H t.r rc hrc8 _ _);rw [HVC.out] at zc;obtain ⟨bz,hbz⟩:=mn ((if kd=0 then vc else 0));have HBZ:=hid hbz;clear hbz;have hkw:=HKW.out
 go_upto_if 22 with fail
 clear hkw
 go_cut [9,8] (fun s9 s8 wx=>s9=.int .i64 bz∧s8=.int .i64 kd∧wx=V)
 case first =>
  by_cases hk0:kd=0
  ·have hk1:(kd==0)=true:=by simpa using hk0
   have hb1:vc=bz:=by rw [←HBZ.out,if_pos hk0]
   subst hb1;clear hk0
   go_wp2_with fail
   go_meet
   exact ⟨rfl,by first | rfl | rw [HKW.out],rfl⟩
  ·have hk1:(kd==0)=false:=by simpa using hk0
   have hb1:0=bz:=by rw [←HBZ.out,if_neg hk0]
   subst hb1;clear hk0
   go_wp2_with fail
   go_meet
   exact ⟨rfl,by first | rfl | rw [HKW.out],rfl⟩
 case rest =>
  obtain ⟨rfl,rfl,rfl⟩:=hcut;obtain ⟨V,hV⟩:=nm (wc);subst hV
  have HYL:=hid (show (if b_v X.ws X.ts D X.bs j kd vb=0 then { b_j X j (c_Z t ra (b_K X.ws X.ts vb)) with ws:=b_w X.ws X.ts kd vb va bz } else b_j X j (b_t t (b_v X.ws X.ts D X.bs j kd vb)))=Y by
   have hbz:b_w X.ws X.ts kd vb va bz=b_w X.ws X.ts kd vb va vc:=by
    rw [←HBZ.out]
    by_cases hk0:kd=0
    ·rw [if_pos hk0]
    ·rw [if_neg hk0,b_w,b_w,d_y,d_y,if_neg hk0,if_neg hk0]
   rw [hbz,←HY.out,←HVA.out.2,←HVA.out.1,←HVC.out,←HD.out,←HKO.out];rfl)
  obtain ⟨se,hse⟩:=mn (b_v X.ws X.ts D X.bs j kd vb);rw [hse] at HYL;obtain ⟨sD,hsD⟩:=mn (okZ se D);obtain ⟨lv,hlv⟩:=mn (okZ se (b_K X.ws X.ts vb));obtain ⟨SW,hSW⟩:=mn (okL se (b_w X.ws X.ts kd vb va bz));obtain ⟨ST,hST⟩:=mn (okL se X.ts);obtain ⟨SB,hSB⟩:=mn (okL se X.bs);have HLV:=hid (show se=0→b_K X.ws X.ts vb=lv from fun h=>by subst h;exact hlv);have HOK:=hid (show se=0→D=sD∧b_w X.ws X.ts kd vb va bz=SW∧X.ts=ST∧X.bs=SB from fun h=>by subst h;exact ⟨hsD,hSW,hST,hSB⟩)
  have HMK:=hid (show ∀ u,Below V.heap.size V u→Calls Tryz.prog 103 #[.agg #[.slice L.ws.a L.ws.n L.ws.c,.slice L.ts.a L.ts.n L.ts.c,.int .i64 D,.slice L.bs.a L.bs.n L.bs.c],.int .i64 j,.int .i64 kd,.int .i64 vb,.int .i64 va,.int .i64 bz] u (fun e w'=>∃ a n c a' n' c' q l d,e=.returned (.tuple #[.agg #[.slice a n c,.slice a' n' c',.int .i64 sD,.slice q l d],.int .i64 lv,.int .i64 se])∧SlP (fun b=>Q1 b∧(b < V.heap.size∨u.heap.size≤b)) w' a n SW∧SlP (fun b=>Q1 b∧(b < V.heap.size∨u.heap.size≤b)) w' a' n' ST∧BlP (fun b=>Q1 b∧(b < V.heap.size∨u.heap.size≤b)) w' q l SB∧Below u.heap.size u w') from fun u hu=>by
   have h:=h_d (fun b=>Q1 b∧(b < V.heap.size∨u.heap.size≤b)) L.ws.a L.ts.a L.bs.a L.ws.n L.ws.c L.ts.n L.ts.c L.bs.n L.bs.c X.ws X.ts D X.bs j kd vb va bz u (a_r (fun _ _ _ _ h=>a_u hu h) (a_n (fun b h=>⟨h.1,.inl h.2⟩) (c_g HRV.out.ws))) (a_r (fun _ _ _ _ h=>a_u hu h) (a_n (fun b h=>⟨h.1,.inl h.2⟩) (c_g HRV.out.ts))) (a_G (fun _ _ _ _ h=>a_u hu h) (a_H (fun b h=>⟨h.1,.inl h.2⟩) (f_p HRV.out.bs))) (fun b hb=>⟨HQ2.out.2.2 b (by have:=hu.size;have:=HS2.out;omega),.inr hb⟩) (by rw [←HD.out];exact HH.out) (decide_eq_true HKD.out);rw [hse,hsD,hSW,hST,hSB,hlv] at h;exact h)
  clear hse hsD hSW hST hSB hlv;have hG:=m_C Q1 w.heap.size V L D j ra rb kd va vb bz lv se sD SW ST SB
  go_upto_region 6 with fail
  refine d_k [some 29,some 30,some 31,some 32,some 33,some 34,some 35,some 36,some 37,some 38,some 39,some 40,some 41,some 42,some 43,some 44,some 28,some 45,some 46,some 47,some 10,none,some 11,some 12] (fun w'=>Below V.heap.size V w') (l_s Q1 w.heap.size V L D j ra rb kd va vb bz lv se sD SW ST SB) 15 20 (fun x y w=>∃ a n c a' n' c' q l d g,x=.tuple #[.agg #[.slice a n c,.slice a' n' c',.int .i64 sD,.slice q l d],.int .i64 lv,.int .i64 se]∧y=.pointer (some ⟨g,0,none⟩)∧SlP (fun b=>Q1 b∧b≠g) w a n SW∧SlP (fun b=>Q1 b∧b≠g) w a' n' ST∧BlP (fun b=>Q1 b∧b≠g) w q l SB) (by kernel_rfl) (by kernel_rfl) (by decide) rfl ((Below.refl _ _).drew) ?_ ?_
  ·show StepsL _ _ _ _ _ _ _
   refine InvD.c (fun _ _ w1 C _ hK=>oR C hK (h:=by simp [execOp,go_sem,C.o 3 (.pointer (some ⟨w.heap.size,0,none⟩))])) ?_;refine InvD.c (fun a1 vals w1 C K hK=>?_) ?_
   ·have e0:=C.i 0;exact a_g rfl (wp_load_mid 30 _ rfl (w.heap.size) (1) ((a_M a1 _).symm.trans e0) [.slice L.ws.a L.ws.n L.ws.c,.slice L.ts.a L.ts.n L.ts.c,.int .i64 D,.slice L.bs.a L.bs.n L.bs.c] _ (f_W (a_i C.base HX2.out)) Tryz.underlying30 rfl (by kernel_rfl) (c_Q hK C rfl rfl))
   refine InvD.c (fun _ _ w1 C _ hK=>oR C hK (h:=by simp [execOp,go_sem,C.o 1 (.int .i64 j)])) ?_;refine InvD.c (fun _ _ w1 C _ hK=>oR C hK (h:=by simp [execOp,go_sem,C.o 8 (.int .i64 kd)])) ?_;refine InvD.c (fun _ _ w1 C _ hK=>oR C hK (h:=by simp [execOp,go_sem,C.o 5 (.pointer (some ⟨w.heap.size+1,0,none⟩))])) ?_;refine InvD.c (fun _ _ w1 C _ hK=>oR C hK (h:=by simp [execOp,go_sem,C.i 4,a_u C.base y2])) ?_;refine InvD.c (fun _ _ w1 C _ hK=>oR C hK (h:=by simp [execOp,go_sem,C.o 7 (.pointer (some ⟨w.heap.size+3,0,none⟩))])) ?_;refine InvD.c (fun _ _ w1 C _ hK=>oR C hK (h:=by simp [execOp,go_sem,C.i 5,C.i 6,i5,i6])) ?_;refine InvD.c (fun _ _ w1 C _ hK=>oR C hK (h:=by simp [execOp,go_sem,C.i 7,a_u C.base zb])) ?_;refine InvD.c (fun _ _ w1 C _ hK=>oR C hK (h:=by simp [execOp,go_sem,C.o 5 (.pointer (some ⟨w.heap.size+1,0,none⟩))])) ?_;refine InvD.c (fun _ _ w1 C _ hK=>oR C hK (h:=by simp [execOp,go_sem,C.i 9,a_u C.base y1])) ?_;refine InvD.c (fun _ _ w1 C _ hK=>oR C hK (h:=by simp [execOp,go_sem,C.o 7 (.pointer (some ⟨w.heap.size+3,0,none⟩))])) ?_;refine InvD.c (fun _ _ w1 C _ hK=>oR C hK (h:=by simp [execOp,go_sem,C.i 10,C.i 11,i3,i4])) ?_;refine InvD.c (fun _ _ w1 C _ hK=>oR C hK (h:=by simp [execOp,go_sem,C.i 12,a_u C.base za])) ?_;refine InvD.c (fun _ _ w1 C _ hK=>oR C hK (h:=by simp [execOp,go_sem,C.o 9 (.int .i64 bz)])) ?_;refine InvD.c (fun a1 vals w1 C K hK=>?_) ?_
   ·have e0:=C.i 1;have e1:=C.i 2;have e2:=C.i 3;have e3:=C.i 8;have e4:=C.i 13;have e5:=C.i 14;rw [a_M] at e0 e1 e2 e3 e4 e5;refine a_g rfl (a_O _ _ _ rfl 103 rfl [.agg #[.slice L.ws.a L.ws.n L.ws.c,.slice L.ts.a L.ts.n L.ts.c,.int .i64 D,.slice L.bs.a L.bs.n L.bs.c],.int .i64 j,.int .i64 kd,.int .i64 vb,.int .i64 va,.int .i64 bz] (by simp only [List.map_cons,List.map_nil,e0,e1,e2,e3,e4,e5]) (by kernel_rfl) ((HMK.out w1 C.base).mono ?_));exact J24
   refine InvD.c (fun a1 vals w1 C K hK=>?_) ?_
   ·have e0:=C.t 15 44 rfl rfl;obtain ⟨a,n,c,a',n',c',q,l,d,h1,-⟩:=C.says 15 rfl;refine a_g rfl (a_x (v:=vals 15) ?_ (c_Q hK C rfl ⟨a,n,c,a',n',c',q,l,d,by show [vals 15,vals 15]=_;rw [List.head_eq_of_cons_eq h1]⟩));simp [execOp,go_sem,e0]
   refine InvD.c (fun a1 vals w1 C K hK=>?_) ?_
   ·have e0:=C.t 16 28 rfl rfl;obtain ⟨a,n,c,a',n',c',q,l,d,h1⟩:=C.says 16 rfl;have h2:=N67;have h3:=N38;rw [h2] at e0;refine a_g rfl (a_x (v:=.agg #[.slice a n c,.slice a' n' c',.int .i64 sD,.slice q l d]) ?_ (c_Q hK C rfl (⟨a,n,c,a',n',c',q,l,d,by show [.agg #[.slice a n c,.slice a' n' c',.int .i64 sD,.slice q l d],vals 15]=_;rw [h3]⟩)));simp [execOp,go_sem,e0]
   refine InvD.c (fun a1 vals w1 C K hK=>?_) ?_
   ·have e0:=C.t 16 28 rfl rfl;obtain ⟨a,n,c,a',n',c',q,l,d,h1⟩:=C.says 16 rfl;have h2:=N67;have h3:=N38;rw [h2] at e0;refine a_g rfl (a_x (v:=.int .i64 lv) ?_ (c_Q hK C rfl (rfl)));simp [execOp,go_sem,e0]
   refine InvD.c (fun a1 vals w1 C K hK=>?_) ?_
   ·have e0:=C.t 16 28 rfl rfl;obtain ⟨a,n,c,a',n',c',q,l,d,h1⟩:=C.says 16 rfl;have h2:=N67;have h3:=N38;exact J82
   refine InvD.c (fun a1 vals w1 C K hK=>?_) ?_
   ·exact J14
   refine InvD.c (fun a1 vals w1 C K hK=>?_) ?_
   ·have e0:=C.v 20 10 rfl rfl;have e1:=C.v 17 45 rfl rfl;obtain ⟨g,g1,g2,xs,hx,hx2⟩:=C.says 20 rfl;obtain ⟨a,n,c,a',n',c',q,l,d,h1⟩:=C.says 17 rfl;have y0:=N237;have y1:vals 17=.agg #[.slice a n c,.slice a' n' c',.int .i64 sD,.slice q l d]:=List.head_eq_of_cons_eq h1;have y2:=N38;obtain ⟨a2,n2,c2,a'2,n'2,c'2,q2,l2,d2,gg,z1,z2,p0x,p1x,p2x⟩:=C.two rfl rfl rfl rfl;rw [y2] at z1;rw [y0] at z2
    cases z1
    cases z2
    rw [y0] at e0;rw [y1] at e1;refine a_g rfl (a_0 30 _ _ rfl g #[.slice a n c,.slice a' n' c',.int .i64 sD,.slice q l d] e0 e1 xs hx (by rw [hx2];rfl) (by kernel_rfl) (by simp [Value.oneCell']) ?_);intro U HU;have hUx:=N97;have hk:=N113;have q0x:=a_r (w':=U) hk p0x;have q1x:=a_r (w':=U) hk p1x;have q2x:=a_G (w':=U) hk p2x;refine hK _ U ⟨g,a,n,c,a',n',c',q,l,d,by show [vals 20,vals 15]=_;rw [y0,y2],g2,hUx,q0x,q1x,q2x⟩ (by rw [HU.out];exact a_h g2 C.base) (fun jz hj h=>?_) (fun _ _ _=>⟨a,n,c,a',n',c',q,l,d,g,y2,y0,q0x,q1x,q2x⟩) (fun e=>absurd e (by decide)) (fun e=>absurd e (by decide)) (fun e=>absurd e (by decide))
    by_cases j16:jz=15
    ·subst j16;exact ⟨a,n,c,a',n',c',q,l,d,by show [vals 15]=_;rw [y2],a_n (fun _ h=>h.1) q0x,a_n (fun _ h=>h.1) q1x,a_H (fun _ h=>h.1) q2x⟩
    ·by_cases j20:jz=20
     ·subst j20;exact ⟨g,by show [vals 20]=_;rw [y0],g2,_,hUx,rfl⟩
     ·exact n_4 _ _ _ _ _ _ _ _ _ _ _ _ _ _ _ _ _ _ _ _ _ _ j16 j20 hj h
   refine InvD.c (fun _ _ w1 C _ hK=>oR C hK (h:=by simp [execOp,go_sem,C.i 18])) ?_;refine InvD.c (fun _ _ w1 C _ hK=>oR C hK (h:=by simp [execOp,go_sem,C.i 19])) ?_;exact StepsL.nil
  ·intro vals w1 hb hv hbo;obtain ⟨g,a,n,c,a',n',c',q,l,d,e1,g2,hm,q5,q6,q7⟩:=hv 21 (by decide);have y20:=N238;have y22:vals 22=.int .i64 lv:=List.head_eq_of_cons_eq (hv 22 (by decide));have y23:vals 23=.int .i64 se:=List.head_eq_of_cons_eq (hv 23 (by decide));simp only [c_I,Act.put,sA,sB,sC,y20,y22,y23];have HXE:=hid (a_i hb HX2.out);have HIE:=hid (a_i hb HI2.out);have HZE:=hid (a_i hb HZ2.out);have HTE:=hid (a_i hb HT2.out);have HBE:=hid (a_b HB2.out hb);have HRE:=hid (show RWo Q1 w1 L X from b_G hb HRV.out);have HHE:=hid (a_w (a_C hb) HT3.out);have HSE:=N224;have HMV:=hid hm;have HQM:=hid (And.intro q5 (And.intro q6 q7));clear hb hbo hv e1 y20 y22 y23 hm q5 q6 q7 g2 HX2 HZ2 HT2 HB2 HRV HT3 HMK x1 x2 x3 x4 y0 y1 y2 y3 za zb zc hG i5 i6 i7 i8
   by_cases se0:se=0
   ·subst se0;obtain ⟨hD2,hW2,hT2,hB2⟩:=HOK.out rfl;subst hD2 hW2 hT2 hB2;have HYF:=hid (show b_j { X with ws:=b_w X.ws X.ts kd vb va bz } j (c_Z t ra lv)=Y by rw [←HYL.out,if_pos rfl,HLV.out rfl];rfl);obtain ⟨X2,hX2⟩:∃ X2:Wo,X2={ X with ws:=b_w X.ws X.ts kd vb va bz }:=⟨_,rfl⟩;rw [←hX2] at HYF;have HX2:=N247;have hp1:0≤t.pc:=HP.out.1;have hp2:t.pc≤1000:=HP.out.2
    go_upto_region 10 with (first | (refine wpList_load_mid rfl 30 _ rfl g 0 rfl [.slice a n c,.slice a' n' c',.int .i64 D,.slice q l d] _ (a_f HMV.out) Tryz.underlying30 rfl (by kernel_rfl) ?_) | (refine a_L rfl 30 _ _ rfl w.heap.size 1 #[.slice a n c,.slice a' n' c',.int .i64 D,.slice q l d] rfl rfl _ HXE.out (by simp) (by kernel_rfl) (by simp [Value.oneCell']) ?_;intro U9 HU9))
    simp only [Act.put];have HX9:=N94;have HT9:=N163;have HZ9:=N207;have HI9:=hid (show a_p U9 (w.heap.size+1) (inL op ra rb rc) by rw [HU9.out];exact a_j (by omega) HIE.out);have HB9:=N204;have hk9:=N190;have HS9:=N242;clear HU9 HMV;obtain ⟨z0,f0⟩:=HT9.out 0 _ rfl;obtain ⟨V2,hV2⟩:=nm ((U9.setCell ⟨(w.heap.size+3),0,none⟩ (.int .i64 (t.pc+1))));have HX9s:=N135;have HZ9s:=N133;have HI9s:=hid (show a_p V2 (w.heap.size+1) _ by rw [hV2];exact (a_m (g':=(w.heap.size+3)) (o:=0) HI9.out (by omega) (.int .i64 (t.pc+1))));have HT9s:=N124;have hkV2:=N144;have HB9s:=N128;have HZV2:=hid (show V2.heap.size=U9.heap.size by rw [hV2];simp);have HV2:=hid hV2;clear hV2
    go_upto_region 11 with fail
    rw [←HV2.out];clear z0 f0 hp1 hp2;have hkW:Kept Q1 w1 V2:=a_6 hk9 hkV2
    have HR9s:=hid (show RWo Q1 V2 (L.setTso ⟨a,n,c⟩ ⟨a',n',c'⟩ ⟨q,l,d⟩) X2 by
     rw [hX2];exact h_6 (a_B hkW HRE.out) (a_r hkW (a_n (fun _ h=>h.1) HQM.out.1)) (a_r hkW (a_n (fun _ h=>h.1) HQM.out.2.1)) (a_G hkW (a_H (fun _ h=>h.1) HQM.out.2.2)))
    have HH9s:=hid (a_w hkW HHE.out);have HS9s:=hid (show w.heap.size+4≤V2.heap.size by have:=HZV2.out;have:=HS9.out;omega);clear hX2 hkW HRE HHE HZE HXE HTE HBE HIE HQM HV2 HS9 HX9 HZ9 HT9 HB9 HI9 hk9 hkV2 HZV2;obtain ⟨x1,-⟩:=HI9s.out 1 _ rfl;have h0:=b_Q t.r ra lv V2 HA8.out;have HC:=hid h0;clear h0
    go_wp2_with (refine wpList_load_mid rfl 43 _ rfl (w.heap.size+3) 1 rfl (rgC t.r) _ (c_h (t:=b_h t) HT9s.out) Tryz.underlying43 rfl (by kernel_rfl) ?_)
    refine HC.out.mono ?_;clear HC;rintro e7 w7 ⟨rfl,hb7⟩;obtain ⟨s,hs⟩:=mn (b_V t.r ra lv);rw [hs];have HSS:=hid hs;clear hs;have HX7:=hid (a_i hb7 HX9s.out);have HI7:=hid (a_i hb7 HI9s.out);have HZ7:=hid (a_i hb7 HZ9s.out);have HT7:=hid (a_i hb7 HT9s.out);have HB7:=hid (a_b HB9s.out hb7);have HR7:=hid (show RWo Q1 w7 (L.setTso ⟨a,n,c⟩ ⟨a',n',c'⟩ ⟨q,l,d⟩) X2 from b_G hb7 HR9s.out);have HH7:=hid (a_w (a_C hb7) HH9s.out);have HS7:=hid (show w.heap.size+4≤w7.heap.size by have:=(hb7).size;have:=HS9s.out;omega);clear hb7 HX9s HI9s HZ9s HT9s
    go_upto_region 12 with (refine a_L rfl 43 _ _ rfl (w.heap.size+3) 1 (rgC s).toArray rfl rfl _ HT7.out (by simp) (by kernel_rfl) (b_F _ _ _ _ _ _ _ _) ?_;intro U8 HU8)
    simp only [Act.put];have HT8:=hid (show a_p U8 (w.heap.size+3) (thC (c_Z t ra lv) ta tn tc qa tm qc) by rw [HU8.out,c_Z,HSS.out];exact b_b (xs:=(rgC s)) 1 HT7.out (by simp));have HX8:=hid (show a_p U8 w.heap.size _ by rw [HU8.out];exact a_j (by omega) HX7.out);have HZ8:=N206;have HB8:=N217;have hk8:=N189;have HR8:=hid (a_B hk8 HR7.out);have HH8:=hid (a_w hk8 HH7.out);have HS8:=N241;clear hk8 HU8 HX7 HZ7 HT7 HB7 HR7 HH7
    have h0:Calls Tryz.prog 53 #[woV (L.setTso ⟨a,n,c⟩ ⟨a',n',c'⟩ ⟨q,l,d⟩) D,.int .i64 j,thV (c_Z t ra lv) ta tn tc qa tm qc] U8 (b_B Q1 Y U8):=by
     have h:=c_R Q1 (L.setTso ⟨a,n,c⟩ ⟨a',n',c'⟩ ⟨q,l,d⟩) X2 j (c_Z t ra lv) ta tc qa qc U8 HR8.out (by rw [show (c_Z t ra lv).fs.length=tn from HTN.out.1,show (c_Z t ra lv).lf.length=tm from HTN.out.2];exact c_8 HH8.out) (fun b hb=>HQ2.out.2.2 b (by have:=HS8.out;omega)) HN.out;rw [show (c_Z t ra lv).fs.length=tn from HTN.out.1,show (c_Z t ra lv).lf.length=tm from HTN.out.2,show (X2).D=D from HX2.out,HYF.out] at h;exact h
    have HYD:=hid (show Y.D=D by rw [←HYF.out];exact HX2.out);have HC:=hid h0;clear h0
    go_wp2_with (first | (refine wpList_load_mid rfl 33 _ rfl (w.heap.size) 0 rfl (woC (L.setTso ⟨a,n,c⟩ ⟨a',n',c'⟩ ⟨q,l,d⟩) D) _ (a_f HX8.out) Tryz.underlying33 rfl (by kernel_rfl) ?_) | (refine wpList_load_mid rfl 46 _ rfl (w.heap.size+3) 0 rfl (thC (c_Z t ra lv) ta tn tc qa tm qc) _ (a_f HT8.out) Tryz.underlying46 rfl (by kernel_rfl) ?_))
    refine HC.out.mono ?_;rintro e9 w9 ⟨L9,rfl,R9,hb9⟩;have HZ9:=hid (a_i hb9 HZ8.out);have HB9:=hid (a_b HB8.out hb9);have HR9:=hid R9;clear hb9 R9 HC;rw [HYD.out]
    go_wp2_with (refine a_c rfl 33 _ _ rfl (w.heap.size+2) (woC L9 D).toArray rfl rfl _ HZ9.out rfl (by kernel_rfl) (b_o _ _) ?_;intro U HU)
    have HZ10:=N103;refine a_V ⟨w.heap.size+2,0,none⟩ rfl rfl rfl (a_E HZ10.out 33 Tryz.underlying33 rfl (by kernel_rfl)) ?_;have hkU:=N7;exact a_Y (L:=L9) (by rw [HYD.out]) (a_D HQ2.out.1 (a_B hkU HR9.out)) (by rw [HU.out];exact a_h (by omega) HB9.out)
   ·have hse:(se != 0)=true:=by simpa using se0
    have HYF:=hid (show b_j X j (b_t t se)=Y by rw [←HYL.out,if_neg se0])
    have h0:Calls Tryz.prog 52 #[woV L D,.int .i64 j,.int .i64 se] w1 (b_B Q1 Y w1):=by
     exact J93
    have HYD:=N134;have HC:=hid h0;clear h0
    go_wp2_with (first | (refine wpList_load_mid rfl 33 _ rfl (w.heap.size) 0 rfl (woC L D) _ (a_f HXE.out) Tryz.underlying33 rfl (by kernel_rfl) ?_))
    refine HC.out.mono ?_;rintro e9 w9 ⟨L9,rfl,R9,hb9⟩;have HZ9:=hid (a_i hb9 HZE.out);have HB9:=hid (a_b HBE.out hb9);exact J16
def i_3 (zs:List Int) (n:Nat) (w:World) (e:Ending) (w':World):Prop:=∃ a c,e=.returned (.slice a n c)∧Cap a n c∧Vs repInt (fun b=>w.heap.size≤b) w' a n zs∧Below w.heap.size w w'
theorem j_X {zs:List Int} {i x:Int} {w w':World} {v:Value} {n:Nat} (hn:zs.length=n) (h:w'.ownsRow w.heap.size 3 1 v n (j_7 zs i x n)) (hb:Below w.heap.size w w'):i_3 (e_q zs i x) n w (.returned v) w':=by
 subst hn;obtain ⟨a,c,rfl,h1,h2,h3,V⟩:=e_v (r:=repInt) (Q:=fun b=>w.heap.size≤b) h (g_2 (.int .i64) (e_q zs i x)) (fun b h _=>h);exact ⟨a,c,rfl,⟨h1,h2,h3⟩,V,hb⟩
theorem n_F (a:Option Addr) (n c:Nat) (zs:List Int) (i x:Int) (w:World) (S:Sl w a n zs) (hn:n≤1000) :
  Calls Tryz.prog 62 #[.slice a n c,.int .i64 i,.int .i64 x] w (i_3 (e_q zs i x) n w):=by
 obtain ⟨i0,hi,hz0,hz1,hz2⟩:=N174;have Hn:=hid S.1;have HI:=N59;clear hi hz0 hz1 hz2
 go_enter Tryz.func62,Tryz.ntmps62
 go_wp2
 go_loopw [7,13] (fun v s wr=>∃ k:Nat,k≤n∧s=.int .i64 k∧wr.ownsRow w.heap.size 3 1 v k (j_7 zs i x k)∧Below w.heap.size w wr) (fun _ s _=>n - (intOf s).toNat)
 case atStart=>exact ⟨0,by omega,rfl,World.ownsRow_made w #[] 0 (Nat.le_refl _) (by decide) (by simp),(Below.refl _ _).alloc (Nat.le_refl _) _⟩
 case round =>
  obtain ⟨k,hk,rfl,hown,hb⟩:=hrel
  by_cases hlt:k < n
  ·obtain ⟨b,o,rfl,R⟩:=N175;have g:=a_u hb (R k (by rw [Hn.out];exact hlt));have hsz:=hb.size;have ⟨HB,HO⟩:=hh2 hb hown
   by_cases e:(k:Int)=i
   ·have HS:=hid (e_0 zs i x k (by rw [j_V,if_pos e]));have q:=N248;clear e hb hown
    go_wp2_with (at_builtin;refine wpList_append_own _ rfl _ _ 23 rfl w.heap.size 3 i0 (.int .i64 0) 1 8 Tryz.underlying23 HI.out.1 HI.out.2.1 HI.out.2.2.1 HI.out.2.2.2 rfl (by decide) _ _ _ rfl (HO.out.alloc _) ⟨wr.heap.size,0,none⟩ 1 1 [.int .i64 x] rfl rfl ?c1 ?c2 ?c3 ?c4 ?c5 ?_)
    case c1=>exact e_i _ _ _
    case c2=>intro v hv;simp at hv;subst hv;rfl
    case c3=>unfold maxLen;omega
    case c4=>omega
    case c5=>simp;omega
    intro v' w1 hown' hgrow _;have hb':=N116;rw [←HS.out] at hown';have ⟨HO',HB'⟩:=hh2 hown' hb';clear hown' hb' hgrow
    go_wp2
    go_roundw
    case rel=>exact ⟨k+1,by omega,by go_num,HO'.out,HB'.out⟩
    case measure=>simp [intOf];omega
   ·have HS:=hid (e_0 zs i x k (y:=zs.getD k 0) (by rw [j_V,if_neg e]))
    generalize zs.getD k 0=y at g HS
    have q:=N246;clear e hb hown
    go_wp2_with (at_builtin;refine wpList_append_own _ rfl _ _ 23 rfl w.heap.size 3 i0 (.int .i64 0) 1 8 Tryz.underlying23 HI.out.1 HI.out.2.1 HI.out.2.2.1 HI.out.2.2.2 rfl (by decide) _ _ _ rfl (HO.out.alloc _) ⟨wr.heap.size,0,none⟩ 1 1 [.int .i64 y] rfl rfl ?c1 ?c2 ?c3 ?c4 ?c5 ?_)
    case c1=>exact e_i _ _ _
    case c2=>intro v hv;simp at hv;subst hv;rfl
    case c3=>unfold maxLen;omega
    case c4=>omega
    case c5=>simp;omega
    intro v' w1 hown' hgrow _;have hb':=N117;rw [←HS.out] at hown';have ⟨HO',HB'⟩:=hh2 hown' hb';clear hown' hb' hgrow
    go_wp2
    go_roundw
    case rel=>exact ⟨k+1,by omega,by go_num,HO'.out,HB'.out⟩
    case measure=>simp [intOf];omega
  ·obtain rfl:k=n:=by omega
   have ⟨HB,HO⟩:=hh2 hb hown;clear hb hown
   go_wp2
   go_ret
   exact j_X Hn.out HO.out HB.out
end Go.Proofs.YtogdpojnbgeknaaGreatDoor
