import Derived.Test.YtogdpojnbgeknaaGreatDoorT30
import Derived.Test.YtogdpojnbgeknaaGreatDoorT21
import Derived.Test.YtogdpojnbgeknaaGreatDoorT27
import Derived.Test.YtogdpojnbgeknaaGreatDoorT0
set_option maxRecDepth 100000
set_option maxHeartbeats 16000000
namespace Go.Proofs.YtogdpojnbgeknaaGreatDoor
open Go.ChangeShapes Go.WideShapes Go.ChangeAt Go.RowKit
open Gen
open Lib (hid)
theorem f_W {w:World} {g:Nat} {L:WoL} {D:Int} (X:a_p w g (woC L D)):w.rangeAt g 1 [.slice L.ws.a L.ws.n L.ws.c,.slice L.ts.a L.ts.n L.ts.c,.int .i64 D,.slice L.bs.a L.bs.n L.bs.c]:=fun j v hj=>(X (1+j) v (by match j,hj with | 0,hj=>exact hj | 1,hj=>exact hj | 2,hj=>exact hj | 3,hj=>exact hj)).1
def WoL.setTso (L:WoL) (p q r:Sp):WoL:={ L with ws:=p,ts:=q,bs:=r }
theorem h_6 {Q:Nat→Prop} {w:World} {L:WoL} {X:Wo} (R:RWo Q w L X) {p q r:Sp} {ws ts:List Int} {bs:List (List (Int×Int))} (h1:SlP Q w p.a p.n ws) (h2:SlP Q w q.a q.n ts) (h3:BlP Q w r.a r.n bs):RWo Q w (L.setTso p q r) { X with ws:=ws,ts:=ts,bs:=bs }:=
 ⟨R.co,h1,h2,h3,R.th,R.ev,R.cco,R.cth,R.cev⟩
def u_d (h:Nat) (rb:Nat) (vb at_ cc:Int):b_p:=[isV 0 (.pointer (some ⟨h+1,2,none⟩)),isV 1 (.int .i64 rb),isV 2 (.pointer (some ⟨h+3,1,none⟩)),isV 3 (.pointer (some ⟨h+3,1+rb,none⟩)),isV 4 (.int .i64 vb),isV 5 (.pointer (some ⟨h+1,3,none⟩)),isV 6 (.int .i64 cc),isV 7 (.int .i64 at_),isV 8 (.int .i64 at_)]
def l_r (Q1:Nat→Prop) (h:Nat) (V:World) (L:WoL) (D:Int) (j ra:Nat) (at_ va se sD:Int) (SW ST:List Int) (SB:List (List (Int×Int))):b_p:=[isV 0 (.pointer (some ⟨h,1,none⟩)),isV 1 (.agg #[.slice L.ws.a L.ws.n L.ws.c,.slice L.ts.a L.ts.n L.ts.c,.int .i64 D,.slice L.bs.a L.bs.n L.bs.c]),isV 2 (.int .i64 j),isV 3 (.int .i64 at_),isV 4 (.pointer (some ⟨h+1,1,none⟩)),isV 5 (.int .i64 ra),isV 6 (.pointer (some ⟨h+3,1,none⟩)),isV 7 (.pointer (some ⟨h+3,1+ra,none⟩)),isV 8 (.int .i64 va),([9],fun vz w=>∃ a n c a' n' c' q l d,vz=[.tuple #[.agg #[.slice a n c,.slice a' n' c',.int .i64 sD,.slice q l d],.int .i64 se]]∧SlP Q1 w a n SW∧SlP Q1 w a' n' ST∧BlP Q1 w q l SB),([10,9],fun vz _=>∃ a n c a' n' c' q l d,vz=[.tuple #[.agg #[.slice a n c,.slice a' n' c',.int .i64 sD,.slice q l d],.int .i64 se],.tuple #[.agg #[.slice a n c,.slice a' n' c',.int .i64 sD,.slice q l d],.int .i64 se]]),([11,9],fun vz _=>∃ a n c a' n' c' q l d,vz=[.agg #[.slice a n c,.slice a' n' c',.int .i64 sD,.slice q l d],.tuple #[.agg #[.slice a n c,.slice a' n' c',.int .i64 sD,.slice q l d],.int .i64 se]]),isV 12 (.int .i64 se),([13],fun vz w=>∃ g,vz=[.pointer (some ⟨g,0,none⟩)]∧V.heap.size≤g∧∃ xs,a_p w g xs∧xs.length=4),([13,9],fun vz w=>∃ g a n c a' n' c' q l d,vz=[.pointer (some ⟨g,0,none⟩),.tuple #[.agg #[.slice a n c,.slice a' n' c',.int .i64 sD,.slice q l d],.int .i64 se]]∧V.heap.size≤g∧a_p w g [.slice a n c,.slice a' n' c',.int .i64 sD,.slice q l d]∧SlP (fun b=>Q1 b∧b≠g) w a n SW∧SlP (fun b=>Q1 b∧b≠g) w a' n' ST∧BlP (fun b=>Q1 b∧b≠g) w q l SB),isV 15 (.int .i64 se)]
theorem m_B (Q1:Nat→Prop) (h:Nat) (V:World) (L:WoL) (D:Int) (j ra:Nat) (at_ va se sD:Int) (SW ST:List Int) (SB:List (List (Int×Int))):c_j (l_r Q1  h  V  L  D  j ra  at_ va se sD  SW ST  SB ):=a_d<|a_d<|a_d<|a_d<|a_d<|a_d<|a_d<|a_d<|a_d<|a_v (fun _ _ _ hb h=>by obtain ⟨a,n,c,a',n',c',q,l,d,h1,h0x,h1x,h2x⟩:=h;exact ⟨a,n,c,a',n',c',q,l,d,h1,a_r (fun _ _ _ _ h=>a_u hb h) h0x,a_r (fun _ _ _ _ h=>a_u hb h) h1x,a_G (fun _ _ _ _ h=>a_u hb h) h2x⟩)<|a_v (fun _ _ _ _ h=>h)<|a_v (fun _ _ _ _ h=>h)<|a_d<|a_v (fun _ _ _ hb h=>by obtain ⟨g,h1,h2,xs,h3,h4⟩:=h;exact ⟨g,h1,h2,xs,a_i hb h3,h4⟩)<|a_v (fun _ _ _ hb h=>by obtain ⟨g,a,n,c,a',n',c',q,l,d,h1,h2,h3,h0x,h1x,h2x⟩:=h;exact ⟨g,a,n,c,a',n',c',q,l,d,h1,h2,a_i hb h3,a_r (fun _ _ _ _ h=>a_u hb h) h0x,a_r (fun _ _ _ _ h=>a_u hb h) h1x,a_G (fun _ _ _ _ h=>a_u hb h) h2x⟩)<|a_d<|b_u
theorem n_3 (Q1:Nat→Prop) (h:Nat) (V:World) (L:WoL) (D:Int) (j ra:Nat) (at_ va se sD:Int) (SW ST:List Int) (SB:List (List (Int×Int))):∀ jz args wz wz',jz≠9→jz≠13→jz≠14→b_x (l_r Q1  h  V  L  D  j ra  at_ va se sD  SW ST  SB ) jz args wz→b_x (l_r Q1  h  V  L  D  j ra  at_ va se sD  SW ST  SB ) jz args wz':=by
 intro jz args wz wz' n0 n1 n2 h
 match jz with
 | 0=>exact h
 | 1=>exact h
 | 2=>exact h
 | 3=>exact h
 | 4=>exact h
 | 5=>exact h
 | 6=>exact h
 | 7=>exact h
 | 8=>exact h
 | 9=>exact absurd rfl n0
 | 10=>exact h
 | 11=>exact h
 | 12=>exact h
 | 13=>exact absurd rfl n1
 | 14=>exact absurd rfl n2
 | 15=>exact h
 | _+16=>exact trivial
theorem g_S (Q:Nat→Prop) (L:WoL) (X:Wo) (j:Nat) (i:Ins) (w:World) (R:RWo Q w L X) (hj:j < L.th.n) (hQ:∀ b,w.heap.size≤b→Q b) (hn:L.th.n≤1000) (hh:j_i X.ws X.ts X.D X.bs j=true) (ha:0≤i.2.1∧i.2.1≤7) (hb:0≤i.2.2.1∧i.2.2.1≤7) (ho:i.1=16∨i.1=17) (hpc:0≤(thW X j).pc∧(thW X j).pc≤1000) :
  Calls Tryz.prog 56 #[woV L X.D,.int .i64 j,inV i] w (b_B Q (p_L X j (thW X j) i) w):=by
 obtain ⟨Y,hY⟩:=mn (p_L X j (thW X j) i);rw [hY];obtain ⟨D,hD⟩:=mn (X.D);rw [hD];obtain ⟨tb,tq,t,ta,tc,qa,qc,htl,htt,-,T,hr⟩:=d_b R.th hj;have htw:=N53;rw [htw] at hY;have HTW:=hid htw;rw [htw] at hpc;obtain ⟨op,A,B,cc⟩:=i;unfold p_L at hY;simp only at hY ha hb ho;obtain ⟨ra,hra,hra8⟩:=a_5 ha;obtain ⟨rb,hrb,hrb8⟩:=a_5 hb;subst hra hrb;have ⟨HP,HH⟩:=hh2 hpc hh;obtain ⟨va,hva⟩:=mn (t.r ra);obtain ⟨vb,hvb⟩:=mn (t.r rb);obtain ⟨at_,hat⟩:=mn (wrap64 (vb+cc));have HAT:=hid hat;have HVA:=hid (And.intro hva hvb);have HA8:=hid (show (0:Int)≤ra∧(ra:Int)≤7 by omega);have i3:(0:Int)≤ra:=by omega
 have i4:(ra:Int) < 8:=by omega
 have i5:(0:Int)≤rb:=by omega
 have i6:(rb:Int) < 8:=by omega
 have HO:=hid ho;clear hh hpc ha hb ho hva hvb hat;obtain ⟨tn,htn⟩:=mn (t.fs.length);obtain ⟨tm,htm⟩:=mn (t.lf.length);have HTN:=hid (And.intro htn htm);obtain ⟨Q1,hQ1⟩:∃ Q1:Nat→Prop,Q1=fun b=>Q b∧(b < w.heap.size∨w.heap.size+4≤b):=⟨_,rfl⟩
 have HQ1:=hid hQ1;have HQ2:=N56;have HR1:=N41;have HT1:=N36;obtain ⟨W,hW⟩:=nm (((w.alloc (Obj.cells (woC L D).toArray 33)).alloc (Obj.cells (inL op ra rb cc).toArray 66)).alloc (Obj.cells woZ.toArray 33));have HX:=N70;have HI:=hid (show a_p W (w.heap.size+1) (inL op ra rb cc) by rw [hW];exact a_s _ (a_e _ _ (by simp)));have HZ:=N83;have HB:=N3;have HSZ:=N123;have HRA:=N28;have ⟨HW,HY,HTL,HD,HN⟩:=hh5 hW hY htl hD hn;rw [htn,htm] at HT1;have i1:(0:Int)≤j:=by omega
 have i2:(j:Int) < L.th.n:=by omega
 clear htl hY hD htt T hr htn htm hQ1 R hW htw hQ hn;unfold woV
 go_enter Tryz.func56,Tryz.ntmps56
 go_upto_region 1 with fail
 rw [←HW.out];obtain ⟨k5,-⟩:=HX.out 5 _ rfl;rw [HTL.out] at k5
 go_upto_region 2 with (first | (refine wpList_load_mid rfl 46 _ rfl tb (tq+j*13) rfl (thC t ta tn tc qa tm qc) _ HRA.out Tryz.underlying46 rfl (by kernel_rfl) ?_) | (refine a_c rfl 46 _ _ rfl W.heap.size (thC t ta tn tc qa tm qc).toArray rfl rfl _ (a_e thN W.heap.size rfl) rfl (by kernel_rfl) (a_K _ _ _ _ _ _ _) ?_;intro V HV))
 rw [HSZ.out];simp only [Act.put];have HX2:=N31;have HI2:=hid (show a_p V (w.heap.size+1) (inL op ra rb cc) by rw [HV.out];exact a_j (by have:=HSZ.out;omega) (a_s _ HI.out));have HZ2:=N114;have HT2:=N91;have HB2:=N27;have HS2:=N155;clear HV HX HZ HB HSZ HRA HW k5 i1 i2 HI;obtain ⟨x1,-⟩:=HX2.out 1 _ rfl;obtain ⟨x2,-⟩:=HX2.out 2 _ rfl;obtain ⟨x3,-⟩:=HX2.out 3 _ rfl;obtain ⟨x4,-⟩:=HX2.out 4 _ rfl;obtain ⟨y0,-⟩:=HI2.out 0 _ rfl;obtain ⟨y1,-⟩:=HI2.out 1 _ rfl;obtain ⟨y2,-⟩:=HI2.out 2 _ rfl;obtain ⟨y3,-⟩:=HI2.out 3 _ rfl;obtain ⟨za,-⟩:=HT2.out (1+ra) _ (c_H t.r ra hra8 _ _);obtain ⟨zb,-⟩:=HT2.out (1+rb) _ (c_H t.r rb hrb8 _ _);rw [HVA.out.1] at za;rw [HVA.out.2] at zb;have HRV:=N109;have HT3:=N64;refine d_k [some 18,some 19,some 20,some 21,some 22,some 23,some 24,some 25,some 8] (fun w'=>Below V.heap.size V w') (u_d w.heap.size rb vb at_ cc) 100 100 (fun _ _ _=>True) (by kernel_rfl) (by kernel_rfl) (by decide) rfl ((Below.refl _ _).drew) ?_ ?_
 ·show StepsL _ _ _ _ _ _ _
  refine InvD.c (fun _ _ w1 C _ hK=>oR C hK (h:=by simp [execOp,go_sem,C.o 5 (.pointer (some ⟨w.heap.size+1,0,none⟩))])) ?_;refine InvD.c (fun _ _ w1 C _ hK=>oR C hK (h:=by simp [execOp,go_sem,C.i 0,a_u C.base y2])) ?_;refine InvD.c (fun _ _ w1 C _ hK=>oR C hK (h:=by simp [execOp,go_sem,C.o 7 (.pointer (some ⟨w.heap.size+3,0,none⟩))])) ?_;refine InvD.c (fun _ _ w1 C _ hK=>oR C hK (h:=by simp [execOp,go_sem,C.i 1,C.i 2,i5,i6])) ?_;refine InvD.c (fun _ _ w1 C _ hK=>oR C hK (h:=by simp [execOp,go_sem,C.i 3,a_u C.base zb])) ?_;refine InvD.c (fun _ _ w1 C _ hK=>oR C hK (h:=by simp [execOp,go_sem,C.o 5 (.pointer (some ⟨w.heap.size+1,0,none⟩))])) ?_;refine InvD.c (fun _ _ w1 C _ hK=>oR C hK (h:=by simp [execOp,go_sem,C.i 5,a_u C.base y3])) ?_;refine InvD.c (fun _ _ w1 C _ hK=>oR C hK (h:=by simp [execOp,go_sem,C.i 4,C.i 6,HAT.out,IntWalk.i64_left])) ?_;refine InvD.c (fun _ _ w1 C _ hK=>oR C hK (h:=by simp [execOp,go_sem,C.i 7])) ?_;exact StepsL.nil
 ·intro vals w1 hb hv hbo;have y8:vals 8=.int .i64 at_:=List.head_eq_of_cons_eq (hv 8 (by decide));simp only [c_I,Act.put,sA,sB,sC,y8];have HXA:=hid (a_i hb HX2.out);have HIA:=hid (a_i hb HI2.out);have HZA:=hid (a_i hb HZ2.out);have HTA:=hid (a_i hb HT2.out);have HBA:=hid (a_b HB2.out hb);have HRA:=hid (show RWo Q1 w1 L X from b_G hb HRV.out);have HHA:=hid (a_w (a_C hb) HT3.out);have HSA:=N224;clear hb hbo hv y8 HX2 HI2 HZ2 HT2 HB2 HT3 HRV x1 x2 x3 x4 y0 y1 y2 y3 za zb i5 i6;obtain ⟨q0,-⟩:=HIA.out 0 _ rfl;obtain ⟨q1,-⟩:=HIA.out 1 _ rfl
  by_cases h16:op=16
  ·subst h16
   have HYL:=hid (show (if c_5 X.ws X.ts D X.bs j at_=0 then b_j X j (c_Z t ra (f_f X.ws X.ts D X.bs j at_)) else b_j X j (b_t t (c_5 X.ws X.ts D X.bs j at_)))=Y by
    rw [←HY.out,if_pos rfl,←HAT.out,←HVA.out.2,←HD.out];rfl)
   have h0:=j_w L.ws.a L.ts.a L.bs.a L.ws.n L.ws.c L.ts.n L.ts.c L.bs.n L.bs.c X.ws X.ts D X.bs j at_ w1 HRA.out.ws.sl HRA.out.ts.sl HRA.out.bs.bl (by rw [←HD.out];exact HH.out);obtain ⟨le,hle⟩:=mn (c_5 X.ws X.ts D X.bs j at_);obtain ⟨lv,hlv⟩:=mn (f_f X.ws X.ts D X.bs j at_);rw [hle,hlv] at h0 HYL;have HC:=hid h0;clear h0 hle hlv
   go_wp2_with (first | (refine wpList_load_mid rfl 30 _ rfl w.heap.size 1 rfl [.slice L.ws.a L.ws.n L.ws.c,.slice L.ts.a L.ts.n L.ts.c,.int .i64 D,.slice L.bs.a L.bs.n L.bs.c] _ (f_W HXA.out) Tryz.underlying30 rfl (by kernel_rfl) ?_))
   refine HC.out.mono ?_;clear HC;rintro e2 w2 ⟨rfl,hb2⟩;have HXB:=hid (a_i hb2 HXA.out);have HIB:=hid (a_i hb2 HIA.out);have HZB:=hid (a_i hb2 HZA.out);have HTB:=hid (a_i hb2 HTA.out);have HBB:=hid (a_b HBA.out hb2);have HRB:=hid (show RWo Q1 w2 L X from b_G hb2 HRA.out);have HHB:=hid (a_w (a_C hb2) HHA.out);have HSB:=hid (show w.heap.size+4≤w2.heap.size by have:=(hb2).size;have:=HSA.out;omega);clear hb2 HXA HIA HZA HTA HBA HRA HHA q0 q1;obtain ⟨q0,-⟩:=HIB.out 0 _ rfl;obtain ⟨q1,-⟩:=HIB.out 1 _ rfl
   by_cases le0:le=0
   ·subst le0;have HYF:=hid (show b_j X j (c_Z t ra lv)=Y by rw [←HYL.out,if_pos rfl]);have h0:=b_Q t.r ra lv w2 HA8.out;have HC:=hid h0;clear h0
    go_wp2_with (refine wpList_load_mid rfl 43 _ rfl (w.heap.size+3) 1 rfl (rgC t.r) _ (c_h HTB.out) Tryz.underlying43 rfl (by kernel_rfl) ?_)
    refine HC.out.mono ?_;clear HC;rintro e7 w7 ⟨rfl,hb7⟩;obtain ⟨s,hs⟩:=mn (b_V t.r ra lv);rw [hs];have HSS:=hid hs;clear hs;have HX7:=hid (a_i hb7 HXB.out);have HI7:=hid (a_i hb7 HIB.out);have HZ7:=hid (a_i hb7 HZB.out);have HT7:=hid (a_i hb7 HTB.out);have HB7:=hid (a_b HBB.out hb7);have HR7:=hid (show RWo Q1 w7 L X from b_G hb7 HRB.out);have HH7:=hid (a_w (a_C hb7) HHB.out);have HS7:=hid (show w.heap.size+4≤w7.heap.size by have:=(hb7).size;have:=HSB.out;omega);clear hb7 HXB HIB HZB HTB
    go_upto_region 12 with (refine a_L rfl 43 _ _ rfl (w.heap.size+3) 1 (rgC s).toArray rfl rfl _ HT7.out (by simp) (by kernel_rfl) (b_F _ _ _ _ _ _ _ _) ?_;intro U8 HU8)
    simp only [Act.put];have HT8:=hid (show a_p U8 (w.heap.size+3) (thC ⟨t.pc,s,t.fs,t.st,t.ft,t.lf⟩ ta tn tc qa tm qc) by rw [HU8.out];exact b_b (xs:=(rgC s)) 1 HT7.out (by simp));have HX8:=hid (show a_p U8 w.heap.size (woC L D) by rw [HU8.out];exact a_j (by omega) HX7.out);have HZ8:=N206;have HB8:=N217;have hk8:=N189;have HR8:=hid (show RWo Q1 U8 L X from a_B hk8 HR7.out);have HH8:=hid (a_w hk8 HH7.out);have HS8:=N241;clear hk8 HU8 HX7 HZ7 HT7 HB7 HR7 HH7;have hp1:0≤t.pc:=HP.out.1;have hp2:t.pc≤1000:=HP.out.2;obtain ⟨z0,f0⟩:=HT8.out 0 _ rfl;obtain ⟨V2,hV2⟩:=nm ((U8.setCell ⟨(w.heap.size+3),0,none⟩ (.int .i64 (t.pc+1))));have HX8s:=hid (show a_p V2 (w.heap.size) _ by rw [hV2];exact (a_m (g':=(w.heap.size+3)) (o:=0) HX8.out (by omega) (.int .i64 (t.pc+1))));have HZ8s:=hid (show a_p V2 (w.heap.size+2) _ by rw [hV2];exact (a_m (g':=(w.heap.size+3)) (o:=0) HZ8.out (by omega) (.int .i64 (t.pc+1))));have HT8s:=hid (show a_p V2 ((w.heap.size+3)) (thC (c_Z t ra lv) ta tn tc qa tm qc) by have h:=(a_A HT8.out 0 (by simp) (.int .i64 (t.pc+1)));rw [hV2,c_Z,HSS.out];exact h);have hkV2:Kept Q1 U8 V2:=by rw [hV2];exact (a_T _ _ _ (fun b hb=>by show b≠(w.heap.size+3);have:=HQ2.out.2.1 b hb;omega))
    have HB8s:=hid (show Below w.heap.size w V2 by rw [hV2];exact (HB8.out.setCell (p:=⟨(w.heap.size+3),0,none⟩) (by show _≤(w.heap.size+3);omega) _));have HZV2:=hid (show V2.heap.size=U8.heap.size by rw [hV2];simp);have HV2:=hid hV2;clear hV2
    go_upto_region 13 with fail
    rw [←HV2.out];clear z0 f0 hp1 hp2
    have h0:Calls Tryz.prog 53 #[woV L D,.int .i64 j,thV (c_Z t ra lv) ta tn tc qa tm qc] V2 (b_B Q1 Y V2):=by
     have h:=c_R Q1 L X j (c_Z t ra lv) ta tc qa qc V2 (a_B hkV2 HR8.out) (by rw [show (c_Z t ra lv).fs.length=tn from HTN.out.1,show (c_Z t ra lv).lf.length=tm from HTN.out.2];exact c_8 (a_w hkV2 HH8.out)) (fun b hb=>HQ2.out.2.2 b (by have:=HZV2.out;have:=HS8.out;omega)) HN.out;rw [show (c_Z t ra lv).fs.length=tn from HTN.out.1,show (c_Z t ra lv).lf.length=tm from HTN.out.2,show (X).D=D from HD.out,HYF.out] at h;exact h
    have HYD:=N93;have HC:=hid h0;clear h0
    go_wp2_with (first | (refine wpList_load_mid rfl 33 _ rfl (w.heap.size) 0 rfl (woC L D) _ (a_f HX8s.out) Tryz.underlying33 rfl (by kernel_rfl) ?_) | (refine wpList_load_mid rfl 46 _ rfl (w.heap.size+3) 0 rfl (thC (c_Z t ra lv) ta tn tc qa tm qc) _ (a_f HT8s.out) Tryz.underlying46 rfl (by kernel_rfl) ?_))
    refine HC.out.mono ?_;rintro e9 w9 ⟨L9,rfl,R9,hb9⟩;have HZ9:=hid (a_i hb9 HZ8s.out);have HB9:=hid (a_b HB8s.out hb9);have HR9:=hid R9;clear hb9 R9 HC;rw [HYD.out]
    go_wp2_with (refine a_c rfl 33 _ _ rfl (w.heap.size+2) (woC L9 D).toArray rfl rfl _ HZ9.out rfl (by kernel_rfl) (b_o _ _) ?_;intro U HU)
    have HZ10:=N103;refine a_V ⟨w.heap.size+2,0,none⟩ rfl rfl rfl (a_E HZ10.out 33 Tryz.underlying33 rfl (by kernel_rfl)) ?_;have hkU:=N7;exact a_Y (L:=L9) (by rw [HYD.out]) (a_D HQ2.out.1 (a_B hkU HR9.out)) (by rw [HU.out];exact a_h (by omega) HB9.out)
   ·have hle:(le != 0)=true:=by simpa using le0
    have HYF:=hid (show b_j X j (b_t t le)=Y by rw [←HYL.out,if_neg le0])
    have h0:Calls Tryz.prog 52 #[woV L D,.int .i64 j,.int .i64 le] w2 (b_B Q1 Y w2):=by
     have h:=c_W Q1 L X j le w2 HRB.out hj (fun b hb=>HQ2.out.2.2 b (by have:=HSB.out;omega)) HN.out;rw [HTW.out,HD.out,HYF.out] at h;exact h
    have HYD:=N134;have HC:=hid h0;clear h0
    go_wp2_with (first | (refine wpList_load_mid rfl 33 _ rfl (w.heap.size) 0 rfl (woC L D) _ (a_f HXB.out) Tryz.underlying33 rfl (by kernel_rfl) ?_))
    refine HC.out.mono ?_;rintro e9 w9 ⟨L9,rfl,R9,hb9⟩;have HZ9:=hid (a_i hb9 HZB.out);have HB9:=hid (a_b HBB.out hb9);exact J16
  ·have ho16:(op==16)=false:=by simpa using h16
   have HYL:=hid (show (if b_d X.ws X.ts D X.bs j at_=0 then { b_j X j (b_h t) with ws:=b_N X.ws D at_ va,bs:=b_I D X.bs j at_ va } else b_j X j (b_t t (b_d X.ws X.ts D X.bs j at_)))=Y by
    rw [←HY.out,if_neg h16,←HAT.out,←HVA.out.2,←HVA.out.1,←HD.out];rfl)
   obtain ⟨za,-⟩:=HTA.out (1+ra) _ (c_H t.r ra hra8 _ _);rw [HVA.out.1] at za;obtain ⟨V1,hV1⟩:=nm (w1);subst hV1;obtain ⟨se,hse⟩:=mn (b_d X.ws X.ts D X.bs j at_);rw [hse] at HYL;obtain ⟨sD,hsD⟩:=mn (okZ se D);obtain ⟨SW,hSW⟩:=mn (okL se (b_N X.ws D at_ va));obtain ⟨ST,hST⟩:=mn (okL se X.ts);obtain ⟨SB,hSB⟩:=mn (okL se (b_I D X.bs j at_ va));have HOK:=hid (show se=0→D=sD∧b_N X.ws D at_ va=SW∧X.ts=ST∧b_I D X.bs j at_ va=SB from fun h=>by subst h;exact ⟨hsD,hSW,hST,hSB⟩)
   have HMK:=hid (show ∀ u,Below V1.heap.size V1 u→Calls Tryz.prog 102 #[.agg #[.slice L.ws.a L.ws.n L.ws.c,.slice L.ts.a L.ts.n L.ts.c,.int .i64 D,.slice L.bs.a L.bs.n L.bs.c],.int .i64 j,.int .i64 at_,.int .i64 va] u (fun e w'=>∃ a n c a' n' c' q l d,e=.returned (.tuple #[.agg #[.slice a n c,.slice a' n' c',.int .i64 sD,.slice q l d],.int .i64 se])∧SlP (fun b=>Q1 b∧(b < V1.heap.size∨u.heap.size≤b)) w' a n SW∧SlP (fun b=>Q1 b∧(b < V1.heap.size∨u.heap.size≤b)) w' a' n' ST∧BlP (fun b=>Q1 b∧(b < V1.heap.size∨u.heap.size≤b)) w' q l SB∧Below u.heap.size u w') from fun u hu=>by
    have h:=h_D (fun b=>Q1 b∧(b < V1.heap.size∨u.heap.size≤b)) L.ws.a L.ts.a L.bs.a L.ws.n L.ws.c L.ts.n L.ts.c L.bs.n L.bs.c X.ws X.ts D X.bs j at_ va u (a_r (fun _ _ _ _ h=>a_u hu h) (a_n (fun b h=>⟨h.1,.inl h.2⟩) (c_g HRA.out.ws))) (a_r (fun _ _ _ _ h=>a_u hu h) (a_n (fun b h=>⟨h.1,.inl h.2⟩) (c_g HRA.out.ts))) (a_G (fun _ _ _ _ h=>a_u hu h) (a_H (fun b h=>⟨h.1,.inl h.2⟩) (f_p HRA.out.bs))) (fun b hb=>⟨HQ2.out.2.2 b (by have:=hu.size;have:=HSA.out;omega),.inr hb⟩) (by rw [←HD.out];exact HH.out);rw [hse,hsD,hSW,hST,hSB] at h;exact h)
   clear hse hsD hSW hST hSB;have hG:=m_B Q1 w.heap.size V1 L D j ra at_ va se sD SW ST SB
   go_upto_region 8 with fail
   refine d_k [some 51,some 52,some 53,some 54,some 55,some 56,some 57,some 58,some 59,some 60,some 50,some 61,some 62,some 11,none,some 12] (fun w'=>Below V1.heap.size V1 w') (l_r Q1 w.heap.size V1 L D j ra at_ va se sD SW ST SB) 9 13 (fun x y w=>∃ a n c a' n' c' q l d g,x=.tuple #[.agg #[.slice a n c,.slice a' n' c',.int .i64 sD,.slice q l d],.int .i64 se]∧y=.pointer (some ⟨g,0,none⟩)∧SlP (fun b=>Q1 b∧b≠g) w a n SW∧SlP (fun b=>Q1 b∧b≠g) w a' n' ST∧BlP (fun b=>Q1 b∧b≠g) w q l SB) (by kernel_rfl) (by kernel_rfl) (by decide) rfl ((Below.refl _ _).drew) ?_ ?_
   ·show StepsL _ _ _ _ _ _ _
    refine InvD.c (fun _ _ w1 C _ hK=>oR C hK (h:=by simp [execOp,go_sem,C.o 3 (.pointer (some ⟨w.heap.size,0,none⟩))])) ?_;refine InvD.c (fun a1 vals w1 C K hK=>?_) ?_
    ·have e0:=C.i 0;exact a_g rfl (wp_load_mid 30 _ rfl (w.heap.size) (1) ((a_M a1 _).symm.trans e0) [.slice L.ws.a L.ws.n L.ws.c,.slice L.ts.a L.ts.n L.ts.c,.int .i64 D,.slice L.bs.a L.bs.n L.bs.c] _ (f_W (a_i C.base HXA.out)) Tryz.underlying30 rfl (by kernel_rfl) (c_Q hK C rfl rfl))
    refine InvD.c (fun _ _ w1 C _ hK=>oR C hK (h:=by simp [execOp,go_sem,C.o 1 (.int .i64 j)])) ?_;refine InvD.c (fun _ _ w1 C _ hK=>oR C hK (h:=by simp [execOp,go_sem,C.o 8 (.int .i64 at_)])) ?_;refine InvD.c (fun _ _ w1 C _ hK=>oR C hK (h:=by simp [execOp,go_sem,C.o 5 (.pointer (some ⟨w.heap.size+1,0,none⟩))])) ?_;refine InvD.c (fun _ _ w1 C _ hK=>oR C hK (h:=by simp [execOp,go_sem,C.i 4,a_u C.base q1])) ?_;refine InvD.c (fun _ _ w1 C _ hK=>oR C hK (h:=by simp [execOp,go_sem,C.o 7 (.pointer (some ⟨w.heap.size+3,0,none⟩))])) ?_;refine InvD.c (fun _ _ w1 C _ hK=>oR C hK (h:=by simp [execOp,go_sem,C.i 5,C.i 6,i3,i4])) ?_;refine InvD.c (fun _ _ w1 C _ hK=>oR C hK (h:=by simp [execOp,go_sem,C.i 7,a_u C.base za])) ?_;refine InvD.c (fun a1 vals w1 C K hK=>?_) ?_
    ·have e0:=C.i 1;have e1:=C.i 2;have e2:=C.i 3;have e3:=C.i 8;rw [a_M] at e0 e1 e2 e3;refine a_g rfl (a_O _ _ _ rfl 102 rfl [.agg #[.slice L.ws.a L.ws.n L.ws.c,.slice L.ts.a L.ts.n L.ts.c,.int .i64 D,.slice L.bs.a L.bs.n L.bs.c],.int .i64 j,.int .i64 at_,.int .i64 va] (by simp only [List.map_cons,List.map_nil,e0,e1,e2,e3]) (by kernel_rfl) ((HMK.out w1 C.base).mono ?_));exact J24
    refine InvD.c (fun a1 vals w1 C K hK=>?_) ?_
    ·have e0:=C.t 9 60 rfl rfl;obtain ⟨a,n,c,a',n',c',q,l,d,h1,-⟩:=C.says 9 rfl;refine a_g rfl (a_x (v:=vals 9) ?_ (c_Q hK C rfl ⟨a,n,c,a',n',c',q,l,d,by show [vals 9,vals 9]=_;rw [List.head_eq_of_cons_eq h1]⟩));simp [execOp,go_sem,e0]
    refine InvD.c (fun a1 vals w1 C K hK=>?_) ?_
    ·have e0:=C.t 10 50 rfl rfl;obtain ⟨a,n,c,a',n',c',q,l,d,h1⟩:=C.says 10 rfl;have h2:=N131;have h3:=N60;rw [h2] at e0;refine a_g rfl (a_x (v:=.agg #[.slice a n c,.slice a' n' c',.int .i64 sD,.slice q l d]) ?_ (c_Q hK C rfl (⟨a,n,c,a',n',c',q,l,d,by show [.agg #[.slice a n c,.slice a' n' c',.int .i64 sD,.slice q l d],vals 9]=_;rw [h3]⟩)));simp [execOp,go_sem,e0]
    refine InvD.c (fun a1 vals w1 C K hK=>?_) ?_
    ·have e0:=C.t 10 50 rfl rfl;obtain ⟨a,n,c,a',n',c',q,l,d,h1⟩:=C.says 10 rfl;have h2:=N131;have h3:=N60;exact J82
    refine InvD.c (fun a1 vals w1 C K hK=>?_) ?_
    ·exact J14
    refine InvD.c (fun a1 vals w1 C K hK=>?_) ?_
    ·have e0:=C.v 13 11 rfl rfl;have e1:=C.v 11 61 rfl rfl;obtain ⟨g,g1,g2,xs,hx,hx2⟩:=C.says 13 rfl;obtain ⟨a,n,c,a',n',c',q,l,d,h1⟩:=C.says 11 rfl;have y0:vals 13=.pointer (some ⟨g,0,none⟩):=List.head_eq_of_cons_eq g1;have y1:vals 11=.agg #[.slice a n c,.slice a' n' c',.int .i64 sD,.slice q l d]:=List.head_eq_of_cons_eq h1;have y2:=N60;obtain ⟨a2,n2,c2,a'2,n'2,c'2,q2,l2,d2,gg,z1,z2,p0x,p1x,p2x⟩:=C.two rfl rfl rfl rfl;rw [y2] at z1;rw [y0] at z2
     cases z1
     cases z2
     rw [y0] at e0;rw [y1] at e1;refine a_g rfl (a_0 30 _ _ rfl g #[.slice a n c,.slice a' n' c',.int .i64 sD,.slice q l d] e0 e1 xs hx (by rw [hx2];rfl) (by kernel_rfl) (by simp [Value.oneCell']) ?_);intro U HU;have hUx:=N97;have hk:=N113;have q0x:=a_r (w':=U) hk p0x;have q1x:=a_r (w':=U) hk p1x;have q2x:=a_G (w':=U) hk p2x;refine hK _ U ⟨g,a,n,c,a',n',c',q,l,d,by show [vals 13,vals 9]=_;rw [y0,y2],g2,hUx,q0x,q1x,q2x⟩ (by rw [HU.out];exact a_h g2 C.base) (fun jz hj h=>?_) (fun _ _ _=>⟨a,n,c,a',n',c',q,l,d,g,y2,y0,q0x,q1x,q2x⟩) (fun e=>absurd e (by decide)) (fun e=>absurd e (by decide)) (fun e=>absurd e (by decide))
     by_cases j16:jz=9
     ·subst j16;exact ⟨a,n,c,a',n',c',q,l,d,by show [vals 9]=_;rw [y2],a_n (fun _ h=>h.1) q0x,a_n (fun _ h=>h.1) q1x,a_H (fun _ h=>h.1) q2x⟩
     ·by_cases j20:jz=13
      ·subst j20;exact ⟨g,by show [vals 13]=_;rw [y0],g2,_,hUx,rfl⟩
      ·exact n_3 _ _ _ _ _ _ _ _ _ _ _ _ _ _ _ _ _ _ j16 j20 hj h
    refine InvD.c (fun _ _ w1 C _ hK=>oR C hK (h:=by simp [execOp,go_sem,C.i 12])) ?_;exact StepsL.nil
   ·intro vals w1 hb hv hbo;obtain ⟨g,a,n,c,a',n',c',q,l,d,e1,g2,hm,q5,q6,q7⟩:=hv 14 (by decide);have y20:vals 13=.pointer (some ⟨g,0,none⟩):=List.head_eq_of_cons_eq e1;have y22:vals 15=.int .i64 se:=List.head_eq_of_cons_eq (hv 15 (by decide));simp only [c_I,Act.put,sA,sB,sC,y20,y22];have HXE:=hid (a_i hb HXA.out);have HIE:=hid (a_i hb HIA.out);have HZE:=hid (a_i hb HZA.out);have HTE:=hid (a_i hb HTA.out);have HBE:=hid (a_b HBA.out hb);have HRE:=hid (show RWo Q1 w1 L X from b_G hb HRA.out);have HHE:=hid (a_w (a_C hb) HHA.out);have HSE:=hid (show w.heap.size+4≤w1.heap.size by have:=(hb).size;have:=HSA.out;omega);have HMV:=hid hm;have HQM:=hid (And.intro q5 (And.intro q6 q7));clear hb hbo hv e1 y20 y22 hm q5 q6 q7 g2 HXA HIA HZA HTA HBA HRA HHA HMK za q0 q1 hG
    by_cases se0:se=0
    ·subst se0;obtain ⟨hD2,hW2,hT2,hB2⟩:=HOK.out rfl;subst hD2 hW2 hT2 hB2;have HYF:=hid (show b_j { X with ws:=b_N X.ws D at_ va,bs:=b_I D X.bs j at_ va } j (b_h t)=Y by rw [←HYL.out,if_pos rfl];rfl);obtain ⟨X2,hX2⟩:∃ X2:Wo,X2={ X with ws:=b_N X.ws D at_ va,bs:=b_I D X.bs j at_ va }:=⟨_,rfl⟩;rw [←hX2] at HYF;have HX2:=N247;have hp1:0≤t.pc:=HP.out.1;have hp2:t.pc≤1000:=HP.out.2
     go_upto_region 12 with (first | (refine wpList_load_mid rfl 30 _ rfl g 0 rfl [.slice a n c,.slice a' n' c',.int .i64 D,.slice q l d] _ (a_f HMV.out) Tryz.underlying30 rfl (by kernel_rfl) ?_) | (refine a_L rfl 30 _ _ rfl w.heap.size 1 #[.slice a n c,.slice a' n' c',.int .i64 D,.slice q l d] rfl rfl _ HXE.out (by simp) (by kernel_rfl) (by simp [Value.oneCell']) ?_;intro U9 HU9))
     simp only [Act.put];have HX9:=N94;have HT9:=N163;have HZ9:=N207;have HB9:=N204;have hk9:=N190;have HS9:=N242;clear HU9 HMV;obtain ⟨z0,f0⟩:=HT9.out 0 _ rfl;obtain ⟨V2,hV2⟩:=nm ((U9.setCell ⟨(w.heap.size+3),0,none⟩ (.int .i64 (t.pc+1))));have HX9s:=N135;have HZ9s:=N133;have HT9s:=N124;have hkV2:=N144;have HB9s:=N128;have HZV2:=hid (show V2.heap.size=U9.heap.size by rw [hV2];simp);have HV2:=hid hV2;clear hV2
     go_upto_region 13 with fail
     rw [←HV2.out];clear z0 f0 hp1 hp2;have hkW:Kept Q1 w1 V2:=a_6 hk9 hkV2
     have HR3:=hid (show RWo Q1 V2 (L.setTso ⟨a,n,c⟩ ⟨a',n',c'⟩ ⟨q,l,d⟩) X2 by
      rw [hX2];exact h_6 (a_B hkW HRE.out) (a_r hkW (a_n (fun _ h=>h.1) HQM.out.1)) (a_r hkW (a_n (fun _ h=>h.1) HQM.out.2.1)) (a_G hkW (a_H (fun _ h=>h.1) HQM.out.2.2)))
     clear hX2
     have h0:Calls Tryz.prog 53 #[woV (L.setTso ⟨a,n,c⟩ ⟨a',n',c'⟩ ⟨q,l,d⟩) D,.int .i64 j,thV (b_h t) ta tn tc qa tm qc] V2 (b_B Q1 Y V2):=by
      have h:=c_R Q1 (L.setTso ⟨a,n,c⟩ ⟨a',n',c'⟩ ⟨q,l,d⟩) X2 j (b_h t) ta tc qa qc V2 HR3.out (by rw [show (b_h t).fs.length=tn from HTN.out.1,show (b_h t).lf.length=tm from HTN.out.2];exact c_8 (a_w hkW HHE.out)) (fun b hb=>HQ2.out.2.2 b (by have:=HZV2.out;have:=HS9.out;omega)) HN.out;rw [show (b_h t).fs.length=tn from HTN.out.1,show (b_h t).lf.length=tm from HTN.out.2,show (X2).D=D from HX2.out,HYF.out] at h;exact h
     have HYD:=hid (show Y.D=D by rw [←HYF.out];exact HX2.out);have HC:=hid h0;clear h0
     go_wp2_with (first | (refine wpList_load_mid rfl 33 _ rfl (w.heap.size) 0 rfl (woC (L.setTso ⟨a,n,c⟩ ⟨a',n',c'⟩ ⟨q,l,d⟩) D) _ (a_f HX9s.out) Tryz.underlying33 rfl (by kernel_rfl) ?_) | (refine wpList_load_mid rfl 46 _ rfl (w.heap.size+3) 0 rfl (thC (b_h t) ta tn tc qa tm qc) _ (a_f HT9s.out) Tryz.underlying46 rfl (by kernel_rfl) ?_))
     refine HC.out.mono ?_;rintro e9 w9 ⟨L9,rfl,R9,hb9⟩;have HZ9:=hid (a_i hb9 HZ9s.out);have HB9:=hid (a_b HB9s.out hb9);have HR9:=hid R9;clear hb9 R9 HC;rw [HYD.out]
     go_wp2_with (refine a_c rfl 33 _ _ rfl (w.heap.size+2) (woC L9 D).toArray rfl rfl _ HZ9.out rfl (by kernel_rfl) (b_o _ _) ?_;intro U HU)
     have HZ10:=N103;refine a_V ⟨w.heap.size+2,0,none⟩ rfl rfl rfl (a_E HZ10.out 33 Tryz.underlying33 rfl (by kernel_rfl)) ?_;have hkU:=N7;exact a_Y (L:=L9) (by rw [HYD.out]) (a_D HQ2.out.1 (a_B hkU HR9.out)) (by rw [HU.out];exact a_h (by omega) HB9.out)
    ·have hse:(se != 0)=true:=by simpa using se0
     have HYF:=hid (show b_j X j (b_t t se)=Y by rw [←HYL.out,if_neg se0])
     have h0:Calls Tryz.prog 52 #[woV L D,.int .i64 j,.int .i64 se] w1 (b_B Q1 Y w1):=by
      exact J93
     have HYD:=N134;have HC:=hid h0;clear h0
     go_wp2_with (first | (refine wpList_load_mid rfl 33 _ rfl (w.heap.size) 0 rfl (woC L D) _ (a_f HXE.out) Tryz.underlying33 rfl (by kernel_rfl) ?_))
     refine HC.out.mono ?_;rintro e9 w9 ⟨L9,rfl,R9,hb9⟩;have HZ9:=hid (a_i hb9 HZE.out);have HB9:=hid (a_b HBE.out hb9);exact J16
end Go.Proofs.YtogdpojnbgeknaaGreatDoor
