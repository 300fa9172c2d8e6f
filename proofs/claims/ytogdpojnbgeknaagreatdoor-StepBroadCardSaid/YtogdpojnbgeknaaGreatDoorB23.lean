import Derived.Test.YtogdpojnbgeknaaGreatDoorB21
import Derived.Test.YtogdpojnbgeknaaGreatDoorB22
import Derived.Test.YtogdpojnbgeknaaGreatDoorB4
import Derived.Test.YtogdpojnbgeknaaGreatDoorB11
import Derived.Test.YtogdpojnbgeknaaGreatDoorB0
import Derived.Test.YtogdpojnbgeknaaGreatDoorB20
set_option maxRecDepth 100000
set_option maxHeartbeats 16000000
namespace Go.Proofs.YtogdpojnbgeknaaGreatDoor
open Go.ChangeShapes Go.WideShapes Go.ChangeAt Go.RowKit
open Gen
theorem i_T (Q:Nat→Prop) (t:Thr) (self:Int) (i:In4) (fa la:Option Addr) (fn fc ln lc:Nat) (w:World) (F:ThQ Q w fa fn fc la ln lc t) (hQ:∀ b,w.heap.size≤b→Q b) (hf:c_6 i=true) (hr:a_R t=true) (hp:t.pc≠1000) (ho:1≤i.1∧i.1≤15) :
  Calls Tryz.prog 55 #[.agg (thC t fa fn fc la ln lc).toArray,.int .i64 self,.agg #[.int .i64 i.1,.int .i64 i.2.1,.int .i64 i.2.2.1,.int .i64 i.2.2.2]] w (b_8 Q (doT t self i) (doE t i) w):=by
 obtain ⟨o,A,B,C⟩:=i;simp only at ho
 rcases (show o=1∨o=2∨o=3∨o=4∨o=5∨o=6∨o=7∨o=8∨o=9∨o=10∨o=11∨o=12∨o=13∨o=14∨o=15 by omega) with rfl | rfl | rfl | rfl | rfl | rfl | rfl | rfl | rfl | rfl | rfl | rfl | rfl | rfl | rfl
 ·exact t_c Q t self A B C fa la fn fc ln lc w F hQ hf hr hp
 ·exact t_d Q t self A B C fa la fn fc ln lc w F hQ hf hr hp
 ·exact t_e Q t self A B C fa la fn fc ln lc w F hQ hf hr hp
 ·exact t_f Q t self A B C fa la fn fc ln lc w F hQ hf hr hp
 ·exact t_g Q t self A B C fa la fn fc ln lc w F hQ hf hr hp
 ·exact t_h Q t self A B C fa la fn fc ln lc w F hQ hf hr hp
 ·exact t_i Q t self A B C fa la fn fc ln lc w F hQ hf hr hp
 ·exact t_j Q t self A B C fa la fn fc ln lc w F hQ hf hr hp
 ·exact t_k Q t self A B C fa la fn fc ln lc w F hQ hf hr hp
 ·exact r_j Q t self A B C fa la fn fc ln lc w F hQ hf hr hp
 ·exact r_k Q t self A B C fa la fn fc ln lc w F hQ hf hr hp
 ·exact r_l Q t self A B C fa la fn fc ln lc w F hQ hf hr hp
 ·exact r_m Q t self A B C fa la fn fc ln lc w F hQ hf hr hp
 ·exact r_n Q t self A B C fa la fn fc ln lc w F hQ hf hr hp
 ·exact r_o Q t self A B C fa la fn fc ln lc w F hQ hf hr hp
end Go.Proofs.YtogdpojnbgeknaaGreatDoor
namespace Go.Proofs.YtogdpojnbgeknaaGreatDoor
open Go.ChangeShapes Go.WideShapes Go.ChangeAt Go.RowKit
open Gen
open Lib (hid)
theorem n_O (Q:Nat→Prop) (L:WoL) (X:Wo) (j:Nat) (w:World) (R:RWo Q w L X) (hj:j < L.th.n) (hQ:∀ b,w.heap.size≤b→Q b) (hn:L.th.n≤1000) (hen:L.ev.n≤100000) (hrw:a_6 X=true) (hwf:∀ k,k < 8→(Lit.int .i64 ((thW X j).r k)).wf=true) :
  Calls Tryz.prog 23 #[woV L X.D,.int .i64 j] w (b_D Q (c_R X j) w):=by
 obtain ⟨Y,hY⟩:=mn (c_R X j);rw [hY];obtain ⟨D,hD⟩:=mn (X.D);rw [hD];obtain ⟨tb,tq,t,ta,tc,qa,qc,htl,htt,-,T,hr⟩:=c_3 R.th hj;have htw:=N54;have HTW:=hid htw;obtain ⟨hrc,hrm,hrl,hro⟩:=a_M hrw
 have HRT:=hid (show a_R t=true by
  have h:=hro t (List.mem_of_getElem? htt);simp only [e_o,Bool.and_eq_true] at h;exact h.1)
 have HCL:=hid (show (X.code.length:Int)≤1000 by
  simp only [b_U,Bool.and_eq_true,decide_eq_true_eq] at hrc;have:=hrc.1;omega)
 have HCI:=hid (show ∀ i∈X.code,c_K i X.code.length=true by
  simp only [b_U,Bool.and_eq_true,decide_eq_true_eq,List.all_eq_true] at hrc;exact hrc.2)
 have hpc0:0≤t.pc∧t.pc≤1000:=by
  have h:=HRT.out;exact J102
 obtain ⟨pk,hpk⟩:∃ k:Nat,t.pc=k:=⟨t.pc.toNat,by omega⟩;have HPK:=hid hpk;have HCL2:=hid (show (pk:Int)≤1000 by omega);have HM:=hid (a_S hrm).1;have HBM:=hid (show L.bs.n≤1000 by have h:=(a_S hrm).2.1;have:=R.bs.1;omega)
 have HH:=hid (show j_D X.ws X.ts X.D X.bs j=true by
  rw [j_D,hrm,Bool.true_and,thB,decide_eq_true_eq];have:=R.th.1
  omega)
 have ⟨HWF,HEN⟩:=hh2 hwf hen;clear hen hrc hrm hrl hro hrw hwf hpc0 hpk;obtain ⟨tn,htn⟩:=mn (t.fs.length);obtain ⟨tm,htm⟩:=mn (t.lf.length);have HTN:=hid (And.intro htn htm);obtain ⟨Q1,hQ1⟩:∃ Q1:Nat→Prop,Q1=fun b=>Q b∧(b < w.heap.size∨w.heap.size+3≤b):=⟨_,rfl⟩
 have HQ1:=hid hQ1;have HQ2:=N30;have HR1:=N41;have HT1:=N36;obtain ⟨W,hW⟩:=nm ((w.alloc (Obj.cells (woC L D).toArray 33)).alloc (Obj.cells woZ.toArray 33));have HX:=N53;have HZ:=N64;have HB:=N3;have HSZ:=N43;have HRA:=N28;have ⟨HW,HY,HTL,HD,HN⟩:=hh5 hW hY htl hD hn;rw [htn,htm] at HT1;have i1:(0:Int)≤j:=by omega
 have i2:(j:Int) < L.th.n:=by omega
 clear htl hY hD htt T hr htn htm hQ1 R hW htw hQ hn;unfold woV
 go_enter Tryz.func23,Tryz.ntmps23
 go_upto_region 1 with fail
 rw [←HW.out];obtain ⟨k5,-⟩:=HX.out 5 _ rfl;rw [HTL.out] at k5
 go_upto_region 2 with (first | (refine wpList_load_mid rfl 46 _ rfl tb (tq+j*13) rfl (thC t ta tn tc qa tm qc) _ HRA.out Tryz.underlying46 rfl (by kernel_rfl) ?_) | (refine a_c rfl 46 _ _ rfl W.heap.size (thC t ta tn tc qa tm qc).toArray rfl rfl _ (a_e thN W.heap.size rfl) rfl (by kernel_rfl) (a_L _ _ _ _ _ _ _) ?_;intro V HV))
 rw [HSZ.out];simp only [Act.put];have HX2:=N31;have HZ2:=N75;have HT2:=N91;have HB2:=N27;have HS2:=N119;clear HV HX HZ HB HSZ HRA HW k5 i1 i2;have HT3:=N65;have HR2:=N109;obtain ⟨z0,-⟩:=HT2.out 0 _ rfl;obtain ⟨x0,-⟩:=HX2.out 0 _ rfl;rw [HPK.out] at z0;have hcn:X.code.length=L.co.n:=HR2.out.co.1
 by_cases hpc:L.co.n≤pk
 ·have i3:(L.co.n:Int)≤pk:=by omega
  have HYF:=hid (show b_k X j (b_w t 3)=Y by rw [←HY.out,m_q (by rw [HTW.out,HPK.out];omega),HTW.out])
  have h0:Calls Tryz.prog 52 #[woV L D,.int .i64 j,.int .i64 3] V (b_D Q1 Y V):=by
   have h:=c_Z Q1 L X j 3 V HR2.out hj (fun b hb=>HQ2.out.2.2 b (by have:=HS2.out;omega)) HN.out;rw [HTW.out,HD.out,HYF.out] at h;exact h
  clear hpc hcn;have HYD:=N94;have HC:=hid h0;clear h0
  go_wp2_with (first | (refine wpList_load_mid rfl 33 _ rfl (w.heap.size) 0 rfl (woC L D) _ (a_f HX2.out) Tryz.underlying33 rfl (by kernel_rfl) ?_))
  refine HC.out.mono ?_;rintro e9 w9 ⟨L9,rfl,R9,hb9⟩;have HZ9:=hid (a_h hb9 HZ2.out);have HB9:=hid (a_a HB2.out hb9);exact J17
 ·have i3:(pk:Int) < L.co.n:=by omega
  have i4:(0:Int)≤pk:=by omega
  have i5:¬ ((L.co.n:Int)≤pk):=by omega
  obtain ⟨cb,co,op,A,B,C,hca,hci,y0,y1,y2,y3⟩:=l_0 (d_9 HR2.out.co) (show pk < L.co.n by omega)
  have HRI:=hid (show V.rangeAt cb (co+pk*4) [.int .i64 op,.int .i64 A,.int .i64 B,.int .i64 C] from fun x v hx=>by
   match x,hx with
   | 0,hx=>cases hx;exact y0
   | 1,hx=>cases hx;exact y1
   | 2,hx=>cases hx;exact y2
   | 3,hx=>cases hx;exact y3)
  rw [hca] at x0;have HIN:=N201
  have HYG:=hid (show goX X j t (op,A,B,C)=Y by
   rw [←HY.out,p_G (by rw [HTW.out,HPK.out];omega),HTW.out,HPK.out,show inW X (pk:Int)=(op,A,B,C) by rw [inW,Int.toNat_natCast,List.getD_eq_getElem?_getD,hci];rfl];rfl)
  clear y0 y1 y2 y3 hci hca
  go_upto_region 5 with (first | (refine wpList_load_mid rfl 66 _ rfl cb (co+pk*4) rfl [.int .i64 op,.int .i64 A,.int .i64 B,.int .i64 C] _ HRI.out Tryz.underlying66 rfl (by kernel_rfl) ?_) | (refine a_c rfl 66 _ _ rfl V.heap.size #[.int .i64 op,.int .i64 A,.int .i64 B,.int .i64 C] rfl rfl _ (a_e [.int .i64 0,.int .i64 0,.int .i64 0,.int .i64 0] V.heap.size rfl) rfl (by kernel_rfl) (by simp [Value.oneCell']) ?_;intro U HU))
  rw [HS2.out];have hkU:Kept (fun b=>Q1 b∧b < V.heap.size) V U:=by rw [HU.out];exact a_3 (e_h _ _) (a_u (fun b hb=>by have:=hb.2;omega))
  have HX3:=N162;have HZ3:=N175;have HT4:=hid (show a_p U (w.heap.size+2) (thC t ta tn tc qa tm qc) by rw [HU.out];exact a_j (by have:=HS2.out;omega) (a_s _ HT2.out));have HI3:=hid (show a_p U (w.heap.size+3) [.int .i64 op,.int .i64 A,.int .i64 B,.int .i64 C] by rw [HU.out,HS2.out];exact a_q (a_e [.int .i64 0,.int .i64 0,.int .i64 0,.int .i64 0] _ HS2.out.symm) rfl);have HB3:=N150;have HS3:=hid (show U.heap.size=w.heap.size+4 by rw [HU.out,a_O];simp [HS2.out]);have HR3:=hid (show RWo Q1 U L X from a_D (fun b h=>h.1) (a_z hkU (c_h HR2.out)));have HH3:=hid (show ThQ Q1 U ta tn tc qa tm qc t from b_t (fun b h=>h.1) (a_v hkU (d_w HT3.out)));clear HU hkU HX2 HZ2 HT2 HB2 HR2 HT3 HS2 HRI z0 x0 i3 i4 i5;obtain ⟨y0,-⟩:=HI3.out 0 _ rfl;obtain ⟨z12,-⟩:=HT4.out 12 _ rfl
  by_cases o0:op=0
  ·subst o0;obtain ⟨z10,f10⟩:=HT4.out 10 _ rfl;have HYF:=hid (show b_k X j ⟨t.pc,t.r,t.fs,1,t.ft,t.lf⟩=Y by rw [←HYG.out,s_M rfl]);obtain ⟨V2,hV2⟩:=nm ((U.setCell ⟨(w.heap.size+2),10,none⟩ (.int .i64 1)));have HX3s:=hid (show a_p V2 (w.heap.size) _ by rw [hV2];exact (a_l (g':=(w.heap.size+2)) (o:=10) HX3.out (by omega) (.int .i64 1)));have HZ3s:=hid (show a_p V2 (w.heap.size+1) _ by rw [hV2];exact (a_l (g':=(w.heap.size+2)) (o:=10) HZ3.out (by omega) (.int .i64 1)));have HT4s:=hid (show a_p V2 ((w.heap.size+2)) (thC (⟨t.pc,t.r,t.fs,1,t.ft,t.lf⟩:Thr) ta tn tc qa tm qc) by have h:=(a_y HT4.out 10 (by simp) (.int .i64 1));rw [hV2];exact h);have hkV2:Kept Q1 U V2:=by rw [hV2];exact (a_U _ _ _ (fun b hb=>by show b≠(w.heap.size+2);have:=HQ2.out.2.1 b hb;omega))
   have HB3s:=hid (show Below w.heap.size w V2 by rw [hV2];exact (HB3.out.setCell (p:=⟨(w.heap.size+2),10,none⟩) (by show _≤(w.heap.size+2);omega) _));have HZV2:=hid (show V2.heap.size=U.heap.size by rw [hV2];simp);have HV2:=hid hV2;clear hV2
   go_upto_region 7 with fail
   rw [←HV2.out];clear z10 f10 y0 z12
   have h0:Calls Tryz.prog 53 #[woV L D,.int .i64 j,thV (⟨t.pc,t.r,t.fs,1,t.ft,t.lf⟩:Thr) ta tn tc qa tm qc] V2 (b_D Q1 Y V2):=by
    have h:=c_U Q1 L X j (⟨t.pc,t.r,t.fs,1,t.ft,t.lf⟩:Thr) ta tc qa qc V2 (a_z hkV2 HR3.out) (by rw [show (⟨t.pc,t.r,t.fs,1,t.ft,t.lf⟩:Thr).fs.length=tn from HTN.out.1,show (⟨t.pc,t.r,t.fs,1,t.ft,t.lf⟩:Thr).lf.length=tm from HTN.out.2];exact d_c (a_v hkV2 HH3.out)) (fun b hb=>HQ2.out.2.2 b (by have:=HZV2.out;have:=HS3.out;omega)) HN.out;rw [show (⟨t.pc,t.r,t.fs,1,t.ft,t.lf⟩:Thr).fs.length=tn from HTN.out.1,show (⟨t.pc,t.r,t.fs,1,t.ft,t.lf⟩:Thr).lf.length=tm from HTN.out.2,HD.out,HYF.out] at h;exact h
   have HYD:=N94;have HC:=hid h0;clear h0
   go_wp2_with (first | (refine wpList_load_mid rfl 33 _ rfl (w.heap.size) 0 rfl (woC L D) _ (a_f HX3s.out) Tryz.underlying33 rfl (by kernel_rfl) ?_) | (refine wpList_load_mid rfl 46 _ rfl (w.heap.size+2) 0 rfl (thC (⟨t.pc,t.r,t.fs,1,t.ft,t.lf⟩:Thr) ta tn tc qa tm qc) _ (a_f HT4s.out) Tryz.underlying46 rfl (by kernel_rfl) ?_))
   refine HC.out.mono ?_;rintro e9 w9 ⟨L9,rfl,R9,hb9⟩;have HZ9:=hid (a_h hb9 HZ3s.out);have HB9:=hid (a_a HB3s.out hb9);have HR9:=hid R9;clear hb9 R9 HC;rw [HYD.out]
   go_wp2_with (refine a_c rfl 33 _ _ rfl (w.heap.size+1) (woC L9 D).toArray rfl rfl _ HZ9.out rfl (by kernel_rfl) (b_p _ _) ?_;intro U HU)
   have HZ10:=N26;refine a_X ⟨w.heap.size+1,0,none⟩ rfl rfl rfl (a_E HZ10.out 33 Tryz.underlying33 rfl (by kernel_rfl)) ?_;have hkU:=N8;exact a_Z (L:=L9) (by rw [HYD.out]) (a_D HQ2.out.1 (a_z hkU HR9.out)) (by rw [HU.out];exact a_g (by omega) HB9.out)
  ·have o0b:(op==0)=false:=by simpa using o0
   by_cases oL:1≤op∧op≤15
   ·have HLO:=hid oL;clear o0 oL
    go_wp2_with fail
    have h0:=d_8 op U;rw [decide_eq_true HLO.out] at h0;refine h0.mono ?_;clear h0;rintro e9 w9 ⟨rfl,hw9⟩
    cases hw9
    by_cases ht0:0 < tm
    ·have i3:(0:Int) < tm:=by omega
     have HYF:=hid (show b_k X j (b_w t 9)=Y by rw [←HYG.out,s_N HLO.out (by have:=HTN.out.2;omega)]);clear y0;have HDY:=hid (show (b_k X j (b_w t (9))).D=D from HD.out)
     have h0:Calls Tryz.prog 52 #[woV L D,.int .i64 j,.int .i64 (9)] U (b_D Q1 Y U):=by
      have h:=c_Z Q1 L X j (9) U HR3.out hj (fun b hb=>HQ2.out.2.2 b (by have:=HS3.out;omega)) HN.out;rw [HTW.out,HD.out,HYF.out] at h;exact h
     have HYD:=N88;have HC:=hid h0;clear h0
     go_wp2_with (first | (refine wpList_load_mid rfl 33 _ rfl (w.heap.size) 0 rfl (woC L D) _ (a_f HX3.out) Tryz.underlying33 rfl (by kernel_rfl) ?_))
     refine HC.out.mono ?_;rintro e9 w9 ⟨L9,rfl,R9,hb9⟩;have HZ9:=hid (a_h hb9 HZ3.out);have HB9:=hid (a_a HB3.out hb9);exact J17
    ·have i3:¬ ((0:Int) < tm):=by omega
     have ht1:t.lf.length=0:=by have:=HTN.out.2;omega
     go_wp2_with fail
     have h0:=d_8 op U;rw [decide_eq_true HLO.out] at h0;refine h0.mono ?_;clear h0;rintro e9 w9 ⟨rfl,hw9⟩
     cases hw9
     have h0:=i_T Q1 t j (op,A,B,C) ta qa tn tc tm qc U HH3.out (fun b hb=>HQ2.out.2.2 b (by have:=HS3.out;omega)) (k_W HIN.out HCL.out HLO.out) HRT.out (by rw [HPK.out];have:=HCL.out;omega) HLO.out;obtain ⟨n,hn⟩:=mn (doT t j (op,A,B,C));obtain ⟨e,he⟩:=mn (doE t (op,A,B,C));have HYL:=hid (show (if e=0 then b_k X j n else b_k X j (b_w t e))=Y by rw [←HYG.out,t_9 HLO.out ht1,he,hn]);rw [hn,he] at h0;have HC:=hid h0;clear h0 hn he ht1 ht0
     go_wp2_with (first | (refine wpList_load_mid rfl 46 _ rfl (w.heap.size+2) 0 rfl (thC t ta tn tc qa tm qc) _ (a_f HT4.out) Tryz.underlying46 rfl (by kernel_rfl) ?_) | (refine wpList_load_mid rfl 66 _ rfl (w.heap.size+3) 0 rfl [.int .i64 op,.int .i64 A,.int .i64 B,.int .i64 C] _ (a_f HI3.out) Tryz.underlying66 rfl (by kernel_rfl) ?_))
     refine HC.out.mono ?_;clear HC;rintro e9 w9 ⟨fa,fn,fc,la,ln,lc,rfl,hF,hb9⟩;have HF9:=hid (d_w hF);have HX9:=hid (a_h hb9 HX3.out);have HZ9:=hid (a_h hb9 HZ3.out);have HB9:=hid (a_a HB3.out hb9);have HR9:=hid (c_h (b_q hb9 HR3.out));have HS9:=hid (show w.heap.size+4≤w9.heap.size by have:=hb9.size;have:=HS3.out;omega);clear hF hb9 y0 z12 HX3 HZ3 HB3 HR3 HI3 HT4
     go_upto_region 12 with (refine a_c rfl 46 _ _ rfl w9.heap.size (thC n fa fn fc la ln lc).toArray rfl rfl _ (a_e thN w9.heap.size rfl) rfl (by kernel_rfl) (a_L _ _ _ _ _ _ _) ?_;intro V5 HV5)
     have hk5:Kept (fun b=>Q1 b∧b < w9.heap.size) w9 V5:=by rw [HV5.out];exact a_3 (e_h _ _) (a_u (fun b hb=>by have:=hb.2;omega))
     have HT5:=hid (show a_p V5 w9.heap.size (thC n fa fn fc la ln lc) by rw [HV5.out];exact a_q (a_e thN _ rfl) rfl);have HX5:=hid (show a_p V5 w.heap.size (woC L D) by rw [HV5.out];exact a_j (by have:=HS9.out;omega) (a_s _ HX9.out));have HZ5:=hid (show a_p V5 (w.heap.size+1) woZ by rw [HV5.out];exact a_j (by have:=HS9.out;omega) (a_s _ HZ9.out));have HB5:=hid (show Below w.heap.size w V5 by rw [HV5.out];exact a_g (by have:=HS9.out;omega) (HB9.out.alloc HB9.out.size _));have HR5:=hid (show RWo Q1 V5 L X from a_D (fun b h=>h.1) (a_z hk5 HR9.out));have HF5:=hid (show ThQ Q1 V5 fa fn fc la ln lc n from b_t (fun b h=>h.1) (a_v hk5 HF9.out));have HS5:=hid (show w.heap.size+4≤V5.heap.size by rw [HV5.out,a_O];have:=HS9.out;simp;omega);clear HV5 hk5 HX9 HZ9 HB9 HR9 HF9
     by_cases e0:e=0
     ·subst e0;have HYF:=hid (show b_k X j n=Y by rw [←HYL.out,if_pos rfl]);have hfn:n.fs.length=fn:=HF5.out.fs.1;have hln:n.lf.length=ln:=HF5.out.lf.1
      have h0:Calls Tryz.prog 53 #[woV L D,.int .i64 j,thV n fa fn fc la ln lc] V5 (b_D Q1 Y V5):=by
       have h:=c_U Q1 L X j n fa fc la lc V5 HR5.out (by rw [hfn,hln];exact HF5.out) (fun b hb=>HQ2.out.2.2 b (by have:=HS5.out;omega)) HN.out;rw [hfn,hln,HD.out,HYF.out] at h;exact h
      clear hfn hln;have HYD:=N94;have HC:=hid h0;clear h0
      go_wp2_with (first | (refine wpList_load_mid rfl 33 _ rfl (w.heap.size) 0 rfl (woC L D) _ (a_f HX5.out) Tryz.underlying33 rfl (by kernel_rfl) ?_) | (refine wpList_load_mid rfl 46 _ rfl (w9.heap.size) 0 rfl (thC n fa fn fc la ln lc) _ (a_f HT5.out) Tryz.underlying46 rfl (by kernel_rfl) ?_))
      refine HC.out.mono ?_;rintro e9 w9 ⟨L9,rfl,R9,hb9⟩;have HZ9:=hid (a_h hb9 HZ5.out);have HB9:=hid (a_a HB5.out hb9);have HR9:=hid R9;clear hb9 R9 HC;rw [HYD.out]
      go_wp2_with (refine a_c rfl 33 _ _ rfl (w.heap.size+1) (woC L9 D).toArray rfl rfl _ HZ9.out rfl (by kernel_rfl) (b_p _ _) ?_;intro U HU)
      have HZ10:=N26;refine a_X ⟨w.heap.size+1,0,none⟩ rfl rfl rfl (a_E HZ10.out 33 Tryz.underlying33 rfl (by kernel_rfl)) ?_;have hkU:=N8;exact a_Z (L:=L9) (by rw [HYD.out]) (a_D HQ2.out.1 (a_z hkU HR9.out)) (by rw [HU.out];exact a_g (by omega) HB9.out)
     ·have hk0:(e != 0)=true:=by simpa using e0
      have HYF:=hid (show b_k X j (b_w t e)=Y by rw [←HYL.out,if_neg e0]);clear e0
      have h0:Calls Tryz.prog 52 #[woV L D,.int .i64 j,.int .i64 e] V5 (b_D Q1 Y V5):=by
       have h:=c_Z Q1 L X j e V5 HR5.out hj (fun b hb=>HQ2.out.2.2 b (by have:=HS5.out;omega)) HN.out;rw [HTW.out,HD.out,HYF.out] at h;exact h
      have HYD:=N94;have HC:=hid h0;clear h0
      go_wp2_with (first | (refine wpList_load_mid rfl 33 _ rfl (w.heap.size) 0 rfl (woC L D) _ (a_f HX5.out) Tryz.underlying33 rfl (by kernel_rfl) ?_))
      refine HC.out.mono ?_;rintro e9 w9 ⟨L9,rfl,R9,hb9⟩;have HZ9:=hid (a_h hb9 HZ5.out);have HB9:=hid (a_a HB5.out hb9);exact J17
   ·have HLO:=hid oL;have HOR:=hid (show 0≤op∧op < 27 from (d_T HIN.out).1);have HO0:=hid o0;clear o0 oL
    go_wp2_with fail
    have h0:=d_8 op U;rw [decide_eq_false HLO.out] at h0;refine h0.mono ?_;clear h0;rintro e9 w9 ⟨rfl,hw9⟩
    cases hw9
    go_wp2_with fail
    have h0:=d_8 op U;rw [decide_eq_false HLO.out] at h0;refine h0.mono ?_;clear h0;rintro e9 w9 ⟨rfl,hw9⟩
    cases hw9
    have HYD0:=hid (show Y.D=D by
     have h:=HYG.out;rw [←h,←HD.out];unfold goX d_3
     repeat' split
     all_goals rfl)
    rcases (show op=16∨op=17∨(19≤op∧op≤21)∨op=22∨op=24∨op=25∨op=26∨op=18∨op=23 by have:=HOR.out;have:=HLO.out;have:=HO0.out;omega) with rfl | rfl | hL | rfl | rfl | rfl | rfl | rfl | rfl
    ·have HYF:=hid (show p_1 X j t (16,A,B,C)=Y by rw [←HYG.out,r_5 (.inl rfl)]);have hg:=c_7 HIN.out (.inl rfl);have HDY:=hid (show (p_1 X j t (16,A,B,C)).D=D by rw [HYF.out];exact HYD0.out)
     have h0:Calls Tryz.prog 56 #[woV L D,.int .i64 j,inV (16,A,B,C)] U (b_D Q1 Y U):=by
      have h:=g_1 Q1 L X j (16,A,B,C) U HR3.out hj (fun b hb=>HQ2.out.2.2 b (by have:=HS3.out;omega)) HN.out HH.out hg.1 hg.2.1 (.inl rfl) (by rw [HTW.out,HPK.out];have:=HCL2.out;omega);rw [HTW.out,HD.out,HYF.out] at h;exact h
     have HYD:=N88;have HC:=hid h0;clear h0
     go_wp2_with (first | (refine wpList_load_mid rfl 33 _ rfl (w.heap.size) 0 rfl (woC L D) _ (a_f HX3.out) Tryz.underlying33 rfl (by kernel_rfl) ?_) | (refine wpList_load_mid rfl 66 _ rfl (w.heap.size+3) 0 rfl [.int .i64 16,.int .i64 A,.int .i64 B,.int .i64 C] _ (a_f HI3.out) Tryz.underlying66 rfl (by kernel_rfl) ?_))
     refine HC.out.mono ?_;rintro e9 w9 ⟨L9,rfl,R9,hb9⟩;have HZ9:=hid (a_h hb9 HZ3.out);have HB9:=hid (a_a HB3.out hb9);have HR9:=hid R9;clear hb9 R9 HC;rw [HYD.out]
     go_wp2_with (refine a_c rfl 33 _ _ rfl (w.heap.size+1) (woC L9 D).toArray rfl rfl _ HZ9.out rfl (by kernel_rfl) (b_p _ _) ?_;intro U HU)
     have HZ10:=N26;refine a_X ⟨w.heap.size+1,0,none⟩ rfl rfl rfl (a_E HZ10.out 33 Tryz.underlying33 rfl (by kernel_rfl)) ?_;have hkU:=N8;exact a_Z (L:=L9) (by rw [HYD.out]) (a_D HQ2.out.1 (a_z hkU HR9.out)) (by rw [HU.out];exact a_g (by omega) HB9.out)
    ·have HYF:=hid (show p_1 X j t (17,A,B,C)=Y by rw [←HYG.out,r_5 (.inr rfl)]);have hg:=c_7 HIN.out (.inr (.inl rfl));have HDY:=hid (show (p_1 X j t (17,A,B,C)).D=D by rw [HYF.out];exact HYD0.out)
     have h0:Calls Tryz.prog 56 #[woV L D,.int .i64 j,inV (17,A,B,C)] U (b_D Q1 Y U):=by
      have h:=g_1 Q1 L X j (17,A,B,C) U HR3.out hj (fun b hb=>HQ2.out.2.2 b (by have:=HS3.out;omega)) HN.out HH.out hg.1 hg.2.1 (.inr rfl) (by rw [HTW.out,HPK.out];have:=HCL2.out;omega);rw [HTW.out,HD.out,HYF.out] at h;exact h
     have HYD:=N88;have HC:=hid h0;clear h0
     go_wp2_with (first | (refine wpList_load_mid rfl 33 _ rfl (w.heap.size) 0 rfl (woC L D) _ (a_f HX3.out) Tryz.underlying33 rfl (by kernel_rfl) ?_) | (refine wpList_load_mid rfl 66 _ rfl (w.heap.size+3) 0 rfl [.int .i64 17,.int .i64 A,.int .i64 B,.int .i64 C] _ (a_f HI3.out) Tryz.underlying66 rfl (by kernel_rfl) ?_))
     refine HC.out.mono ?_;rintro e9 w9 ⟨L9,rfl,R9,hb9⟩;have HZ9:=hid (a_h hb9 HZ3.out);have HB9:=hid (a_a HB3.out hb9);have HR9:=hid R9;clear hb9 R9 HC;rw [HYD.out]
     go_wp2_with (refine a_c rfl 33 _ _ rfl (w.heap.size+1) (woC L9 D).toArray rfl rfl _ HZ9.out rfl (by kernel_rfl) (b_p _ _) ?_;intro U HU)
     have HZ10:=N26;refine a_X ⟨w.heap.size+1,0,none⟩ rfl rfl rfl (a_E HZ10.out 33 Tryz.underlying33 rfl (by kernel_rfl)) ?_;have hkU:=N8;exact a_Z (L:=L9) (by rw [HYD.out]) (a_D HQ2.out.1 (a_z hkU HR9.out)) (by rw [HU.out];exact a_g (by omega) HB9.out)
    ·have HYF:=hid (show k_7 X j t (op,A,B,C)=Y by rw [←HYG.out,s_O hL]);have hg:=c_7 HIN.out (.inr (.inr (.inl hL)));have HLK:=hid hL;have q16:(op==16)=false:=by simp;omega
     have q17:(op==17)=false:=by simp;omega
     have q19:19≤op:=hL.1;have q21:op≤21:=hL.2;clear hL;have HDY:=hid (show (k_7 X j t (op,A,B,C)).D=D by rw [HYF.out];exact HYD0.out)
     have h0:Calls Tryz.prog 57 #[woV L D,.int .i64 j,inV (op,A,B,C)] U (b_D Q1 Y U):=by
      have h:=k_9 Q1 L X j (op,A,B,C) U HR3.out hj (fun b hb=>HQ2.out.2.2 b (by have:=HS3.out;omega)) HN.out HH.out hg.1 hg.2.1 (hg.2.2 HLK.out) HLK.out (by rw [HTW.out,HPK.out];have:=HCL2.out;omega);rw [HTW.out,HD.out,HYF.out] at h;exact h
     have HYD:=N88;have HC:=hid h0;clear h0
     go_wp2_with (first | (refine wpList_load_mid rfl 33 _ rfl (w.heap.size) 0 rfl (woC L D) _ (a_f HX3.out) Tryz.underlying33 rfl (by kernel_rfl) ?_) | (refine wpList_load_mid rfl 66 _ rfl (w.heap.size+3) 0 rfl [.int .i64 op,.int .i64 A,.int .i64 B,.int .i64 C] _ (a_f HI3.out) Tryz.underlying66 rfl (by kernel_rfl) ?_))
     refine HC.out.mono ?_;rintro e9 w9 ⟨L9,rfl,R9,hb9⟩;have HZ9:=hid (a_h hb9 HZ3.out);have HB9:=hid (a_a HB3.out hb9);have HR9:=hid R9;clear hb9 R9 HC;rw [HYD.out]
     go_wp2_with (refine a_c rfl 33 _ _ rfl (w.heap.size+1) (woC L9 D).toArray rfl rfl _ HZ9.out rfl (by kernel_rfl) (b_p _ _) ?_;intro U HU)
     have HZ10:=N26;refine a_X ⟨w.heap.size+1,0,none⟩ rfl rfl rfl (a_E HZ10.out 33 Tryz.underlying33 rfl (by kernel_rfl)) ?_;have hkU:=N8;exact a_Z (L:=L9) (by rw [HYD.out]) (a_D HQ2.out.1 (a_z hkU HR9.out)) (by rw [HU.out];exact a_g (by omega) HB9.out)
    ·have HYF:=hid (show g_B X j t=Y by rw [←HYG.out,q_K rfl]);have HDY:=hid (show (g_B X j t).D=D by rw [HYF.out];exact HYD0.out)
     have h0:Calls Tryz.prog 58 #[woV L D,.int .i64 j] U (b_D Q1 Y U):=by
      have h:=m_G Q1 L X j U HR3.out hj (fun b hb=>HQ2.out.2.2 b (by have:=HS3.out;omega)) HN.out HBM.out (by rw [HTW.out,HPK.out];have:=HCL2.out;omega);rw [HTW.out,HD.out,HYF.out] at h;exact h
     have HYD:=N88;have HC:=hid h0;clear h0
     go_wp2_with (first | (refine wpList_load_mid rfl 33 _ rfl (w.heap.size) 0 rfl (woC L D) _ (a_f HX3.out) Tryz.underlying33 rfl (by kernel_rfl) ?_))
     refine HC.out.mono ?_;rintro e9 w9 ⟨L9,rfl,R9,hb9⟩;have HZ9:=hid (a_h hb9 HZ3.out);have HB9:=hid (a_a HB3.out hb9);exact J17
    ·have HYF:=hid (show i_O X j t (24,A,B,C)=Y by rw [←HYG.out,o_l (.inl rfl)]);have hg:=c_7 HIN.out (.inr (.inr (.inr (show (23:Int)≤24∧(24:Int)≤25 by decide))));have HDY:=hid (show (i_O X j t (24,A,B,C)).D=D by rw [HYF.out];exact HYD0.out)
     have h0:Calls Tryz.prog 59 #[woV L D,.int .i64 j,inV (24,A,B,C)] U (b_D Q1 Y U):=by
      have h:=j_L Q1 L X j (24,A,B,C) U HR3.out hj (fun b hb=>HQ2.out.2.2 b (by have:=HS3.out;omega)) HN.out HM.out hg.1 hg.2.1 (.inl rfl) HWF.out (by rw [HTW.out,HPK.out];have:=HCL2.out;omega);rw [HTW.out,HD.out,HYF.out] at h;exact h
     have HYD:=N88;have HC:=hid h0;clear h0
     go_wp2_with (first | (refine wpList_load_mid rfl 33 _ rfl (w.heap.size) 0 rfl (woC L D) _ (a_f HX3.out) Tryz.underlying33 rfl (by kernel_rfl) ?_) | (refine wpList_load_mid rfl 66 _ rfl (w.heap.size+3) 0 rfl [.int .i64 24,.int .i64 A,.int .i64 B,.int .i64 C] _ (a_f HI3.out) Tryz.underlying66 rfl (by kernel_rfl) ?_))
     refine HC.out.mono ?_;rintro e9 w9 ⟨L9,rfl,R9,hb9⟩;have HZ9:=hid (a_h hb9 HZ3.out);have HB9:=hid (a_a HB3.out hb9);have HR9:=hid R9;clear hb9 R9 HC;rw [HYD.out]
     go_wp2_with (refine a_c rfl 33 _ _ rfl (w.heap.size+1) (woC L9 D).toArray rfl rfl _ HZ9.out rfl (by kernel_rfl) (b_p _ _) ?_;intro U HU)
     have HZ10:=N26;refine a_X ⟨w.heap.size+1,0,none⟩ rfl rfl rfl (a_E HZ10.out 33 Tryz.underlying33 rfl (by kernel_rfl)) ?_;have hkU:=N8;exact a_Z (L:=L9) (by rw [HYD.out]) (a_D HQ2.out.1 (a_z hkU HR9.out)) (by rw [HU.out];exact a_g (by omega) HB9.out)
    ·have HYF:=hid (show i_O X j t (25,A,B,C)=Y by rw [←HYG.out,o_l (.inr rfl)]);have hg:=c_7 HIN.out (.inr (.inr (.inr (show (23:Int)≤25∧(25:Int)≤25 by decide))));have HDY:=hid (show (i_O X j t (25,A,B,C)).D=D by rw [HYF.out];exact HYD0.out)
     have h0:Calls Tryz.prog 59 #[woV L D,.int .i64 j,inV (25,A,B,C)] U (b_D Q1 Y U):=by
      have h:=j_L Q1 L X j (25,A,B,C) U HR3.out hj (fun b hb=>HQ2.out.2.2 b (by have:=HS3.out;omega)) HN.out HM.out hg.1 hg.2.1 (.inr rfl) HWF.out (by rw [HTW.out,HPK.out];have:=HCL2.out;omega);rw [HTW.out,HD.out,HYF.out] at h;exact h
     have HYD:=N88;have HC:=hid h0;clear h0
     go_wp2_with (first | (refine wpList_load_mid rfl 33 _ rfl (w.heap.size) 0 rfl (woC L D) _ (a_f HX3.out) Tryz.underlying33 rfl (by kernel_rfl) ?_) | (refine wpList_load_mid rfl 66 _ rfl (w.heap.size+3) 0 rfl [.int .i64 25,.int .i64 A,.int .i64 B,.int .i64 C] _ (a_f HI3.out) Tryz.underlying66 rfl (by kernel_rfl) ?_))
     refine HC.out.mono ?_;rintro e9 w9 ⟨L9,rfl,R9,hb9⟩;have HZ9:=hid (a_h hb9 HZ3.out);have HB9:=hid (a_a HB3.out hb9);have HR9:=hid R9;clear hb9 R9 HC;rw [HYD.out]
     go_wp2_with (refine a_c rfl 33 _ _ rfl (w.heap.size+1) (woC L9 D).toArray rfl rfl _ HZ9.out rfl (by kernel_rfl) (b_p _ _) ?_;intro U HU)
     have HZ10:=N26;refine a_X ⟨w.heap.size+1,0,none⟩ rfl rfl rfl (a_E HZ10.out 33 Tryz.underlying33 rfl (by kernel_rfl)) ?_;have hkU:=N8;exact a_Z (L:=L9) (by rw [HYD.out]) (a_D HQ2.out.1 (a_z hkU HR9.out)) (by rw [HU.out];exact a_g (by omega) HB9.out)
    ·have HYF:=hid (show { b_k X j (⟨t.pc+1,t.r,t.fs,t.st,t.ft,t.lf⟩:Thr) with ev:=X.ev++[(A,(j:Int),t.r 0,t.r 1,t.r 2,t.r 3)] }=Y by rw [←HYG.out,q_L rfl];rfl);obtain ⟨x6,-⟩:=HX3.out 6 _ rfl;have HEV:=hid (And.intro (c_S HR3.out.ev) HR3.out.cev);clear z12
     go_upto_region 25 with fail
     clear y0;obtain ⟨E,hE⟩:=nm (U.alloc (Obj.cells #[] 101));have hkE:Kept (fun b=>Q1 b∧b < U.heap.size) U E:=by rw [hE];exact e_h _ _
     have HXE:=hid (show a_p E w.heap.size (woC L D) by rw [hE];exact a_s _ HX3.out);have HVE:=hid (show Vs repEv Any E L.ev.a L.ev.n X.ev from d_9 (a_B hkE HEV.out.1));have HOE:=hid (show E.ownsRow U.heap.size 101 6 (.slice (some ⟨U.heap.size,0,none⟩) 0 0) 0 [] by rw [hE];exact World.ownsRow_lit U #[] 0 (Nat.le_refl _) (by decide) rfl (e:=101) (size:=6));have HEB:=hid (show Below U.heap.size U E by rw [hE];exact (Below.refl _ _).alloc (Nat.le_refl _) _);rw [←hE];clear hE hkE x6;obtain ⟨x6,-⟩:=HXE.out 6 _ rfl
     go_upto_region 26 with (at_builtin;refine g_x rfl (.tmp 116) (.tmp 118) rfl U.heap.size (.slice (some ⟨U.heap.size,0,none⟩) 0 0) 0 [] rfl HOE.out L.ev.a L.ev.n L.ev.c X.ev rfl HVE.out HEV.out.2 (by have:=HEN.out;omega) HEB.out.size ?_;intro v5 E5 ho5 hg5)
     rw [Nat.zero_add,List.nil_append] at ho5;obtain ⟨a5,c5,rfl⟩:=p_C ho5;have HB5:=hid (show Below U.heap.size U E5 from HEB.out.grown hg5 HEB.out.size (fun g hg=>by cases hg;exact Nat.le_refl _));have HO5:=hid (show E5.ownsRow U.heap.size 101 6 (.slice a5 L.ev.n c5) L.ev.n (X.ev.flatMap j_E) from ho5);have HX5:=hid (a_h HB5.out HX3.out);have HZ5:=hid (a_h HB5.out HZ3.out);have HT5:=hid (a_h HB5.out HT4.out);have HI5:=hid (a_h HB5.out HI3.out);clear ho5 hg5 x6 HXE HVE HOE HEB;obtain ⟨y1,-⟩:=HI5.out 1 _ rfl;obtain ⟨r0,-⟩:=HT5.out 1 _ rfl;obtain ⟨r1,-⟩:=HT5.out 2 _ rfl;obtain ⟨r2,-⟩:=HT5.out 3 _ rfl;obtain ⟨r3,-⟩:=HT5.out 4 _ rfl;obtain ⟨j0,ki,kz0,kz1,kz2⟩:=info_parts o_D;have HJ:=N73;clear ki kz0 kz1 kz2;have hp1:0≤t.pc:=by have:=HPK.out;omega
     have hp2:t.pc≤1000:=by have:=HPK.out;have:=HCL2.out;omega
     go_upto_region 28 with (at_builtin;refine wpList_append_own _ rfl (.tmp 120) (.tmp 138) 31 rfl U.heap.size 101 j0 (.agg #[.int .i64 0,.int .i64 0,.int .i64 0,.int .i64 0,.int .i64 0,.int .i64 0]) 6 48 Tryz.underlying31 HJ.out.1 HJ.out.2.1 HJ.out.2.2.1 HJ.out.2.2.2 rfl (by decide) (.slice a5 L.ev.n c5) L.ev.n (X.ev.flatMap j_E) rfl (b_a HO5.out ((Below.refl _ _).alloc (Nat.le_refl _) _)) ⟨E5.heap.size,0,none⟩ 1 1 [.int .i64 A,.int .i64 j,.int .i64 (t.r 0),.int .i64 (t.r 1),.int .i64 (t.r 2),.int .i64 (t.r 3)] rfl rfl (e_Q _ _ _) (by simp [Value.oneCell']) (by have:=HEN.out;unfold maxLen;omega) (by have:=HEN.out;omega) (by have:=HB5.out.size;simp;omega) ?_;intro v6 E6 ho6 hg6 _;obtain ⟨a6,c6,rfl⟩:=p_C ho6;have HB6:=hid (show Below U.heap.size U E6 from (HB5.out.alloc HB5.out.size _).grown hg6 (by have:=HB5.out.size;simp;omega) (fun g hg=>(HO5.out.lt g hg).1));have HO6:=hid ho6;clear ho6 hg6 y1 r0 r1 r2 r3;obtain ⟨x6,f6⟩:=(a_h HB6.out HX3.out) 6 _ rfl;obtain ⟨z0,f0⟩:=(a_h HB6.out HT4.out) 0 _ rfl)
     clear x6 f6 z0 f0 hp1 hp2;have HX6:=hid (a_h HB6.out HX3.out);have HZ6:=hid (a_h HB6.out HZ3.out);have HT6:=hid (a_h HB6.out HT4.out);have HB7:=hid (a_a HB3.out HB6.out);have HS6:=hid (show w.heap.size+4≤E6.heap.size by have:=HB6.out.size;have:=HS3.out;omega);have HR6:=hid (b_q HB6.out HR3.out);have HH6:=hid (a_v (a_C HB6.out) HH3.out);obtain ⟨ev,hev⟩:=mn (X.ev++[(A,(j:Int),t.r 0,t.r 1,t.r 2,t.r 3)])
     obtain ⟨a7,c7,e7,k1,k2,k3,V7⟩:=e_G (r:=repEv) (Q:=Q1) (ys:=ev) HO6.out (by
      have h:=l_Y (Q:=Q1) (w:=E6) (X.ev++[(A,(j:Int),t.r 0,t.r 1,t.r 2,t.r 3)]);rw [List.flatMap_append,hev] at h;exact h) (fun b hb _=>HQ2.out.2.2 b (by have:=HS3.out;omega))
     cases e7
     have HV7:=hid (And.intro (show Sp.ok ⟨a6,L.ev.n+1,c6⟩ from ⟨k1,k2,k3⟩) V7);rw [hev] at HYF;clear k1 k2 k3 V7 hev HX5 HZ5 HT5 HI5 HB5 HO5 HO6;have HX7:=HX6;obtain ⟨V2,hV2⟩:=nm (((E6.setCell ⟨w.heap.size,6,none⟩ (.slice a6 (L.ev.n+1) c6)).setCell ⟨(w.heap.size+2),0,none⟩ (.int .i64 (t.pc+1))));have HX6s:=hid (show a_p V2 (w.heap.size) (woC (L.setEv ⟨a6,L.ev.n+1,c6⟩) D) by have h:=(a_l (g':=(w.heap.size+2)) (o:=0) (a_y HX6.out 6 (by simp) (.slice a6 (L.ev.n+1) c6)) (by omega) (.int .i64 (t.pc+1)));rw [hV2];exact h);have HZ6s:=hid (show a_p V2 (w.heap.size+1) _ by rw [hV2];exact (a_l (g':=(w.heap.size+2)) (o:=0) (a_l (g':=w.heap.size) (o:=6) HZ6.out (by omega) (.slice a6 (L.ev.n+1) c6)) (by omega) (.int .i64 (t.pc+1))));have HT6s:=hid (show a_p V2 ((w.heap.size+2)) (thC (⟨t.pc+1,t.r,t.fs,t.st,t.ft,t.lf⟩:Thr) ta tn tc qa tm qc) by have h:=(a_y (a_l (g':=w.heap.size) (o:=6) HT6.out (by omega) (.slice a6 (L.ev.n+1) c6)) 0 (by simp) (.int .i64 (t.pc+1)));rw [hV2];exact h);have hkV2:Kept Q1 E6 V2:=by rw [hV2];exact (a_3 (a_U _ _ _ (fun b hb=>by show b≠w.heap.size;have:=HQ2.out.2.1 b hb;omega)) (a_U _ _ _ (fun b hb=>by show b≠(w.heap.size+2);have:=HQ2.out.2.1 b hb;omega)))
     have HB7s:=hid (show Below w.heap.size w V2 by rw [hV2];exact ((HB7.out.setCell (p:=⟨w.heap.size,6,none⟩) (by show _≤w.heap.size;omega) _).setCell (p:=⟨(w.heap.size+2),0,none⟩) (by show _≤(w.heap.size+2);omega) _));have HZV2:=hid (show V2.heap.size=E6.heap.size by rw [hV2];simp);have HV2:=hid hV2;clear hV2;rw [←HV2.out];clear HX7;obtain ⟨X2,hX2⟩:∃ X2:Wo,X2={ X with ev:=ev }:=⟨_,rfl⟩;have HYF:=hid (show b_k X2 j (⟨t.pc+1,t.r,t.fs,t.st,t.ft,t.lf⟩:Thr)=Y by rw [hX2];exact HYF.out);have HDX:=N252;have HR7:=hid (show RWo Q1 V2 (L.setEv ⟨a6,L.ev.n+1,c6⟩) X2 by rw [hX2];exact p_x (p:=⟨a6,L.ev.n+1,c6⟩) (a_z hkV2 HR6.out) (a_B hkV2 HV7.out.2) HV7.out.1);clear hX2
     have h0:Calls Tryz.prog 53 #[woV (L.setEv ⟨a6,L.ev.n+1,c6⟩) D,.int .i64 j,thV (⟨t.pc+1,t.r,t.fs,t.st,t.ft,t.lf⟩:Thr) ta tn tc qa tm qc] V2 (b_D Q1 Y V2):=by
      have h:=c_U Q1 (L.setEv ⟨a6,L.ev.n+1,c6⟩) X2 j (⟨t.pc+1,t.r,t.fs,t.st,t.ft,t.lf⟩:Thr) ta tc qa qc V2 HR7.out (by rw [show (⟨t.pc+1,t.r,t.fs,t.st,t.ft,t.lf⟩:Thr).fs.length=tn from HTN.out.1,show (⟨t.pc+1,t.r,t.fs,t.st,t.ft,t.lf⟩:Thr).lf.length=tm from HTN.out.2];exact d_c (a_v hkV2 HH6.out)) (fun b hb=>HQ2.out.2.2 b (by have:=HZV2.out;have:=HS6.out;omega)) HN.out;rw [show (⟨t.pc+1,t.r,t.fs,t.st,t.ft,t.lf⟩:Thr).fs.length=tn from HTN.out.1,show (⟨t.pc+1,t.r,t.fs,t.st,t.ft,t.lf⟩:Thr).lf.length=tm from HTN.out.2,show X2.D=D from HDX.out,HYF.out] at h;exact h
     have HYD:=hid (show Y.D=D by rw [←HYF.out];exact HDX.out);have HC:=hid h0;clear h0
     go_wp2_with (first | (refine wpList_load_mid rfl 33 _ rfl (w.heap.size) 0 rfl (woC (L.setEv ⟨a6,L.ev.n+1,c6⟩) D) _ (a_f HX6s.out) Tryz.underlying33 rfl (by kernel_rfl) ?_) | (refine wpList_load_mid rfl 46 _ rfl (w.heap.size+2) 0 rfl (thC (⟨t.pc+1,t.r,t.fs,t.st,t.ft,t.lf⟩:Thr) ta tn tc qa tm qc) _ (a_f HT6s.out) Tryz.underlying46 rfl (by kernel_rfl) ?_))
     refine HC.out.mono ?_;rintro e9 w9 ⟨L9,rfl,R9,hb9⟩;have HZ9:=hid (a_h hb9 HZ6s.out);have HB9:=hid (a_a HB7s.out hb9);have HR9:=hid R9;clear hb9 R9 HC;rw [HYD.out]
     go_wp2_with (refine a_c rfl 33 _ _ rfl (w.heap.size+1) (woC L9 D).toArray rfl rfl _ HZ9.out rfl (by kernel_rfl) (b_p _ _) ?_;intro U HU)
     have HZ10:=N26;refine a_X ⟨w.heap.size+1,0,none⟩ rfl rfl rfl (a_E HZ10.out 33 Tryz.underlying33 rfl (by kernel_rfl)) ?_;have hkU:=N8;exact a_Z (L:=L9) (by rw [HYD.out]) (a_D HQ2.out.1 (a_z hkU HR9.out)) (by rw [HU.out];exact a_g (by omega) HB9.out)
    ·have HYF:=hid (show b_k X j (⟨t.pc+1,t.r,t.fs,t.st,t.ft,t.lf⟩:Thr)=Y by rw [←HYG.out,o_m (.inl rfl)];rfl);exact J4
    ·have HYF:=hid (show b_k X j (⟨t.pc+1,t.r,t.fs,t.st,t.ft,t.lf⟩:Thr)=Y by rw [←HYG.out,o_m (.inr rfl)];rfl);exact J4
theorem j_A (L:WoL) (X:Wo) (k v:Int) (w:World) (R:RWo Any w L X) (hrw:a_6 X=true) :
  Calls Tryz.prog 64 #[woV L X.D,.agg #[.int .i64 k,.int .i64 v]] w (b_h (e_f X (k,v)) w):=by
 obtain ⟨y,hy⟩:=mn (e_f X (k,v));rw [hy];obtain ⟨D,hD⟩:=mn (X.D);rw [hD];have ⟨HD,HY,HR,HRW⟩:=hh4 hD hy R hrw;have HTL:=N146;have HBN:=hid (show L.bs.n=L.th.n by have h:=(a_M hrw).2.2.1;have:=R.bs.1;have:=R.th.1;omega);obtain ⟨W,hW⟩:=nm ((w.alloc (Obj.cells (woC L D).toArray 33)).alloc (Obj.cells #[.int .i64 k,.int .i64 v] 68));have HX:=N53;have HA:=hid (show a_p W (w.heap.size+1) [.int .i64 k,.int .i64 v] by rw [hW];exact a_e _ _ (by simp));have HB:=N3;have HW:=hid hW;clear hy hD R hrw hW;unfold woV
 go_enter Tryz.func64,Tryz.ntmps64
 go_upto_region 1 with fail
 rw [←HW.out];obtain ⟨a1,-⟩:=HA.out 1 _ rfl;have h0:=o_A L D v W
 by_cases hv:0≤v∧v < L.th.n
 ·rw [decide_eq_true hv] at h0;have HC:=hid h0;obtain ⟨j,hj⟩:∃ j:Nat,v=j:=⟨v.toNat,by omega⟩;subst hj;have hj:j < L.th.n:=by omega
  have HHW:=hid (show f_r X j=true by rw [f_r,HTL.out];exact decide_eq_true hv);clear h0 hv
  go_wp2_with (refine wpList_load_mid rfl 33 _ rfl (w.heap.size) 0 rfl (woC L D) _ (a_f HX.out) Tryz.underlying33 rfl (by kernel_rfl) ?_)
  refine HC.out.mono ?_;clear HC a1;rintro e1 w1 ⟨rfl,hb1⟩;have HX1:=hid (a_h hb1 HX.out);have HA1:=hid (a_h hb1 HA.out);have HB1:=hid (a_a HB.out hb1);have HR1:=hid (b_q HB1.out HR.out);clear hb1;obtain ⟨a0,-⟩:=HA1.out 0 _ rfl;obtain ⟨a1,-⟩:=HA1.out 1 _ rfl
  by_cases hk:k=0
  ·subst hk;have HYV:=hid (show g_8 X j=y by rw [←HY.out,e_f,if_pos rfl];simp only [HHW.out,Bool.true_and,Int.toNat_natCast]);have h0:=q_x L X j w1 HR1.out hj HRW.out;rw [HYV.out,HD.out] at h0;have HC:=hid h0;clear h0
   go_wp2_with (refine wpList_load_mid rfl 33 _ rfl (w.heap.size) 0 rfl (woC L D) _ (a_f HX1.out) Tryz.underlying33 rfl (by kernel_rfl) ?_)
   refine HC.out.mono ?_;clear HC a0 a1;rintro e2 w2 ⟨rfl,hb2⟩;have HB2:=hid (a_a HB1.out hb2);clear hb2
   go_wp2
   go_ret
   exact a_k rfl HB2.out
  ·have hk0:(k==0)=false:=by simpa using hk
   by_cases h1:k=1
   ·subst h1;have HYV:=hid (show decide ((bfW X j).length≠0)=y by rw [←HY.out,e_f,if_neg (by simp)];simp only [HHW.out,Bool.true_and,Int.toNat_natCast,decide_true]);obtain ⟨bb,bo,q,c,hba,hbc,-,-⟩:=f_p HR1.out.bs (i:=j) (by have:=HBN.out;omega);obtain ⟨bl,hbl⟩:=mn ((X.bs.getD j []).length);rw [hbl] at hbc
    have HYW:=hid (show decide (0 < bl)=y by
     rw [←HYV.out,show (bfW X j).length=bl from hbl]
     by_cases e:bl=0
     ·subst e;simp
     ·rw [decide_eq_true (show 0 < bl by omega),decide_eq_true e])
    obtain ⟨x4,-⟩:=HX1.out 4 _ rfl;rw [hba] at x4;have i1:(0:Int)≤j:=by omega
    have i2:(j:Int) < L.bs.n:=by have:=HBN.out;omega
    clear hbl hba
    go_wp2_with fail
    go_ret
    exact a_k HYW.out.symm HB1.out
   ·have hk1:(k==1)=false:=by simpa using h1
    have HYV:=hid (show false=y by rw [←HY.out,e_f,if_neg hk,decide_eq_false h1];simp)
    go_wp2_with fail
    go_ret
    exact a_k (s:=false) HYV.out.symm HB1.out
 ·rw [decide_eq_false hv] at h0;have HC:=hid h0;have HYV:=hid (show false=y by rw [←HY.out,e_f,f_r,HTL.out,decide_eq_false hv];rfl);clear h0 hv
  go_wp2_with (refine wpList_load_mid rfl 33 _ rfl (w.heap.size) 0 rfl (woC L D) _ (a_f HX.out) Tryz.underlying33 rfl (by kernel_rfl) ?_)
  refine HC.out.mono ?_;clear HC a1;rintro e1 w1 ⟨rfl,hb1⟩;have HB1:=hid (a_a HB.out hb1);clear hb1
  go_wp2
  go_ret
  exact a_k (s:=false) HYV.out.symm HB1.out
theorem t_o (X:Wo) (k:Nat):(c_R X k).D=X.D:=by
 unfold c_R d_3
 repeat' split
 all_goals rfl
theorem m_T {X:Wo} {n:Nat} (h:a_6 X=true) (hn:X.th.length=n):t_A n X.th:=fun t ht=>by
 have h1:=(a_M h).2.2.2 t ht;simp only [e_o,a_R,b_6,Bool.and_eq_true,decide_eq_true_eq,List.all_eq_true] at h1;exact ⟨by have:=h1.2;omega,h1.1.2.2⟩
theorem n_8 (Q:Nat→Prop) (L:WoL) (X:Wo) (k v:Int) (w:World) (R:RWo Q w L X) (hQ:∀ b,w.heap.size≤b→Q b) (hrw:a_6 X=true) (hen:L.ev.n≤100000) (hwf:∀ j k,k < 8→(Lit.int .i64 ((thW X j).r k)).wf=true) :
  Calls Tryz.prog 29 #[woV L X.D,.agg #[.int .i64 k,.int .i64 v]] w (b_D Q (doW X (k,v)) w):=by
 obtain ⟨Y,hy⟩:=mn (doW X (k,v));rw [hy];obtain ⟨D,hD⟩:=mn (X.D);rw [hD];have ⟨HD,HY,HRW,HEN,HWF⟩:=hh5 hD hy hrw hen hwf;have HTL:=N146;have HBN:=hid (show L.bs.n=L.th.n∧L.th.n≤8 by have h:=(a_M hrw).2.2.1;have h2:=(a_S (a_M hrw).2.1).2.1;have:=R.bs.1;have:=R.th.1;omega);obtain ⟨Q1,hQ1⟩:∃ Q1:Nat→Prop,Q1=fun b=>Q b∧(b < w.heap.size∨w.heap.size+3≤b):=⟨_,rfl⟩
 have HQ2:=N30;have HR:=N41;obtain ⟨W,hW⟩:=nm (((w.alloc (Obj.cells (woC L D).toArray 33)).alloc (Obj.cells #[.int .i64 k,.int .i64 v] 68)).alloc (Obj.cells woZ.toArray 33));have HX:=N71;have HA:=hid (show a_p W (w.heap.size+1) [.int .i64 k,.int .i64 v] by rw [hW];exact a_s _ (a_e _ _ (by simp)));have HZ:=N84;have HB:=N3;have HS:=N124;have HW:=hid hW;clear hy hD R hrw hW hQ1 hQ hen hwf;unfold woV
 go_enter Tryz.func29,Tryz.ntmps29
 go_upto_region 1 with fail
 rw [←HW.out];have h0:=j_A L X k v W (c_L (b_q HB.out HR.out)) HRW.out;rw [HD.out] at h0;obtain ⟨b,hb⟩:=mn (e_f X (k,v));rw [hb] at h0;have ⟨HBB,HC⟩:=hh2 hb h0;clear h0 hb
 go_wp2_with (first | (refine wpList_load_mid rfl 33 _ rfl (w.heap.size) 0 rfl (woC L D) _ (a_f HX.out) Tryz.underlying33 rfl (by kernel_rfl) ?_) | (refine wpList_load_mid rfl 68 _ rfl (w.heap.size+1) 0 rfl [.int .i64 k,.int .i64 v] _ (a_f HA.out) Tryz.underlying68 rfl (by kernel_rfl) ?_))
 refine HC.out.mono ?_;clear HC;rintro e1 w1 ⟨rfl,hb1⟩;have HX1:=hid (a_h hb1 HX.out);have HA1:=hid (a_h hb1 HA.out);have HZ1:=hid (a_h hb1 HZ.out);have HB1:=hid (a_a HB.out hb1);have HR1:=hid (b_q HB1.out HR.out);have HS1:=hid (show w.heap.size+3≤w1.heap.size by have:=hb1.size;have:=HS.out;omega);clear hb1 HX HA HZ HB HS
 cases b with
 | false =>
  have HYF:=hid (show X=Y by rw [←HY.out,doW,if_neg (by rw [HBB.out];decide)])
  go_wp2_with (first | (refine wpList_load_mid rfl 33 _ rfl (w.heap.size) 0 rfl (woC L D) _ (a_f HX1.out) Tryz.underlying33 rfl (by kernel_rfl) ?_) | (refine a_c rfl 33 _ _ rfl (w.heap.size+2) (woC L D).toArray rfl rfl _ HZ1.out rfl (by kernel_rfl) (b_p _ _) ?_;intro U HU))
  have HZ2:=hid (show a_p U (w.heap.size+2) (woC L D) by rw [HU.out];exact a_q HZ1.out rfl);refine a_X ⟨w.heap.size+2,0,none⟩ rfl rfl rfl (a_E HZ2.out 33 Tryz.underlying33 rfl (by kernel_rfl)) ?_;have hkU:Kept Q1 w1 U:=by rw [HU.out];exact a_u (fun b hb=>by have:=HQ2.out.2.1 b hb;omega)
  rw [←HYF.out];exact a_Z (L:=L) (by rw [HD.out]) (a_D HQ2.out.1 (a_z hkU HR1.out)) (by rw [HU.out];exact a_g (by omega) HB1.out)
 | true =>
  have hdd:=HBB.out;unfold e_f at hdd
  have hh:f_r X v=true:=by
   have h1:=hdd;simp only [Bool.and_eq_true] at h1;exact h1.1
  rw [f_r,HTL.out,decide_eq_true_eq] at hh;obtain ⟨j,hj⟩:∃ j:Nat,v=j:=⟨v.toNat,by omega⟩;subst hj;have hj:j < L.th.n:=by omega
  obtain ⟨a0,-⟩:=HA1.out 0 _ rfl;obtain ⟨a1,-⟩:=HA1.out 1 _ rfl;have hQw:∀ b,w1.heap.size≤b→Q1 b:=fun b hb=>HQ2.out.2.2 b (by have:=HS1.out;omega)
  by_cases hk:k=0
  ·subst hk;have HYF:=hid (show c_R X j=Y by rw [←HY.out,doW,if_pos HBB.out,if_pos rfl,Int.toNat_natCast]);have h0:=n_O Q1 L X j w1 HR1.out hj hQw (by have:=HBN.out.2;omega) HEN.out HRW.out (HWF.out j);rw [HYF.out,HD.out] at h0;have HC:=hid h0;have HDY:=hid (show Y.D=D by rw [←HYF.out,←HD.out];exact t_o X j);clear h0 hdd hh hQw;exact J30
  ·have hk0:(k==0)=false:=by simpa using hk
   have hb0:(bfW X j).length≠0:=by
    simp only [if_neg hk,Bool.and_eq_true,decide_eq_true_eq,Int.toNat_natCast] at hdd;exact hdd.2.2
   have HYF:=hid (show d_x X j=Y by rw [←HY.out,doW,if_pos HBB.out,if_neg hk,Int.toNat_natCast]);have hm:=a_S (a_M HRW.out).2.1;have h0:=m_O Q1 L X j w1 HR1.out hj hQw HBN.out.2 HBN.out.1 (by have h:=(hm.2.2.2 j (by have:=HR1.out.bs.1;have:=HBN.out.1;omega)).1;have:=hm.2.2.1.2;show (X.bs.getD j []).length≤8;omega) (by omega) hm.1 (m_T HRW.out HTL.out);rw [HYF.out,HD.out] at h0;have HC:=hid h0;have HDY:=N136;clear h0 hdd hh hQw hm hb0 hk;exact J30
def k_n (X:Wo):List (Int×Int)→Nat
 | []=>0
 | a::l=>(if e_f X a=true then 1 else 0)+k_n (doW X a) l
theorem r_r {l:List (Int×Int)}:∀ {X:Wo} {a:Int×Int},k_n X (l++[a])=k_n X l+(if e_f (j_4 X l) a=true then 1 else 0):=by
 induction l with
 | nil=>intro X a;show _+0=0+_;rw [Nat.add_zero,Nat.zero_add];rfl
 | cons b l ih =>
  intro X a;rw [List.cons_append,k_n,ih,k_n,Nat.add_assoc]
  rfl
theorem p_v {X:Wo} {l:List (Int×Int)} {k:Nat} {a:Int×Int} (h:l[k]?=some a):k_n X (l.take (k+1))=k_n X (l.take k)+(if e_f (j_4 X (l.take k)) a=true then 1 else 0):=by
 obtain ⟨hk,rfl⟩:=List.getElem?_eq_some_iff.1 h;rw [List.take_succ_eq_append_getElem hk,r_r]
theorem t_m {l:List (Int×Int)}:∀ {X:Wo},k_n X l≤l.length:=by
 induction l with
 | nil=>intro X;exact Nat.le_refl _
 | cons a l ih =>
  intro X;have:=@ih (doW X a);rw [k_n,List.length_cons]
  split <;> omega
def l_F (Q:Nat→Prop) (Y:Wo) (n:Nat) (w:World) (e:Ending) (w':World):Prop:=∃ L,e=.returned (.tuple #[woV L Y.D,.int .i64 n])∧RWo Q w' L Y∧Below w.heap.size w w'
theorem q_c (Q:Nat→Prop) (L:WoL) (X:Wo) (acts:List (Int×Int)) (m:Nat) (aa:Option Addr) (an ac:Nat) (w:World) (R:RWo Q w L X) (A:Vs e_3 Any w aa an acts) (hQ:∀ b,w.heap.size≤b→Q b) (ok:OkW X m) (hm:m+an≤100000) :
  Calls Tryz.prog 28 #[woV L X.D,.slice aa an ac] w (l_F Q (j_4 X acts) (k_n X acts) w):=by
 have HSL:=hid (show acts.length=an from A.1);obtain ⟨D,hD⟩:=mn (X.D);obtain ⟨Q1,hQ1⟩:∃ Q1:Nat→Prop,Q1=fun b=>Q b∧(b < w.heap.size∨w.heap.size+2≤b):=⟨_,rfl⟩
 have HQ2:=N102;obtain ⟨W,hW⟩:=nm ((w.alloc (Obj.cells (woC L X.D).toArray 33)).alloc (Obj.cells woZ.toArray 33));have HX:=hid (show a_p W w.heap.size (woC L X.D) by rw [hW];exact a_s _ (a_e _ _ rfl));have HZ:=N241;have HB:=N3;have HSZ:=N43;have HRW:=hid (show RWo Q1 W L X from a_D (fun b h=>by rw [hQ1];exact ⟨h.1,.inl h.2⟩) (a_z (c_r HB.out (fun _ h=>h.2)) (c_h R)));have ⟨HA,HOK,HMM,HW⟩:=hh4 A ok hm hW;clear hW R A hQ ok hm hQ1 hD;unfold woV
 go_enter Tryz.func28,Tryz.ntmps28
 go_upto_region 1 with fail
 rw [←HW.out]
 go_wp2_with fail
 go_loopw [6,11] (fun c i wr=>∃ (k:Nat) (L1:WoL),k≤an∧i=.int .i64 k∧c=.int .i64 (k_n X (acts.take k))∧Hid (a_p wr w.heap.size (woC L1 (j_4 X (acts.take k)).D))∧Hid (a_p wr (w.heap.size+1) woZ)∧Hid (Below w.heap.size w wr)∧Hid (RWo Q1 wr L1 (j_4 X (acts.take k)))) (fun _ i _=>an - (intOf i).toNat)
 case atStart=>exact ⟨0,L,Nat.zero_le _,rfl,rfl,HX.out,HZ.out,HB.out,HRW.out⟩
 case round =>
  obtain ⟨k,L1,hk,rfl,rfl,hx,hz,hb,hr⟩:=hrel;have hsz:=a_N hz.out (by simp);have HSX:=hid (show w.heap.size+2≤wr.heap.size by omega)
  by_cases hlt:k < an
  ·obtain ⟨b,o,⟨p,v⟩,rfl,ht,-,hA⟩:=j_a HA.out hlt;obtain ⟨cs,hc1,hc2⟩:=hA;have hc1:cs=[.int .i64 p,.int .i64 v]:=hc1;subst hc1;have HRA:=hid (show wr.rangeAt b (o+k*2) [.int .i64 p,.int .i64 v] from fun j u hu=>a_t hb.out (hc2 j u hu));have HTK:=hid (r_s (X:=X) ht);have HNK:=hid (p_v (X:=X) ht);have hok:=o_8 (l:=acts.take k) HOK.out;rw [List.length_take,HSL.out,Nat.min_eq_left hk] at hok;have HOZ:=hid hok;have HNL:=hid (show k_n X (acts.take k)≤100000 by have:=t_m (X:=X) (l:=acts.take k);rw [List.length_take] at this;have:=HMM.out;omega);obtain ⟨Z,hZ⟩:=mn (j_4 X (acts.take k));obtain ⟨nn,hnn⟩:=mn (k_n X (acts.take k));rw [hZ] at HTK HNK hx hr HOZ;rw [hnn] at HNK HNL ⊢;have HHX:=hx;have HHZ:=hz;have HHB:=hb;have HHR:=hr;have i1:(0:Int)≤k:=by omega
   have i2:(k:Int) < an:=by omega
   have hwk:wrap64 ((k:Int)+1)=k+1:=IntWalk.wrap64_in _ (by have:=HMM.out;omega);have hwn:wrap64 ((nn:Int)+1)=nn+1:=IntWalk.wrap64_in _ (by have:=HNL.out;omega);clear hx hz hb hr hc2 ht hZ hnn hok hsz
   go_upto_region 5 with (first | (refine wpList_load_mid rfl 68 _ rfl b (o+k*2) rfl [.int .i64 p,.int .i64 v] _ HRA.out Tryz.underlying68 rfl (by kernel_rfl) ?_) | (refine a_c rfl 68 _ _ rfl wr.heap.size #[.int .i64 p,.int .i64 v] rfl rfl _ (a_e [.int .i64 0,.int .i64 0] wr.heap.size rfl) rfl (by kernel_rfl) (by simp [Value.oneCell']) ?_;intro U HU))
   have HBU0:=hid (show Below wr.heap.size wr U by rw [HU.out];exact a_g (Nat.le_refl _) ((Below.refl _ _).alloc (Nat.le_refl _) _));have HUX:=hid (a_h HBU0.out HHX.out);have HUZ:=hid (a_h HBU0.out HHZ.out);have HUA:=hid (show a_p U wr.heap.size [.int .i64 p,.int .i64 v] by rw [HU.out];exact a_q (a_e [.int .i64 0,.int .i64 0] wr.heap.size rfl) rfl);have HUB:=hid (a_a HHB.out HBU0.out);have HUR:=hid (b_q HBU0.out HHR.out);have HSU:=hid (show w.heap.size+2≤U.heap.size by have:=HBU0.out.size;have:=HSX.out;omega);have HC:=hid (j_A L1 Z p v U (c_L HUR.out) HOZ.out.right);clear HU
   go_wp2_with (first | (refine wpList_load_mid rfl 33 _ rfl w.heap.size 0 rfl (woC L1 Z.D) _ (a_f HUX.out) Tryz.underlying33 rfl (by kernel_rfl) ?_) | (refine wpList_load_mid rfl 68 _ rfl wr.heap.size 0 rfl [.int .i64 p,.int .i64 v] _ (a_f HUA.out) Tryz.underlying68 rfl (by kernel_rfl) ?_))
   refine HC.out.mono ?_;clear HC;rintro e1 w1 ⟨rfl,hb1⟩;have H1X:=hid (a_h hb1 HUX.out);have H1Z:=hid (a_h hb1 HUZ.out);have H1A:=hid (a_h hb1 HUA.out);have H1B:=hid (a_a HUB.out hb1);have H1R:=hid (b_q hb1 HUR.out);have HS1:=hid (show w.heap.size+2≤w1.heap.size by have:=hb1.size;have:=HSU.out;omega);clear hb1
   cases hd:e_f Z (p,v) with
   | false =>
    have HTK2:=hid (show j_4 X (acts.take (k+1))=Z by rw [HTK.out,doW,if_neg (by rw [hd];decide)]);have HNK2:=hid (show k_n X (acts.take (k+1))=nn by rw [HNK.out,if_neg (by rw [hd];decide)];rfl);clear hd
    go_wp2_with fail
    go_roundw
    case rel=>exact ⟨k+1,L1,by omega,by go_num,by rw [HNK2.out],by rw [HTK2.out];exact H1X.out,H1Z.out,H1B.out,by rw [HTK2.out];exact H1R.out⟩
    case measure=>rw [hwk];simp only [intOf];omega
   | true =>
    have HNK2:=hid (show k_n X (acts.take (k+1))=nn+1 by rw [HNK.out,if_pos hd]);have HC:=hid (n_8 Q1 L1 Z p v w1 H1R.out (fun b hb=>HQ2.out.2.2 b (by have:=HS1.out;omega)) HOZ.out.right (by have h:=HOZ.out.ev;have h2:=H1R.out.ev.1;have:=HMM.out;omega) (g_v HOZ.out.wf));obtain ⟨Y,hY⟩:=mn (doW Z (p,v));rw [hY] at HC HTK;clear hd hY
    go_upto_region 7 with fail
    go_wp2_with (first | (refine wpList_load_mid rfl 33 _ rfl w.heap.size 0 rfl (woC L1 Z.D) _ (a_f H1X.out) Tryz.underlying33 rfl (by kernel_rfl) ?_) | (refine wpList_load_mid rfl 68 _ rfl wr.heap.size 0 rfl [.int .i64 p,.int .i64 v] _ (a_f H1A.out) Tryz.underlying68 rfl (by kernel_rfl) ?_))
    refine HC.out.mono ?_;clear HC;rintro e2 w2 ⟨L9,rfl,hr9,hb2⟩;have H2X:=hid (a_h hb2 H1X.out);have H2Z:=hid (a_h hb2 H1Z.out);have H2B:=hid (a_a H1B.out hb2);have H2R:=hid hr9;clear hr9 hb2
    go_upto_region 8 with (refine a_c rfl 33 _ _ rfl w.heap.size (woC L9 Y.D).toArray rfl rfl _ H2X.out rfl (by kernel_rfl) (b_p _ _) ?_;intro V HV)
    have H3X:=hid (show a_p V w.heap.size (woC L9 Y.D) by rw [HV.out];exact a_q H2X.out rfl);have H3Z:=hid (show a_p V (w.heap.size+1) woZ by rw [HV.out];exact a_j (by omega) H2Z.out);have H3B:=hid (show Below w.heap.size w V by rw [HV.out];exact a_g (Nat.le_refl _) H2B.out);have H3R:=hid (show RWo Q1 V L9 Y from a_z (by rw [HV.out];exact a_u (fun b hb=>by have:=HQ2.out.2.1 b hb;omega)) H2R.out);clear HV
    go_wp2_with fail
    go_roundw
    case rel=>exact ⟨k+1,L9,by omega,by go_num,by rw [HNK2.out];rfl,by rw [HTK.out];exact H3X.out,H3Z.out,H3B.out,by rw [HTK.out];exact H3R.out⟩
    case measure=>rw [hwk];simp only [intOf];omega
  ·obtain rfl:k=an:=by omega
   have hr2:=hr.out;have hx2:=hx.out;rw [List.take_of_length_le (by have:=HSL.out;omega)] at hr2 hx2 ⊢;have ⟨HHX,HHR⟩:=hh2 hx2 hr2;have HHB:=hb;have HHZ:=hz;clear hx hr hz hb hx2 hr2
   go_wp2_with (first | (refine wpList_load_mid rfl 33 _ rfl w.heap.size 0 rfl (woC L1 (j_4 X acts).D) _ (a_f HHX.out) Tryz.underlying33 rfl (by kernel_rfl) ?_) | (refine a_c rfl 33 _ _ rfl (w.heap.size+1) (woC L1 (j_4 X acts).D).toArray rfl rfl _ HHZ.out rfl (by kernel_rfl) (b_p _ _) ?_;intro V HV))
   refine a_m ⟨w.heap.size+1,0,none⟩ rfl rfl rfl (a_E (show a_p V (w.heap.size+1) (woC L1 (j_4 X acts).D) by rw [HV.out];exact a_q HHZ.out rfl) 33 Tryz.underlying33 rfl (by kernel_rfl)) ?_;exact ⟨L1,rfl,a_D HQ2.out.1 (a_z (by rw [HV.out];exact a_u (fun b hb=>by have:=HQ2.out.2.1 b hb;omega)) HHR.out),by rw [HV.out];exact a_g (by omega) HHB.out⟩
end Go.Proofs.YtogdpojnbgeknaaGreatDoor
