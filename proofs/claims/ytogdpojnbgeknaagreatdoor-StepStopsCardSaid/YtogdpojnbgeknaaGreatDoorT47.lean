import Derived.Test.YtogdpojnbgeknaaGreatDoorT21
import Derived.Test.YtogdpojnbgeknaaGreatDoorT20
import Derived.Test.YtogdpojnbgeknaaGreatDoorT0
import Derived.Test.YtogdpojnbgeknaaGreatDoorT45
import Derived.Test.YtogdpojnbgeknaaGreatDoorT46
import Derived.Test.YtogdpojnbgeknaaGreatDoorT44
import Derived.Test.YtogdpojnbgeknaaGreatDoorT7
import Derived.Test.YtogdpojnbgeknaaGreatDoorT23
set_option maxRecDepth 100000
set_option maxHeartbeats 16000000
namespace Go.Proofs.YtogdpojnbgeknaaGreatDoor
open Go.ChangeShapes Go.WideShapes Go.ChangeAt Go.RowKit
open Gen
open Lib (hid)
theorem l_z {t:Thr} {tg:Int} (h:a_1 t=true) (h1:t.pc≠1000) (h2:0≤tg∧tg≤1000):h_R t=d_w t tg∧g_q t tg=f_d t tg:=by
 have e:d_w t tg=if t.fs.length=6 then 13 else 0:=by rw [d_w,if_pos ⟨h,h1,h2.1,h2.2⟩]
 refine ⟨by rw [e];rfl,?_⟩;rw [f_d,e,g_q]
 by_cases h6:t.fs.length=6
 ·rw [if_pos h6,if_pos h6,if_neg (by decide)]
 ·rw [if_neg h6,if_neg h6,if_pos rfl]
theorem l_w {t:Thr} (h:a_1 t=true):h_P t=e_g t∧g_U t=f_0 t:=by
 have e:e_g t=if t.fs.length=0 then 8 else 0:=by rw [e_g,if_pos h]
 refine ⟨by rw [e];rfl,?_⟩;rw [f_0,e,g_U]
 by_cases h6:t.fs.length=0
 ·rw [if_pos h6,if_pos h6,if_neg (by decide)]
 ·rw [if_neg h6,if_neg h6,if_pos rfl]
theorem q_0 (Q:Nat→Prop) (t:Thr) (self A B C:Int) (fa la:Option Addr) (fn fc ln lc:Nat) (w:World) (F:ThQ Q w fa fn fc la ln lc t) (hQ:∀ b,w.heap.size≤b→Q b) (hf:c_3 (13,A,B,C)=true) (hr:a_1 t=true) (hpc:t.pc≠1000) :
  Calls Tryz.prog 55 #[.agg (thC t fa fn fc la ln lc).toArray,.int .i64 self,.agg #[.int .i64 13,.int .i64 A,.int .i64 B,.int .i64 C]] w (b_6 Q (doT t self (13,A,B,C)) (doE t (13,A,B,C)) w):=by
 obtain ⟨f1,f2,f3,f4,f5⟩:=b_Y hf (show (1:Int)≤13 by decide) (show (13:Int)≤15 by decide);simp only at f1 f2 f3 f4 f5;have hp:=b_D hr;obtain ⟨W,hW⟩:=nm (((w.alloc (Obj.cells (thC t fa fn fc la ln lc).toArray 46)).alloc (Obj.cells #[.int .i64 13,.int .i64 A,.int .i64 B,.int .i64 C] 66)).alloc (Obj.cells thN.toArray 46));have X:=N4;have IV:a_p W (w.heap.size+1) [.int .i64 13,.int .i64 A,.int .i64 B,.int .i64 C]:=by rw [hW];exact a_s _ (a_e [.int .i64 13,.int .i64 A,.int .i64 B,.int .i64 C] _ (by simp))
 have R:=N13;have hB:=N2;have hz:=N32;have hF:=N33;have HQ0:=hid hQ;have HFl:=N48;have ⟨HF0,HX,HI,HR,HB,HW,HZ,HFW⟩:=hh8 F X IV R hB hW hz hF;have HP:=N45;have HRT:=hid (And.intro hr hpc);clear hW X IV R hB hF F hz hp hf hr hpc hQ;obtain ⟨z,hz⟩:=mn (doT t self (13,A,B,C));have HZZ:=hid hz;clear hz;obtain ⟨x,hx⟩:=mn (doE t (13,A,B,C));have HXE:=hid hx;rw [hx];clear hx;have HA1:=hid (f2 (by simp));clear f1 f2 f3 f4 f5
 go_enter Tryz.func55,Tryz.ntmps55
 go_upto_region 1 with fail
 rw [←HW.out];have k0:=(HI.out 0 _ rfl).1;have k1:=(HI.out 1 _ rfl).1;have hl1:=HFl.out;have hl2:=d_G HRT.out.1;have HL:=hid (show fn≤1000 by omega);clear hl1 hl2
 go_wp2_with (refine wpList_load_mid rfl 46 _ rfl w.heap.size 0 rfl (thC t fa fn fc la ln lc) _ (a_f HX.out) Tryz.underlying46 rfl (by kernel_rfl) ?_)
 have h0:=i_F (fun b=>(Q b∧b < w.heap.size)∨W.heap.size≤b) t A fa la fn fc ln lc W (b_y (fun b hb=>Or.inl hb) (a_w (c_o HB.out (fun b hb=>hb.2)) (m_d HF0.out))) (fun b hb=>Or.inr hb) HL.out (by have:=HP.out;omega);rw [(l_z HRT.out.1 HRT.out.2 HA1.out).1,(l_z HRT.out.1 HRT.out.2 HA1.out).2,show d_w t A=x from HXE.out,show f_d t A=z from HZZ.out] at h0;exact J41
theorem q_1 (Q:Nat→Prop) (t:Thr) (self A B C:Int) (fa la:Option Addr) (fn fc ln lc:Nat) (w:World) (F:ThQ Q w fa fn fc la ln lc t) (hQ:∀ b,w.heap.size≤b→Q b) (hf:c_3 (14,A,B,C)=true) (hr:a_1 t=true) (hpc:t.pc≠1000) :
  Calls Tryz.prog 55 #[.agg (thC t fa fn fc la ln lc).toArray,.int .i64 self,.agg #[.int .i64 14,.int .i64 A,.int .i64 B,.int .i64 C]] w (b_6 Q (doT t self (14,A,B,C)) (doE t (14,A,B,C)) w):=by
 obtain ⟨f1,f2,f3,f4,f5⟩:=b_Y hf (show (1:Int)≤14 by decide) (show (14:Int)≤15 by decide);simp only at f1 f2 f3 f4 f5;have hp:=b_D hr;obtain ⟨W,hW⟩:=nm (((w.alloc (Obj.cells (thC t fa fn fc la ln lc).toArray 46)).alloc (Obj.cells #[.int .i64 14,.int .i64 A,.int .i64 B,.int .i64 C] 66)).alloc (Obj.cells thN.toArray 46));have X:=N4;have IV:a_p W (w.heap.size+1) [.int .i64 14,.int .i64 A,.int .i64 B,.int .i64 C]:=by rw [hW];exact a_s _ (a_e [.int .i64 14,.int .i64 A,.int .i64 B,.int .i64 C] _ (by simp))
 have R:=N13;have hB:=N2;have hz:=N32;have hF:=N33;have HQ0:=hid hQ;have HFl:=N48;have ⟨HF0,HX,HI,HR,HB,HW,HZ,HFW⟩:=hh8 F X IV R hB hW hz hF;have HP:=N45;have HRT:=hid (And.intro hr hpc);clear hW X IV R hB hF F hz hp hf hr hpc hQ;obtain ⟨z,hz⟩:=mn (doT t self (14,A,B,C));have HZZ:=hid hz;clear hz;obtain ⟨x,hx⟩:=mn (doE t (14,A,B,C));have HXE:=hid hx;rw [hx];clear hx;clear f1 f2 f3 f4 f5
 go_enter Tryz.func55,Tryz.ntmps55
 go_upto_region 1 with fail
 rw [←HW.out];have k0:=(HI.out 0 _ rfl).1;have k1:=(HI.out 1 _ rfl).1;have hl1:=HFl.out;have hl2:=d_G HRT.out.1;have HL:=hid (show fn≤1000 by omega);clear hl1 hl2
 go_wp2_with (refine wpList_load_mid rfl 46 _ rfl w.heap.size 0 rfl (thC t fa fn fc la ln lc) _ (a_f HX.out) Tryz.underlying46 rfl (by kernel_rfl) ?_)
 have h0:=i_E (fun b=>(Q b∧b < w.heap.size)∨W.heap.size≤b) t fa la fn fc ln lc W (b_y (fun b hb=>Or.inl hb) (a_w (c_o HB.out (fun b hb=>hb.2)) (m_d HF0.out))) (fun b hb=>Or.inr hb) HL.out;rw [(l_w HRT.out.1).1,(l_w HRT.out.1).2,show e_g t=x from HXE.out,show f_0 t=z from HZZ.out] at h0;exact J41
end Go.Proofs.YtogdpojnbgeknaaGreatDoor
namespace Go.Proofs.YtogdpojnbgeknaaGreatDoor
open Go.ChangeShapes Go.WideShapes Go.ChangeAt Go.RowKit
open Gen
theorem i_D (Q:Nat→Prop) (t:Thr) (self:Int) (i:In4) (fa la:Option Addr) (fn fc ln lc:Nat) (w:World) (F:ThQ Q w fa fn fc la ln lc t) (hQ:∀ b,w.heap.size≤b→Q b) (hf:c_3 i=true) (hr:a_1 t=true) (hp:t.pc≠1000) (ho:1≤i.1∧i.1≤15) :
  Calls Tryz.prog 55 #[.agg (thC t fa fn fc la ln lc).toArray,.int .i64 self,.agg #[.int .i64 i.1,.int .i64 i.2.1,.int .i64 i.2.2.1,.int .i64 i.2.2.2]] w (b_6 Q (doT t self i) (doE t i) w):=by
 obtain ⟨o,A,B,C⟩:=i;simp only at ho
 rcases (show o=1∨o=2∨o=3∨o=4∨o=5∨o=6∨o=7∨o=8∨o=9∨o=10∨o=11∨o=12∨o=13∨o=14∨o=15 by omega) with rfl | rfl | rfl | rfl | rfl | rfl | rfl | rfl | rfl | rfl | rfl | rfl | rfl | rfl | rfl
 ·exact s_R Q t self A B C fa la fn fc ln lc w F hQ hf hr hp
 ·exact s_S Q t self A B C fa la fn fc ln lc w F hQ hf hr hp
 ·exact s_T Q t self A B C fa la fn fc ln lc w F hQ hf hr hp
 ·exact s_U Q t self A B C fa la fn fc ln lc w F hQ hf hr hp
 ·exact s_V Q t self A B C fa la fn fc ln lc w F hQ hf hr hp
 ·exact s_W Q t self A B C fa la fn fc ln lc w F hQ hf hr hp
 ·exact s_X Q t self A B C fa la fn fc ln lc w F hQ hf hr hp
 ·exact s_Y Q t self A B C fa la fn fc ln lc w F hQ hf hr hp
 ·exact s_Z Q t self A B C fa la fn fc ln lc w F hQ hf hr hp
 ·exact q_X Q t self A B C fa la fn fc ln lc w F hQ hf hr hp
 ·exact q_Y Q t self A B C fa la fn fc ln lc w F hQ hf hr hp
 ·exact q_Z Q t self A B C fa la fn fc ln lc w F hQ hf hr hp
 ·exact q_0 Q t self A B C fa la fn fc ln lc w F hQ hf hr hp
 ·exact q_1 Q t self A B C fa la fn fc ln lc w F hQ hf hr hp
 ·exact q_2 Q t self A B C fa la fn fc ln lc w F hQ hf hr hp
end Go.Proofs.YtogdpojnbgeknaaGreatDoor
namespace Go.Proofs.YtogdpojnbgeknaaGreatDoor
open Go.ChangeShapes Go.WideShapes Go.ChangeAt Go.RowKit
open Gen
open Lib (hid)
theorem n_D (Q:Nat→Prop) (L:WoL) (X:Wo) (j:Nat) (w:World) (R:RWo Q w L X) (hj:j < L.th.n) (hQ:∀ b,w.heap.size≤b→Q b) (hn:L.th.n≤1000) (hen:L.ev.n≤100000) (hrw:b_i X=true) (hwf:∀ k,k < 8→(Lit.int .i64 ((thW X j).r k)).wf=true) :
  Calls Tryz.prog 23 #[woV L X.D,.int .i64 j] w (b_B Q (d_q X j) w):=by
 obtain ⟨Y,hY⟩:=mn (d_q X j);rw [hY];obtain ⟨D,hD⟩:=mn (X.D);rw [hD];obtain ⟨tb,tq,t,ta,tc,qa,qc,htl,htt,-,T,hr⟩:=d_b R.th hj;have htw:=N53;have HTW:=hid htw;obtain ⟨hrc,hrm,hrl,hro⟩:=a_N hrw
 have HRT:=hid (show a_1 t=true by
  have h:=hro t (List.mem_of_getElem? htt);simp only [e_Q,Bool.and_eq_true] at h;exact h.1)
 have HCL:=hid (show (X.code.length:Int)≤1000 by
  simp only [c_a,Bool.and_eq_true,decide_eq_true_eq] at hrc;have:=hrc.1;omega)
 have HCI:=hid (show ∀ i∈X.code,c_M i X.code.length=true by
  simp only [c_a,Bool.and_eq_true,decide_eq_true_eq,List.all_eq_true] at hrc;exact hrc.2)
 have hpc0:0≤t.pc∧t.pc≤1000:=by
  have h:=HRT.out;exact J92
 obtain ⟨pk,hpk⟩:∃ k:Nat,t.pc=k:=⟨t.pc.toNat,by omega⟩;have HPK:=hid hpk;have HCL2:=hid (show (pk:Int)≤1000 by omega);have HM:=hid (a_X hrm).1;have HBM:=hid (show L.bs.n≤1000 by have h:=(a_X hrm).2.1;have:=R.bs.1;omega)
 have HH:=hid (show j_i X.ws X.ts X.D X.bs j=true by
  rw [j_i,hrm,Bool.true_and,thB,decide_eq_true_eq];have:=R.th.1
  omega)
 have ⟨HWF,HEN⟩:=hh2 hwf hen;clear hen hrc hrm hrl hro hrw hwf hpc0 hpk;obtain ⟨tn,htn⟩:=mn (t.fs.length);obtain ⟨tm,htm⟩:=mn (t.lf.length);have HTN:=hid (And.intro htn htm);obtain ⟨Q1,hQ1⟩:∃ Q1:Nat→Prop,Q1=fun b=>Q b∧(b < w.heap.size∨w.heap.size+3≤b):=⟨_,rfl⟩
 have HQ1:=hid hQ1;have HQ2:=N30;have HR1:=N41;have HT1:=N36;obtain ⟨W,hW⟩:=nm ((w.alloc (Obj.cells (woC L D).toArray 33)).alloc (Obj.cells woZ.toArray 33));have HX:=N52;have HZ:=N63;have HB:=N3;have HSZ:=N43;have HRA:=N28;have ⟨HW,HY,HTL,HD,HN⟩:=hh5 hW hY htl hD hn;rw [htn,htm] at HT1;have i1:(0:Int)≤j:=by omega
 have i2:(j:Int) < L.th.n:=by omega
 clear htl hY hD htt T hr htn htm hQ1 R hW htw hQ hn;unfold woV
 go_enter Tryz.func23,Tryz.ntmps23
 go_upto_region 1 with fail
 rw [←HW.out];obtain ⟨k5,-⟩:=HX.out 5 _ rfl;rw [HTL.out] at k5
 go_upto_region 2 with (first | (refine wpList_load_mid rfl 46 _ rfl tb (tq+j*13) rfl (thC t ta tn tc qa tm qc) _ HRA.out Tryz.underlying46 rfl (by kernel_rfl) ?_) | (refine a_c rfl 46 _ _ rfl W.heap.size (thC t ta tn tc qa tm qc).toArray rfl rfl _ (a_e thN W.heap.size rfl) rfl (by kernel_rfl) (a_K _ _ _ _ _ _ _) ?_;intro V HV))
 rw [HSZ.out];simp only [Act.put];have HX2:=N31;have HZ2:=N74;have HT2:=N90;have HB2:=N27;have HS2:=N119;clear HV HX HZ HB HSZ HRA HW k5 i1 i2;have HT3:=N64;have HR2:=N109;obtain ⟨z0,-⟩:=HT2.out 0 _ rfl;obtain ⟨x0,-⟩:=HX2.out 0 _ rfl;rw [HPK.out] at z0;have hcn:X.code.length=L.co.n:=HR2.out.co.1
 by_cases hpc:L.co.n≤pk
 ·have i3:(L.co.n:Int)≤pk:=by omega
  have HYF:=hid (show b_j X j (b_t t 3)=Y by rw [←HY.out,m_b (by rw [HTW.out,HPK.out];omega),HTW.out])
  have h0:Calls Tryz.prog 52 #[woV L D,.int .i64 j,.int .i64 3] V (b_B Q1 Y V):=by
   have h:=c_W Q1 L X j 3 V HR2.out hj (fun b hb=>HQ2.out.2.2 b (by have:=HS2.out;omega)) HN.out;rw [HTW.out,HD.out,HYF.out] at h;exact h
  clear hpc hcn;have HYD:=N93;have HC:=hid h0;clear h0
  go_wp2_with (first | (refine wpList_load_mid rfl 33 _ rfl (w.heap.size) 0 rfl (woC L D) _ (a_f HX2.out) Tryz.underlying33 rfl (by kernel_rfl) ?_))
  refine HC.out.mono ?_;rintro e9 w9 ⟨L9,rfl,R9,hb9⟩;have HZ9:=hid (a_i hb9 HZ2.out);have HB9:=hid (a_b HB2.out hb9);exact J17
 ·have i3:(pk:Int) < L.co.n:=by omega
  have i4:(0:Int)≤pk:=by omega
  have i5:¬ ((L.co.n:Int)≤pk):=by omega
  obtain ⟨cb,co,op,A,B,C,hca,hci,y0,y1,y2,y3⟩:=l_J (d_3 HR2.out.co) (show pk < L.co.n by omega)
  have HRI:=hid (show V.rangeAt cb (co+pk*4) [.int .i64 op,.int .i64 A,.int .i64 B,.int .i64 C] from fun x v hx=>by
   match x,hx with
   | 0,hx=>cases hx;exact y0
   | 1,hx=>cases hx;exact y1
   | 2,hx=>cases hx;exact y2
   | 3,hx=>cases hx;exact y3)
  rw [hca] at x0;have HIN:=N198
  have HYG:=hid (show goX X j t (op,A,B,C)=Y by
   rw [←HY.out,p_p (by rw [HTW.out,HPK.out];omega),HTW.out,HPK.out,show inW X (pk:Int)=(op,A,B,C) by rw [inW,Int.toNat_natCast,List.getD_eq_getElem?_getD,hci];rfl];rfl)
  clear y0 y1 y2 y3 hci hca
  go_upto_region 5 with (first | (refine wpList_load_mid rfl 66 _ rfl cb (co+pk*4) rfl [.int .i64 op,.int .i64 A,.int .i64 B,.int .i64 C] _ HRI.out Tryz.underlying66 rfl (by kernel_rfl) ?_) | (refine a_c rfl 66 _ _ rfl V.heap.size #[.int .i64 op,.int .i64 A,.int .i64 B,.int .i64 C] rfl rfl _ (a_e [.int .i64 0,.int .i64 0,.int .i64 0,.int .i64 0] V.heap.size rfl) rfl (by kernel_rfl) (by simp [Value.oneCell']) ?_;intro U HU))
  rw [HS2.out];have hkU:Kept (fun b=>Q1 b∧b < V.heap.size) V U:=by rw [HU.out];exact a_6 (e_u _ _) (a_t (fun b hb=>by have:=hb.2;omega))
  have HX3:=N161;have HZ3:=N172;have HT4:=hid (show a_p U (w.heap.size+2) (thC t ta tn tc qa tm qc) by rw [HU.out];exact a_j (by have:=HS2.out;omega) (a_s _ HT2.out));have HI3:=hid (show a_p U (w.heap.size+3) [.int .i64 op,.int .i64 A,.int .i64 B,.int .i64 C] by rw [HU.out,HS2.out];exact a_q (a_e [.int .i64 0,.int .i64 0,.int .i64 0,.int .i64 0] _ HS2.out.symm) rfl);have HB3:=N148;have HS3:=hid (show U.heap.size=w.heap.size+4 by rw [HU.out,a_R];simp [HS2.out]);have HR3:=hid (show RWo Q1 U L X from a_D (fun b h=>h.1) (a_B hkU (c_e HR2.out)));have HH3:=hid (show ThQ Q1 U ta tn tc qa tm qc t from b_y (fun b h=>h.1) (a_w hkU (d_r HT3.out)));clear HU hkU HX2 HZ2 HT2 HB2 HR2 HT3 HS2 HRI z0 x0 i3 i4 i5;obtain ⟨y0,-⟩:=HI3.out 0 _ rfl;obtain ⟨z12,-⟩:=HT4.out 12 _ rfl
  by_cases o0:op=0
  ·subst o0;obtain ⟨z10,f10⟩:=HT4.out 10 _ rfl;have HYF:=hid (show b_j X j ⟨t.pc,t.r,t.fs,1,t.ft,t.lf⟩=Y by rw [←HYG.out,s_r rfl]);obtain ⟨V2,hV2⟩:=nm ((U.setCell ⟨(w.heap.size+2),10,none⟩ (.int .i64 1)));have HX3s:=hid (show a_p V2 (w.heap.size) _ by rw [hV2];exact (a_m (g':=(w.heap.size+2)) (o:=10) HX3.out (by omega) (.int .i64 1)));have HZ3s:=hid (show a_p V2 (w.heap.size+1) _ by rw [hV2];exact (a_m (g':=(w.heap.size+2)) (o:=10) HZ3.out (by omega) (.int .i64 1)));have HT4s:=hid (show a_p V2 ((w.heap.size+2)) (thC (⟨t.pc,t.r,t.fs,1,t.ft,t.lf⟩:Thr) ta tn tc qa tm qc) by have h:=(a_A HT4.out 10 (by simp) (.int .i64 1));rw [hV2];exact h);have hkV2:Kept Q1 U V2:=by rw [hV2];exact (a_T _ _ _ (fun b hb=>by show b≠(w.heap.size+2);have:=HQ2.out.2.1 b hb;omega))
   have HB3s:=hid (show Below w.heap.size w V2 by rw [hV2];exact (HB3.out.setCell (p:=⟨(w.heap.size+2),10,none⟩) (by show _≤(w.heap.size+2);omega) _));have HZV2:=hid (show V2.heap.size=U.heap.size by rw [hV2];simp);have HV2:=hid hV2;clear hV2
   go_upto_region 7 with fail
   rw [←HV2.out];clear z10 f10 y0 z12
   have h0:Calls Tryz.prog 53 #[woV L D,.int .i64 j,thV (⟨t.pc,t.r,t.fs,1,t.ft,t.lf⟩:Thr) ta tn tc qa tm qc] V2 (b_B Q1 Y V2):=by
    have h:=c_R Q1 L X j (⟨t.pc,t.r,t.fs,1,t.ft,t.lf⟩:Thr) ta tc qa qc V2 (a_B hkV2 HR3.out) (by rw [show (⟨t.pc,t.r,t.fs,1,t.ft,t.lf⟩:Thr).fs.length=tn from HTN.out.1,show (⟨t.pc,t.r,t.fs,1,t.ft,t.lf⟩:Thr).lf.length=tm from HTN.out.2];exact c_8 (a_w hkV2 HH3.out)) (fun b hb=>HQ2.out.2.2 b (by have:=HZV2.out;have:=HS3.out;omega)) HN.out;rw [show (⟨t.pc,t.r,t.fs,1,t.ft,t.lf⟩:Thr).fs.length=tn from HTN.out.1,show (⟨t.pc,t.r,t.fs,1,t.ft,t.lf⟩:Thr).lf.length=tm from HTN.out.2,HD.out,HYF.out] at h;exact h
   have HYD:=N93;have HC:=hid h0;clear h0
   go_wp2_with (first | (refine wpList_load_mid rfl 33 _ rfl (w.heap.size) 0 rfl (woC L D) _ (a_f HX3s.out) Tryz.underlying33 rfl (by kernel_rfl) ?_) | (refine wpList_load_mid rfl 46 _ rfl (w.heap.size+2) 0 rfl (thC (⟨t.pc,t.r,t.fs,1,t.ft,t.lf⟩:Thr) ta tn tc qa tm qc) _ (a_f HT4s.out) Tryz.underlying46 rfl (by kernel_rfl) ?_))
   refine HC.out.mono ?_;rintro e9 w9 ⟨L9,rfl,R9,hb9⟩;have HZ9:=hid (a_i hb9 HZ3s.out);have HB9:=hid (a_b HB3s.out hb9);have HR9:=hid R9;clear hb9 R9 HC;rw [HYD.out]
   go_wp2_with (refine a_c rfl 33 _ _ rfl (w.heap.size+1) (woC L9 D).toArray rfl rfl _ HZ9.out rfl (by kernel_rfl) (b_o _ _) ?_;intro U HU)
   have HZ10:=N26;refine a_V ⟨w.heap.size+1,0,none⟩ rfl rfl rfl (a_E HZ10.out 33 Tryz.underlying33 rfl (by kernel_rfl)) ?_;have hkU:=N7;exact a_Y (L:=L9) (by rw [HYD.out]) (a_D HQ2.out.1 (a_B hkU HR9.out)) (by rw [HU.out];exact a_h (by omega) HB9.out)
  ·have o0b:(op==0)=false:=by simpa using o0
   by_cases oL:1≤op∧op≤15
   ·have HLO:=hid oL;clear o0 oL
    go_wp2_with fail
    have h0:=d_2 op U;rw [decide_eq_true HLO.out] at h0;refine h0.mono ?_;clear h0;rintro e9 w9 ⟨rfl,hw9⟩
    cases hw9
    by_cases ht0:0 < tm
    ·have i3:(0:Int) < tm:=by omega
     have HYF:=hid (show b_j X j (b_t t 9)=Y by rw [←HYG.out,s_s HLO.out (by have:=HTN.out.2;omega)]);clear y0;have HDY:=hid (show (b_j X j (b_t t (9))).D=D from HD.out)
     have h0:Calls Tryz.prog 52 #[woV L D,.int .i64 j,.int .i64 (9)] U (b_B Q1 Y U):=by
      have h:=c_W Q1 L X j (9) U HR3.out hj (fun b hb=>HQ2.out.2.2 b (by have:=HS3.out;omega)) HN.out;rw [HTW.out,HD.out,HYF.out] at h;exact h
     have HYD:=N87;have HC:=hid h0;clear h0
     go_wp2_with (first | (refine wpList_load_mid rfl 33 _ rfl (w.heap.size) 0 rfl (woC L D) _ (a_f HX3.out) Tryz.underlying33 rfl (by kernel_rfl) ?_))
     refine HC.out.mono ?_;rintro e9 w9 ⟨L9,rfl,R9,hb9⟩;have HZ9:=hid (a_i hb9 HZ3.out);have HB9:=hid (a_b HB3.out hb9);exact J17
    ·have i3:¬ ((0:Int) < tm):=by omega
     have ht1:t.lf.length=0:=by have:=HTN.out.2;omega
     go_wp2_with fail
     have h0:=d_2 op U;rw [decide_eq_true HLO.out] at h0;refine h0.mono ?_;clear h0;rintro e9 w9 ⟨rfl,hw9⟩
     cases hw9
     have h0:=i_D Q1 t j (op,A,B,C) ta qa tn tc tm qc U HH3.out (fun b hb=>HQ2.out.2.2 b (by have:=HS3.out;omega)) (k_x HIN.out HCL.out HLO.out) HRT.out (by rw [HPK.out];have:=HCL.out;omega) HLO.out;obtain ⟨n,hn⟩:=mn (doT t j (op,A,B,C));obtain ⟨e,he⟩:=mn (doE t (op,A,B,C));have HYL:=hid (show (if e=0 then b_j X j n else b_j X j (b_t t e))=Y by rw [←HYG.out,t_L HLO.out ht1,he,hn]);rw [hn,he] at h0;have HC:=hid h0;clear h0 hn he ht1 ht0
     go_wp2_with (first | (refine wpList_load_mid rfl 46 _ rfl (w.heap.size+2) 0 rfl (thC t ta tn tc qa tm qc) _ (a_f HT4.out) Tryz.underlying46 rfl (by kernel_rfl) ?_) | (refine wpList_load_mid rfl 66 _ rfl (w.heap.size+3) 0 rfl [.int .i64 op,.int .i64 A,.int .i64 B,.int .i64 C] _ (a_f HI3.out) Tryz.underlying66 rfl (by kernel_rfl) ?_))
     refine HC.out.mono ?_;clear HC;rintro e9 w9 ⟨fa,fn,fc,la,ln,lc,rfl,hF,hb9⟩;have HF9:=hid (d_r hF);have HX9:=hid (a_i hb9 HX3.out);have HZ9:=hid (a_i hb9 HZ3.out);have HB9:=hid (a_b HB3.out hb9);have HR9:=hid (c_e (b_G hb9 HR3.out));have HS9:=hid (show w.heap.size+4≤w9.heap.size by have:=hb9.size;have:=HS3.out;omega);clear hF hb9 y0 z12 HX3 HZ3 HB3 HR3 HI3 HT4
     go_upto_region 12 with (refine a_c rfl 46 _ _ rfl w9.heap.size (thC n fa fn fc la ln lc).toArray rfl rfl _ (a_e thN w9.heap.size rfl) rfl (by kernel_rfl) (a_K _ _ _ _ _ _ _) ?_;intro V5 HV5)
     have hk5:Kept (fun b=>Q1 b∧b < w9.heap.size) w9 V5:=by rw [HV5.out];exact a_6 (e_u _ _) (a_t (fun b hb=>by have:=hb.2;omega))
     have HT5:=hid (show a_p V5 w9.heap.size (thC n fa fn fc la ln lc) by rw [HV5.out];exact a_q (a_e thN _ rfl) rfl);have HX5:=hid (show a_p V5 w.heap.size (woC L D) by rw [HV5.out];exact a_j (by have:=HS9.out;omega) (a_s _ HX9.out));have HZ5:=hid (show a_p V5 (w.heap.size+1) woZ by rw [HV5.out];exact a_j (by have:=HS9.out;omega) (a_s _ HZ9.out));have HB5:=hid (show Below w.heap.size w V5 by rw [HV5.out];exact a_h (by have:=HS9.out;omega) (HB9.out.alloc HB9.out.size _));have HR5:=hid (show RWo Q1 V5 L X from a_D (fun b h=>h.1) (a_B hk5 HR9.out));have HF5:=hid (show ThQ Q1 V5 fa fn fc la ln lc n from b_y (fun b h=>h.1) (a_w hk5 HF9.out));have HS5:=hid (show w.heap.size+4≤V5.heap.size by rw [HV5.out,a_R];have:=HS9.out;simp;omega);clear HV5 hk5 HX9 HZ9 HB9 HR9 HF9
     by_cases e0:e=0
     ·subst e0;have HYF:=hid (show b_j X j n=Y by rw [←HYL.out,if_pos rfl]);have hfn:n.fs.length=fn:=HF5.out.fs.1;have hln:n.lf.length=ln:=HF5.out.lf.1
      have h0:Calls Tryz.prog 53 #[woV L D,.int .i64 j,thV n fa fn fc la ln lc] V5 (b_B Q1 Y V5):=by
       have h:=c_R Q1 L X j n fa fc la lc V5 HR5.out (by rw [hfn,hln];exact HF5.out) (fun b hb=>HQ2.out.2.2 b (by have:=HS5.out;omega)) HN.out;rw [hfn,hln,HD.out,HYF.out] at h;exact h
      clear hfn hln;have HYD:=N93;have HC:=hid h0;clear h0
      go_wp2_with (first | (refine wpList_load_mid rfl 33 _ rfl (w.heap.size) 0 rfl (woC L D) _ (a_f HX5.out) Tryz.underlying33 rfl (by kernel_rfl) ?_) | (refine wpList_load_mid rfl 46 _ rfl (w9.heap.size) 0 rfl (thC n fa fn fc la ln lc) _ (a_f HT5.out) Tryz.underlying46 rfl (by kernel_rfl) ?_))
      refine HC.out.mono ?_;rintro e9 w9 ⟨L9,rfl,R9,hb9⟩;have HZ9:=hid (a_i hb9 HZ5.out);have HB9:=hid (a_b HB5.out hb9);have HR9:=hid R9;clear hb9 R9 HC;rw [HYD.out]
      go_wp2_with (refine a_c rfl 33 _ _ rfl (w.heap.size+1) (woC L9 D).toArray rfl rfl _ HZ9.out rfl (by kernel_rfl) (b_o _ _) ?_;intro U HU)
      have HZ10:=N26;refine a_V ⟨w.heap.size+1,0,none⟩ rfl rfl rfl (a_E HZ10.out 33 Tryz.underlying33 rfl (by kernel_rfl)) ?_;have hkU:=N7;exact a_Y (L:=L9) (by rw [HYD.out]) (a_D HQ2.out.1 (a_B hkU HR9.out)) (by rw [HU.out];exact a_h (by omega) HB9.out)
     ·have hk0:(e != 0)=true:=by simpa using e0
      have HYF:=hid (show b_j X j (b_t t e)=Y by rw [←HYL.out,if_neg e0]);clear e0
      have h0:Calls Tryz.prog 52 #[woV L D,.int .i64 j,.int .i64 e] V5 (b_B Q1 Y V5):=by
       have h:=c_W Q1 L X j e V5 HR5.out hj (fun b hb=>HQ2.out.2.2 b (by have:=HS5.out;omega)) HN.out;rw [HTW.out,HD.out,HYF.out] at h;exact h
      have HYD:=N93;have HC:=hid h0;clear h0
      go_wp2_with (first | (refine wpList_load_mid rfl 33 _ rfl (w.heap.size) 0 rfl (woC L D) _ (a_f HX5.out) Tryz.underlying33 rfl (by kernel_rfl) ?_))
      refine HC.out.mono ?_;rintro e9 w9 ⟨L9,rfl,R9,hb9⟩;have HZ9:=hid (a_i hb9 HZ5.out);have HB9:=hid (a_b HB5.out hb9);exact J17
   ·have HLO:=hid oL;have HOR:=hid (show 0≤op∧op < 27 from (d_N HIN.out).1);have HO0:=hid o0;clear o0 oL
    go_wp2_with fail
    have h0:=d_2 op U;rw [decide_eq_false HLO.out] at h0;refine h0.mono ?_;clear h0;rintro e9 w9 ⟨rfl,hw9⟩
    cases hw9
    go_wp2_with fail
    have h0:=d_2 op U;rw [decide_eq_false HLO.out] at h0;refine h0.mono ?_;clear h0;rintro e9 w9 ⟨rfl,hw9⟩
    cases hw9
    have HYD0:=hid (show Y.D=D by
     have h:=HYG.out;rw [←h,←HD.out];unfold goX d_5
     repeat' split
     all_goals rfl)
    rcases (show op=16∨op=17∨(19≤op∧op≤21)∨op=22∨op=24∨op=25∨op=26∨op=18∨op=23 by have:=HOR.out;have:=HLO.out;have:=HO0.out;omega) with rfl | rfl | hL | rfl | rfl | rfl | rfl | rfl | rfl
    ·have HYF:=hid (show p_L X j t (16,A,B,C)=Y by rw [←HYG.out,r_K (.inl rfl)]);have hg:=c_4 HIN.out (.inl rfl);have HDY:=hid (show (p_L X j t (16,A,B,C)).D=D by rw [HYF.out];exact HYD0.out)
     have h0:Calls Tryz.prog 56 #[woV L D,.int .i64 j,inV (16,A,B,C)] U (b_B Q1 Y U):=by
      have h:=g_S Q1 L X j (16,A,B,C) U HR3.out hj (fun b hb=>HQ2.out.2.2 b (by have:=HS3.out;omega)) HN.out HH.out hg.1 hg.2.1 (.inl rfl) (by rw [HTW.out,HPK.out];have:=HCL2.out;omega);rw [HTW.out,HD.out,HYF.out] at h;exact h
     have HYD:=N87;have HC:=hid h0;clear h0
     go_wp2_with (first | (refine wpList_load_mid rfl 33 _ rfl (w.heap.size) 0 rfl (woC L D) _ (a_f HX3.out) Tryz.underlying33 rfl (by kernel_rfl) ?_) | (refine wpList_load_mid rfl 66 _ rfl (w.heap.size+3) 0 rfl [.int .i64 16,.int .i64 A,.int .i64 B,.int .i64 C] _ (a_f HI3.out) Tryz.underlying66 rfl (by kernel_rfl) ?_))
     refine HC.out.mono ?_;rintro e9 w9 ⟨L9,rfl,R9,hb9⟩;have HZ9:=hid (a_i hb9 HZ3.out);have HB9:=hid (a_b HB3.out hb9);have HR9:=hid R9;clear hb9 R9 HC;rw [HYD.out]
     go_wp2_with (refine a_c rfl 33 _ _ rfl (w.heap.size+1) (woC L9 D).toArray rfl rfl _ HZ9.out rfl (by kernel_rfl) (b_o _ _) ?_;intro U HU)
     have HZ10:=N26;refine a_V ⟨w.heap.size+1,0,none⟩ rfl rfl rfl (a_E HZ10.out 33 Tryz.underlying33 rfl (by kernel_rfl)) ?_;have hkU:=N7;exact a_Y (L:=L9) (by rw [HYD.out]) (a_D HQ2.out.1 (a_B hkU HR9.out)) (by rw [HU.out];exact a_h (by omega) HB9.out)
    ·have HYF:=hid (show p_L X j t (17,A,B,C)=Y by rw [←HYG.out,r_K (.inr rfl)]);have hg:=c_4 HIN.out (.inr (.inl rfl));have HDY:=hid (show (p_L X j t (17,A,B,C)).D=D by rw [HYF.out];exact HYD0.out)
     have h0:Calls Tryz.prog 56 #[woV L D,.int .i64 j,inV (17,A,B,C)] U (b_B Q1 Y U):=by
      have h:=g_S Q1 L X j (17,A,B,C) U HR3.out hj (fun b hb=>HQ2.out.2.2 b (by have:=HS3.out;omega)) HN.out HH.out hg.1 hg.2.1 (.inr rfl) (by rw [HTW.out,HPK.out];have:=HCL2.out;omega);rw [HTW.out,HD.out,HYF.out] at h;exact h
     have HYD:=N87;have HC:=hid h0;clear h0
     go_wp2_with (first | (refine wpList_load_mid rfl 33 _ rfl (w.heap.size) 0 rfl (woC L D) _ (a_f HX3.out) Tryz.underlying33 rfl (by kernel_rfl) ?_) | (refine wpList_load_mid rfl 66 _ rfl (w.heap.size+3) 0 rfl [.int .i64 17,.int .i64 A,.int .i64 B,.int .i64 C] _ (a_f HI3.out) Tryz.underlying66 rfl (by kernel_rfl) ?_))
     refine HC.out.mono ?_;rintro e9 w9 ⟨L9,rfl,R9,hb9⟩;have HZ9:=hid (a_i hb9 HZ3.out);have HB9:=hid (a_b HB3.out hb9);have HR9:=hid R9;clear hb9 R9 HC;rw [HYD.out]
     go_wp2_with (refine a_c rfl 33 _ _ rfl (w.heap.size+1) (woC L9 D).toArray rfl rfl _ HZ9.out rfl (by kernel_rfl) (b_o _ _) ?_;intro U HU)
     have HZ10:=N26;refine a_V ⟨w.heap.size+1,0,none⟩ rfl rfl rfl (a_E HZ10.out 33 Tryz.underlying33 rfl (by kernel_rfl)) ?_;have hkU:=N7;exact a_Y (L:=L9) (by rw [HYD.out]) (a_D HQ2.out.1 (a_B hkU HR9.out)) (by rw [HU.out];exact a_h (by omega) HB9.out)
    ·have HYF:=hid (show k_I X j t (op,A,B,C)=Y by rw [←HYG.out,s_t hL]);have hg:=c_4 HIN.out (.inr (.inr (.inl hL)));have HLK:=hid hL;have q16:(op==16)=false:=by simp;omega
     have q17:(op==17)=false:=by simp;omega
     have q19:19≤op:=hL.1;have q21:op≤21:=hL.2;clear hL;have HDY:=hid (show (k_I X j t (op,A,B,C)).D=D by rw [HYF.out];exact HYD0.out)
     have h0:Calls Tryz.prog 57 #[woV L D,.int .i64 j,inV (op,A,B,C)] U (b_B Q1 Y U):=by
      have h:=k_K Q1 L X j (op,A,B,C) U HR3.out hj (fun b hb=>HQ2.out.2.2 b (by have:=HS3.out;omega)) HN.out HH.out hg.1 hg.2.1 (hg.2.2 HLK.out) HLK.out (by rw [HTW.out,HPK.out];have:=HCL2.out;omega);rw [HTW.out,HD.out,HYF.out] at h;exact h
     have HYD:=N87;have HC:=hid h0;clear h0
     go_wp2_with (first | (refine wpList_load_mid rfl 33 _ rfl (w.heap.size) 0 rfl (woC L D) _ (a_f HX3.out) Tryz.underlying33 rfl (by kernel_rfl) ?_) | (refine wpList_load_mid rfl 66 _ rfl (w.heap.size+3) 0 rfl [.int .i64 op,.int .i64 A,.int .i64 B,.int .i64 C] _ (a_f HI3.out) Tryz.underlying66 rfl (by kernel_rfl) ?_))
     refine HC.out.mono ?_;rintro e9 w9 ⟨L9,rfl,R9,hb9⟩;have HZ9:=hid (a_i hb9 HZ3.out);have HB9:=hid (a_b HB3.out hb9);have HR9:=hid R9;clear hb9 R9 HC;rw [HYD.out]
     go_wp2_with (refine a_c rfl 33 _ _ rfl (w.heap.size+1) (woC L9 D).toArray rfl rfl _ HZ9.out rfl (by kernel_rfl) (b_o _ _) ?_;intro U HU)
     have HZ10:=N26;refine a_V ⟨w.heap.size+1,0,none⟩ rfl rfl rfl (a_E HZ10.out 33 Tryz.underlying33 rfl (by kernel_rfl)) ?_;have hkU:=N7;exact a_Y (L:=L9) (by rw [HYD.out]) (a_D HQ2.out.1 (a_B hkU HR9.out)) (by rw [HU.out];exact a_h (by omega) HB9.out)
    ·have HYF:=hid (show g_p X j t=Y by rw [←HYG.out,q_p rfl]);have HDY:=hid (show (g_p X j t).D=D by rw [HYF.out];exact HYD0.out)
     have h0:Calls Tryz.prog 58 #[woV L D,.int .i64 j] U (b_B Q1 Y U):=by
      have h:=m_q Q1 L X j U HR3.out hj (fun b hb=>HQ2.out.2.2 b (by have:=HS3.out;omega)) HN.out HBM.out (by rw [HTW.out,HPK.out];have:=HCL2.out;omega);rw [HTW.out,HD.out,HYF.out] at h;exact h
     have HYD:=N87;have HC:=hid h0;clear h0
     go_wp2_with (first | (refine wpList_load_mid rfl 33 _ rfl (w.heap.size) 0 rfl (woC L D) _ (a_f HX3.out) Tryz.underlying33 rfl (by kernel_rfl) ?_))
     refine HC.out.mono ?_;rintro e9 w9 ⟨L9,rfl,R9,hb9⟩;have HZ9:=hid (a_i hb9 HZ3.out);have HB9:=hid (a_b HB3.out hb9);exact J17
    ·have HYF:=hid (show i_x X j t (24,A,B,C)=Y by rw [←HYG.out,n_7 (.inl rfl)]);have hg:=c_4 HIN.out (.inr (.inr (.inr (show (23:Int)≤24∧(24:Int)≤25 by decide))));have HDY:=hid (show (i_x X j t (24,A,B,C)).D=D by rw [HYF.out];exact HYD0.out)
     have h0:Calls Tryz.prog 59 #[woV L D,.int .i64 j,inV (24,A,B,C)] U (b_B Q1 Y U):=by
      have h:=j_o Q1 L X j (24,A,B,C) U HR3.out hj (fun b hb=>HQ2.out.2.2 b (by have:=HS3.out;omega)) HN.out HM.out hg.1 hg.2.1 (.inl rfl) HWF.out (by rw [HTW.out,HPK.out];have:=HCL2.out;omega);rw [HTW.out,HD.out,HYF.out] at h;exact h
     have HYD:=N87;have HC:=hid h0;clear h0
     go_wp2_with (first | (refine wpList_load_mid rfl 33 _ rfl (w.heap.size) 0 rfl (woC L D) _ (a_f HX3.out) Tryz.underlying33 rfl (by kernel_rfl) ?_) | (refine wpList_load_mid rfl 66 _ rfl (w.heap.size+3) 0 rfl [.int .i64 24,.int .i64 A,.int .i64 B,.int .i64 C] _ (a_f HI3.out) Tryz.underlying66 rfl (by kernel_rfl) ?_))
     refine HC.out.mono ?_;rintro e9 w9 ⟨L9,rfl,R9,hb9⟩;have HZ9:=hid (a_i hb9 HZ3.out);have HB9:=hid (a_b HB3.out hb9);have HR9:=hid R9;clear hb9 R9 HC;rw [HYD.out]
     go_wp2_with (refine a_c rfl 33 _ _ rfl (w.heap.size+1) (woC L9 D).toArray rfl rfl _ HZ9.out rfl (by kernel_rfl) (b_o _ _) ?_;intro U HU)
     have HZ10:=N26;refine a_V ⟨w.heap.size+1,0,none⟩ rfl rfl rfl (a_E HZ10.out 33 Tryz.underlying33 rfl (by kernel_rfl)) ?_;have hkU:=N7;exact a_Y (L:=L9) (by rw [HYD.out]) (a_D HQ2.out.1 (a_B hkU HR9.out)) (by rw [HU.out];exact a_h (by omega) HB9.out)
    ·have HYF:=hid (show i_x X j t (25,A,B,C)=Y by rw [←HYG.out,n_7 (.inr rfl)]);have hg:=c_4 HIN.out (.inr (.inr (.inr (show (23:Int)≤25∧(25:Int)≤25 by decide))));have HDY:=hid (show (i_x X j t (25,A,B,C)).D=D by rw [HYF.out];exact HYD0.out)
     have h0:Calls Tryz.prog 59 #[woV L D,.int .i64 j,inV (25,A,B,C)] U (b_B Q1 Y U):=by
      have h:=j_o Q1 L X j (25,A,B,C) U HR3.out hj (fun b hb=>HQ2.out.2.2 b (by have:=HS3.out;omega)) HN.out HM.out hg.1 hg.2.1 (.inr rfl) HWF.out (by rw [HTW.out,HPK.out];have:=HCL2.out;omega);rw [HTW.out,HD.out,HYF.out] at h;exact h
     have HYD:=N87;have HC:=hid h0;clear h0
     go_wp2_with (first | (refine wpList_load_mid rfl 33 _ rfl (w.heap.size) 0 rfl (woC L D) _ (a_f HX3.out) Tryz.underlying33 rfl (by kernel_rfl) ?_) | (refine wpList_load_mid rfl 66 _ rfl (w.heap.size+3) 0 rfl [.int .i64 25,.int .i64 A,.int .i64 B,.int .i64 C] _ (a_f HI3.out) Tryz.underlying66 rfl (by kernel_rfl) ?_))
     refine HC.out.mono ?_;rintro e9 w9 ⟨L9,rfl,R9,hb9⟩;have HZ9:=hid (a_i hb9 HZ3.out);have HB9:=hid (a_b HB3.out hb9);have HR9:=hid R9;clear hb9 R9 HC;rw [HYD.out]
     go_wp2_with (refine a_c rfl 33 _ _ rfl (w.heap.size+1) (woC L9 D).toArray rfl rfl _ HZ9.out rfl (by kernel_rfl) (b_o _ _) ?_;intro U HU)
     have HZ10:=N26;refine a_V ⟨w.heap.size+1,0,none⟩ rfl rfl rfl (a_E HZ10.out 33 Tryz.underlying33 rfl (by kernel_rfl)) ?_;have hkU:=N7;exact a_Y (L:=L9) (by rw [HYD.out]) (a_D HQ2.out.1 (a_B hkU HR9.out)) (by rw [HU.out];exact a_h (by omega) HB9.out)
    ·have HYF:=hid (show { b_j X j (⟨t.pc+1,t.r,t.fs,t.st,t.ft,t.lf⟩:Thr) with ev:=X.ev++[(A,(j:Int),t.r 0,t.r 1,t.r 2,t.r 3)] }=Y by rw [←HYG.out,q_q rfl];rfl);obtain ⟨x6,-⟩:=HX3.out 6 _ rfl;have HEV:=hid (And.intro (c_O HR3.out.ev) HR3.out.cev);clear z12
     go_upto_region 25 with fail
     clear y0;obtain ⟨E,hE⟩:=nm (U.alloc (Obj.cells #[] 101));have hkE:Kept (fun b=>Q1 b∧b < U.heap.size) U E:=by rw [hE];exact e_u _ _
     have HXE:=hid (show a_p E w.heap.size (woC L D) by rw [hE];exact a_s _ HX3.out);have HVE:=hid (show Vs repEv Any E L.ev.a L.ev.n X.ev from d_3 (a_z hkE HEV.out.1));have HOE:=hid (show E.ownsRow U.heap.size 101 6 (.slice (some ⟨U.heap.size,0,none⟩) 0 0) 0 [] by rw [hE];exact World.ownsRow_lit U #[] 0 (Nat.le_refl _) (by decide) rfl (e:=101) (size:=6));have HEB:=hid (show Below U.heap.size U E by rw [hE];exact (Below.refl _ _).alloc (Nat.le_refl _) _);rw [←hE];clear hE hkE x6;obtain ⟨x6,-⟩:=HXE.out 6 _ rfl
     go_upto_region 26 with (at_builtin;refine g_l rfl (.tmp 116) (.tmp 118) rfl U.heap.size (.slice (some ⟨U.heap.size,0,none⟩) 0 0) 0 [] rfl HOE.out L.ev.a L.ev.n L.ev.c X.ev rfl HVE.out HEV.out.2 (by have:=HEN.out;omega) HEB.out.size ?_;intro v5 E5 ho5 hg5)
     rw [Nat.zero_add,List.nil_append] at ho5;obtain ⟨a5,c5,rfl⟩:=p_l ho5;have HB5:=hid (show Below U.heap.size U E5 from HEB.out.grown hg5 HEB.out.size (fun g hg=>by cases hg;exact Nat.le_refl _));have HO5:=hid (show E5.ownsRow U.heap.size 101 6 (.slice a5 L.ev.n c5) L.ev.n (X.ev.flatMap j_j) from ho5);have HX5:=hid (a_i HB5.out HX3.out);have HZ5:=hid (a_i HB5.out HZ3.out);have HT5:=hid (a_i HB5.out HT4.out);have HI5:=hid (a_i HB5.out HI3.out);clear ho5 hg5 x6 HXE HVE HOE HEB;obtain ⟨y1,-⟩:=HI5.out 1 _ rfl;obtain ⟨r0,-⟩:=HT5.out 1 _ rfl;obtain ⟨r1,-⟩:=HT5.out 2 _ rfl;obtain ⟨r2,-⟩:=HT5.out 3 _ rfl;obtain ⟨r3,-⟩:=HT5.out 4 _ rfl;obtain ⟨j0,ki,kz0,kz1,kz2⟩:=info_parts o_o;have HJ:=N72;clear ki kz0 kz1 kz2;have hp1:0≤t.pc:=by have:=HPK.out;omega
     have hp2:t.pc≤1000:=by have:=HPK.out;have:=HCL2.out;omega
     go_upto_region 28 with (at_builtin;refine wpList_append_own _ rfl (.tmp 120) (.tmp 138) 31 rfl U.heap.size 101 j0 (.agg #[.int .i64 0,.int .i64 0,.int .i64 0,.int .i64 0,.int .i64 0,.int .i64 0]) 6 48 Tryz.underlying31 HJ.out.1 HJ.out.2.1 HJ.out.2.2.1 HJ.out.2.2.2 rfl (by decide) (.slice a5 L.ev.n c5) L.ev.n (X.ev.flatMap j_j) rfl (a_8 HO5.out ((Below.refl _ _).alloc (Nat.le_refl _) _)) ⟨E5.heap.size,0,none⟩ 1 1 [.int .i64 A,.int .i64 j,.int .i64 (t.r 0),.int .i64 (t.r 1),.int .i64 (t.r 2),.int .i64 (t.r 3)] rfl rfl (e_F _ _ _) (by simp [Value.oneCell']) (by have:=HEN.out;unfold maxLen;omega) (by have:=HEN.out;omega) (by have:=HB5.out.size;simp;omega) ?_;intro v6 E6 ho6 hg6 _;obtain ⟨a6,c6,rfl⟩:=p_l ho6;have HB6:=hid (show Below U.heap.size U E6 from (HB5.out.alloc HB5.out.size _).grown hg6 (by have:=HB5.out.size;simp;omega) (fun g hg=>(HO5.out.lt g hg).1));have HO6:=hid ho6;clear ho6 hg6 y1 r0 r1 r2 r3;obtain ⟨x6,f6⟩:=(a_i HB6.out HX3.out) 6 _ rfl;obtain ⟨z0,f0⟩:=(a_i HB6.out HT4.out) 0 _ rfl)
     clear x6 f6 z0 f0 hp1 hp2;have HX6:=hid (a_i HB6.out HX3.out);have HZ6:=hid (a_i HB6.out HZ3.out);have HT6:=hid (a_i HB6.out HT4.out);have HB7:=hid (a_b HB3.out HB6.out);have HS6:=hid (show w.heap.size+4≤E6.heap.size by have:=HB6.out.size;have:=HS3.out;omega);have HR6:=hid (b_G HB6.out HR3.out);have HH6:=hid (a_w (a_C HB6.out) HH3.out);obtain ⟨ev,hev⟩:=mn (X.ev++[(A,(j:Int),t.r 0,t.r 1,t.r 2,t.r 3)])
     obtain ⟨a7,c7,e7,k1,k2,k3,V7⟩:=e_v (r:=repEv) (Q:=Q1) (ys:=ev) HO6.out (by
      have h:=l_G (Q:=Q1) (w:=E6) (X.ev++[(A,(j:Int),t.r 0,t.r 1,t.r 2,t.r 3)]);rw [List.flatMap_append,hev] at h;exact h) (fun b hb _=>HQ2.out.2.2 b (by have:=HS3.out;omega))
     cases e7
     have HV7:=hid (And.intro (show Sp.ok ⟨a6,L.ev.n+1,c6⟩ from ⟨k1,k2,k3⟩) V7);rw [hev] at HYF;clear k1 k2 k3 V7 hev HX5 HZ5 HT5 HI5 HB5 HO5 HO6;have HX7:=HX6;obtain ⟨V2,hV2⟩:=nm (((E6.setCell ⟨w.heap.size,6,none⟩ (.slice a6 (L.ev.n+1) c6)).setCell ⟨(w.heap.size+2),0,none⟩ (.int .i64 (t.pc+1))));have HX6s:=hid (show a_p V2 (w.heap.size) (woC (L.setEv ⟨a6,L.ev.n+1,c6⟩) D) by have h:=(a_m (g':=(w.heap.size+2)) (o:=0) (a_A HX6.out 6 (by simp) (.slice a6 (L.ev.n+1) c6)) (by omega) (.int .i64 (t.pc+1)));rw [hV2];exact h);have HZ6s:=hid (show a_p V2 (w.heap.size+1) _ by rw [hV2];exact (a_m (g':=(w.heap.size+2)) (o:=0) (a_m (g':=w.heap.size) (o:=6) HZ6.out (by omega) (.slice a6 (L.ev.n+1) c6)) (by omega) (.int .i64 (t.pc+1))));have HT6s:=hid (show a_p V2 ((w.heap.size+2)) (thC (⟨t.pc+1,t.r,t.fs,t.st,t.ft,t.lf⟩:Thr) ta tn tc qa tm qc) by have h:=(a_A (a_m (g':=w.heap.size) (o:=6) HT6.out (by omega) (.slice a6 (L.ev.n+1) c6)) 0 (by simp) (.int .i64 (t.pc+1)));rw [hV2];exact h);have hkV2:Kept Q1 E6 V2:=by rw [hV2];exact (a_6 (a_T _ _ _ (fun b hb=>by show b≠w.heap.size;have:=HQ2.out.2.1 b hb;omega)) (a_T _ _ _ (fun b hb=>by show b≠(w.heap.size+2);have:=HQ2.out.2.1 b hb;omega)))
     have HB7s:=hid (show Below w.heap.size w V2 by rw [hV2];exact ((HB7.out.setCell (p:=⟨w.heap.size,6,none⟩) (by show _≤w.heap.size;omega) _).setCell (p:=⟨(w.heap.size+2),0,none⟩) (by show _≤(w.heap.size+2);omega) _));have HZV2:=hid (show V2.heap.size=E6.heap.size by rw [hV2];simp);have HV2:=hid hV2;clear hV2;rw [←HV2.out];clear HX7;obtain ⟨X2,hX2⟩:∃ X2:Wo,X2={ X with ev:=ev }:=⟨_,rfl⟩;have HYF:=hid (show b_j X2 j (⟨t.pc+1,t.r,t.fs,t.st,t.ft,t.lf⟩:Thr)=Y by rw [hX2];exact HYF.out);have HDX:=N247;have HR7:=hid (show RWo Q1 V2 (L.setEv ⟨a6,L.ev.n+1,c6⟩) X2 by rw [hX2];exact p_g (p:=⟨a6,L.ev.n+1,c6⟩) (a_B hkV2 HR6.out) (a_z hkV2 HV7.out.2) HV7.out.1);clear hX2
     have h0:Calls Tryz.prog 53 #[woV (L.setEv ⟨a6,L.ev.n+1,c6⟩) D,.int .i64 j,thV (⟨t.pc+1,t.r,t.fs,t.st,t.ft,t.lf⟩:Thr) ta tn tc qa tm qc] V2 (b_B Q1 Y V2):=by
      have h:=c_R Q1 (L.setEv ⟨a6,L.ev.n+1,c6⟩) X2 j (⟨t.pc+1,t.r,t.fs,t.st,t.ft,t.lf⟩:Thr) ta tc qa qc V2 HR7.out (by rw [show (⟨t.pc+1,t.r,t.fs,t.st,t.ft,t.lf⟩:Thr).fs.length=tn from HTN.out.1,show (⟨t.pc+1,t.r,t.fs,t.st,t.ft,t.lf⟩:Thr).lf.length=tm from HTN.out.2];exact c_8 (a_w hkV2 HH6.out)) (fun b hb=>HQ2.out.2.2 b (by have:=HZV2.out;have:=HS6.out;omega)) HN.out;rw [show (⟨t.pc+1,t.r,t.fs,t.st,t.ft,t.lf⟩:Thr).fs.length=tn from HTN.out.1,show (⟨t.pc+1,t.r,t.fs,t.st,t.ft,t.lf⟩:Thr).lf.length=tm from HTN.out.2,show X2.D=D from HDX.out,HYF.out] at h;exact h
     have HYD:=hid (show Y.D=D by rw [←HYF.out];exact HDX.out);have HC:=hid h0;clear h0
     go_wp2_with (first | (refine wpList_load_mid rfl 33 _ rfl (w.heap.size) 0 rfl (woC (L.setEv ⟨a6,L.ev.n+1,c6⟩) D) _ (a_f HX6s.out) Tryz.underlying33 rfl (by kernel_rfl) ?_) | (refine wpList_load_mid rfl 46 _ rfl (w.heap.size+2) 0 rfl (thC (⟨t.pc+1,t.r,t.fs,t.st,t.ft,t.lf⟩:Thr) ta tn tc qa tm qc) _ (a_f HT6s.out) Tryz.underlying46 rfl (by kernel_rfl) ?_))
     refine HC.out.mono ?_;rintro e9 w9 ⟨L9,rfl,R9,hb9⟩;have HZ9:=hid (a_i hb9 HZ6s.out);have HB9:=hid (a_b HB7s.out hb9);have HR9:=hid R9;clear hb9 R9 HC;rw [HYD.out]
     go_wp2_with (refine a_c rfl 33 _ _ rfl (w.heap.size+1) (woC L9 D).toArray rfl rfl _ HZ9.out rfl (by kernel_rfl) (b_o _ _) ?_;intro U HU)
     have HZ10:=N26;refine a_V ⟨w.heap.size+1,0,none⟩ rfl rfl rfl (a_E HZ10.out 33 Tryz.underlying33 rfl (by kernel_rfl)) ?_;have hkU:=N7;exact a_Y (L:=L9) (by rw [HYD.out]) (a_D HQ2.out.1 (a_B hkU HR9.out)) (by rw [HU.out];exact a_h (by omega) HB9.out)
    ·have HYF:=hid (show b_j X j (⟨t.pc+1,t.r,t.fs,t.st,t.ft,t.lf⟩:Thr)=Y by rw [←HYG.out,n_8 (.inl rfl)];rfl);exact J4
    ·have HYF:=hid (show b_j X j (⟨t.pc+1,t.r,t.fs,t.st,t.ft,t.lf⟩:Thr)=Y by rw [←HYG.out,n_8 (.inr rfl)];rfl);exact J4
end Go.Proofs.YtogdpojnbgeknaaGreatDoor
