import Derived.Test.YtogdpojnbgeknaaGreatDoorT7
import Derived.Test.YtogdpojnbgeknaaGreatDoorT30
import Derived.Test.YtogdpojnbgeknaaGreatDoorT0
import Derived.Test.YtogdpojnbgeknaaGreatDoorT29
import Derived.Maps.AppendAt
set_option maxRecDepth 100000
set_option maxHeartbeats 16000000
namespace Go.Proofs.YtogdpojnbgeknaaGreatDoor
open Go.ChangeShapes Go.WideShapes Go.ChangeAt Go.RowKit
open Gen
open Lib (hid)
def t_q (h:Nat) (L:WoL) (rb:Nat) (vb lv le:Int):b_p:=[isV 0 (.pointer (some ⟨h,1,none⟩)),isV 1 (.pointer (some ⟨h,1,none⟩)),isV 2 (.agg #[.slice L.ws.a L.ws.n L.ws.c,.slice L.ts.a L.ts.n L.ts.c]),isV 3 (.pointer (some ⟨h+2,2,none⟩)),isV 4 (.int .i64 rb),isV 5 (.pointer (some ⟨h+1,1,none⟩)),isV 6 (.pointer (some ⟨h+1,1+rb,none⟩)),isV 7 (.int .i64 vb),isV 8 (.tuple #[.int .i64 lv,.int .i64 le]),isV 9 (.tuple #[.int .i64 lv,.int .i64 le]),isV 10 (.int .i64 lv),isV 11 (.int .i64 le),isV 12 (.int .i64 lv),isV 13 (.int .i64 le)]
theorem o_b (h:Nat) (L:WoL) (rb:Nat) (vb lv le:Int):c_j (t_q h  L  rb  vb lv le ):=a_d<|a_d<|a_d<|a_d<|a_d<|a_d<|a_d<|a_d<|a_d<|a_d<|a_d<|a_d<|a_d<|a_d<|b_u
theorem q_e (L:WoL) (X:Wo) (j:Nat) (w:World) (R:RWo Any w L X) (hj:j < L.th.n) (hrw:b_i X=true) :
  Calls Tryz.prog 22 #[woV L X.D,.int .i64 j] w (b_l (h_z X j) w):=by
 obtain ⟨y,hy⟩:=mn (h_z X j);rw [hy];obtain ⟨D,hD⟩:=mn (X.D);rw [hD];have HD:=hid hD;obtain ⟨tb,tq,t,ta,tc,qa,qc,htl,htt,-,T,hr⟩:=d_b R.th hj;have htw:=N53;obtain ⟨hrc,hrm,hrl,hro⟩:=a_N hrw
 have HRT:=hid (show a_1 t=true by
  have h:=hro t (List.mem_of_getElem? htt);simp only [e_Q,Bool.and_eq_true] at h;exact h.1)
 have HCI:=hid (show ∀ i∈X.code,c_M i X.code.length=true by
  simp only [c_a,Bool.and_eq_true,decide_eq_true_eq,List.all_eq_true] at hrc;exact hrc.2)
 have hpc0:0≤t.pc∧t.pc≤1000:=by
  have h:=HRT.out;exact J92
 obtain ⟨pk,hpk⟩:∃ k:Nat,t.pc=k:=⟨t.pc.toNat,by omega⟩;have HPK:=hid hpk;have HM:=hid (a_X hrm).1;have HY:=hid (show n_Q X t (bfW X j)=y by rw [←hy,h_z,htw]);obtain ⟨bb,bo,q,c,hba,hbc,-,-⟩:=f_i R.bs (i:=j) (by have:=R.bs.1;have:=R.th.1;omega);obtain ⟨bl,hbl⟩:=mn ((X.bs.getD j []).length);have HBL:=hid (show (bfW X j).length=bl from hbl);rw [hbl] at hbc;obtain ⟨tn,htn⟩:=mn (t.fs.length);obtain ⟨tm,htm⟩:=mn (t.lf.length);have HTN:=hid (And.intro htn htm);obtain ⟨W,hW⟩:=nm (w.alloc (Obj.cells (woC L D).toArray 33));have HX:=N159;have HB:=N3;have HSZ:=N147;have HRA:=N28;have ⟨HW,HTL⟩:=hh2 hW htl;rw [htn,htm] at T;have ⟨HT1,HR1⟩:=hh2 T R;have HBB:=hid (And.intro hba hbc);have i1:(0:Int)≤j:=by omega
 have i2:(j:Int) < L.th.n:=by omega
 have i6:(j:Int) < L.bs.n:=by have:=R.bs.1;have:=R.th.1;omega
 clear htl hD htt hr htn htm R hW htw hy hrc hrm hrl hro hrw hpc0 hpk hba hbc hbl T;unfold woV
 go_enter Tryz.func22,Tryz.ntmps22
 go_upto_region 1 with fail
 rw [←HW.out];obtain ⟨k5,-⟩:=HX.out 5 _ rfl;rw [HTL.out] at k5
 go_upto_region 2 with (first | (refine wpList_load_mid rfl 46 _ rfl tb (tq+j*13) rfl (thC t ta tn tc qa tm qc) _ HRA.out Tryz.underlying46 rfl (by kernel_rfl) ?_) | (refine a_c rfl 46 _ _ rfl W.heap.size (thC t ta tn tc qa tm qc).toArray rfl rfl _ (a_e thN W.heap.size rfl) rfl (by kernel_rfl) (a_K _ _ _ _ _ _ _) ?_;intro V HV))
 rw [HSZ.out];simp only [Act.put];have HX2:=N31;have HT2:=hid (show a_p V (w.heap.size+1) (thC t ta tn tc qa tm qc) by rw [HV.out,HSZ.out];exact a_q (a_e thN _ HSZ.out.symm) rfl);have HB2:=N27;have HS2:=hid (show V.heap.size=w.heap.size+2 by rw [HV.out,a_R];simp [HSZ.out]);have HR2:=hid (b_G HB2.out HR1.out);clear HV HX HB HSZ HRA HW k5 i2;obtain ⟨z10,-⟩:=HT2.out 10 _ rfl;obtain ⟨z0,-⟩:=HT2.out 0 _ rfl;obtain ⟨x0,-⟩:=HX2.out 0 _ rfl;rw [HPK.out] at z0;have hcn:X.code.length=L.co.n:=HR2.out.co.1
 by_cases st0:t.st=0
 ·have hs0:(t.st != 0)=false:=by simp [st0]
  have HST:=hid st0;clear st0
  by_cases hpc:L.co.n≤pk
  ·have i3:(L.co.n:Int)≤pk:=by omega
   go_wp2_with fail
   go_ret
   refine a_k (s:=true) ?_ HB2.out;rw [←HY.out,n_Q,if_neg (by rw [HST.out];simp),if_pos (by rw [HPK.out];omega)]
  ·have i3:(pk:Int) < L.co.n:=by omega
   have i4:(0:Int)≤pk:=by omega
   have i5:¬ ((L.co.n:Int)≤pk):=by omega
   obtain ⟨cb,co,op,A,B,C,hca,hci,y0,y1,y2,y3⟩:=l_J (d_3 HR2.out.co) (show pk < L.co.n by omega)
   have HRI:=hid (show V.rangeAt cb (co+pk*4) [.int .i64 op,.int .i64 A,.int .i64 B,.int .i64 C] from fun x v hx=>by
    match x,hx with
    | 0,hx=>cases hx;exact y0
    | 1,hx=>cases hx;exact y1
    | 2,hx=>cases hx;exact y2
    | 3,hx=>cases hx;exact y3)
   rw [hca] at x0;have HIN:=N198
   have HYG:=hid (show m_v X t (bfW X j) (op,A,B,C)=y by
    rw [←HY.out,n_Q,if_neg (by rw [HST.out];simp),if_neg (by rw [HPK.out];omega),HPK.out,show inW X (pk:Int)=(op,A,B,C) by rw [inW,Int.toNat_natCast,List.getD_eq_getElem?_getD,hci];rfl])
   clear y0 y1 y2 y3 hci hca
   go_upto_region 7 with (first | (refine wpList_load_mid rfl 66 _ rfl cb (co+pk*4) rfl [.int .i64 op,.int .i64 A,.int .i64 B,.int .i64 C] _ HRI.out Tryz.underlying66 rfl (by kernel_rfl) ?_) | (refine a_c rfl 66 _ _ rfl V.heap.size #[.int .i64 op,.int .i64 A,.int .i64 B,.int .i64 C] rfl rfl _ (a_e [.int .i64 0,.int .i64 0,.int .i64 0,.int .i64 0] V.heap.size rfl) rfl (by kernel_rfl) (by simp [Value.oneCell']) ?_;intro U HU))
   rw [HS2.out];have HI3:=hid (show a_p U (w.heap.size+2) [.int .i64 op,.int .i64 A,.int .i64 B,.int .i64 C] by rw [HU.out,HS2.out];exact a_q (a_e [.int .i64 0,.int .i64 0,.int .i64 0,.int .i64 0] _ HS2.out.symm) rfl);have HX3:=N161;have HT3:=hid (show a_p U (w.heap.size+1) (thC t ta tn tc qa tm qc) by rw [HU.out];exact a_j (by have:=HS2.out;omega) (a_s _ HT2.out));have HB3:=N148;have HR3:=hid (b_G HB3.out HR1.out);have HF3:=hid (a_w (a_C HB3.out) HT1.out);have b0:=a_u HB3.out HBB.out.2;obtain ⟨x4,-⟩:=HX3.out 4 _ rfl;rw [HBB.out.1] at x4;obtain ⟨x3,-⟩:=HX3.out 3 _ rfl;obtain ⟨u0,-⟩:=HI3.out 0 _ rfl;have HOR:=hid (show 0≤op∧op < 27 from (d_N HIN.out).1);clear HU HX2 HT2 HB2 HR2 HS2 HRI z0 z10 x0 i3 i4 i5 hcn hs0 hpc
   rcases (show op=17∨(op=18∨op=19∨op=20∨op=21)∨op=22∨op=23∨(op≠17∧op≠18∧op≠19∧op≠20∧op≠21∧op≠22∧op≠23) by omega) with rfl | h | rfl | rfl | h
   ·have HYV:=hid (show decide (D=0∨(bl:Int) < D)=y by rw [←HYG.out,m_v,if_pos rfl,HD.out,HBL.out])
    by_cases d0:D=0
    ·subst d0
     go_wp2_with fail
     go_ret
     exact a_k (s:=true) (by rw [←HYV.out];simp) HB3.out
    ·have hd0:(D==0)=false:=by simpa using d0
     have HYW:=hid (show decide ((bl:Int) < D)=y by rw [←HYV.out];simp [d0])
     go_wp2_with fail
     go_ret
     exact a_k HYW.out.symm HB3.out
   ·have HYV:=hid (show decide (bl=0)=y by rw [←HYG.out,m_v,if_neg (by simp;omega),if_pos h,HBL.out]);have HYW:=hid (show ((bl:Int)==0)=y by rw [←HYV.out];by_cases e:bl=0 <;> simp [e])
    rcases h with rfl | rfl | rfl | rfl <;>
    ·go_wp2_with fail
     go_ret
     exact a_k HYW.out.symm HB3.out
   ·have HYV:=hid (show t.lf.all (fun n=>decide (n=0))=y by rw [←HYG.out,m_v,if_neg (by simp),if_neg (by simp),if_pos rfl])
    have HLN:=hid (show ∀ z∈t.lf,0≤z by
     have h:=HRT.out;simp only [a_1,b_4,Bool.and_eq_true,decide_eq_true_eq,List.all_eq_true] at h;exact fun z hz=>(h.2.2 z hz).1)
    have HM8:=hid (show tm≤8 by
     have h:=HRT.out;simp only [a_1,b_4,Bool.and_eq_true,decide_eq_true_eq,List.all_eq_true] at h;have:=h.2.1;have:=HTN.out.2;omega)
    obtain ⟨z12,-⟩:=HT3.out 12 _ rfl
    go_wp2_with fail
    clear z12 b0 x4 x3
    go_loopw [80] (fun i wr=>∃ k:Nat,k≤tm∧i=.int .i64 k∧Hid (∀ i z,i < k→t.lf[i]?=some z→z=0)∧wr=U) (fun i _=>tm - (intOf i).toNat)
    case atStart=>exact ⟨0,Nat.zero_le _,rfl,fun i z hi=>by omega,rfl⟩
    case round =>
     obtain ⟨k,hk,rfl,hz,rfl⟩:=hrel
     by_cases hlt:k < tm
     ·obtain ⟨b,o,z,hq,hx,hc⟩:=l_K (d_3 HF3.out.lf) hlt;subst hq;have i3:(k:Int) < tm:=by omega
      have i4:(0:Int)≤k:=by omega
      have hz0:=HLN.out z (List.mem_of_getElem? hx);have hm8:=HM8.out;have HXX:=hid hx;clear hx
      by_cases e:0 < z
      ·go_wp2_with fail
       go_ret
       refine a_k (s:=false) ?_ HB3.out;rw [←HYV.out,List.all_eq_false];exact ⟨z,List.mem_of_getElem? HXX.out,by simp;omega⟩
      ·obtain rfl:z=0:=by omega
       go_wp2_with fail
       go_roundw
       case rel =>
        refine ⟨k+1,by omega,by go_num,fun i z hi hz2=>?_,trivial⟩
        by_cases e2:i=k
        ·subst e2;rw [HXX.out] at hz2;cases hz2;rfl
        ·exact hz.out i z (by omega) hz2
       case measure=>simp [intOf];omega
     ·obtain rfl:k=tm:=by omega
      go_wp2_with fail
      go_ret
      refine a_k (s:=true) ?_ HB3.out;rw [←HYV.out,List.all_eq_true.2];intro z hz2;obtain ⟨i,hi,rfl⟩:=List.mem_iff_getElem.1 hz2;exact decide_eq_true (hz.out i _ (by have:=HTN.out.2;omega) (List.getElem?_eq_getElem hi))
   ·have HYV:=hid (show (decide (bl=0)&&(decide (a_I X.ws X.ts (rgt t B)≠0)||decide (b_K X.ws X.ts (rgt t B)≠rgt t A)))=y by rw [←HYG.out,m_v,if_neg (by simp),if_neg (by simp),if_neg (by simp),if_pos rfl,HBL.out]);have hg:=c_4 HIN.out (.inr (.inr (.inr (show (23:Int)≤23∧(23:Int)≤25 by decide))));obtain ⟨ra,hra,hra8⟩:=a_5 hg.1;obtain ⟨rb,hrb,hrb8⟩:=a_5 hg.2.1;simp only at hra hrb;subst hra hrb;rw [show rgt t (ra:Int)=t.r ra from rfl,show rgt t (rb:Int)=t.r rb from rfl] at HYV;obtain ⟨va,hva⟩:=mn (t.r ra);obtain ⟨vb,hvb⟩:=mn (t.r rb);rw [hva,hvb] at HYV;obtain ⟨lv,hlv⟩:=mn (b_K X.ws X.ts vb);obtain ⟨le,hle⟩:=mn (a_I X.ws X.ts vb)
    have HMK:=hid (show ∀ u,Below U.heap.size U u→Calls Tryz.prog 51 #[.agg #[.slice L.ws.a L.ws.n L.ws.c,.slice L.ts.a L.ts.n L.ts.c],.int .i64 vb] u (fun e w'=>e=.returned (.tuple #[.int .i64 lv,.int .i64 le])∧Below u.heap.size u w') from fun u hu=>by
     have h:=d_S L.ws.a L.ts.a L.ws.n L.ws.c L.ts.n L.ts.c X.ws X.ts vb u (a_r (a_C hu) HR3.out.ws).sl (a_r (a_C hu) HR3.out.ts).sl HM.out;rw [hlv,hle] at h;exact h)
    rw [hlv,hle] at HYV;have HVA:=hid hva;obtain ⟨v2,-⟩:=HI3.out 2 _ rfl;obtain ⟨zb,-⟩:=HT3.out (1+rb) _ (c_H t.r rb hrb8 _ _);rw [hvb] at zb;have i3:(0:Int)≤ra:=by omega
    have i4:(ra:Int) < 8:=by omega
    have i5:(0:Int)≤rb:=by omega
    have i6:(rb:Int) < 8:=by omega
    clear hva hvb hlv hle hg;have hG:=o_b w.heap.size L rb vb lv le
    go_upto_region 20 with fail
    clear b0 x4 x3 u0;refine d_k [some 91,some 92,some 93,some 94,some 95,some 96,some 97,some 98,some 99,some 90,some 100,some 101,some 10,some 11] (fun w'=>Below U.heap.size U w') (t_q w.heap.size L rb vb lv le) 100 100 (fun _ _ _=>True) (by kernel_rfl) (by kernel_rfl) (by decide) rfl ((Below.refl _ _).drew) ?_ ?_
    ·show StepsL _ _ _ _ _ _ _
     refine InvD.c (fun _ _ w1 C _ hK=>oR C hK (h:=by simp [execOp,go_sem,C.o 2 (.pointer (some ⟨w.heap.size,0,none⟩))])) ?_;refine InvD.c (fun _ _ w1 C _ hK=>oR C hK (h:=by simp [execOp,go_sem,C.i 0])) ?_;refine InvD.c (fun a1 vals w1 C K hK=>?_) ?_
     ·have e0:=C.i 1;exact a_g rfl (wp_load_mid 26 _ rfl (w.heap.size) (1) ((a_M a1 _).symm.trans e0) [.slice L.ws.a L.ws.n L.ws.c,.slice L.ts.a L.ts.n L.ts.c] _ (mem_range (a_i C.base HX3.out)) Tryz.underlying26 rfl (by kernel_rfl) (c_Q hK C rfl rfl))
     refine InvD.c (fun _ _ w1 C _ hK=>oR C hK (h:=by simp [execOp,go_sem,C.o 6 (.pointer (some ⟨w.heap.size+2,0,none⟩))])) ?_;refine InvD.c (fun _ _ w1 C _ hK=>oR C hK (h:=by simp [execOp,go_sem,C.i 3,a_u C.base v2])) ?_;refine InvD.c (fun _ _ w1 C _ hK=>oR C hK (h:=by simp [execOp,go_sem,C.o 5 (.pointer (some ⟨w.heap.size+1,0,none⟩))])) ?_;refine InvD.c (fun _ _ w1 C _ hK=>oR C hK (h:=by simp [execOp,go_sem,C.i 4,C.i 5,i5,i6])) ?_;refine InvD.c (fun _ _ w1 C _ hK=>oR C hK (h:=by simp [execOp,go_sem,C.i 6,a_u C.base zb])) ?_;refine InvD.c (fun a1 vals w1 C K hK=>?_) ?_
     ·have e0:=C.i 2;have e1:=C.i 7;rw [a_M] at e0 e1;refine a_g rfl (a_O _ _ _ rfl 51 rfl [.agg #[.slice L.ws.a L.ws.n L.ws.c,.slice L.ts.a L.ts.n L.ts.c],.int .i64 vb] (by simp only [List.map_cons,List.map_nil,e0,e1]) (by kernel_rfl) ((HMK.out w1 C.base).mono ?_));exact J75
     refine InvD.c (fun _ _ w1 C _ hK=>oR C hK (h:=by simp [execOp,go_sem,C.i 8])) ?_;refine InvD.c (fun _ _ w1 C _ hK=>oR C hK (h:=by simp [execOp,go_sem,C.i 9])) ?_;refine InvD.c (fun _ _ w1 C _ hK=>oR C hK (h:=by simp [execOp,go_sem,C.i 9])) ?_;refine InvD.c (fun _ _ w1 C _ hK=>oR C hK (h:=by simp [execOp,go_sem,C.i 10])) ?_;refine InvD.c (fun _ _ w1 C _ hK=>oR C hK (h:=by simp [execOp,go_sem,C.i 11])) ?_;exact StepsL.nil
    ·intro vals w1 hb hv hbo;have y10:vals 12=.int .i64 lv:=List.head_eq_of_cons_eq (hv 12 (by decide));have y11:vals 13=.int .i64 le:=List.head_eq_of_cons_eq (hv 13 (by decide));simp only [c_I,Act.put,sA,sB,sC,y10,y11];have HT4:=hid (a_i hb HT3.out);have HI4:=hid (a_i hb HI3.out);have HB4:=hid (a_b HB3.out hb);clear hb hv hbo y10 y11 v2 zb hG HMK i5 i6;obtain ⟨v1,-⟩:=HI4.out 1 _ rfl;obtain ⟨za,-⟩:=HT4.out (1+ra) _ (c_H t.r ra hra8 _ _);rw [HVA.out] at za
     by_cases hb0:bl=0
     ·subst hb0
      by_cases e0:le=0
      ·subst e0;have HYW:=hid (show (lv != va)=y by rw [←HYV.out];by_cases e:lv=va <;> simp [e])
       go_wp2_with fail
       go_ret
       exact a_k HYW.out.symm HB4.out
      ·have hk0:(le != 0)=true:=by simpa using e0
       go_wp2_with fail
       go_ret
       exact a_k (s:=true) (by rw [←HYV.out];simp [e0]) HB4.out
     ·have hk0:((bl:Int)==0)=false:=by simp;omega
      go_wp2_with fail
      go_ret
      exact a_k (s:=false) (by rw [←HYV.out];simp [hb0]) HB4.out
   ·have HYV:=hid (show true=y by rw [←HYG.out,m_v,if_neg h.1,if_neg (by have:=h;omega),if_neg (by have:=h;omega),if_neg (by have:=h;omega)]);have q17:(op==17)=false:=by simp;omega
    have q18:(op==18)=false:=by simp;omega
    have q19:(op==19)=false:=by simp;omega
    have q20:(op==20)=false:=by simp;omega
    have q21:(op==21)=false:=by simp;omega
    have q22:(op==22)=false:=by simp;omega
    have q23:(op==23)=false:=by simp;omega
    clear h
    go_wp2_with fail
    go_ret
    exact a_k (s:=true) HYV.out.symm HB3.out
 ·have hs0:(t.st != 0)=true:=by simpa using st0
  have HST:=hid st0;clear st0
  go_wp2_with fail
  go_ret
  exact a_k (s:=false) (by rw [←HY.out,n_Q,if_pos HST.out]) HB2.out
def g_T (bs:List (List (Int×Int))) (k:Nat):List Int:=(bs.take k).map fun b=>(b.length:Int)
theorem m_n {bs:List (List (Int×Int))} {k:Nat} (h:k < bs.length):g_T bs (k+1)=g_T bs k++(((bs.getD k []).length:Nat):Int)::[]:=by
 rw [g_T,List.take_succ_eq_append_getElem h,List.map_append,List.getD_eq_getElem?_getD,List.getElem?_eq_getElem h];rfl
theorem n_M (X:Wo):g_T X.bs X.bs.length=b_2 X:=by rw [g_T,List.take_length];rfl
theorem t_M:(Tryz.prog.info? 3).map (fun i=>(i.zero,i.size,i.bytes))=some (some (.int .i64 0),1,8):=by kernel_rfl
theorem u_g (w:World) (g:Nat) (hg:g=w.heap.size) (x:Value) (t:TypeId):∀ j u,[x][j]?=some u→(w.alloc (.cells #[x] t)).cell? ((⟨g,0,none⟩:Addr).add j)=some u:=by
 intro j u hu;rw [Gen.add_plain,Nat.zero_add];exact (a_e (w:=w) [x] (t:=t) g hg j u hu).1
theorem p_l {k:Nat} {w:World} {B:Nat} {e:TypeId} {v:Value} {n:Nat} {xs:List Value} (h:w.ownsRow B e k v n xs):∃ a c,v=.slice a n c:=by
 exact J67
theorem m_q (Q:Nat→Prop) (L:WoL) (X:Wo) (j:Nat) (w:World) (R:RWo Q w L X) (hj:j < L.th.n) (hQ:∀ b,w.heap.size≤b→Q b) (hn:L.th.n≤1000) (hbm:L.bs.n≤1000) (hpc:0≤(thW X j).pc∧(thW X j).pc≤1000) :
  Calls Tryz.prog 58 #[woV L X.D,.int .i64 j] w (b_B Q (g_p X j (thW X j)) w):=by
 obtain ⟨Y,hY⟩:=mn (g_p X j (thW X j));rw [hY];obtain ⟨D,hD⟩:=mn (X.D);rw [hD];obtain ⟨tb,tq,t,ta,tc,qa,qc,htl,htt,-,T,hr⟩:=d_b R.th hj;have htw:=N53;rw [htw] at hY;have HTW:=hid htw;rw [htw] at hpc;have ⟨HP,HBM⟩:=hh2 hpc hbm;clear hpc hbm;obtain ⟨tn,htn⟩:=mn (t.fs.length);obtain ⟨tm,htm⟩:=mn (t.lf.length);have HTN:=hid (And.intro htn htm);obtain ⟨Q1,hQ1⟩:∃ Q1:Nat→Prop,Q1=fun b=>Q b∧(b < w.heap.size∨w.heap.size+3≤b):=⟨_,rfl⟩
 have HQ1:=hid hQ1;have HQ2:=N30;have HR1:=N41;have HT1:=N36;obtain ⟨W,hW⟩:=nm ((w.alloc (Obj.cells (woC L D).toArray 33)).alloc (Obj.cells woZ.toArray 33));have HX:=N52;have HZ:=N63;have HB:=N3;have HSZ:=N43;have HRA:=N28;have ⟨HW,HY,HTL,HD,HN⟩:=hh5 hW hY htl hD hn;rw [htn,htm] at HT1;have i1:(0:Int)≤j:=by omega
 have i2:(j:Int) < L.th.n:=by omega
 clear htl hY hD htt T hr htn htm hQ1 R hW htw hQ hn;unfold woV
 go_enter Tryz.func58,Tryz.ntmps58
 go_upto_region 1 with fail
 rw [←HW.out];obtain ⟨k5,-⟩:=HX.out 5 _ rfl;rw [HTL.out] at k5
 go_upto_region 2 with (first | (refine wpList_load_mid rfl 46 _ rfl tb (tq+j*13) rfl (thC t ta tn tc qa tm qc) _ HRA.out Tryz.underlying46 rfl (by kernel_rfl) ?_) | (refine a_c rfl 46 _ _ rfl W.heap.size (thC t ta tn tc qa tm qc).toArray rfl rfl _ (a_e thN W.heap.size rfl) rfl (by kernel_rfl) (a_K _ _ _ _ _ _ _) ?_;intro V HV))
 rw [HSZ.out];simp only [Act.put];have HX2:=N31;have HZ2:=N74;have HT2:=N90;have HB2:=N27;have HS2:=N119;clear HV HX HZ HB HSZ HRA HW k5 i1 i2;have HT3:=N64;have HR3:=N109;obtain ⟨c12,g12⟩:=HT2.out 12 _ rfl
 by_cases ht0:0 < tm
 ·have i3:(0:Int) < tm:=by omega
  have HYF:=hid (show b_j X j (⟨t.pc+1,t.r,t.fs,t.st,t.ft,[]⟩:Thr)=Y by rw [←HY.out,g_p,if_neg (by have:=HTN.out.2;omega)];rfl);have hp1:0≤t.pc:=HP.out.1;have hp2:t.pc≤1000:=HP.out.2;obtain ⟨z0,f0⟩:=HT2.out 0 _ rfl;obtain ⟨V2,hV2⟩:=nm (((V.setCell ⟨(w.heap.size+2),12,none⟩ (.slice none 0 0)).setCell ⟨(w.heap.size+2),0,none⟩ (.int .i64 (t.pc+1))));have HX2s:=hid (show a_p V2 (w.heap.size) _ by rw [hV2];exact (a_m (g':=(w.heap.size+2)) (o:=0) (a_m (g':=(w.heap.size+2)) (o:=12) HX2.out (by omega) (.slice none 0 0)) (by omega) (.int .i64 (t.pc+1))));have HZ2s:=hid (show a_p V2 (w.heap.size+1) _ by rw [hV2];exact (a_m (g':=(w.heap.size+2)) (o:=0) (a_m (g':=(w.heap.size+2)) (o:=12) HZ2.out (by omega) (.slice none 0 0)) (by omega) (.int .i64 (t.pc+1))));have HT2s:=hid (show a_p V2 ((w.heap.size+2)) (thC (⟨t.pc+1,t.r,t.fs,t.st,t.ft,[]⟩:Thr) ta tn tc none 0 0) by have h:=(a_A (a_A HT2.out 12 (by simp) (.slice none 0 0)) 0 (by simp) (.int .i64 (t.pc+1)));rw [hV2];exact h);have hkV2:Kept Q1 V V2:=by rw [hV2];exact (a_6 (a_T _ _ _ (fun b hb=>by show b≠(w.heap.size+2);have:=HQ2.out.2.1 b hb;omega)) (a_T _ _ _ (fun b hb=>by show b≠(w.heap.size+2);have:=HQ2.out.2.1 b hb;omega)))
  have HB2s:=hid (show Below w.heap.size w V2 by rw [hV2];exact ((HB2.out.setCell (p:=⟨(w.heap.size+2),12,none⟩) (by show _≤(w.heap.size+2);omega) _).setCell (p:=⟨(w.heap.size+2),0,none⟩) (by show _≤(w.heap.size+2);omega) _));have HZV2:=hid (show V2.heap.size=V.heap.size by rw [hV2];simp);have HV2:=hid hV2;clear hV2
  go_upto_region 5 with fail
  rw [←HV2.out];clear c12 g12 z0 f0 hp1 hp2 i3
  have h0:Calls Tryz.prog 53 #[woV L D,.int .i64 j,thV ((⟨t.pc+1,t.r,t.fs,t.st,t.ft,[]⟩:Thr)) ta tn tc none 0 0] V2 (b_B Q1 Y V2):=by
   have h:=c_R Q1 L X j ((⟨t.pc+1,t.r,t.fs,t.st,t.ft,[]⟩:Thr)) ta tc none 0 V2 (a_B hkV2 HR3.out) (by rw [show ((⟨t.pc+1,t.r,t.fs,t.st,t.ft,[]⟩:Thr)).fs.length=tn from HTN.out.1,show ((⟨t.pc+1,t.r,t.fs,t.st,t.ft,[]⟩:Thr)).lf.length=0 from rfl];exact ⟨(a_w hkV2 HT3.out).fcap,(a_w hkV2 HT3.out).fs,b_T,d_c⟩) (fun b hb=>HQ2.out.2.2 b (by have:=HZV2.out;have:=HS2.out;omega)) HN.out;rw [show ((⟨t.pc+1,t.r,t.fs,t.st,t.ft,[]⟩:Thr)).fs.length=tn from HTN.out.1,show ((⟨t.pc+1,t.r,t.fs,t.st,t.ft,[]⟩:Thr)).lf.length=0 from rfl,HD.out,HYF.out] at h;exact h
  have HYD:=N93;have HC:=hid h0;clear h0
  go_wp2_with (first | (refine wpList_load_mid rfl 33 _ rfl (w.heap.size) 0 rfl (woC L D) _ (a_f HX2s.out) Tryz.underlying33 rfl (by kernel_rfl) ?_) | (refine wpList_load_mid rfl 46 _ rfl (w.heap.size+2) 0 rfl (thC ((⟨t.pc+1,t.r,t.fs,t.st,t.ft,[]⟩:Thr)) ta tn tc none 0 0) _ (a_f HT2s.out) Tryz.underlying46 rfl (by kernel_rfl) ?_))
  refine HC.out.mono ?_;rintro e9 w9 ⟨L9,rfl,R9,hb9⟩;have HZ9:=hid (a_i hb9 HZ2s.out);have HB9:=hid (a_b HB2s.out hb9);have HR9:=hid R9;clear hb9 R9 HC;rw [HYD.out]
  go_wp2_with (refine a_c rfl 33 _ _ rfl (w.heap.size+1) (woC L9 D).toArray rfl rfl _ HZ9.out rfl (by kernel_rfl) (b_o _ _) ?_;intro U HU)
  have HZ10:=N26;refine a_V ⟨w.heap.size+1,0,none⟩ rfl rfl rfl (a_E HZ10.out 33 Tryz.underlying33 rfl (by kernel_rfl)) ?_;have hkU:=N7;exact a_Y (L:=L9) (by rw [HYD.out]) (a_D HQ2.out.1 (a_B hkU HR9.out)) (by rw [HU.out];exact a_h (by omega) HB9.out)
 ·have ht1:t.lf.length=0:=by have:=HTN.out.2;omega
  obtain rfl:tm=0:=by omega
  have HYF:=hid (show b_j X j (⟨t.pc,t.r,t.fs,t.st,t.ft,b_2 X⟩:Thr)=Y by rw [←HY.out,g_p,if_pos ht1]);obtain ⟨j0,ki,kz0,kz1,kz2⟩:=info_parts t_M;have HJ:=N72;have HBL:=hid HR3.out.bs.1;obtain ⟨bn,hbn⟩:=mn (L.bs.n);obtain ⟨ba,hba⟩:=mn (L.bs.a);obtain ⟨bc,hbc⟩:=mn (L.bs.c);have HBN:=hid (show bn≤1000 by rw [←hbn];exact HBM.out);have HBR:=hid (show BlP Q1 V ba bn X.bs by rw [←hbn,←hba];exact HR3.out.bs);obtain ⟨x4,-⟩:=(a_s (Obj.cells #[] 3) HX2.out) 4 _ rfl;rw [hba,hbn,hbc] at x4;have HBL2:=hid (show X.bs.length=bn by rw [HBL.out,hbn]);clear ki kz0 kz1 kz2 ht1 ht0 hba hbn hbc HBL
  go_wp2_with fail
  clear c12 g12 x4
  go_loopw [6,32] (fun v i wr=>∃ (k:Nat) (va:Option Addr) (vc:Nat),k≤bn∧i=.int .i64 k∧v=.slice va k vc∧Hid (wr.ownsRow V.heap.size 3 1 (.slice va k vc) k ((g_T X.bs k).map (.int .i64)))∧Below V.heap.size V wr) (fun _ i _=>bn - (intOf i).toNat)
  case atStart=>exact ⟨0,_,_,Nat.zero_le _,rfl,rfl,(show V.alloc (Obj.cells #[] 3) |>.ownsRow V.heap.size 3 1 (.slice (some ⟨V.heap.size,0,none⟩) 0 0) 0 [] from World.ownsRow_lit V #[] 0 (Nat.le_refl _) (by decide) rfl),(Below.refl _ _).alloc (Nat.le_refl _) _⟩
  case round =>
   obtain ⟨k,va,vc,hk,rfl,rfl,ho,hb⟩:=hrel;have hsz:=hb.size;have HB5:=hid hb
   by_cases hlt:k < bn
   ·obtain ⟨bb,oo,q,c,hba,h1,-,-⟩:=f_i (a_G (a_C HB5.out) HBR.out) hlt;subst hba;have HSS:=hid (show g_T X.bs (k+1)=g_T X.bs k++(((X.bs.getD k []).length:Nat):Int)::[] from m_n (by rw [HBL2.out];exact hlt));obtain ⟨m,hm⟩:=mn ((X.bs.getD k []).length);rw [hm] at h1 HSS;have i2:(0:Int)≤k:=by omega
    have i3:(k:Int) < bn:=by omega
    obtain ⟨rw0,hrw0⟩:=nm ((g_T X.bs k).map (Value.int .i64));have HOR:=hid (show wr.ownsRow V.heap.size 3 1 (.slice va k vc) k rw0 by rw [hrw0];exact ho.out);have HRW:=hid hrw0;have HKN:=hid (show k+1≤1000 by have:=HBN.out;omega);clear hrw0 hb hm
    go_wp2_with (at_builtin;refine wpList_append_own _ rfl (.tmp 36) (.tmp 39) 23 rfl V.heap.size 3 j0 (.int .i64 0) 1 8 Tryz.underlying23 HJ.out.1 HJ.out.2.1 HJ.out.2.2.1 HJ.out.2.2.2 rfl (by decide) (.slice va k vc) k rw0 rfl (HOR.out.alloc _) ⟨wr.heap.size,0,none⟩ 1 1 [.int .i64 m] rfl rfl (u_g _ _ rfl _ _) (by simp [Value.oneCell']) (by have:=HKN.out;unfold maxLen;omega) (by have:=HKN.out;omega) (by simp;omega) ?_)
    intro v4 w4 hown hgrow _;obtain ⟨va4,vc4,rfl⟩:=p_l hown;have HB6:=hid (show Below V.heap.size V w4 from (HB5.out.alloc hsz _).grown hgrow (by simp;omega) (fun g hr=>(HOR.out.lt g hr).1));have HO4:=hid (show w4.ownsRow V.heap.size 3 1 (.slice va4 (k+1) vc4) (k+1) ((g_T X.bs (k+1)).map (.int .i64)) by rw [HSS.out,List.map_append,←HRW.out];exact hown);clear hown hgrow;have hkn:=HKN.out;have hwk:=N171
    go_wp2_with fail
    go_roundw
    case rel=>exact ⟨k+1,va4,vc4,by omega,by go_num,rfl,HO4.out,HB6.out⟩
    case measure=>simp [intOf];omega
   ·obtain rfl:k=bn:=by omega
    obtain ⟨W3,hW3⟩:=nm (wr);subst hW3;obtain ⟨va9,vc9,hv9,h91,h92,h93,V9⟩:=e_v (r:=repInt) (Q:=Q1) ho.out (g_2 (.int .i64) (g_T X.bs k)) (fun b h _=>HQ2.out.2.2 b (by have:=HS2.out;omega))
    cases hv9
    have HL9:=hid (show Cap va k vc∧Vs repInt Q1 W3 va k (b_2 X) from ⟨⟨h91,h92,h93⟩,by rw [←n_M,HBL2.out];exact V9⟩);have HWL:=hid (show (b_2 X).length=k from HL9.out.2.1);have HX3:=hid (a_i HB5.out HX2.out);have HZ3:=hid (a_i HB5.out HZ2.out);have HT5:=hid (a_i HB5.out HT2.out);have HB3:=hid (a_b HB2.out HB5.out);have HR5:=hid (b_G HB5.out HR3.out);have HT4:=hid (a_w (a_C HB5.out) HT3.out);have HS3:=hid (show w.heap.size+3≤W3.heap.size by have:=HS2.out;omega);clear h91 h92 h93 V9 hb hsz ho HX2 HZ2 HT2 HB2 HR3 HT3 HS2;obtain ⟨c12,g12⟩:=HT5.out 12 _ rfl;obtain ⟨V2,hV2⟩:=nm ((W3.setCell ⟨(w.heap.size+2),12,none⟩ (.slice va k vc)));have HX3s:=hid (show a_p V2 (w.heap.size) _ by rw [hV2];exact (a_m (g':=(w.heap.size+2)) (o:=12) HX3.out (by omega) (.slice va k vc)));have HZ3s:=hid (show a_p V2 (w.heap.size+1) _ by rw [hV2];exact (a_m (g':=(w.heap.size+2)) (o:=12) HZ3.out (by omega) (.slice va k vc)));have HT5s:=hid (show a_p V2 ((w.heap.size+2)) (thC (⟨t.pc,t.r,t.fs,t.st,t.ft,b_2 X⟩:Thr) ta tn tc va k vc) by have h:=(a_A HT5.out 12 (by simp) (.slice va k vc));rw [hV2];exact h);have hkV2:Kept Q1 W3 V2:=by rw [hV2];exact (a_T _ _ _ (fun b hb=>by show b≠(w.heap.size+2);have:=HQ2.out.2.1 b hb;omega))
    have HB3s:=hid (show Below w.heap.size w V2 by rw [hV2];exact (HB3.out.setCell (p:=⟨(w.heap.size+2),12,none⟩) (by show _≤(w.heap.size+2);omega) _));have HZV2:=hid (show V2.heap.size=W3.heap.size by rw [hV2];simp);have HV2:=hid hV2;clear hV2
    go_upto_region 13 with fail
    rw [←HV2.out];clear c12 g12
    have h0:Calls Tryz.prog 53 #[woV L D,.int .i64 j,thV ((⟨t.pc,t.r,t.fs,t.st,t.ft,b_2 X⟩:Thr)) ta tn tc va k vc] V2 (b_B Q1 Y V2):=by
     have h:=c_R Q1 L X j ((⟨t.pc,t.r,t.fs,t.st,t.ft,b_2 X⟩:Thr)) ta tc va vc V2 (a_B hkV2 HR5.out) (by rw [show ((⟨t.pc,t.r,t.fs,t.st,t.ft,b_2 X⟩:Thr)).fs.length=tn from HTN.out.1,show ((⟨t.pc,t.r,t.fs,t.st,t.ft,b_2 X⟩:Thr)).lf.length=k from HWL.out];exact ⟨(a_w hkV2 HT4.out).fcap,(a_w hkV2 HT4.out).fs,HL9.out.1,a_z hkV2 HL9.out.2⟩) (fun b hb=>HQ2.out.2.2 b (by have:=HZV2.out;have:=HS3.out;omega)) HN.out;rw [show ((⟨t.pc,t.r,t.fs,t.st,t.ft,b_2 X⟩:Thr)).fs.length=tn from HTN.out.1,show ((⟨t.pc,t.r,t.fs,t.st,t.ft,b_2 X⟩:Thr)).lf.length=k from HWL.out,HD.out,HYF.out] at h;exact h
    have HYD:=N93;have HC:=hid h0;clear h0
    go_wp2_with (first | (refine wpList_load_mid rfl 33 _ rfl (w.heap.size) 0 rfl (woC L D) _ (a_f HX3s.out) Tryz.underlying33 rfl (by kernel_rfl) ?_) | (refine wpList_load_mid rfl 46 _ rfl (w.heap.size+2) 0 rfl (thC ((⟨t.pc,t.r,t.fs,t.st,t.ft,b_2 X⟩:Thr)) ta tn tc va k vc) _ (a_f HT5s.out) Tryz.underlying46 rfl (by kernel_rfl) ?_))
    refine HC.out.mono ?_;rintro e9 w9 ⟨L9,rfl,R9,hb9⟩;have HZ9:=hid (a_i hb9 HZ3s.out);have HB9:=hid (a_b HB3s.out hb9);have HR9:=hid R9;clear hb9 R9 HC;rw [HYD.out]
    go_wp2_with (refine a_c rfl 33 _ _ rfl (w.heap.size+1) (woC L9 D).toArray rfl rfl _ HZ9.out rfl (by kernel_rfl) (b_o _ _) ?_;intro U HU)
    have HZ10:=N26;refine a_V ⟨w.heap.size+1,0,none⟩ rfl rfl rfl (a_E HZ10.out 33 Tryz.underlying33 rfl (by kernel_rfl)) ?_;have hkU:=N7;exact a_Y (L:=L9) (by rw [HYD.out]) (a_D HQ2.out.1 (a_B hkU HR9.out)) (by rw [HU.out];exact a_h (by omega) HB9.out)
end Go.Proofs.YtogdpojnbgeknaaGreatDoor
