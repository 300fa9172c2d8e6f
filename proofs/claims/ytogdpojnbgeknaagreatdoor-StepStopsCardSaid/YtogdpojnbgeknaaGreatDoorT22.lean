import Derived.Test.YtogdpojnbgeknaaGreatDoorT21
import Derived.Test.YtogdpojnbgeknaaGreatDoorT0
import Derived.Test.YtogdpojnbgeknaaGreatDoorT6
import Derived.Test.YtogdpojnbgeknaaGreatDoorT15
import Derived.Test.YtogdpojnbgeknaaGreatDoorT4
set_option maxRecDepth 100000
set_option maxHeartbeats 16000000
namespace Go.Proofs.YtogdpojnbgeknaaGreatDoor
open Go.ChangeShapes Go.WideShapes Go.ChangeAt Go.RowKit
open Gen
open Lib (hid)
structure Wr (w:World) (g b o0:Nat) (L:WoL) (X:Wo) (k:Nat):Prop where
 x:a_p w g (wkC L X.D k)
 hb:L.th.a=some ⟨b,o0,none⟩
 th:Vs repTh Any w L.th.a L.th.n X.th
 co:Vs repIns Any w L.co.a L.co.n X.code
 ws:SlP Any w L.ws.a L.ws.n X.ws
 ts:SlP Any w L.ts.a L.ts.n X.ts
 bs:BlP Any w L.bs.a L.bs.n X.bs
 hk:k < X.th.length
 hn:X.th.length=L.th.n
theorem t_c {w w':World} {g b o0:Nat} {L:WoL} {X:Wo} {k:Nat} (hB:Below w.heap.size w w') (H:Wr w g b o0 L X k):Wr w' g b o0 L X k:=by
 have hK:=a_C (Q:=Any) hB;exact ⟨a_i hB H.x,H.hb,a_z hK H.th,a_z hK H.co,a_r hK H.ws,a_r hK H.ts,a_G hK H.bs,H.hk,H.hn⟩
theorem p_J {w:World} {g b o0:Nat} {L:WoL} {X:Wo} {k:Nat} (H:Wr w g b o0 L X k):∃ fa fc la lc,ThQ Any w fa (thW X k).fs.length fc la (thW X k).lf.length lc (thW X k) ∧
  ∀ j v,(thC (thW X k) fa (thW X k).fs.length fc la (thW X k).lf.length lc)[j]?=some v→w.cell? ⟨b,o0+k*13+j,none⟩=some v∧True:=by
 obtain ⟨b1,o1,t,fa,fc,la,lc,e,ht,-,T,h⟩:=d_b H.th (k:=k) (by have:=H.hk;have:=H.hn;omega);rw [H.hb] at e
 cases e
 rw [j_M H.hk] at ht
 cases ht
 exact ⟨fa,fc,la,lc,T,fun j v hj=>⟨h j v hj,trivial⟩⟩
theorem h_j (g b o0:Nat) (L:WoL) (X:Wo) (k:Nat) (w:World) (H:Wr w g b o0 L X k) :
  Calls Tryz.prog 78 #[.pointer (some ⟨g,0,none⟩)] w (fun e w'=>e=.returned (.pointer (some ⟨b,o0+k*13,none⟩))∧∃ m,w'=w.drewN m):=by
 exact J63
theorem o_Q (g b o0:Nat) (L:WoL) (X:Wo) (k:Nat) (w:World) (H:Wr w g b o0 L X k) (hp0:0≤(thW X k).pc) :
  Calls Tryz.prog 79 #[.pointer (some ⟨g,0,none⟩)] w (l_o (inW X (thW X k).pc) (decide ((thW X k).pc < X.code.length)) w):=by
 obtain ⟨W,hW⟩:=nm (w.alloc (Obj.cells (inC (0,0,0,0)).toArray 66));have HR:=N234;have HB:=N3;have HH:=hid (t_c HB.out H);have HC:=hid (h_j g b o0 L X k W HH.out);obtain ⟨fa,fc,la,lc,-,ht⟩:=p_J HH.out;obtain ⟨t0,-⟩:=ht 0 _ rfl;obtain ⟨x0,-⟩:=HH.out.x 0 _ rfl;have HW:=hid hW;obtain ⟨pc,hpc⟩:=mn ((thW X k).pc);rw [hpc] at t0 hp0;rw [hpc];have HL:=hid (show X.code.length=L.co.n from H.co.1);obtain ⟨i,hi⟩:=mn (inW X pc);rw [hi];have HI:=hid hi;obtain ⟨d,hd⟩:=mn (decide (pc < X.code.length));rw [hd];have HDD:=hid hd;clear hW H hpc ht hi hd
 go_enter Tryz.func79,Tryz.ntmps79
 go_upto_region 1 with fail
 rw [←HW.out]
 go_wp2_with fail
 refine HC.out.mono ?_;rintro e1 w1 ⟨rfl,m,rfl⟩;clear HC;have t1:W.cell? ⟨b,o0+k*13,none⟩=some (.int .i64 pc):=t0;exact J15
theorem j_9 (g b o0:Nat) (L:WoL) (X:Wo) (k:Nat) (i:Ins) (w:World) (H:Wr w g b o0 L X k) (ha:0≤i.2.1∧i.2.1≤7) (hb:0≤i.2.2.1∧i.2.2.1≤7) (hw:(Lit.int .i64 (rgt (thW X k) i.2.2.1)).wf=true) :
  Calls Tryz.prog 82 #[.pointer (some ⟨g,0,none⟩),.agg #[.int .i64 i.1,.int .i64 i.2.1,.int .i64 i.2.2.1,.int .i64 i.2.2.2]] w (b_l (i_5 X (thW X k) i) w):=by
 obtain ⟨o,ra,rb,c⟩:=i;simp only at ha hb hw ⊢;obtain ⟨ja,rfl⟩:∃ j:Nat,ra=j:=⟨ra.toNat,by omega⟩;obtain ⟨jb,rfl⟩:∃ j:Nat,rb=j:=⟨rb.toNat,by omega⟩;obtain ⟨y,hy⟩:=mn (i_5 X (thW X k) (o,(ja:Int),(jb:Int),c));rw [hy];simp only [i_5,rgt,Int.toNat_natCast] at hy hw;obtain ⟨W,hW⟩:=nm (w.alloc (Obj.cells (inC (o,(ja:Int),(jb:Int),c)).toArray 66));have HI:=hid (show a_p W w.heap.size (inC (o,(ja:Int),(jb:Int),c)) by rw [hW];exact a_e _ _ rfl);have HB:=N3;have HSZ:=N147;have HH:=hid (t_c HB.out H);have HC:=hid (h_j g b o0 L X k W HH.out);obtain ⟨fa,fc,la,lc,-,ht⟩:=p_J HH.out;obtain ⟨t,htt⟩:=mn (thW X k);rw [htt] at ht hy hw;obtain ⟨va,hva⟩:=mn (t.r ja);obtain ⟨vb,hvb⟩:=mn (t.r jb)
 have HT:=hid (show W.rangeAt b (o0+k*13+1) (rgC t.r) from fun j v hj=>by
  have h1:=N145;rw [Nat.add_assoc];refine (ht (1+j) v ?_).1;rw [←hj]
  rcases (show j=0∨j=1∨j=2∨j=3∨j=4∨j=5∨j=6∨j=7 by omega) with rfl | rfl | rfl | rfl | rfl | rfl | rfl | rfl <;> rfl)
 have ⟨HW,HY,HWF,HVA,HVB⟩:=hh5 hW hy hw hva hvb;clear hW H ht hy hw hva hvb
 go_enter Tryz.func82,Tryz.ntmps82
 go_upto_region 1 with fail
 rw [←HW.out]
 go_wp2_with fail
 refine HC.out.mono ?_;rintro e1 w1 ⟨rfl,m,hm⟩;have HB1:=N209;have HZ1:=hid (show w1.heap.size=w.heap.size+1 by rw [hm,←HSZ.out];rfl);have HT1:=hid (show w1.rangeAt b (o0+k*13+1) (rgC t.r) from fun j v hj=>a_u HB1.out (HT.out j v hj));clear HC hm HT
 go_upto_region 2 with (first | (refine wpList_load_mid rfl 43 _ rfl b (o0+k*13+1) rfl (rgC t.r) _ HT1.out Tryz.underlying43 rfl (by kernel_rfl) ?_) | (refine a_c rfl 43 _ _ rfl w1.heap.size (rgC t.r).toArray rfl rfl _ (a_e rgZ w1.heap.size rfl) rfl (by kernel_rfl) (by simp [Value.oneCell']) ?_;intro V HV))
 have HR2:=N202;have HB2:=N115;have HI2:=hid (a_i HB2.out HI.out);have HH2:=hid (t_c HB2.out HH.out);rw [HZ1.out] at HR2 ⊢;have HL:=hid (fun (u:World) (hu:Below V.heap.size V u)=>g_D L.ws.a L.ts.a L.ws.n L.ws.c L.ts.n L.ts.c X.ws X.ts vb u (f_k hu HH2.out.ws) (f_k hu HH2.out.ts) (by rw [←HVB.out];exact HWF.out));obtain ⟨lv,hlv⟩:=mn (b_K X.ws X.ts vb);obtain ⟨le,hle⟩:=mn (a_I X.ws X.ts vb);rw [hlv,hle] at HL;have HYV:=hid (show (decide (le≠0)||decide (lv≠va))=y by rw [←HY.out];subst hlv hle;have ha:=HVA.out;have hb:=HVB.out;subst ha hb;rfl);obtain ⟨x1,-⟩:=HH2.out.x 1 _ rfl;obtain ⟨x2,-⟩:=HH2.out.x 2 _ rfl;obtain ⟨q2,-⟩:=HI2.out 2 _ rfl;obtain ⟨q1,-⟩:=HI2.out 1 _ rfl;have i1:(0:Int)≤jb:=by omega
 have i2:(jb:Int) < 8:=by omega
 have i3:(0:Int)≤ja:=by omega
 have i4:(ja:Int) < 8:=by omega
 obtain ⟨r1,-⟩:=HR2.out jb _ (b_L t.r jb (by omega) _);obtain ⟨r2,-⟩:=HR2.out ja _ (b_L t.r ja (by omega) _);rw [HVA.out] at r2;rw [HVB.out] at r1;clear hlv hle HV HR2;have hG:=o_a w.heap.size g L jb vb lv le
 go_upto_region 2 with fail
 refine d_k [some 14,some 15,some 16,some 17,some 18,some 19,some 20,some 21,some 22,some 23,some 24,some 13,some 25,some 26,some 6,some 7] (fun w'=>Below V.heap.size V w') (t_p w.heap.size g L jb vb lv le) 100 100 (fun _ _ _=>True) (by kernel_rfl) (by kernel_rfl) (by decide) rfl ((Below.refl _ _).drew) ?_ ?_
 ·show StepsL _ _ _ _ _ _ _
  refine InvD.c (fun _ _ w1 C _ hK=>oR C hK (h:=by simp [execOp,go_sem,C.o 0 (.pointer (some ⟨g,0,none⟩))])) ?_;refine InvD.c (fun _ _ w1 C _ hK=>oR C hK (h:=by simp [execOp,go_sem,C.i 0])) ?_;refine InvD.c (fun _ _ w1 C _ hK=>oR C hK (h:=by simp [execOp,go_sem,C.i 1])) ?_;refine InvD.c (fun _ _ w1 C _ hK=>oR C hK (h:=by simp [execOp,go_sem,C.i 2])) ?_;refine InvD.c (fun _ _ w1 C _ hK=>oR C hK (h:=by simp [execOp,go_sem,C.i 3])) ?_;refine InvD.c (fun a1 vals w1 C K hK=>?_) ?_
  ·have e0:=C.i 4;exact J74
  refine InvD.c (fun _ _ w1 C _ hK=>oR C hK (h:=by simp [execOp,go_sem,C.o 3 (.pointer (some ⟨w.heap.size,0,none⟩))])) ?_;refine InvD.c (fun _ _ w1 C _ hK=>oR C hK (h:=by simp [execOp,go_sem,C.i 6,a_u C.base q2])) ?_;refine InvD.c (fun _ _ w1 C _ hK=>oR C hK (h:=by simp [execOp,go_sem,C.o 5 (.pointer (some ⟨w.heap.size+1,0,none⟩)),C.i 7,i1,i2])) ?_;refine InvD.c (fun _ _ w1 C _ hK=>oR C hK (h:=by simp [execOp,go_sem,C.i 8,a_u C.base r1])) ?_;refine InvD.c (fun a1 vals w1 C K hK=>?_) ?_
  ·have e0:=C.i 5;have e1:=C.i 9;rw [a_M] at e0 e1;refine a_g rfl (a_O _ _ _ rfl 112 rfl [.agg #[.slice L.ws.a L.ws.n L.ws.c,.slice L.ts.a L.ts.n L.ts.c],.int .i64 vb] (by simp only [List.map_cons,List.map_nil,e0,e1]) (by kernel_rfl) ((HL.out w1 C.base).mono ?_));exact J75
  refine InvD.c (fun _ _ w1 C _ hK=>oR C hK (h:=by simp [execOp,go_sem,C.i 10])) ?_;refine InvD.c (fun _ _ w1 C _ hK=>oR C hK (h:=by simp [execOp,go_sem,C.i 11])) ?_;refine InvD.c (fun _ _ w1 C _ hK=>oR C hK (h:=by simp [execOp,go_sem,C.i 11])) ?_;refine InvD.c (fun _ _ w1 C _ hK=>oR C hK (h:=by simp [execOp,go_sem,C.i 12])) ?_;refine InvD.c (fun _ _ w1 C _ hK=>oR C hK (h:=by simp [execOp,go_sem,C.i 13])) ?_;exact StepsL.nil
 ·intro vals w1 hb hv hbo;have y10:vals 14=.int .i64 lv:=List.head_eq_of_cons_eq (hv 14 (by decide));have y11:vals 15=.int .i64 le:=List.head_eq_of_cons_eq (hv 15 (by decide));simp only [c_I,Act.put,sA,sB,sC,y10,y11];have q1':=a_u hb q1;have r2':=a_u hb r2;have HB3:=hid (show Below w.heap.size w w1 from a_b HB.out (a_b HB2.out hb));clear hb hv hbo y10 y11 HL x1 x2 q1 q2 r1 r2 hG
  by_cases e0:le=0
  ·subst e0;have HYW:=hid (show (lv != va)=y by rw [←HYV.out];by_cases e:lv=va <;> simp [e])
   go_wp2_with fail
   go_ret
   exact a_k HYW.out.symm HB3.out
  ·have hk0:(le != 0)=true:=by simpa using e0
   go_wp2_with fail
   go_ret
   exact a_k (s:=true) (by rw [←HYV.out];simp [e0]) HB3.out
theorem l_A (g b o0:Nat) (L:WoL) (X:Wo) (k:Nat) (w:World) (H:Wr w g b o0 L X k) (hrw:b_i X=true) (hwf:∀ j,j < 8→(Lit.int .i64 ((thW X k).r j)).wf=true) :
  Calls Tryz.prog 39 #[.pointer (some ⟨g,0,none⟩)] w (b_l (h_z X k) w):=by
 obtain ⟨y,hy⟩:=mn (h_z X k);rw [hy];obtain ⟨hrc,hrm,hrl,hro⟩:=a_N hrw
 have HCI:=hid (show ∀ i∈X.code,c_M i X.code.length=true by
  simp only [c_a,Bool.and_eq_true,decide_eq_true_eq,List.all_eq_true] at hrc;exact hrc.2)
 have hrt:a_1 (thW X k)=true:=by
  have h:=hro _ (List.mem_of_getElem? (j_M H.hk));simp only [e_Q,Bool.and_eq_true] at h;exact h.1
 have hpc0:0≤(thW X k).pc∧(thW X k).pc≤1000:=by
  simp only [a_1,Bool.and_eq_true,decide_eq_true_eq] at hrt;exact hrt.1.1.1
 have hlf8:(thW X k).lf.length≤8:=(d_G hrt).2;obtain ⟨D,hD⟩:=mn (X.D);obtain ⟨bb,bo,q,c,hba,hbc,-,-⟩:=f_i H.bs (i:=k) (by have:=H.bs.1;have:=H.hk;omega);obtain ⟨bl,hbl⟩:=mn ((X.bs.getD k []).length);have HBL:=hid (show (bfW X k).length=bl from hbl);rw [hbl] at hbc;obtain ⟨x4,-⟩:=H.x 4 _ rfl;obtain ⟨x7,-⟩:=H.x 7 _ rfl;rw [hba] at x4;have i1:(0:Int)≤k:=by omega
 have i2:(k:Int) < L.bs.n:=by have:=H.bs.1;have:=H.hk;omega
 obtain ⟨fa,fc,la,lc,TQ,ht⟩:=p_J H;obtain ⟨t10,-⟩:=ht 10 _ rfl;have q:=fun (d:Nat)=>h_j g b o0 L X k (w.drewN d) (t_c (below_drewN (Below.refl _ _) d) H)
 have ⟨HH,HRW,HWF,HPC,HLF⟩:=hh5 H hrw hwf hpc0 hlf8;have HN:=hid (fun (u:World) (hu:Below w.heap.size w u)=>o_Q g b o0 L X k u (t_c hu H) hpc0.1);have ⟨HT,HTQ⟩:=hh2 ht TQ;obtain ⟨t,htt⟩:=mn (thW X k);rw [htt] at t10 HN HT HTQ HWF HPC HLF;have HTT:=hid htt;have HY:=hid (show n_Q X t (bfW X k)=y by rw [←hy,h_z,htt]);have HD:=hid hD;clear hy hrc hrm hrl hro hrt hpc0 hlf8 hD hba hbl ht htt H hrw hwf TQ
 go_enter Tryz.func39,Tryz.ntmps39
 go_upto_region 1 with fail
 go_quiet ((go_at_call 78;exact Calls.quiet_of (q _)))
 clear q x4 hbc x7;have t10:(w.drewN nq).cell? ⟨b,o0+k*13+10,none⟩=_:=t10;have HB0:=hid (show Below w.heap.size w (w.drewN nq) from below_drewN (Below.refl _ _) nq);obtain ⟨W,hW⟩:=nm (w.drewN nq);rw [←hW] at t10 HB0 ⊢;clear hW;have HH0:=hid (t_c HB0.out HH.out)
 by_cases st0:t.st=0
 ·have hs0:(t.st != 0)=false:=by simp [st0]
  have HST:=hid st0;clear st0;have HC:=hid (HN.out W HB0.out);clear HN
  go_wp2_with fail
  refine HC.out.mono ?_;clear HC;rintro e1 w1 ⟨rfl,hb1⟩;have HB1:=hid (a_b HB0.out hb1);clear hb1 t10 hs0;obtain ⟨i,hi⟩:=mn (inW X t.pc);rw [hi];have HI:=hid hi;obtain ⟨d,hd⟩:=mn (decide (t.pc < X.code.length));rw [hd];have HDD:=hid hd;clear hi hd
  go_upto_region 5 with (refine a_c rfl 66 _ _ rfl w1.heap.size (inC i).toArray rfl rfl _ (a_e (inC (0,0,0,0)) w1.heap.size rfl) rfl (by kernel_rfl) (by simp [Value.oneCell']) ?_;intro U HU)
  have HIU:=hid (show a_p U w1.heap.size (inC i) by rw [HU.out];exact a_q (a_e (inC (0,0,0,0)) _ rfl) rfl);have HBU:=N73;have HHU:=hid (t_c HBU.out HH.out);clear HU
  cases d with
  | false =>
   have HYV:=hid (show true=y by
    rw [←HY.out,n_Q,if_neg (by rw [HST.out];simp),if_pos (by have:=of_decide_eq_false HDD.out;omega)])
   go_wp2_with fail
   go_ret
   exact a_k (s:=true) HYV.out.symm HBU.out
  | true =>
   have HYI:=hid (show m_v X t (bfW X k) i=y by
    rw [←HY.out,n_Q,if_neg (by rw [HST.out];simp),if_neg (by have:=of_decide_eq_true HDD.out;omega),HI.out])
   have HMI:=hid (show c_M i X.code.length=true from HCI.out _ (by rw [←HI.out];exact q_w HPC.out.1 (of_decide_eq_true HDD.out)));obtain ⟨op,ra,rb,rc⟩:=i;obtain ⟨q0,-⟩:=HIU.out 0 _ rfl;obtain ⟨x3,-⟩:=HHU.out.x 3 _ rfl;rw [HD.out] at x3
   by_cases h17:op=17
   ·subst h17;have HYV:=hid (show decide (D=0∨(bl:Int) < D)=y by rw [←HYI.out,m_v,if_pos rfl,HBL.out,HD.out])
    by_cases hD0:D=0
    ·have hd0:(D==0)=true:=by simpa using hD0
     have HYW:=hid (show true=y by rw [←HYV.out,decide_eq_true (.inl hD0)]);clear hD0
     go_wp2_with fail
     go_ret
     exact a_k (s:=true) HYW.out.symm HBU.out
    ·have hd0:(D==0)=false:=by simpa using hD0
     have HYW:=hid (show decide ((bl:Int) < D)=y by
      rw [←HYV.out]
      by_cases e:(bl:Int) < D
      ·rw [decide_eq_true e,decide_eq_true (.inr e)]
      ·rw [decide_eq_false e,decide_eq_false (fun h=>h.elim hD0 e)])
     clear hD0
     go_wp2_with fail
     go_ret
     exact a_k HYW.out.symm HBU.out
   ·by_cases hf:op=18∨op=19∨op=20∨op=21
    ·have HYV:=hid (show decide (bl=0)=y by rw [←HYI.out,m_v,if_neg h17,if_pos hf,HBL.out])
     have HYW:=hid (show ((bl:Int)==0)=y by
      rw [←HYV.out]
      by_cases e:bl=0
      ·subst e;simp
      ·rw [decide_eq_false e];simp;omega)
     rcases hf with rfl | rfl | rfl | rfl
     ·exact J83
     ·exact J83
     ·exact J83
     ·exact J83
    ·by_cases h22:op=22
     ·subst h22;have HYV:=hid (show r_E t.lf=y by rw [←HYI.out,m_v,if_neg (by simp),if_neg (by simp),if_pos rfl];rfl);have HTU:=hid (fun j v hj=>a_u HBU.out (HT.out j v hj).1);have t12:=HTU.out 12 _ rfl;have HC:=hid (p_4 la t.lf.length lc t.lf U (d_3 (a_z (a_C HBU.out) HTQ.out.lf)) (by have:=HLF.out;omega));obtain ⟨lm,hlm⟩:=mn (t.lf.length);rw [hlm] at t12 HC;obtain ⟨az,haz⟩:=mn (r_E t.lf);rw [haz] at HC HYV;clear hlm haz
      go_wp2_with fail
      refine HC.out.mono ?_;clear HC;rintro e2 w2 ⟨rfl,hb2⟩;have HB2:=hid (a_b HBU.out hb2);clear hb2
      go_wp2_with fail
      go_ret
      exact a_k (by rw [←HYV.out]) HB2.out
     ·by_cases h23:op=23
      ·subst h23;obtain ⟨ha,hb,-⟩:=c_4 HMI.out (by simp);simp only at ha hb;have HYV:=hid (show (decide (bl=0)&&i_5 X t (23,ra,rb,rc))=y by rw [←HYI.out,m_v,if_neg (by simp),if_neg (by simp),if_neg (by simp),if_pos rfl,HBL.out];rfl)
       by_cases hb0:bl=0
       ·have HYW:=hid (show i_5 X t (23,ra,rb,rc)=y by rw [←HYV.out,decide_eq_true hb0,Bool.true_and])
        have HC0:=j_9 g b o0 L X k (23,ra,rb,rc) U HHU.out ha hb (by
         obtain ⟨j,hj⟩:∃ j:Nat,rb=j:=⟨rb.toNat,by omega⟩;subst hj;rw [HTT.out,rgt,Int.toNat_natCast];exact HWF.out j (by omega))
        rw [HTT.out,HYW.out] at HC0;have HC:=hid HC0;obtain ⟨q1,-⟩:=HIU.out 1 _ rfl;obtain ⟨q2,-⟩:=HIU.out 2 _ rfl;obtain ⟨q3,-⟩:=HIU.out 3 _ rfl;clear HC0 ha hb;subst hb0
        go_wp2_with fail
        refine HC.out.mono ?_;clear HC;rintro e2 w2 ⟨rfl,hb2⟩;have HB2:=hid (a_b HBU.out hb2);clear hb2
        go_wp2_with fail
        go_ret
        exact a_k rfl HB2.out
       ·have HYW:=hid (show false=y by rw [←HYV.out,decide_eq_false hb0,Bool.false_and]);have hk0:((bl:Int)==0)=false:=by simp;omega
        clear hb0 ha hb
        go_wp2_with fail
        go_ret
        exact a_k (s:=false) HYW.out.symm HBU.out
      ·have HYV:=hid (show true=y by rw [←HYI.out,m_v,if_neg h17,if_neg hf,if_neg h22,if_neg h23]);have q17:(op==17)=false:=by simp;omega
       have q18:(op==18)=false:=by simp;omega
       have q19:(op==19)=false:=by simp;omega
       have q20:(op==20)=false:=by simp;omega
       have q21:(op==21)=false:=by simp;omega
       have q22:(op==22)=false:=by simp;omega
       have q23:(op==23)=false:=by simp;omega
       clear h17 hf h22 h23
       go_wp2_with fail
       go_ret
       exact a_k (s:=true) HYV.out.symm HBU.out
 ·have hs0:(t.st != 0)=true:=by simpa using st0
  have HYV:=hid (show false=y by rw [←HY.out,n_Q,if_pos st0]);clear HN
  go_wp2_with fail
  go_ret
  exact a_k (s:=false) HYV.out.symm HB0.out
theorem q_M:∀ k,k < 27→opName.getD k []≠[]:=by
 have h:(List.range 27).all (fun k=>decide (opName.getD k []≠[]))=true:=by kernel_rfl
 intro k hk
 simpa using List.all_eq_true.1 h k (List.mem_range.2 hk)
theorem k_T (i:Ins) (m:Int) (w:World):Calls Tryz.prog 33 #[t_f i,.int .i64 m] w (b_l (c_M i m) w):=by
 obtain ⟨op,a,b,c⟩:=i
 show Calls Tryz.prog 33 #[.agg #[.int .i64 op,.int .i64 a,.int .i64 b,.int .i64 c],.int .i64 m] w (b_l (c_M (op,a,b,c) m) w)
 obtain ⟨W,hW⟩:∃ W,W=w.alloc (Obj.cells #[.int .i64 op,.int .i64 a,.int .i64 b,.int .i64 c] 66):=⟨_,rfl⟩;have X:a_p W w.heap.size [.int .i64 op,.int .i64 a,.int .i64 b,.int .i64 c]:=by rw [hW];exact a_e _ _ rfl
 have hB:=N2;have ⟨HB,HW,HX⟩:=hh3 hB hW X;clear hW X hB
 by_cases h0:0≤op∧op < 27
 ·obtain ⟨k,rfl⟩:∃ k:Nat,op=(k:Int):=⟨op.toNat,by omega⟩;have hk:k < 27:=by omega
  obtain ⟨sg,hsg⟩:=mn (opSign.getD k []);obtain ⟨nm,hnm⟩:=mn (opName.getD k []);have hne:nm.isEmpty=false:=by rw [←Bool.not_eq_true,List.isEmpty_iff,←hnm];exact q_M k hk
  obtain ⟨s1,s2⟩:=l_5 k hk;rw [hsg] at s1 s2;have hop:(opSign.getD ((k:Int),a,b,c).1.toNat [])=sg:=by rw [←hsg];rfl
  have ⟨HOP,HSC,H0⟩:=hh3 hop s2 h0;have hn1:=fun w'=>k_U k w' hk
  have hk1:=fun w'=>j_v k w' hk
  simp only [hnm] at hn1;simp only [hsg] at hk1;clear hsg hop h0 s2 hk hnm
  go_enter Tryz.func33,Tryz.ntmps33
  go_upto_region 1 with fail
  rw [←HW.out];have x0:=(HX.out 0 _ rfl).1;have x1:=(HX.out 1 _ rfl).1;have x2:=(HX.out 2 _ rfl).1;have x3:=(HX.out 3 _ rfl).1
  go_wp2_with fail
  refine (hn1 _).mono ?_;rintro e w1 ⟨rfl,hb1⟩;have HX1:=hid (a_i hb1 HX.out);have HBW:=hid hb1;clear hb1 x0 x1 x2 x3;have x0:=(HX1.out 0 _ rfl).1;have x1:=(HX1.out 1 _ rfl).1;have x2:=(HX1.out 2 _ rfl).1;have x3:=(HX1.out 3 _ rfl).1
  go_wp2_with fail
  refine (hk1 _).mono ?_;rintro e w2 ⟨rfl,hb2⟩;have HBW2:=hid (a_b HBW.out hb2);clear hb2 x0 x1 x2 x3 HBW HX1 hk1 hn1 hne
  go_wp2
  go_loopw [6] (fun i wr=>∃ j:Nat,j≤3∧i=.int .i64 j∧Hid (∀ q,q < j→kOk (k,a,b,c) m sg q=true)∧Hid (Below W.heap.size W wr)) (fun i _=>3 - (intOf i).toNat)
  case atStart=>exact ⟨0,by omega,rfl,(show ∀ q,q < 0→_ from fun q hq=>by omega),HBW2.out⟩
  case round =>
   clear HBW2;obtain ⟨j,hj,rfl,hok,HBW⟩:=hrel
   have hstep:∀ {j:Nat},(∀ q,q < j→kOk (k,a,b,c) m sg q=true)→kOk (k,a,b,c) m sg j=true→∀ q,q < j+1→kOk (k,a,b,c) m sg q=true:=fun h1 h2 q hq=>by
    rcases Nat.lt_succ_iff_lt_or_eq.1 hq with h | rfl
    ·exact h1 q h
    ·exact h2
   have HXR:=hid (a_i HBW.out HX.out);have x0:=(HXR.out 0 _ rfl).1;have x1:=(HXR.out 1 _ rfl).1;have x2:=(HXR.out 2 _ rfl).1;have x3:=(HXR.out 3 _ rfl).1;clear HXR
   rcases (show j=0∨j=1∨j=2∨j=3 by omega) with rfl | rfl | rfl | rfl
   ·have hoj:e_a ((k:Int),a,b,c) 0=a:=rfl
    by_cases hlt:0 < sg.length
    ·have hjs:0 < (str sg).size:=by rw [e_8];exact hlt
     have hbt:(str sg)[0].toNat=(sg.getD 0 0).toNat:=by rw [e_1,e_o]
     have hcc:=HSC.out 0 hlt;have hv:kOk ((k:Int),a,b,c) m sg 0=b_S (sg.getD 0 0).toNat a m:=by rw [kOk,if_pos hlt];rfl
     have j1:¬ sg=[]:=by intro e;subst e;simp at hlt
     have j2:0 < sg.length:=hlt;clear hlt
     rcases hcc with hc | hc | hc
     ·rw [hc] at hv hbt;clear hc
      by_cases hlo:a < 0
      ·exact J10
      ·by_cases hhi:7 < a
       ·exact J10
       ·have hf:=N164;clear hv hoj;exact J28
     ·rw [hc] at hv hbt;clear hc
      by_cases hlo:a < -1000000000
      ·exact J10
      ·by_cases hhi:1000000000 < a
       ·exact J10
       ·have hf:=N164;clear hv hoj;exact J28
     ·rw [hc] at hv hbt;clear hc
      by_cases hlo:a < 0
      ·exact J10
      ·by_cases hhi:m < a
       ·exact J10
       ·have hf:=N164;clear hv hoj;exact J28
    ·have hv:=N229;have j1:sg=[]:=List.eq_nil_of_length_eq_zero (by omega);clear hlt hoj;subst j1
     by_cases hz:a=0
     ·have hf:kOk ((k:Int),a,b,c) m [] 0=true:=by rw [hv];exact decide_eq_true hz
      have q:(a != 0)=false:=by simpa using hz
      clear hz hv;exact J28
     ·have hf:kOk ((k:Int),a,b,c) m [] 0=false:=by rw [hv];exact decide_eq_false hz
      have q:(a != 0)=true:=by simpa using hz
      clear hz hv;have HS:=hid (b_E (i:=((k:Int),a,b,c)) (m:=m) (k:=0) (by omega) (by rw [HOP.out];exact (hf)));clear hok hstep
      go_wp2_with fail
      refine (a_F ((k:Int),a,b,c) 0 _ (by omega)).mono ?_;rintro e w1 ⟨rfl,hb1⟩;rw [show e_a ((k:Int),a,b,c) 0=a from rfl];exact J12
   ·have hoj:e_a ((k:Int),a,b,c) 1=b:=rfl
    by_cases hlt:1 < sg.length
    ·have hjs:1 < (str sg).size:=by rw [e_8];exact hlt
     have hbt:(str sg)[1].toNat=(sg.getD 1 0).toNat:=by rw [e_1,e_o]
     have hcc:=HSC.out 1 hlt;have hv:kOk ((k:Int),a,b,c) m sg 1=b_S (sg.getD 1 0).toNat b m:=by rw [kOk,if_pos hlt];rfl
     have j1:¬ (sg.length:Int)≤1:=by omega
     have j2:1 < sg.length:=hlt;have j3:((1:Int)) < sg.length:=by omega
     clear hlt
     rcases hcc with hc | hc | hc
     ·rw [hc] at hv hbt;clear hc
      by_cases hlo:b < 0
      ·exact J9
      ·by_cases hhi:7 < b
       ·exact J9
       ·have hf:=N165;clear hv hoj;exact J27
     ·rw [hc] at hv hbt;clear hc
      by_cases hlo:b < -1000000000
      ·exact J9
      ·by_cases hhi:1000000000 < b
       ·exact J9
       ·have hf:=N165;clear hv hoj;exact J27
     ·rw [hc] at hv hbt;clear hc
      by_cases hlo:b < 0
      ·exact J9
      ·by_cases hhi:m < b
       ·exact J9
       ·have hf:=N165;clear hv hoj;exact J27
    ·have hv:=N230;have j1:(sg.length:Int)≤1:=by omega
     clear hlt hoj
     by_cases hz:b=0
     ·have hf:kOk ((k:Int),a,b,c) m sg 1=true:=by rw [hv];exact decide_eq_true hz
      have q:(b != 0)=false:=by simpa using hz
      clear hz hv;exact J27
     ·have hf:kOk ((k:Int),a,b,c) m sg 1=false:=by rw [hv];exact decide_eq_false hz
      have q:(b != 0)=true:=by simpa using hz
      clear hz hv;have HS:=hid (b_E (i:=((k:Int),a,b,c)) (m:=m) (k:=1) (by omega) (by rw [HOP.out];exact (hf)));clear hok hstep
      go_wp2_with fail
      refine (a_F ((k:Int),a,b,c) 1 _ (by omega)).mono ?_;rintro e w1 ⟨rfl,hb1⟩;rw [show e_a ((k:Int),a,b,c) 1=b from rfl];exact J12
   ·have hoj:e_a ((k:Int),a,b,c) 2=c:=rfl
    by_cases hlt:2 < sg.length
    ·have hjs:2 < (str sg).size:=by rw [e_8];exact hlt
     have hbt:(str sg)[2].toNat=(sg.getD 2 0).toNat:=by rw [e_1,e_o]
     have hcc:=HSC.out 2 hlt;have hv:kOk ((k:Int),a,b,c) m sg 2=b_S (sg.getD 2 0).toNat c m:=by rw [kOk,if_pos hlt];rfl
     have j1:¬ (sg.length:Int)≤2:=by omega
     have j2:2 < sg.length:=hlt;have j3:((2:Int)) < sg.length:=by omega
     clear hlt
     rcases hcc with hc | hc | hc
     ·rw [hc] at hv hbt;clear hc
      by_cases hlo:c < 0
      ·exact J8
      ·by_cases hhi:7 < c
       ·exact J8
       ·have hf:=N166;clear hv hoj;exact J26
     ·rw [hc] at hv hbt;clear hc
      by_cases hlo:c < -1000000000
      ·exact J8
      ·by_cases hhi:1000000000 < c
       ·exact J8
       ·have hf:=N166;clear hv hoj;exact J26
     ·rw [hc] at hv hbt;clear hc
      by_cases hlo:c < 0
      ·exact J8
      ·by_cases hhi:m < c
       ·exact J8
       ·have hf:=N166;clear hv hoj;exact J26
    ·have hv:=N231;have j1:(sg.length:Int)≤2:=by omega
     clear hlt hoj
     by_cases hz:c=0
     ·have hf:kOk ((k:Int),a,b,c) m sg 2=true:=by rw [hv];exact decide_eq_true hz
      have q:(c != 0)=false:=by simpa using hz
      clear hz hv;exact J26
     ·have hf:kOk ((k:Int),a,b,c) m sg 2=false:=by rw [hv];exact decide_eq_false hz
      have q:(c != 0)=true:=by simpa using hz
      clear hz hv;have HS:=hid (b_E (i:=((k:Int),a,b,c)) (m:=m) (k:=2) (by omega) (by rw [HOP.out];exact (hf)));clear hok hstep
      go_wp2_with fail
      refine (a_F ((k:Int),a,b,c) 2 _ (by omega)).mono ?_;rintro e w1 ⟨rfl,hb1⟩;rw [show e_a ((k:Int),a,b,c) 2=c from rfl];exact J12
   ·have HS:=N183;have HB2:=hid (a_b HB.out HBW.out);clear hok hstep HBW
    go_wp2
    go_ret
    exact a_k HS.out HB2.out
 ·have HS:=hid (o_D (i:=(op,a,b,c)) (m:=m) h0)
  go_enter Tryz.func33,Tryz.ntmps33
  go_upto_region 1 with fail
  rw [←HW.out];have x0:=(HX.out 0 _ rfl).1;have x1:=(HX.out 1 _ rfl).1;have x2:=(HX.out 2 _ rfl).1;have x3:=(HX.out 3 _ rfl).1
  go_wp2_with fail
  refine (m_Z op _ h0).mono ?_;rintro e w1 ⟨rfl,hb1⟩;have HB1:=hid (a_b HB.out hb1);clear hb1 x0 x1 x2 x3
  go_wp2
  go_ret
  exact a_k HS.out HB1.out
theorem f_P (a:Option Addr) (n c:Nat) (cs:List Ins) (w:World) (S:Vs repIns Any w a n cs) (hn:n≤9223372036854775807) :
  Calls Tryz.prog 11 #[.slice a n c] w (b_l (c_a cs) w):=by
 have Hn:=hid S.1
 by_cases h6:n≤1000
 ·have i6:¬ (1000:Int) < n:=by omega
  go_enter Tryz.func11,Tryz.ntmps11
  go_wp2
  go_loopw [10] (fun i wr=>∃ k:Nat,k≤n∧i=.int .i64 k∧Hid (j_3 cs n k)∧Below w.heap.size w wr) (fun i _=>n - (intOf i).toNat)
  case atStart=>exact ⟨0,by omega,rfl,(show j_3 cs n 0 from fun q i hq=>by omega),Below.refl _ _⟩
  case round =>
   obtain ⟨k,hk,rfl,hf,hb⟩:=hrel;obtain ⟨wo,hwo⟩:∃ wo:World,wo=wr:=⟨_,rfl⟩;subst hwo
   by_cases hlt:k < n
   ·obtain ⟨b,o,x0,x1,x2,x3,rfl,hx,g0,g1,g2,g3⟩:=l_J (g_B hb S) hlt;have ⟨HX,HB⟩:=hh2 hx hb;have HB2:=N160;have i1:(0:Int)≤k:=by omega
    have i2:(k:Int) < n:=by omega
    clear hx hb;obtain ⟨mb,hmb⟩:=mn (c_M (x0,x1,x2,x3) n);have HM:=hid hmb;clear hmb
    go_wp2_with fail
    have h0:=k_T (x0,x1,x2,x3) n (wo.alloc (Obj.cells #[.int .i64 x0,.int .i64 x1,.int .i64 x2,.int .i64 x3] 66));exact J55
   ·obtain rfl:k=n:=by omega
    have HB:=hid hb;clear hb
    go_wp2
    go_ret
    exact a_k (h_4 Hn.out h6 hf.out) HB.out
 ·have i6:(1000:Int) < n:=by omega
  have HS:=hid (h_h (c:=cs) (by rw [Hn.out];exact h6));clear h6
  go_enter Tryz.func11,Tryz.ntmps11
  go_wp2
  go_ret
  exact a_k HS.out (Below.refl _ _)
end Go.Proofs.YtogdpojnbgeknaaGreatDoor
namespace Go.Proofs.YtogdpojnbgeknaaGreatDoor
open Go.ChangeShapes Go.WideShapes Go.ChangeAt Go.RowKit
open Gen
theorem r_j {w:World} {fa la:Option Addr} {fn fc ln lc:Nat} {t:Thr} (h:ThQ Any w fa fn fc la ln lc t):ThQ (fun b=>Any b∧b < w.heap.size) w fa fn fc la ln lc t:=d_r h
end Go.Proofs.YtogdpojnbgeknaaGreatDoor
