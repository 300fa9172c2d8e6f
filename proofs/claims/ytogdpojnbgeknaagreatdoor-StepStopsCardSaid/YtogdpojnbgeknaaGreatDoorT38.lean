import Derived.Test.YtogdpojnbgeknaaGreatDoorT36
import Derived.Test.YtogdpojnbgeknaaGreatDoorT37
import Derived.Test.YtogdpojnbgeknaaGreatDoorT0
import Derived.Defers
import Derived.Recover
import Derived.StillTailTactics
import Derived.Test.YtogdpojnbgeknaaGreatDoorT26
set_option maxRecDepth 100000
set_option maxHeartbeats 16000000
namespace Go.Proofs.YtogdpojnbgeknaaGreatDoor
open Go.ChangeShapes Go.WideShapes Go.ChangeAt Go.RowKit
open Gen
open Lib (hid)
theorem s_Q {w0 w:World} {g o:Nat} {cs:List Value} (hb:Below w0.heap.size w0 w) (h:w0.rangeAt g o cs):w.rangeAt g o cs:=fun j v hj=>a_u hb (h j v hj)
theorem s_a {X:Wo} {k:Nat} {t:Thr} {i:Ins} (hrw:b_i X=true) (hk:k < X.th.length) (ht:e_Q X.th.length t=true) (hst:t.st=0) (hpc:t.pc < 1000) (hmi:c_M i X.code.length=true) (hc:X.code.length≤1000) (hl:1≤i.1∧i.1≤15):apE t k i=d_f X k t i∧(d_f X k t i=0→b_j X k (apT t k i)=d_5 X k t i):=by
 have hb8:=(a_X (a_N hrw).2.1).2.1;have hl3:=(a_N hrw).2.2.1;have hrt:a_1 t=true:=by simp only [e_Q,Bool.and_eq_true] at ht;exact ht.1
 have hr7:f_J t k=true:=by simp only [f_J,hrt,Bool.true_and,decide_eq_true_eq];omega
 have hE:apE t k i=d_f X k t i:=by
  rw [d_f,if_pos hl,apE,if_neg (by rintro (h | h);rw [hr7] at h;cases h;omega)]
  by_cases h0:t.lf.length=0
  ·have hrd:d_1 t=true:=by simp [d_1,hst,h0]
   rw [if_pos h0,if_neg (by rw [hrd];decide),if_neg (by omega),if_neg (by rw [k_x hmi (by omega) hl];decide)]
  ·have hrd:d_1 t=false:=by simp [d_1,h0]
   rw [if_neg h0,if_pos hrd]
 refine ⟨hE,fun h0=>?_⟩;rw [apT,if_pos (hE.trans h0),d_5,if_neg (by omega),if_pos hl]
def t_v (g b k:Nat) (t u:Thr) (i:Ins) (fa la:Option Addr) (tn fc tm lc:Nat) (me:Int) (Q:Nat→Prop):b_p:=[isV 0 (.pointer (some ⟨b,k*13,none⟩)),isV 1 (.pointer (some ⟨b,k*13,none⟩)),isV 2 (.pointer (some ⟨b,k*13,none⟩)),isV 3 (.agg (thC t fa tn fc la tm lc).toArray),isV 4 (.pointer (some ⟨g,0,none⟩)),isV 5 (.pointer (some ⟨g,0,none⟩)),isV 6 (.pointer (some ⟨g,7,none⟩)),isV 7 (.int .i64 k),isV 8 (.agg #[.int .i64 i.1,.int .i64 i.2.1,.int .i64 i.2.2.1,.int .i64 i.2.2.2]),([9],fun vz w=>∃ p q:Sp,vz=[.tuple #[.agg (thC u p.a u.fs.length p.c q.a u.lf.length q.c).toArray,.int .i64 me]]∧ThQ Q w p.a u.fs.length p.c q.a u.lf.length q.c u),([10],fun vz w=>∃ p q:Sp,vz=[.agg (thC u p.a u.fs.length p.c q.a u.lf.length q.c).toArray]∧ThQ Q w p.a u.fs.length p.c q.a u.lf.length q.c u),isV 11 (.int .i64 me),([12],fun vz w=>me=0∧∃ p q:Sp,vz=[.agg (thC u p.a u.fs.length p.c q.a u.lf.length q.c).toArray]∧ThQ Q w p.a u.fs.length p.c q.a u.lf.length q.c u),isW 13 [] (.pointer (some ⟨b,k*13,none⟩))]
theorem o_k (g b k:Nat) (t u:Thr) (i:Ins) (fa la:Option Addr) (tn fc tm lc:Nat) (me:Int) (Q:Nat→Prop):c_j (t_v g b k  t u  i  fa la  tn fc tm lc  me  Q ):=a_d<|a_d<|a_d<|a_d<|a_d<|a_d<|a_d<|a_d<|a_d<|a_v (fun _ _ _ hb h=>by obtain ⟨p,q,h1,h2⟩:=h;exact ⟨p,q,h1,a_w (a_C hb) h2⟩)<|a_v (fun _ _ _ hb h=>by obtain ⟨p,q,h1,h2⟩:=h;exact ⟨p,q,h1,a_w (a_C hb) h2⟩)<|a_d<|a_v (fun _ _ _ hb h=>by obtain ⟨h0,p,q,h1,h2⟩:=h;exact ⟨h0,p,q,h1,a_w (a_C hb) h2⟩)<|a_3<|b_u
theorem p_o (Q:Nat→Prop) (g b:Nat) (Sx:Nat→Prop) (L:WoL) (X:Wo) (k:Nat) (w:World) (H:Wk Q w g b L X k) (hN:Sx g∧Sx b) (hrw:b_i X=true) (hcan:h_z X k=true) (hwf:∀ j,j < 8→(Lit.int .i64 ((thW X k).r j)).wf=true) (hen:L.ev.n≤200000) (hno:∀ q,(Value.slice L.ev.a L.ev.n L.ev.c).ownBlock=some q→Sx q) :
  Calls Tryz.prog 45 #[.pointer (some ⟨g,0,none⟩)] w (c_c g b Sx X (d_5 X k (thW X k) (inW X (thW X k).pc)) k (h_m X k) w):=by
 obtain ⟨hrc,hm,hl3,hone⟩:=a_N hrw;have ho:=hone _ (g_h H.hk);have hpc:=(oneW_iff.1 ho).1;have hst:=k_f hcan;have hc1:=d_n hrc;have ⟨HH,HNN,HRW,HWF,HEN,HNO⟩:=hh6 H hN hrw hwf hen hno;have HPS:=hid (And.intro ho hst);have ⟨HC1,HPC⟩:=hh2 hc1 hpc;have HC:=hid (q_O Q g b L X k w H hpc.1);obtain ⟨i,hi⟩:=mn (inW X (thW X k).pc);obtain ⟨d,hd⟩:=mn (decide ((thW X k).pc < X.code.length));rw [hi,hd] at HC;rw [hi];obtain ⟨E,hE⟩:=mn (h_m X k);rw [hE];obtain ⟨Y,hY⟩:=mn (d_5 X k (thW X k) i);rw [hY];have ⟨HI,HDD,HE,HY⟩:=hh4 hi hd hE hY;clear H hN hrw hcan hwf hen hno hrc hm hl3 hone ho hpc hst hc1 hi hd hE hY
 go_enter Tryz.func45,Tryz.ntmps45
 go_wp2_with fail
 refine HC.out.mono ?_;clear HC;rintro e1 w1 ⟨rfl,hb1⟩;have HB1:=hid hb1;clear hb1
 go_upto_region 1 with (refine a_c rfl 66 _ _ rfl w1.heap.size (inC i).toArray rfl rfl _ (a_e (inC (0,0,0,0)) w1.heap.size rfl) rfl (by kernel_rfl) (by simp [Value.oneCell']) ?_;intro U HU)
 obtain ⟨gi,hgi⟩:=mn (w1.heap.size);have HIU:=hid (show a_p U gi (inC i) by rw [HU.out,←hgi];exact a_q (a_e (inC (0,0,0,0)) _ rfl) rfl);have HBU:=N73;have HHU:=hid (d_u HBU.out HH.out);have HBNU:=hid (show Bel Sx w U from d_m HBU.out);rw [hgi];clear HU hgi
 cases d with
 | false =>
  have HEV:=hid (show E=3 by rw [←HE.out,h_m,if_pos (by have:=of_decide_eq_false HDD.out;omega)])
  go_wp2
  exact And.intro rfl ⟨.inr ⟨by rw [HEV.out];decide,by rw [HEV.out],Q,L,HHU.out⟩,HBNU.out⟩
 | true =>
  have hlt:(thW X k).pc < X.code.length:=of_decide_eq_true HDD.out;have HMI:=hid (show c_M i X.code.length=true from HC1.out.2 _ (by rw [←HI.out];exact o_n HPC.out.1 hlt));have HEI:=hid (show d_f X k (thW X k) i=E by rw [←HE.out,h_m,if_neg (by omega),HI.out]);have HLT:=hid (show (thW X k).pc < 1000 by have:=HC1.out.1;omega);clear hlt;obtain ⟨q0,-⟩:=HIU.out 0 _ rfl
  by_cases hloc:1≤i.1∧i.1≤15
  ·obtain ⟨hae,hay⟩:=s_a HRW.out HHU.out.hk HPS.out.1 HPS.out.2 HLT.out HMI.out HC1.out.1 hloc;have HAE:=hid (hae.trans HEI.out);have HYE:=hid (show E=0→b_j X k (apT (thW X k) k i)=Y from fun h0=>by rw [←HY.out];exact hay (HEI.out.trans h0));obtain ⟨l1,l2⟩:=hloc;have HC:=hid (b_1 Q g b L X k U HHU.out);clear hae hay
   go_wp2_with fail
   refine HC.out.mono ?_;clear HC q0 l1 l2;rintro e2 V ⟨rfl,m,hm⟩;have HBV:=hid (show Below U.heap.size U V by rw [hm];exact below_drewN (Below.refl _ _) m);clear hm;have HHV:=hid (d_u HBV.out HHU.out);have HIV:=hid (a_i HBV.out HIU.out);have HBN:=hid (HBNU.out.andB HBV.out);obtain ⟨fa,fc,la,lc,T,ht⟩:=c_1 HHV.out;obtain ⟨t,htt⟩:=mn (thW X k);rw [htt] at T ht HAE HYE;obtain ⟨tn,htn⟩:=mn (t.fs.length);obtain ⟨tm,htm⟩:=mn (t.lf.length);rw [htn,htm] at T ht;have HRT:=hid (show V.rangeAt b (k*13) (thC t fa tn fc la tm lc) from fun j v hj=>(ht j v hj).1);obtain ⟨u,hu⟩:=mn (apT t k i);rw [hu] at HYE
   have HL:=hid (fun (x:World) (hx:Below V.heap.size V x)=>(show Calls Tryz.prog 93 #[.agg (thC t fa tn fc la tm lc).toArray,.int .i64 k,.agg #[.int .i64 i.1,.int .i64 i.2.1,.int .i64 i.2.2.1,.int .i64 i.2.2.2]] x (ThPostF u E x) from by
    have h:=n_I t k i fa la tn fc tm lc x (a_w (a_C hx) T).f;rw [HAE.out,hu] at h;exact h))
   obtain ⟨x7,-⟩:=HHV.out.x 7 _ rfl;have hG:=o_k g b k t u i fa la tn fc tm lc E Q;clear T ht htt htn htm hu
   go_wp2_with fail
   refine c_G 14 [some 24,some 25,some 26,some 27,some 28,some 29,some 30,some 31,some 32,some 33,some 34,some 35,some 36,some 37] (fun w'=>Below V.heap.size V w') (t_v g b k t u i fa la tn fc tm lc E Q) 100 100 (fun _ _ _=>True) (by kernel_rfl) (by kernel_rfl) (by decide) rfl rfl ((Below.refl _ _).drew) ?_
   show StepsL _ _ _ _ _ _ _
   refine InvZ.c (fun _ _ w1 _ C _ hK=>oR C hK (h:=by simp [execOp,go_sem,C.o 4 (.pointer (some ⟨b,k*13,none⟩))])) ?_;refine InvZ.c (fun _ _ w1 _ C _ hK=>oR C hK (h:=by simp [execOp,go_sem,C.o 4 (.pointer (some ⟨b,k*13,none⟩))])) ?_;refine InvZ.c (fun _ _ w1 _ C _ hK=>oR C hK (h:=by simp [execOp,go_sem,C.i 1])) ?_;refine InvZ.c (fun a1 vals w1 hdf C K hK=>?_) ?_
   ·have e0:=C.i 2;exact a_g rfl (wp_load_mid 46 _ rfl (b) (k*13) ((a_M a1 _).symm.trans e0) (thC t fa tn fc la tm lc) _ (s_Q C.base HRT.out) Tryz.underlying46 rfl (by kernel_rfl) (c_Q hK C rfl rfl))
   refine InvZ.c (fun _ _ w1 _ C _ hK=>oR C hK (h:=by simp [execOp,go_sem,C.o 0 (.pointer (some ⟨g,0,none⟩))])) ?_;refine InvZ.c (fun _ _ w1 _ C _ hK=>oR C hK (h:=by simp [execOp,go_sem,C.i 4])) ?_;refine InvZ.c (fun _ _ w1 _ C _ hK=>oR C hK (h:=by simp [execOp,go_sem,C.i 5])) ?_;refine InvZ.c (fun _ _ w1 _ C _ hK=>oR C hK (h:=by simp [execOp,go_sem,C.i 6,a_u C.base x7])) ?_;refine InvZ.c (fun a1 vals w1 hdf C K hK=>?_) ?_
   ·have e0:=C.o 2 (.pointer (some ⟨gi,0,none⟩));exact a_g rfl (wp_load_mid 66 _ rfl gi 0 ((a_M a1 _).symm.trans e0) [.int .i64 i.1,.int .i64 i.2.1,.int .i64 i.2.2.1,.int .i64 i.2.2.2] _ (a_f (a_i C.base HIV.out)) Tryz.underlying66 rfl (by kernel_rfl) (c_Q hK C rfl rfl))
   refine InvZ.c (fun a1 vals w1 hdf C K hK=>?_) ?_
   ·have e0:=C.i 3;have e1:=C.i 7;have e2:=C.i 8;rw [a_M] at e0 e1 e2;refine a_g rfl (a_O _ _ _ rfl 93 rfl [.agg (thC t fa tn fc la tm lc).toArray,.int .i64 k,.agg #[.int .i64 i.1,.int .i64 i.2.1,.int .i64 i.2.2.1,.int .i64 i.2.2.2]] (by simp only [List.map_cons,List.map_nil,e0,e1,e2]) (by kernel_rfl) ((HL.out w1 C.base).mono ?_));rintro e9 w2 ⟨f1,f2,f3,f4,rfl,z1,hb2⟩;exact ⟨_,rfl,o_9 hK hG (fun _ _ _ _ _ _=>trivial) hb2 rfl ⟨⟨f1,0,f2⟩,⟨f3,0,f4⟩,rfl,b_y (fun x hx=>HHV.out.new x (by have:=C.base.size;omega)) z1⟩ (a_b C.base hb2)⟩
   refine InvZ.c (fun a1 vals w1 hdf C K hK=>?_) ?_
   ·have e0:=C.t 9 33 rfl rfl;obtain ⟨p,q,h1,h2⟩:=C.says 9 rfl;have h1:vals 9=_:=List.head_eq_of_cons_eq h1;rw [h1] at e0;refine a_g rfl (a_x (v:=.agg (thC u p.a u.fs.length p.c q.a u.lf.length q.c).toArray) ?_ (c_Q hK C rfl ⟨p,q,rfl,h2⟩));simp [execOp,go_sem,e0]
   refine InvZ.c (fun a1 vals w1 hdf C K hK=>?_) ?_
   ·have e0:=C.t 9 33 rfl rfl;obtain ⟨p,q,h1,h2⟩:=C.says 9 rfl;have h1:vals 9=_:=List.head_eq_of_cons_eq h1;rw [h1] at e0;refine a_g rfl (a_x (v:=.int .i64 E) ?_ (c_Q hK C rfl rfl));simp [execOp,go_sem,e0]
   refine InvZ.c (fun a1 vals w1 hdf C K hK=>?_) ?_
   ·have e0:=C.t 10 34 rfl rfl;obtain ⟨p,q,h1,h2⟩:=C.says 10 rfl;have h1:vals 10=_:=List.head_eq_of_cons_eq h1;rw [h1] at e0;have e1:=C.i 11;rw [a_M] at e0 e1;refine a_g rfl (f_Y _ _ _ rfl 92 rfl [.agg (thC u p.a u.fs.length p.c q.a u.lf.length q.c).toArray,.int .i64 E] (by simp only [List.map_cons,List.map_nil,e0,e1]) (by kernel_rfl) ((o_H u p.a q.a u.fs.length p.c u.lf.length q.c E w1).mono ?_));rintro e9 w2 ⟨(⟨hz,rfl⟩ | ⟨hz,rfl⟩),hb2⟩
    ·exact .inl ⟨_,rfl,o_9 hK hG (fun _ _ _ _ _ _=>trivial) hb2 rfl ⟨hz,p,q,rfl,a_w (a_C hb2) h2⟩ (a_b C.base hb2)⟩
    ·exact J72
   refine InvZ.c (fun _ _ w1 _ C _ hK=>oR C hK (h:=by simp [execOp,go_sem,C.i 0])) ?_;refine InvZ.last (n:=14) ?_ ?_ ?_ ?_
   ·rfl
   ·kernel_rfl
   ·decide
   ·intro vals w1 aE hae hval hb hv hbo K hK;obtain ⟨hz,p,q,h1,h2⟩:=c_f (k:=12) rfl (hv 12 (by decide));have HZE:=hid hz;have HYU:=hid (HYE.out hz);clear hz;have y36:vals 12=_:=List.head_eq_of_cons_eq h1;have y37:vals 13=.pointer (some ⟨b,k*13,none⟩):=e_L rfl (hv 13 (by decide));have HHW:=d_u hb HHV.out;obtain ⟨TC,t1,t2⟩:=HHW.tc
    have tl:k*13+13≤TC.length:=by
     have h3:=b_f t2;have h4:repTh.k=13:=rfl;have h5:=HHW.hk;rw [h3,h4];omega
    refine a_g rfl (e_r 46 _ _ rfl b (k*13) (thC u p.a u.fs.length p.c q.a u.lf.length q.c).toArray ((hval 13 37 rfl rfl).trans y37) ((hval 12 36 rfl rfl).trans y36) _ t1 tl (by kernel_rfl) (a_K _ _ _ _ _ _ _) ?_);intro U HU;refine hK _ _ ?_;rw [hae.out];simp only [c_I,Act.put,sA,sB,sC,y36,y37]
    have HHU:=hid (show Wk Q U g b L (b_j X k u) k from by
     rw [HU.out];refine p_G HHW 0 (thC u p.a u.fs.length p.c q.a u.lf.length q.c) u (by simp) (fun fa fc la lc T=>?_);exact ⟨p.a,p.c,q.a,q.c,rfl,h2⟩)
    have HBU:=hid (show Bel Sx w U by rw [HU.out];exact e_h HNN.out.2 (HBN.out.andB hb));clear hb hv hbo HHW y36 y37 hval hae h1 h2 HU t1 t2 tl
    go_wp2
    first | go_ret | go_end0
    exact ⟨.inl ⟨HZE.out,rfl,Q,L,HYU.out▸HHU.out⟩,HBU.out⟩
  ·have HC:=hid (j_K Q g b Sx L X k i U HHU.out HNN.out HRW.out HMI.out hloc HWF.out HEN.out HNO.out);rw [HEI.out,HY.out] at HC;obtain ⟨q1,-⟩:=HIU.out 1 _ rfl;obtain ⟨q2,-⟩:=HIU.out 2 _ rfl;obtain ⟨q3,-⟩:=HIU.out 3 _ rfl
   by_cases h1:1≤i.1
   ·have h2:¬ i.1≤15:=fun h=>hloc ⟨h1,h⟩
    exact J48
   ·exact J48
end Go.Proofs.YtogdpojnbgeknaaGreatDoor
namespace Go.Proofs.YtogdpojnbgeknaaGreatDoor
open Go.ChangeShapes Go.WideShapes Go.ChangeAt Go.RowKit
open Gen
theorem m_w (p:Addr) (w:World) :
  CallsD Tryz.prog 90 #[.pointer (some p)] .returning w fun e u' w'=>e=.returned (.tuple #[])∧u'=.returning∧w'=w:=by
 refine callsD_of_wpS Tryz.func90 rfl fun c₀ cs hu=>?_
 apply wpS_seq
 apply wpS_region
 simp [wpOpsS,go_sem,recoverD,hu,Tryz.ntmps90,Exit.thenS];refine wpS_of_wp ?_;change Code.wp _ _ _ { tmps:=#[.pointer (some p),.nilIface,.nilIface,undef,undef,undef,undef,undef,undef,undef],defers:=[] } _
 go_wp2_with fail
 cases c₀
 simp_all [bodyPostS,results,Tryz.results90]
theorem k_g (Q:Nat→Prop) (g b:Nat) (Sx:Nat→Prop) (L:WoL) (X:Wo) (k:Nat) (E:Int) (p:Addr) (older:List PanicEntry) (w:World) (hp:w.cell? p=some (.pointer (some ⟨g,0,none⟩))) (H:Wk Q w g b L X k) (hN:Sx b) :
  CallsD Tryz.prog 90 #[.pointer (some p)] (.panicking ({ v:=h_V E,recovered:=false }::older)) w fun e u' w' =>
   e=.returned (.tuple #[])∧u'=.panicking ({ v:=h_V E,recovered:=true }::older)∧Wk Q w' g b L (b_j X k (if (thW X k).st=2 then thW X k else b_t (thW X k) E)) k∧Bel Sx w w':=by
 have HC:=Lib.hid (fun u hu=>m_y Q g b Sx L X k E u (d_u hu H) hN);obtain ⟨T,hT⟩:∃ T,(if (thW X k).st=2 then thW X k else b_t (thW X k) E)=T:=⟨_,rfl⟩;rw [hT] at HC ⊢;clear hT;refine callsD_of_wpS Tryz.func90 rfl fun c₀ cs hu=>?_
 apply wpS_seq
 apply wpS_region
 simp [wpOpsS,go_sem,recoverD,hu,Tryz.ntmps90,Exit.thenS];refine wpS_of_wp ?_;change Code.wp _ _ _ { tmps:=#[.pointer (some p),h_V E,h_V E,undef,undef,undef,undef,undef,undef,undef],defers:=[] } _;clear H
 go_wp2_with fail
 have hta:∀ (x:TypeId) (u:World),(Instr.typeAssert (h_V E) x 133 false).run Tryz.prog u=.ok (.agg #[.int .i64 E]) u:=fun x u=>by
  simp [Instr.typeAssert,go_sem]
 have hfd:∀ (u:World),(Instr.field 133 (.agg #[.int .i64 E]) 0).run Tryz.prog u=.ok (.int .i64 E) u:=fun u=>by
  simp [Instr.field,asAgg,go_sem]
 go_still_tail 4,(by kernel_rfl)
 change wpList _ _ _ _ _ w.drew
 go_wp2_with fail
 refine (HC.out w.drew (Below.refl _ _).drew).mono ?_;clear HC;rintro e2 w2 ⟨rfl,hh,hb⟩;have HH:=Lib.hid (And.intro hh (show Bel Sx w w2 from (d_m ((Below.refl _ _).drew)).trans hb));clear hh hb
 go_wp2_with fail
 cases c₀
 simp only [bodyPostS,results,Tryz.results90];refine ⟨trivial,_,rfl,.tuple #[],?_,rfl,rfl,HH.out.1,HH.out.2⟩;simp [go_sem]
end Go.Proofs.YtogdpojnbgeknaaGreatDoor
namespace Go.Proofs.YtogdpojnbgeknaaGreatDoor
open Go.ChangeShapes Go.WideShapes Go.ChangeAt Go.RowKit
open Gen
open Lib (hid)
def i_Y (g b:Nat) (Sx:Nat→Prop) (Y:Wo) (k:Nat) (w:World) (e:Ending) (w':World):Prop:=e=.returned (.tuple #[])∧∃ Q' L',Wk Q' w' g b L' Y k∧Bel Sx w w'
theorem j_8 (Q:Nat→Prop) (g b:Nat) (Sx:Nat→Prop) (L:WoL) (X:Wo) (k:Nat) (w:World) (H:Wk Q w g b L X k) (hN:(Sx g∧Sx b)∧¬ Sx w.heap.size) (hrw:b_i X=true) (hcan:h_z X k=true) (hwf:∀ j,j < 8→(Lit.int .i64 ((thW X k).r j)).wf=true) (hen:L.ev.n≤200000) (hno:∀ q,(Value.slice L.ev.a L.ev.n L.ev.c).ownBlock=some q→Sx q) :
  Calls Tryz.prog 44 #[.pointer (some ⟨g,0,none⟩),.func (.func 45) #[.pointer (some ⟨g,0,none⟩)] #[]] w (i_Y g b Sx (d_q X k) k w):=by
 have hmf:=N71;obtain ⟨W,hW⟩:=nm (w.alloc (Obj.cells #[.pointer (some ⟨g,0,none⟩)] 118));have HX:=hid (show a_p W w.heap.size [.pointer (some ⟨g,0,none⟩)] by rw [hW];exact a_e [.pointer (some ⟨g,0,none⟩)] _ rfl);have HB:=N3;have HH:=hid (d_u HB.out H);have hst:=k_f hcan;have HC:=hid (p_o Q g b Sx L X k W HH.out hN.1 hrw hcan hwf hen hno);have ⟨HW,HNN,HST⟩:=hh3 hW hN hst;clear hW H hrw hcan hwf hen hno hN hst
 go_enter_defers Tryz.func44,Tryz.ntmps44
 go_upto_region 1 with fail
 rw [←HW.out]
 go_wp2_with fail
 refine HC.out.mono ?_;clear HC;rintro e1 w1 ⟨(⟨hz,rfl,Q2,L2,hh⟩ | ⟨hz,rfl,Q2,L2,hh⟩),hb⟩
 ·have HX1:=hid (show i_Y g b Sx (d_q X k) k w (.returned (.tuple #[])) w1 from ⟨rfl,Q2,L2,by rw [d_q,if_pos hz];exact hh,(d_m HB.out).trans hb⟩);clear hz hh hb
  go_wp2_with fail
  refine leaves_cons (f:=90) (args:=#[.pointer (some ⟨w.heap.size,0,none⟩)]) (by simp) (by simp [go_sem]) ?_;refine (m_w ⟨w.heap.size,0,none⟩ _).mono ?_;rintro e u' w'' ⟨rfl,rfl,rfl⟩;simp only [Leaves,settle];refine ⟨.tuple #[],?_,HX1.out⟩;simp [results,Tryz.results44,go_sem]
 ·go_wp2_with fail
  have hp:w1.cell? ⟨w.heap.size,0,none⟩=some (.pointer (some ⟨g,0,none⟩)):=(hb.varN HNN.out.2 HX.out 0 _ rfl).1;refine leaves_cons (f:=90) (args:=#[.pointer (some ⟨w.heap.size,0,none⟩)]) (by simp) (by simp [go_sem]) ?_;refine (k_g Q2 g b Sx L2 X k (h_m X k) ⟨w.heap.size,0,none⟩ [] w1 hp hh HNN.out.1.2).mono ?_;rintro e u' w'' ⟨rfl,rfl,h1,h2⟩;simp only [settle];refine ⟨.tuple #[],?_,rfl,Q2,L2,?_,(d_m HB.out).trans (hb.trans h2)⟩
  ·simp [results,Tryz.results44,go_sem]
  ·rw [d_q,if_neg hz];rw [HST.out,if_neg (by decide)] at h1;exact h1
theorem t_4 {Q:Nat→Prop} {w:World} {F b g:Nat} {L:WoL} {X:Wo} {k:Nat} {vs:List Value} (hx:a_p w g vs) (h8:vs.length=8) (hg:g < F) (H:Wk0 Q w F b L X) (hk:k < X.th.length):Wk Q (d_o w g 0 (wkC L X.D k)) g b L X k:=by
 have hq:∀ c,Q c→g < c:=fun c hc=>Nat.lt_of_lt_of_le hg (H.hQ c hc).1
 have hK:Kept Q w (d_o w g 0 (wkC L X.D k)):=a_t (fun c hc=>Nat.ne_of_gt (hq c hc));have hev:∀ c,(Value.slice L.ev.a L.ev.n L.ev.c).ownBlock=some c→g < c:=fun c hc=>Nat.lt_of_lt_of_le hg (H.evo c hc).1
 have hgb:g < b:=Nat.lt_of_lt_of_le hg H.hF;obtain ⟨TC,h1,h2⟩:=H.tc
 exact ⟨a_q hx (by rw [h8];rfl),H.hb,⟨TC,a_j (Nat.ne_of_lt hgb) h1,b_m hK h2⟩,a_z hK H.co,a_r hK H.ws,a_r hK H.ts,a_G hK H.bs,
  l_D H.ev (fun e=>Nat.lt_irrefl _ (hev g e)) (fun c hc=>Nat.ne_of_gt (hq c hc)),fun c hc=>⟨Nat.ne_of_gt (hev c hc),(H.evo c hc).2⟩,H.cco,H.cth,H.cev,hk,H.hn,
  fun c hc=>⟨Nat.ne_of_gt (hq c hc),(H.hQ c hc).2⟩,Nat.ne_of_lt hgb,fun c hc=>H.new c (by rwa [a_R] at hc),hq,hev⟩
theorem t_b {Q:Nat→Prop} {w:World} {F b:Nat} {L:WoL} {X:Wo} (H:Wk0 Q w F b L X):X.ev.length=L.ev.n:=by
 exact J101
theorem t_a {Q:Nat→Prop} {w:World} {F b:Nat} {L:WoL} {X:Wo} (H:Wk0 Q w F b L X):∀ c,(Value.slice L.ev.a L.ev.n L.ev.c).ownBlock=some c→c < w.heap.size:=by
 obtain ⟨cs,h1,-⟩:=H.ev;exact fun c hc=>(a_9 h1 hc).2
theorem t_3 {Q:Nat→Prop} {w:World} {g b:Nat} {L:WoL} {X:Wo} {k:Nat} (H:Wk Q w g b L X k):X.ev.length=L.ev.n:=by
 exact J101
theorem t_V {Q:Nat→Prop} {w:World} {g b z:Nat} {L:WoL} {X:Wo} {k:Nat} {us:List Value} (H:Wk Q w g b L X k) (hz:z < g) (hb:z < b):RWo (fun c=>z < c) (d_o w z 0 us) L X:=by
 have hq:∀ c,Q c→z < c:=fun c hc=>Nat.lt_trans hz (H.lo.1 c hc)
 have hK:Kept Q w (d_o w z 0 us):=a_t (fun c hc=>Nat.ne_of_gt (hq c hc));obtain ⟨TC,h1,h2⟩:=H.tc;obtain ⟨es,e1,e2⟩:=H.ev;have T:=i_S (Q:=fun c=>z < c) (a_j (xs:=us) (k:=0) (Nat.ne_of_lt hb) h1) (c_l hq (b_m hK h2)) hb;rw [←H.hb,H.hn] at T;have e3:(Value.slice L.ev.a L.ev.n L.ev.c).ownBlock≠some z:=fun h=>Nat.lt_irrefl _ (Nat.lt_trans hz (H.lo.2 z h))
 exact ⟨b_e hq (a_z hK H.co),a_n hq (a_r hK H.ws),a_n hq (a_r hK H.ts),a_H hq (a_G hK H.bs),T,o_5 (a_Z (us:=us) (k:=0) e3 e1) (c_l hq (b_m hK e2)) (t_3 H) (fun q h=>Nat.lt_trans hz (H.lo.2 q h)),H.cco,H.cth,H.cev⟩
theorem okS {X:Wo} (h:b_i X=true):((1≤X.th.length∧X.th.length≤8)∧X.th.length=X.bs.length)∧(X.code.length≤1000∧X.ws.length≤1000∧X.ts.length≤1000)∧(∀ t∈X.th,t.fs.length≤1000∧t.lf.length≤1000)∧∀ b∈X.bs,b.length≤1000:=by
 obtain ⟨h1,h2,h3,h4⟩:=a_N h;obtain ⟨m1,m2,m3,-⟩:=a_X h2;have m4:=(mayT_iff.1 h2).2.2;have s:=c_s m1;refine ⟨⟨by omega,h3⟩,⟨(d_n h1).1,by omega,by omega⟩,fun t ht=>?_,fun b hb=>?_⟩
 ·obtain ⟨-,a,-,-,c⟩:=oneW_iff.1 (h4 t ht);simp only [c_n,Bool.and_eq_true,decide_eq_true_eq] at a;have:=a.1
  omega
 ·have a:=m4 b hb;simp only [h_x,Bool.and_eq_true,decide_eq_true_eq] at a;have:=a.1
  omega
def n_f (X:Wo) (k:Int):Int:=if j_0 X k=0 then (if h_z X k.toNat=true then 0 else 9) else j_0 X k
def i_X (X:Wo) (k:Int):Wo:=if n_f X k=0 then d_q X k.toNat else zWo
def i_j (Y:Wo) (E:Int) (w:World) (e:Ending) (w':World):Prop:=∃ L,e=.returned (.tuple #[woV L Y.D,.int .i64 E])∧RWo (fun b=>w.heap.size≤b) w' L Y∧Below w.heap.size w w'
theorem h_8 {X:Wo} {k E:Int} {w w':World} {v:Value} (hE:n_f X k=E) (h0:E≠0) (hv:v=.tuple #[.agg woZ.toArray,.int .i64 E]) (hb:Below w.heap.size w w'):i_j (i_X X k) E w (.returned v) w':=by
 subst hv;rw [i_X,if_neg (by rw [hE];exact h0)];exact ⟨u_t,rfl,l_2,hb⟩
theorem e_W (L:WoL) (X:Wo) (k:Int) (w:World) (R:RWo Any w L X) (G:Glob w) (hev:L.ev.n≤100000) (hwf:∀ j i,i < 8→(Lit.int .i64 ((thW X j).r i)).wf=true) :
  Calls Tryz.prog 19 #[woV L X.D,.int .i64 k] w (i_j (i_X X k) (n_f X k) w):=by
 have hmf:=N71;obtain ⟨D,hD⟩:=mn (X.D);have HD:=hid hD;rw [hD];obtain ⟨W,hW⟩:=nm ((w.alloc (Obj.cells (woC L D).toArray 33)).alloc (Obj.cells woZ.toArray 33));have HX:=N52;have HZ:=N236;have HB:=N3;have HS:=N43;have HC0:=i_8 L X k W (c_J (b_G HB.out R)) (G.B HB.out);rw [hD] at HC0;have ⟨HC,HW,HR,HWF,HEVN⟩:=hh5 HC0 hW R hwf hev;obtain ⟨E,hE⟩:=mn (j_0 X k);rw [hE] at HC;have HE:=hid hE;obtain ⟨E',hE'⟩:∃ E,n_f X k=E:=⟨_,rfl⟩;rw [hE'];have HE':=hid hE';obtain ⟨Y,hY⟩:=mn (i_X X k);rw [hY];have HY:=hid hY;clear hW hD HC0 R G hE hwf hev hE' hY;unfold woV
 go_enter Tryz.func19,Tryz.ntmps19
 go_upto_region 1 with fail
 rw [←HW.out]
 go_wp2_with (refine wpList_load_mid rfl 33 _ rfl w.heap.size 0 rfl (woC L D) _ (a_f HX.out) Tryz.underlying33 rfl (by kernel_rfl) ?_)
 refine HC.out.mono ?_;clear HC;rintro e1 w1 ⟨rfl,hb1⟩;have HB1:=hid (a_b HB.out hb1);have HZ1:=hid (a_i hb1 HZ.out);have HS1:=hid (show w.heap.size+2≤w1.heap.size by have:=hb1.size;have:=HS.out;omega);clear hb1;obtain ⟨cs,hcs⟩:=mn (s_d L D k E);rw [hcs];have HL8:=N162;have HCS:=hid hcs;clear hcs
 go_upto_region 2 with (refine a_c rfl 80 _ _ rfl w1.heap.size cs.toArray rfl rfl _ (a_e woK w1.heap.size rfl) (by rw [List.size_toArray,HL8.out.1];rfl) (by rw [List.size_toArray,HL8.out.1];kernel_rfl) HL8.out.2 ?_;intro U HU)
 have HXU:=N178;have HBU:=N73;have HZU:=hid (show a_p U (w.heap.size+1) woZ by rw [HU.out];exact a_j (by have:=HS1.out;omega) (a_s _ HZ1.out));have HSU:=hid (show U.heap.size=w1.heap.size+1 by rw [HU.out,a_R];simp);clear HU
 by_cases h0:E=0
 ·obtain ⟨hr,hk0,hk1⟩:=i_7 (HE.out.trans h0);obtain ⟨j,hj⟩:∃ j:Nat,k=j:=⟨k.toNat,by omega⟩;subst hj;have hcw:cs=wkC L D j:=by rw [←HCS.out,s_d,if_pos h0]
  have HJ:=hid (show j < X.th.length by omega);have HRW:=hid hr;obtain ⟨b,o,H⟩:=t_5 (w:=U) (g:=w1.heap.size) (L:=L) (X:=X) (k:=j) (by rw [HD.out,←hcw];exact HXU.out) (c_J (b_G HBU.out HR.out)) HJ.out;have HC:=hid (l_A w1.heap.size b o L X j U H hr (fun i hi=>HWF.out j i hi));have HCW:=hid hcw;clear H hr hk0 hk1 hcw;subst h0
  go_upto_region 4 with fail
  go_wp2_with fail
  refine HC.out.mono ?_;clear HC;rintro e2 w2 ⟨rfl,hb2⟩;have HB2:=hid (a_b HBU.out hb2);have HZ2:=hid (a_i hb2 HZU.out);have HX2:=hid (a_i hb2 HXU.out);have HS2:=N223;clear hb2
  cases hc:h_z X j with
  | false =>
   have HEV:=hid (show E'=9 by rw [←HE'.out,n_f,if_pos HE.out,Int.toNat_natCast,hc,if_neg (by decide)]);clear hc
   go_wp2_with (refine a_c rfl 33 _ _ rfl (w.heap.size+1) woZ.toArray rfl rfl _ HZ2.out rfl (by kernel_rfl) (by simp [Value.oneCell']) ?_;intro V HV)
   refine a_l ⟨w.heap.size+1,0,none⟩ rfl rfl rfl (a_E (show a_p V (w.heap.size+1) woZ by rw [HV.out];exact a_q HZ2.out rfl) 33 Tryz.underlying33 rfl (by kernel_rfl)) ?_;rw [←HY.out];exact h_8 HE'.out (by rw [HEV.out];decide) (by rw [HEV.out];rfl) (by rw [HV.out];exact a_h (by omega) HB2.out)
  | true =>
   have HEV:=hid (show E'=0 by rw [←HE'.out,n_f,if_pos HE.out,Int.toNat_natCast,hc,if_pos rfl]);have HCN:=hid hc;clear hc;obtain ⟨⟨a1,a2⟩,⟨a3,a4,a5⟩,a6,a7⟩:=okS HRW.out;have HC0:=k_j L X j w2 (c_J (b_G HB2.out HR.out)) (by have:=HR.out.th.1;omega) (by have:=HR.out.th.1;omega) (by have:=HR.out.th.1;have:=HR.out.bs.1;omega) (by have:=HR.out.co.1;omega) (by have:=HR.out.ws.1;omega) (by have:=HR.out.ts.1;omega) (by have:=HEVN.out;omega) a6 a7;rw [HD.out] at HC0;have HC:=hid HC0;clear HC0 a1 a2 a3 a4 a5 a6 a7
   go_upto_region 6 with fail
   go_wp2_with (refine wpList_load_mid rfl 80 _ rfl w1.heap.size 0 rfl (wkC L D j) _ (a_f (HCW.out▸HX2.out)) Tryz.underlying80 rfl (by kernel_rfl) ?_)
   refine HC.out.mono ?_;clear HC;rintro e3 w3 ⟨Q3,L3,b3,he3,H3,hb3⟩;rw [HD.out] at he3;subst he3;have HB3:=hid (a_b HB2.out hb3);have HZ3:=hid (a_i hb3 HZ2.out);have HX3:=hid (a_i hb3 HX2.out);have HN3:=hid (show L3.ev.n≤200000 by have:=t_b H3;have:=HR.out.ev.1;have:=HEVN.out;omega);have HF3:=hid H3.hF;have HO3:=hid (show ∀ c,(Value.slice L3.ev.a L3.ev.n L3.ev.c).ownBlock=some c→w2.heap.size≤c∧c < w3.heap.size from fun c hc=>⟨(H3.evo c hc).1,t_a H3 c hc⟩)
   have HBL:=hid (show b3 < w3.heap.size by
    obtain ⟨TC,h1,h2⟩:=H3.tc;have h3:=b_f h2;have h4:repTh.k=13:=rfl;have h5:=HJ.out;exact a_P h1 (by rw [h3,h4];omega))
   have HZL:=hid (show w1.heap.size < w3.heap.size by have:=hb3.size;have:=HS2.out;omega);have H4:=t_4 (k:=j) HX3.out HL8.out.1 (by have:=HS2.out;omega) H3 HJ.out;rw [HD.out] at H4;have HH4:=hid H4;clear hb3 H3 H4
   go_upto_region 7 with (refine a_c rfl 80 _ _ rfl w1.heap.size (wkC L3 D j).toArray rfl rfl _ HX3.out (by rw [HL8.out.1];rfl) (by kernel_rfl) (by simp [Value.oneCell']) ?_;intro V HV)
   have HHV:=hid (show Wk Q3 V w1.heap.size b3 L3 X j by rw [HV.out];exact HH4.out);have HBV:=hid (show Below w.heap.size w V by rw [HV.out];exact a_h HB1.out.size HB3.out);have HZV:=hid (show a_p V (w.heap.size+1) woZ by rw [HV.out];exact a_j (by have:=HS1.out;omega) HZ3.out);have HSV:=hid (show V.heap.size=w3.heap.size by rw [HV.out,a_R]);clear HV HH4;obtain ⟨Sx,hSx⟩:∃ Sx:Nat→Prop,Sx=fun c=>c=w1.heap.size∨c=b3∨(Value.slice L3.ev.a L3.ev.n L3.ev.c).ownBlock=some c:=⟨_,rfl⟩
   have HSX:=hid (show ∀ c,Sx c→w1.heap.size≤c∧c < w3.heap.size by
    intro c hc;rw [hSx] at hc;have e1:=HF3.out;have e2:=HS2.out;have e3:=HBL.out;have e4:=HZL.out
    rcases hc with h | h | h
    ·omega
    ·omega
    ·have:=HO3.out c h;omega)
   have HC:=hid (j_8 Q3 w1.heap.size b3 Sx L3 X j V HHV.out ⟨⟨by rw [hSx];exact .inl rfl,by rw [hSx];exact .inr (.inl rfl)⟩,fun h=>by have:=HSX.out _ h;have:=HSV.out;omega⟩ HRW.out HCN.out (fun i hi=>HWF.out j i hi) HN3.out (fun q hq=>by rw [hSx];exact .inr (.inr hq)));clear hSx;have HY4:=hid (show d_q X j=Y by rw [←HY.out,i_X,if_pos (HE'.out.trans HEV.out),Int.toNat_natCast])
   go_upto_region 8 with fail
   refine HC.out.mono ?_;clear HC;rintro e4 w4 ⟨rfl,Q4,L4,H4,hb4⟩;rw [HY4.out] at H4;have HB4:=hid (show Below w.heap.size w w4 from HBV.out.trans (hb4.below (fun c hc=>by have:=HSX.out c hc;have:=HS1.out;omega) HBV.out.size));have HZ4:=hid (hb4.varN (fun h=>by have:=HSX.out _ h;have:=HS1.out;omega) HZV.out);have HX4:=hid (show a_p w4 w1.heap.size (woC L4 Y.D) from fun i v hi=>H4.x i v (by rw [show wkC L4 Y.D j=woC L4 Y.D++[.int .i64 j] from rfl,List.getElem?_append_left (List.getElem?_eq_some_iff.1 hi).1];exact hi));have HH4:=hid H4;clear H4 hb4
   go_wp2_with (first | (refine wpList_load_mid rfl 33 _ rfl w1.heap.size 0 rfl (woC L4 Y.D) _ (a_f HX4.out) Tryz.underlying33 rfl (by kernel_rfl) ?_) | (refine a_c rfl 33 _ _ rfl (w.heap.size+1) (woC L4 Y.D).toArray rfl rfl _ HZ4.out rfl (by kernel_rfl) (by simp [Value.oneCell']) ?_;intro Z HZZ))
   refine a_l ⟨w.heap.size+1,0,none⟩ rfl rfl rfl (a_E (show a_p Z (w.heap.size+1) (woC L4 Y.D) by rw [HZZ.out];exact a_q HZ4.out rfl) 33 Tryz.underlying33 rfl (by kernel_rfl)) ?_;exact ⟨L4,by rw [HEV.out];rfl,by rw [HZZ.out];exact a_D (fun c hc=>by omega) (t_V HH4.out (by have:=HS1.out;omega) (by have:=HF3.out;have:=HS1.out;have:=HS2.out;omega)),by rw [HZZ.out];exact a_h (by omega) HB4.out⟩
 ·have hb:(E != 0)=true:=by simpa using h0
  have HEV:=hid (show E'=E by rw [←HE'.out,n_f,if_neg (by rw [HE.out];exact h0)];exact HE.out);have H0:=hid h0;clear h0
  go_wp2_with (refine a_c rfl 33 _ _ rfl (w.heap.size+1) woZ.toArray rfl rfl _ HZU.out rfl (by kernel_rfl) (by simp [Value.oneCell']) ?_;intro V HV)
  refine a_l ⟨w.heap.size+1,0,none⟩ rfl rfl rfl (a_E (show a_p V (w.heap.size+1) woZ by rw [HV.out];exact a_q HZU.out rfl) 33 Tryz.underlying33 rfl (by kernel_rfl)) ?_;rw [←HY.out];exact h_8 HE'.out (by rw [HEV.out];exact H0.out) (by rw [HEV.out];rfl) (by rw [HV.out];exact a_h (by omega) HBU.out)
end Go.Proofs.YtogdpojnbgeknaaGreatDoor
