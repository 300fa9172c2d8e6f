import Derived.Test.YtogdpojnbgeknaaGreatDoorB11
import Derived.Test.YtogdpojnbgeknaaGreatDoorB13
import Derived.Test.YtogdpojnbgeknaaGreatDoorB12
import Derived.Test.YtogdpojnbgeknaaGreatDoorB14
import Derived.Test.YtogdpojnbgeknaaGreatDoorB15
import Derived.Test.YtogdpojnbgeknaaGreatDoorB0
import Derived.Test.YtogdpojnbgeknaaGreatDoorB10
import Derived.Test.YtogdpojnbgeknaaGreatDoorB4
set_option maxRecDepth 100000
set_option maxHeartbeats 16000000
namespace Go.Proofs.YtogdpojnbgeknaaGreatDoor
open Go.ChangeShapes Go.WideShapes Go.ChangeAt Go.RowKit
open Gen
open Lib (hid)
def c_d (g b:Nat) (Sx:Nat→Prop) (X Y:Wo) (k:Nat) (E:Int) (w:World) (e:Ending) (w':World):Prop:=
 ((E=0∧e=.returned (.tuple #[])∧∃ Q' L',Wk Q' w' g b L' Y k)∨(E≠0∧e=.panicked (l_V E)∧∃ Q' L',Wk Q' w' g b L' X k))∧Bel Sx w w'
section
variable {Q:Nat→Prop} {w:World} {g b:Nat} {L:WoL} {X:Wo} {k:Nat}
theorem c_C (H:Wk Q w g b L X k) (f:Nat) (v:Value) (t:Thr) (hf:f < 13)
  (hR:∀ fa fc la lc,ThQ Q w fa (thW X k).fs.length fc la (thW X k).lf.length lc (thW X k)→repTh.R Q w ((thC (thW X k) fa (thW X k).fs.length fc la (thW X k).lf.length lc).set f v) t) :
  Wk Q (w.setCell ⟨b,k*13+f,none⟩ v) g b L (b_k X k t) k:=by
 refine p_V H f [v] t (by simp;omega) (fun fa fc la lc T=>?_);have h:=hR fa fc la lc T;have hl:f < (thC (thW X k) fa (thW X k).fs.length fc la (thW X k).lf.length lc).length:=hf;rw [List.set_eq_take_append_cons_drop,if_pos hl] at h
 simpa using h
theorem p_U (H:Wk Q w g b L X k) (p q:Sp) {ws ts:List Int} (h1:SlP Q w p.a p.n ws) (h2:SlP Q w q.a q.n ts):Wk Q (d_u w g 1 [.slice p.a p.n p.c,.slice q.a q.n q.c]) g b (L.setMem p q) { X with ws:=ws,ts:=ts } k:=by
 have hK:Kept Q w (d_u w g 1 [.slice p.a p.n p.c,.slice q.a q.n q.c]):=a_u (fun c hc=>(H.hQ c hc).1);obtain ⟨TC,t1,t2⟩:=H.tc;exact ⟨b_c 1 H.x (by simp),H.hb,⟨TC,a_j H.hgb t1,b_n hK t2⟩,a_B hK H.co,a_r hK h1,a_r hK h2,a_G hK H.bs,l_U H.ev (fun e=>(H.evo _ e).1 rfl) (fun c hc=>(H.hQ c hc).1),H.evo,H.cco,H.cth,H.cev,H.hk,H.hn,H.hQ,H.hgb,fun c hc=>H.new c (by rwa [a_O] at hc),H.lo⟩
theorem k_l (H:Wk Q w g b L X k) (p q r:Sp) {ws ts:List Int} {bs:List (List (Int×Int))} (h1:SlP Q w p.a p.n ws) (h2:SlP Q w q.a q.n ts) (h3:BlP Q w r.a r.n bs):Wk Q (d_u w g 1 [.slice p.a p.n p.c,.slice q.a q.n q.c,.int .i64 X.D,.slice r.a r.n r.c]) g b (L.setTso p q r) { X with ws:=ws,ts:=ts,bs:=bs } k:=by
 have hK:Kept Q w (d_u w g 1 [.slice p.a p.n p.c,.slice q.a q.n q.c,.int .i64 X.D,.slice r.a r.n r.c]):=a_u (fun c hc=>(H.hQ c hc).1);obtain ⟨TC,t1,t2⟩:=H.tc;exact ⟨b_c 1 H.x (by simp),H.hb,⟨TC,a_j H.hgb t1,b_n hK t2⟩,a_B hK H.co,a_r hK h1,a_r hK h2,a_G hK h3,l_U H.ev (fun e=>(H.evo _ e).1 rfl) (fun c hc=>(H.hQ c hc).1),H.evo,H.cco,H.cth,H.cev,H.hk,H.hn,H.hQ,H.hgb,fun c hc=>H.new c (by rwa [a_O] at hc),H.lo⟩
theorem l_z (H:Wk Q w g b L X k):w.rangeAt b (k*13+1) [.int .i64 ((thW X k).r 0),.int .i64 ((thW X k).r 1),.int .i64 ((thW X k).r 2),.int .i64 ((thW X k).r 3),.int .i64 ((thW X k).r 4),.int .i64 ((thW X k).r 5),.int .i64 ((thW X k).r 6),.int .i64 ((thW X k).r 7)]:=fun j v hj=>by
 obtain ⟨fa,fc,la,lc,-,ht⟩:=c_4 H;have h1:=N147;rw [Nat.add_assoc];refine (ht (1+j) v ?_).1;rw [←hj];exact J45
theorem i_t (H:Wk Q w g b L X k) (j:Nat) (hj:j < 8):w.cell? ⟨b,k*13+1+j,none⟩=some (.int .i64 ((thW X k).r j)):=l_z H j _ (b_M _ j hj _)
theorem p_z {X:Wo} {k:Nat} (hk:k < X.th.length):b_k X k (thW X k)=X:=by
 have h:X.th.set k (thW X k)=X.th:=by
  apply List.ext_getElem?
  intro i;rw [List.getElem?_set]
  by_cases e:k=i
  ·subst e;rw [if_pos rfl,if_pos hk,k_a hk]
  ·rw [if_neg e]
 rw [b_k,h]
theorem f_J {X:Wo} {k:Nat} {t:Thr} (hk:k < X.th.length):thW (b_k X k t) k=t:=by
 rw [thW,b_k,List.getD_eq_getElem?_getD,List.getElem?_set_self hk];rfl
theorem g_T {X:Wo} {k:Nat} {t u:Thr}:b_k (b_k X k t) k u=b_k X k u:=by
 simp [b_k]
end
theorem m_N (Q:Nat→Prop) (g b:Nat) (Sx:Nat→Prop) (L:WoL) (X:Wo) (k:Nat) (e:Int) (w:World) (H:Wk Q w g b L X k) (hN:Sx b) :
  Calls Tryz.prog 91 #[.pointer (some ⟨g,0,none⟩),.int .i64 e] w (fun en w'=>en=.returned (.tuple #[])∧Wk Q w' g b L (b_k X k (if (thW X k).st=2 then thW X k else b_w (thW X k) e)) k∧Bel Sx w w'):=by
 have HC:=hid (b_4 Q g b L X k w H);obtain ⟨fa,fc,la,lc,-,ht⟩:=c_4 H;obtain ⟨t10,f10⟩:=ht 10 _ rfl;obtain ⟨t11,f11⟩:=ht 11 _ rfl;have HH:=hid H;clear ht H;obtain ⟨st,hst⟩:=mn ((thW X k).st);rw [hst] at t10 ⊢;have HST:=hid hst;clear hst
 by_cases h2:st=2
 ·subst h2
  go_enter Tryz.func91,Tryz.ntmps91
  go_wp2_with fail
  refine HC.out.mono ?_;rintro e1 w1 ⟨rfl,m,rfl⟩;clear HC;have t10:(w.drewN m).cell? ⟨b,k*13+10,none⟩=some (.int .i64 2):=t10
  go_wp2
  first | go_ret | go_end0
  refine ⟨rfl,?_,d_r (below_drewN (Below.refl _ _) m)⟩;rw [p_z HH.out.hk];exact d_y (below_drewN (Below.refl _ _) m) HH.out
 ·have hb:(st != 2)=true:=by simpa using h2
  have HNE:=hid h2;clear h2
  go_enter Tryz.func91,Tryz.ntmps91
  go_wp2_with fail
  refine HC.out.mono ?_;rintro e1 w1 ⟨rfl,m,rfl⟩;clear HC;obtain ⟨W,hW⟩:=nm (w.drewN m);have HB:=hid (show Below w.heap.size w W by rw [hW];exact below_drewN (Below.refl _ _) m);have HBN:=hid (show Bel Sx w W from d_r HB.out);have t10:W.cell? ⟨b,k*13+10,none⟩=some (.int .i64 st):=by rw [hW];exact t10
  have f10:W.frozen? ⟨b,k*13+10,none⟩=false:=by rw [hW];exact f10
  have t11:W.cell? ⟨b,k*13+11,none⟩=some (.int .i64 (thW X k).ft):=by rw [hW];exact t11
  have f11:W.frozen? ⟨b,k*13+11,none⟩=false:=by rw [hW];exact f11
  rw [←hW];clear hW;have H1:=c_C (d_y HB.out HH.out) 10 (.int .i64 2) { thW X k with st:=2 } (by decide) (fun fa fc la lc T=>⟨fa,fc,la,lc,rfl,⟨T.fcap,T.fs,T.lcap,T.lf⟩⟩)
  have H2:=c_C H1 11 (.int .i64 e) (b_w (thW X k) e) (by decide) (fun fa fc la lc T=>by
   rw [f_J HH.out.hk] at T ⊢;exact ⟨fa,fc,la,lc,rfl,⟨T.fcap,T.fs,T.lcap,T.lf⟩⟩)
  rw [g_T] at H2;have ⟨HH2,HNN⟩:=hh2 H2 hN;clear H1 H2 hN
  go_wp2
  first | go_ret | go_end0
  refine ⟨rfl,?_,(HBN.out.setCell (p:=⟨b,k*13+10,none⟩) HNN.out _).setCell (p:=⟨b,k*13+11,none⟩) HNN.out _⟩;exact HH2.out
def t_S (h g:Nat) (L:WoL) (ra rb:Nat) (va vb tag me:Int) (zs us:List Int) (Q:Nat→Prop):b_v:=[isV 0 (.pointer (some ⟨g,0,none⟩)),isV 1 (.pointer (some ⟨g,0,none⟩)),isV 2 (.pointer (some ⟨g,0,none⟩)),isV 3 (.pointer (some ⟨g,0,none⟩)),isV 4 (.pointer (some ⟨g,1,none⟩)),isV 5 (.pointer (some ⟨g,1,none⟩)),isV 6 (.agg #[.slice L.ws.a L.ws.n L.ws.c,.slice L.ts.a L.ts.n L.ts.c]),isV 7 (.pointer (some ⟨h,1,none⟩)),isV 8 (.int .i64 ra),isV 9 (.pointer (some ⟨h+1,ra,none⟩)),isV 10 (.int .i64 va),isV 11 (.pointer (some ⟨h,2,none⟩)),isV 12 (.int .i64 rb),isV 13 (.pointer (some ⟨h+1,rb,none⟩)),isV 14 (.int .i64 vb),isV 15 (.int .i64 tag),([16],fun vz w=>∃ p q:Sp,vz=[.tuple #[.agg #[.slice p.a p.n p.c,.slice q.a q.n q.c],.int .i64 me]]∧SlP Q w p.a p.n zs∧SlP Q w q.a q.n us),([17],fun vz w=>∃ p q:Sp,vz=[.agg #[.slice p.a p.n p.c,.slice q.a q.n q.c]]∧SlP Q w p.a p.n zs∧SlP Q w q.a q.n us),isV 18 (.int .i64 me),([19],fun vz w=>me=0∧∃ p q:Sp,vz=[.agg #[.slice p.a p.n p.c,.slice q.a q.n q.c]]∧SlP Q w p.a p.n zs∧SlP Q w q.a q.n us),isW 20 [] (.pointer (some ⟨g,0,none⟩)),isW 21 [20] (.pointer (some ⟨g,0,none⟩)),isW 22 [21,20] (.pointer (some ⟨g,1,none⟩)),isW 23 [22,21,20] (.pointer (some ⟨g,1,none⟩))]
theorem o_z (h g:Nat) (L:WoL) (ra rb:Nat) (va vb tag me:Int) (zs us:List Int) (Q:Nat→Prop):c_q (t_S h g  L  ra rb  va vb tag me  zs us  Q ):=a_d<|a_d<|a_d<|a_d<|a_d<|a_d<|a_d<|a_d<|a_d<|a_d<|a_d<|a_d<|a_d<|a_d<|a_d<|a_d<|a_w (fun _ _ _ hb h=>by obtain ⟨p,q,h1,h2,h3⟩:=h;exact ⟨p,q,h1,a_r (a_C hb) h2,a_r (a_C hb) h3⟩)<|a_w (fun _ _ _ hb h=>by obtain ⟨p,q,h1,h2,h3⟩:=h;exact ⟨p,q,h1,a_r (a_C hb) h2,a_r (a_C hb) h3⟩)<|a_d<|a_w (fun _ _ _ hb h=>by obtain ⟨h0,p,q,h1,h2,h3⟩:=h;exact ⟨h0,p,q,h1,a_r (a_C hb) h2,a_r (a_C hb) h3⟩)<|a_2<|a_2<|a_2<|a_2<|b_B
theorem p_H (Q:Nat→Prop) (g b:Nat) (Sx:Nat→Prop) (L:WoL) (X:Wo) (k:Nat) (i:Ins) (tag:Int) (w:World) (H:Wk Q w g b L X k) (hQ:∀ c,w.heap.size≤c→Q c) (hN:Sx g) (ha:0≤i.2.1∧i.2.1≤7) (hb:0≤i.2.2.1∧i.2.2.1≤7) (hwf:∀ j,j < 8→(Lit.int .i64 ((thW X k).r j)).wf=true) :
  Calls Tryz.prog 124 #[.pointer (some ⟨g,0,none⟩),.agg #[.int .i64 i.1,.int .i64 i.2.1,.int .i64 i.2.2.1,.int .i64 i.2.2.2],.int .i64 tag] w
   (c_d g b Sx X { X with ws:=c_5 X.ws X.ts (rgt (thW X k) i.2.1) (rgt (thW X k) i.2.2.1) tag,ts:=c_O X.ws X.ts (rgt (thW X k) i.2.1) (rgt (thW X k) i.2.2.1) tag } k (c_F X.ws X.ts (rgt (thW X k) i.2.1) (rgt (thW X k) i.2.2.1) tag) w):=by
 obtain ⟨o,ra,rb,c⟩:=i;simp only at ha hb ⊢;obtain ⟨ra,rfl⟩:∃ j:Nat,ra=j:=⟨ra.toNat,by omega⟩;obtain ⟨rb,rfl⟩:∃ j:Nat,rb=j:=⟨rb.toNat,by omega⟩;simp only [rgt,Int.toNat_natCast];obtain ⟨W,hW⟩:=nm (w.alloc (Obj.cells (inC (o,(ra:Int),(rb:Int),c)).toArray 66));have HI:=hid (show a_p W w.heap.size (inC (o,(ra:Int),(rb:Int),c)) by rw [hW];exact a_e _ _ rfl);have HB:=N3;have HSZ:=N149;have HH:=hid (d_y HB.out H);have HC:=N58;have HT:=hid (l_z HH.out);obtain ⟨t,htt⟩:=mn (thW X k);rw [htt] at HT hwf ⊢;obtain ⟨va,hva⟩:=mn (t.r ra);obtain ⟨vb,hvb⟩:=mn (t.r rb);rw [hva,hvb];have ⟨HQ,HNN,HW⟩:=hh3 hQ hN hW;have HWF:=hid (hwf ra (by omega));rw [hva] at HWF;have ⟨HVA,HVB⟩:=hh2 hva hvb;clear hW H hva hvb htt hQ hN hwf
 go_enter Tryz.func124,Tryz.ntmps124
 go_upto_region 1 with fail
 rw [←HW.out]
 go_wp2_with fail
 refine HC.out.mono ?_;rintro e1 w1 ⟨rfl,m,hm⟩;have HB1:=N215;have HZ1:=hid (show w1.heap.size=w.heap.size+1 by rw [hm,←HSZ.out];rfl);have HT1:=hid (fun j v hj=>a_t HB1.out (HT.out j v hj));clear HC hm HT
 go_upto_region 2 with (first | (refine wpList_load_mid rfl 43 _ rfl b (k*13+1) rfl (rgC t.r) _ HT1.out Tryz.underlying43 rfl (by kernel_rfl) ?_) | (refine a_c rfl 43 _ _ rfl w1.heap.size (rgC t.r).toArray rfl rfl _ (a_e rgZ w1.heap.size rfl) rfl (by kernel_rfl) (by simp [Value.oneCell']) ?_;intro V HV))
 have HR2:=N205;have HB2:=N115;have HI2:=hid (a_h HB2.out HI.out);have HH2:=hid (d_y HB2.out HH.out);rw [HZ1.out] at HR2 ⊢;have HBV:=hid (show Below w.heap.size w V from a_a HB.out HB2.out);have HB2N:=N46;have HQ:=hid (show ∀ c,V.heap.size≤c→Q c from fun c hc=>HQ.out c (by have:=HBV.out.size;omega));have HL:=hid (fun (u:World) (hu:Below V.heap.size V u)=>p_8 L.ws.a L.ts.a L.ws.n L.ws.c L.ts.n L.ts.c X.ws X.ts va vb tag u (f_s hu HH2.out.ws) (f_s hu HH2.out.ts) HWF.out);obtain ⟨zs,hzs⟩:=mn (c_5 X.ws X.ts va vb tag);obtain ⟨us,hus⟩:=mn (c_O X.ws X.ts va vb tag);obtain ⟨me,hme⟩:=mn (c_F X.ws X.ts va vb tag);rw [hzs,hus,hme] at HL ⊢;obtain ⟨q2,-⟩:=HI2.out 2 _ rfl;obtain ⟨q1,-⟩:=HI2.out 1 _ rfl;have i1:(0:Int)≤rb:=by omega
 have i2:(rb:Int) < 8:=by omega
 have i3:(0:Int)≤ra:=by omega
 have i4:(ra:Int) < 8:=by omega
 obtain ⟨r1,-⟩:=HR2.out rb _ (b_M t.r rb (by omega) _);obtain ⟨r2,-⟩:=HR2.out ra _ (b_M t.r ra (by omega) _);rw [HVA.out] at r2;rw [HVB.out] at r1;clear hzs hus hme HV HR2 ha hb;have hG:=o_z w.heap.size g L ra rb va vb tag me zs us Q;refine c_I 24 [some 12,some 13,some 14,some 15,some 16,some 17,some 18,some 19,some 20,some 21,some 22,some 23,some 24,some 25,some 26,some 27,some 28,some 29,some 30,some 31,some 32,some 33,some 34,some 35] (fun w'=>Below V.heap.size V w') (t_S w.heap.size g L ra rb va vb tag me zs us Q) 100 100 (fun _ _ _=>True) (by kernel_rfl) (by kernel_rfl) (by decide) rfl rfl ((Below.refl _ _).drew) ?_
 show StepsL _ _ _ _ _ _ _
 refine InvZ.c (fun _ _ w1 _ C _ hK=>oR C hK (h:=by simp [execOp,go_sem,C.o 0 (.pointer (some ⟨g,0,none⟩))])) ?_;refine InvZ.c (fun _ _ w1 _ C _ hK=>oR C hK (h:=by simp [execOp,go_sem,C.o 0 (.pointer (some ⟨g,0,none⟩))])) ?_;refine InvZ.c (fun _ _ w1 _ C _ hK=>oR C hK (h:=by simp [execOp,go_sem,C.i 1])) ?_;refine InvZ.c (fun _ _ w1 _ C _ hK=>oR C hK (h:=by simp [execOp,go_sem,C.i 2])) ?_;refine InvZ.c (fun _ _ w1 _ C _ hK=>oR C hK (h:=by simp [execOp,go_sem,C.i 3])) ?_;refine InvZ.c (fun _ _ w1 _ C _ hK=>oR C hK (h:=by simp [execOp,go_sem,C.i 4])) ?_;refine InvZ.c (fun a1 vals w1 hdf C K hK=>?_) ?_
 ·have e0:=C.i 5;exact J79
 refine InvZ.c (fun _ _ w1 _ C _ hK=>oR C hK (h:=by simp [execOp,go_sem,C.o 4 (.pointer (some ⟨w.heap.size,0,none⟩))])) ?_;refine InvZ.c (fun _ _ w1 _ C _ hK=>oR C hK (h:=by simp [execOp,go_sem,C.i 7,a_t C.base q1])) ?_;refine InvZ.c (fun _ _ w1 _ C _ hK=>oR C hK (h:=by simp [execOp,go_sem,C.o 6 (.pointer (some ⟨w.heap.size+1,0,none⟩)),C.i 8,i3,i4])) ?_;refine InvZ.c (fun _ _ w1 _ C _ hK=>oR C hK (h:=by simp [execOp,go_sem,C.i 9,a_t C.base r2])) ?_;refine InvZ.c (fun _ _ w1 _ C _ hK=>oR C hK (h:=by simp [execOp,go_sem,C.o 4 (.pointer (some ⟨w.heap.size,0,none⟩))])) ?_;refine InvZ.c (fun _ _ w1 _ C _ hK=>oR C hK (h:=by simp [execOp,go_sem,C.i 11,a_t C.base q2])) ?_;refine InvZ.c (fun _ _ w1 _ C _ hK=>oR C hK (h:=by simp [execOp,go_sem,C.o 6 (.pointer (some ⟨w.heap.size+1,0,none⟩)),C.i 12,i1,i2])) ?_;refine InvZ.c (fun _ _ w1 _ C _ hK=>oR C hK (h:=by simp [execOp,go_sem,C.i 13,a_t C.base r1])) ?_;refine InvZ.c (fun _ _ w1 _ C _ hK=>oR C hK (h:=by simp [execOp,go_sem,C.o 2 (.int .i64 tag)])) ?_;refine InvZ.c (fun a1 vals w1 hdf C K hK=>?_) ?_
 ·have e0:=C.i 6;have e1:=C.i 10;have e2:=C.i 14;have e3:=C.i 15;rw [a_P] at e0 e1 e2 e3;refine a_i rfl (a_Q _ _ _ rfl 153 rfl [.agg #[.slice L.ws.a L.ws.n L.ws.c,.slice L.ts.a L.ts.n L.ts.c],.int .i64 va,.int .i64 vb,.int .i64 tag] (by simp only [List.map_cons,List.map_nil,e0,e1,e2,e3]) (by kernel_rfl) ((HL.out w1 C.base).mono ?_));rintro e9 w2 ⟨a1x,n1x,c1x,a2x,n2x,c2x,rfl,z1,z2,hb2⟩;exact ⟨_,rfl,p_p hK hG (fun _ _ _ _ _ _=>trivial) hb2 rfl ⟨⟨a1x,n1x,c1x⟩,⟨a2x,n2x,c2x⟩,rfl,c_M (fun b hb=>HQ.out b (by have:=C.base.size;omega)) z1,c_M (fun b hb=>HQ.out b (by have:=C.base.size;omega)) z2⟩ (a_a C.base hb2)⟩
 refine InvZ.c (fun a1 vals w1 hdf C K hK=>?_) ?_
 ·have e0:=C.t 16 28 rfl rfl;obtain ⟨p,q,h1,h2,h3⟩:=C.says 16 rfl;have h1:vals 16=_:=List.head_eq_of_cons_eq h1;rw [h1] at e0;refine a_i rfl (a_A (v:=.agg #[.slice p.a p.n p.c,.slice q.a q.n q.c]) ?_ (d_e hK C rfl ⟨p,q,rfl,h2,h3⟩));simp [execOp,go_sem,e0]
 refine InvZ.c (fun a1 vals w1 hdf C K hK=>?_) ?_
 ·have e0:=C.t 16 28 rfl rfl;obtain ⟨p,q,h1,h2,h3⟩:=C.says 16 rfl;have h1:vals 16=_:=List.head_eq_of_cons_eq h1;rw [h1] at e0;refine a_i rfl (a_A (v:=.int .i64 me) ?_ (d_e hK C rfl rfl));simp [execOp,go_sem,e0]
 refine InvZ.c (fun a1 vals w1 hdf C K hK=>?_) ?_
 ·have e0:=C.t 17 29 rfl rfl;obtain ⟨p,q,h1,h2,h3⟩:=C.says 17 rfl;have h1:vals 17=_:=List.head_eq_of_cons_eq h1;rw [h1] at e0;have e1:=C.i 18;rw [a_P] at e0 e1;refine a_i rfl (f_7 _ _ _ rfl 49 rfl [.agg #[.slice p.a p.n p.c,.slice q.a q.n q.c],.int .i64 me] (by simp only [List.map_cons,List.map_nil,e0,e1]) (by kernel_rfl) ((o_W p q me w1).mono ?_));rintro e9 w2 ⟨(⟨hz,rfl⟩ | ⟨hz,rfl⟩),hb2⟩
  ·exact .inl ⟨_,rfl,p_p hK hG (fun _ _ _ _ _ _=>trivial) hb2 rfl ⟨hz,p,q,rfl,a_r (a_C hb2) h2,a_r (a_C hb2) h3⟩ (a_a C.base hb2)⟩
  ·refine .inr ⟨_,rfl,And.intro hdf ?_⟩;exact ⟨.inr ⟨hz,rfl,Q,L,d_y (a_a C.base hb2) HH2.out⟩,HB2N.out.andB (a_a C.base hb2)⟩
 refine InvZ.c (fun _ _ w1 _ C _ hK=>oR C hK (h:=by simp [execOp,go_sem,C.i 0])) ?_;refine InvZ.c (fun a1 vals w1 hdf C K hK=>?_) ?_
 ·have e0:=C.isw 20 32 [] (.pointer (some ⟨g,0,none⟩)) rfl rfl rfl rfl;exact J89
 refine InvZ.c (fun a1 vals w1 hdf C K hK=>?_) ?_
 ·have e0:=C.isw 21 33 [20] (.pointer (some ⟨g,0,none⟩)) rfl rfl rfl rfl;exact J88
 refine InvZ.c (fun a1 vals w1 hdf C K hK=>?_) ?_
 ·have e0:=C.isw 22 34 [21,20] (.pointer (some ⟨g,1,none⟩)) rfl rfl rfl rfl;exact J88
 refine InvZ.last (n:=24) ?_ ?_ ?_ ?_
 ·rfl
 ·kernel_rfl
 ·decide
 ·intro vals w1 aE hae hval hb hv hbo K hK;obtain ⟨hz,p,q,h1,h2,h3⟩:=c_i (k:=19) rfl (hv 19 (by decide));have HZM:=hid hz;clear hz;have y31:vals 19=_:=List.head_eq_of_cons_eq h1;have y35:vals 23=.pointer (some ⟨g,1,none⟩):=e_Y rfl (hv 23 (by decide));have HHW:=d_y hb HH2.out;refine a_i rfl (e_D 26 _ _ rfl g 1 #[.slice p.a p.n p.c,.slice q.a q.n q.c] ((hval 23 35 rfl rfl).trans y35) ((hval 19 31 rfl rfl).trans y31) _ HHW.x (by simp) (by kernel_rfl) (by simp [Value.oneCell']) ?_);intro U HU;refine hK _ _ ?_;rw [hae.out];simp only [c_N,Act.put,sA,sB,sC,y31,y35];have HE:=hid (show c_d g b Sx X { X with ws:=zs,ts:=us } k me w (.returned (.tuple #[])) U from ⟨.inl ⟨HZM.out,rfl,Q,L.setMem p q,by rw [HU.out];exact p_U HHW p q h2 h3⟩,by rw [HU.out];exact e_q HNN.out (HB2N.out.andB hb)⟩);clear hb hv hbo h1 h2 h3 HHW y31 y35 HU hval hae
  go_wp2
  first | go_ret | go_end0
  exact HE.out
end Go.Proofs.YtogdpojnbgeknaaGreatDoor
namespace Go.Proofs.YtogdpojnbgeknaaGreatDoor
open Go.ChangeShapes Go.WideShapes Go.ChangeAt Go.RowKit
open Gen
open Lib (hid)
def g_K (t:Thr) (a:Nat) (v:Int):Thr:={ t with r:=b_Y t.r a v }
def q_f (Q1:Nat→Prop) (h:Nat) (V:World) (L:WoL) (D:Int) (g b k ra rb rc:Nat) (kd va vb vc lv se sD:Int) (SW ST:List Int) (SB:List (List (Int×Int))):b_v:=[isV 0 (.pointer (some ⟨g,0,none⟩)),isV 1 (.pointer (some ⟨g,0,none⟩)),isV 2 (.pointer (some ⟨g,0,none⟩)),isV 3 (.pointer (some ⟨g,1,none⟩)),isV 4 (.agg #[.slice L.ws.a L.ws.n L.ws.c,.slice L.ts.a L.ts.n L.ts.c,.int .i64 D,.slice L.bs.a L.bs.n L.bs.c]),isV 5 (.pointer (some ⟨g,0,none⟩)),isV 6 (.pointer (some ⟨g,0,none⟩)),isV 7 (.pointer (some ⟨g,7,none⟩)),isV 8 (.int .i64 k),isV 9 (.int .i64 kd),isV 10 (.pointer (some ⟨b,k*13,none⟩)),isV 11 (.pointer (some ⟨h,2,none⟩)),isV 12 (.int .i64 rb),isV 13 (.pointer (some ⟨b,k*13,none⟩)),isV 14 (.pointer (some ⟨b,k*13+1,none⟩)),isV 15 (.pointer (some ⟨b,k*13+1+rb,none⟩)),isV 16 (.int .i64 vb),isV 17 (.pointer (some ⟨b,k*13,none⟩)),isV 18 (.pointer (some ⟨h,1,none⟩)),isV 19 (.int .i64 ra),isV 20 (.pointer (some ⟨b,k*13,none⟩)),isV 21 (.pointer (some ⟨b,k*13+1,none⟩)),isV 22 (.pointer (some ⟨b,k*13+1+ra,none⟩)),isV 23 (.int .i64 va),isV 24 (.pointer (some ⟨b,k*13,none⟩)),isV 25 (.pointer (some ⟨h,3,none⟩)),isV 26 (.int .i64 rc),isV 27 (.pointer (some ⟨b,k*13,none⟩)),isV 28 (.pointer (some ⟨b,k*13+1,none⟩)),isV 29 (.pointer (some ⟨b,k*13+1+rc,none⟩)),isV 30 (.int .i64 vc),([31],fun vz w=>∃ a n c a' n' c' q l d,vz=[.tuple #[.agg #[.slice a n c,.slice a' n' c',.int .i64 sD,.slice q l d],.int .i64 lv,.int .i64 se]]∧SlP Q1 w a n SW∧SlP Q1 w a' n' ST∧BlP Q1 w q l SB),([32,31],fun vz _=>∃ a n c a' n' c' q l d,vz=[.tuple #[.agg #[.slice a n c,.slice a' n' c',.int .i64 sD,.slice q l d],.int .i64 lv,.int .i64 se],.tuple #[.agg #[.slice a n c,.slice a' n' c',.int .i64 sD,.slice q l d],.int .i64 lv,.int .i64 se]]),([33,31],fun vz _=>∃ a n c a' n' c' q l d,vz=[.agg #[.slice a n c,.slice a' n' c',.int .i64 sD,.slice q l d],.tuple #[.agg #[.slice a n c,.slice a' n' c',.int .i64 sD,.slice q l d],.int .i64 lv,.int .i64 se]]),isV 34 (.int .i64 lv),isV 35 (.int .i64 se),([36],fun vz w=>∃ g,vz=[.pointer (some ⟨g,0,none⟩)]∧V.heap.size≤g∧∃ xs,a_p w g xs∧xs.length=4),([36,31],fun vz w=>∃ g a n c a' n' c' q l d,vz=[.pointer (some ⟨g,0,none⟩),.tuple #[.agg #[.slice a n c,.slice a' n' c',.int .i64 sD,.slice q l d],.int .i64 lv,.int .i64 se]]∧V.heap.size≤g∧a_p w g [.slice a n c,.slice a' n' c',.int .i64 sD,.slice q l d]∧SlP (fun b=>Q1 b∧b≠g) w a n SW∧SlP (fun b=>Q1 b∧b≠g) w a' n' ST∧BlP (fun b=>Q1 b∧b≠g) w q l SB),isV 38 (.int .i64 lv),isV 39 (.int .i64 se)]
theorem o_v (Q1:Nat→Prop) (h:Nat) (V:World) (L:WoL) (D:Int) (g b k ra rb rc:Nat) (kd va vb vc lv se sD:Int) (SW ST:List Int) (SB:List (List (Int×Int))):c_q (q_f Q1  h  V  L  D  g b k ra rb rc  kd va vb vc lv se sD  SW ST  SB ):=a_d<|a_d<|a_d<|a_d<|a_d<|a_d<|a_d<|a_d<|a_d<|a_d<|a_d<|a_d<|a_d<|a_d<|a_d<|a_d<|a_d<|a_d<|a_d<|a_d<|a_d<|a_d<|a_d<|a_d<|a_d<|a_d<|a_d<|a_d<|a_d<|a_d<|a_d<|a_w (fun _ _ _ hb h=>by obtain ⟨a,n,c,a',n',c',q,l,d,h1,h0x,h1x,h2x⟩:=h;exact ⟨a,n,c,a',n',c',q,l,d,h1,a_r (fun _ _ _ _ h=>a_t hb h) h0x,a_r (fun _ _ _ _ h=>a_t hb h) h1x,a_G (fun _ _ _ _ h=>a_t hb h) h2x⟩)<|a_w (fun _ _ _ _ h=>h)<|a_w (fun _ _ _ _ h=>h)<|a_d<|a_d<|a_w (fun _ _ _ hb h=>by obtain ⟨g,h1,h2,xs,h3,h4⟩:=h;exact ⟨g,h1,h2,xs,a_h hb h3,h4⟩)<|a_w (fun _ _ _ hb h=>by obtain ⟨g,a,n,c,a',n',c',q,l,d,h1,h2,h3,h0x,h1x,h2x⟩:=h;exact ⟨g,a,n,c,a',n',c',q,l,d,h1,h2,a_h hb h3,a_r (fun _ _ _ _ h=>a_t hb h) h0x,a_r (fun _ _ _ _ h=>a_t hb h) h1x,a_G (fun _ _ _ _ h=>a_t hb h) h2x⟩)<|a_d<|a_d<|b_B
theorem q_G (Q1:Nat→Prop) (h:Nat) (V:World) (L:WoL) (D:Int) (g b k ra rb rc:Nat) (kd va vb vc lv se sD:Int) (SW ST:List Int) (SB:List (List (Int×Int))):∀ jz args wz wz',jz≠31→jz≠36→jz≠37→b_E (q_f Q1  h  V  L  D  g b k ra rb rc  kd va vb vc lv se sD  SW ST  SB ) jz args wz→b_E (q_f Q1  h  V  L  D  g b k ra rb rc  kd va vb vc lv se sD  SW ST  SB ) jz args wz':=by
 intro jz args wz wz' n0 n1 n2 h
 match jz with
 | 0=>exact h
 | 1=>exact h
 | 2=>exact h
 | 3=>exact h
 | 4=>exact h
 | 5=>exact h
 | 6=>exact h
 | 7=>exact h
 | 8=>exact h
 | 9=>exact h
 | 10=>exact h
 | 11=>exact h
 | 12=>exact h
 | 13=>exact h
 | 14=>exact h
 | 15=>exact h
 | 16=>exact h
 | 17=>exact h
 | 18=>exact h
 | 19=>exact h
 | 20=>exact h
 | 21=>exact h
 | 22=>exact h
 | 23=>exact h
 | 24=>exact h
 | 25=>exact h
 | 26=>exact h
 | 27=>exact h
 | 28=>exact h
 | 29=>exact h
 | 30=>exact h
 | 31=>exact absurd rfl n0
 | 32=>exact h
 | 33=>exact h
 | 34=>exact h
 | 35=>exact h
 | 36=>exact absurd rfl n1
 | 37=>exact absurd rfl n2
 | 38=>exact h
 | 39=>exact h
 | _+40=>exact trivial
def t_Q (h b k ra:Nat) (lv:Int):b_v:=[isV 0 (.pointer (some ⟨b,k*13,none⟩)),isV 1 (.pointer (some ⟨h,1,none⟩)),isV 2 (.int .i64 ra),isV 3 (.int .i64 lv),isW 4 [] (.pointer (some ⟨b,k*13,none⟩)),isW 5 [4] (.pointer (some ⟨b,k*13+1,none⟩)),isW 6 [5,4] (.pointer (some ⟨b,k*13+1+ra,none⟩))]
theorem o_w (h b k ra:Nat) (lv:Int):c_q (t_Q h b k ra  lv ):=a_d<|a_d<|a_d<|a_d<|a_2<|a_2<|a_2<|b_B
theorem g_h (Q1:Nat→Prop) (g b:Nat) (Sx:Nat→Prop) (L:WoL) (X Y:Wo) (k:Nat) (i:Ins) (kd se:Int) (w:World) (H:Wk Q1 w g b L X k) (hQ:∀ c,w.heap.size≤c→Q1 c) (hN:Sx g∧Sx b) (ha:0≤i.2.1∧i.2.1≤7) (hb:0≤i.2.2.1∧i.2.2.1≤7) (hc:0≤i.2.2.2∧i.2.2.2≤7) (hwf:∀ j,j < 8→(Lit.int .i64 ((thW X k).r j)).wf=true)
  (hE:b_y X.ws X.ts X.D X.bs k kd (rgt (thW X k) i.2.2.1)=se) (hY:b_k { X with ws:=b_z X.ws X.ts kd (rgt (thW X k) i.2.2.1) (rgt (thW X k) i.2.1) (rgt (thW X k) i.2.2.2) } k (g_K (thW X k) i.2.1.toNat (b_L X.ws X.ts (rgt (thW X k) i.2.2.1)))=Y) :
  Calls Tryz.prog 123 #[.pointer (some ⟨g,0,none⟩),.agg #[.int .i64 i.1,.int .i64 i.2.1,.int .i64 i.2.2.1,.int .i64 i.2.2.2],.int .i64 kd] w (c_d g b Sx X Y k se w):=by
 obtain ⟨o,ra,rb,rc⟩:=i;simp only at ha hb hc hE hY ⊢;obtain ⟨ra,rfl⟩:∃ j:Nat,ra=j:=⟨ra.toNat,by omega⟩;obtain ⟨rb,rfl⟩:∃ j:Nat,rb=j:=⟨rb.toNat,by omega⟩;obtain ⟨rc,rfl⟩:∃ j:Nat,rc=j:=⟨rc.toNat,by omega⟩;simp only [rgt,Int.toNat_natCast] at hE hY;obtain ⟨W,hW⟩:=nm (w.alloc (Obj.cells (inC (o,(ra:Int),(rb:Int),(rc:Int))).toArray 66));have HI:=hid (show a_p W w.heap.size (inC (o,(ra:Int),(rb:Int),(rc:Int))) by rw [hW];exact a_e _ _ rfl);have HB:=N3;have HSZ:=hid (show g < w.heap.size from a_N H.x (by simp));have HH:=hid (d_y HB.out H);have HC:=hid (b_4 Q1 g b L X k W HH.out);obtain ⟨t,htt⟩:=mn (thW X k);rw [htt] at hwf hE hY;obtain ⟨va,hva⟩:=mn (t.r ra);obtain ⟨vb,hvb⟩:=mn (t.r rb);obtain ⟨vc,hvc⟩:=mn (t.r rc);rw [hvb] at hE;rw [hva,hvb,hvc] at hY;have ⟨HTT,HQ,HNN,HW⟩:=hh4 htt hQ hN hW;have HWF:=hid (hwf rb (by omega));rw [hvb] at HWF;have HVA:=hid (And.intro hva (And.intro hvb hvc));have HRA:=hid (show ra < 8 by omega);obtain ⟨D,hD⟩:=mn (X.D);have HD:=hid hD;rw [hD] at hE;have ⟨HLE,HYL⟩:=hh2 hE hY;have i3:(0:Int)≤ra:=by omega
 have i4:(ra:Int) < 8:=by omega
 have i5:(0:Int)≤rb:=by omega
 have i6:(rb:Int) < 8:=by omega
 have i7:(0:Int)≤rc:=by omega
 have i8:(rc:Int) < 8:=by omega
 clear hW H hva hvb hvc htt hQ hN hwf hD hE hY ha hb hc
 go_enter Tryz.func123,Tryz.ntmps123
 go_upto_region 1 with fail
 rw [←HW.out]
 go_wp2_with fail
 refine HC.out.mono ?_;rintro e1 V ⟨rfl,m,hm⟩;have HB1:=N15;clear HC hm;have HHV:=hid (d_y HB1.out HH.out);have HIV:=hid (a_h HB1.out HI.out);have HBV:=hid (a_a HB.out HB1.out);have HBN:=N46;have HQV:=hid (show ∀ c,V.heap.size≤c→Q1 c from fun c hc=>HQ.out c (by have:=HBV.out.size;omega));have HXD:=N143;have hse:=HLE.out;obtain ⟨sD,hsD⟩:=mn (okZ se D);obtain ⟨lv,hlv⟩:=mn (okZ se (b_L X.ws X.ts vb));obtain ⟨SW,hSW⟩:=mn (okL se (b_z X.ws X.ts kd vb va vc));obtain ⟨ST,hST⟩:=mn (okL se X.ts);obtain ⟨SB,hSB⟩:=mn (okL se X.bs);have HOK:=hid (show se=0→D=sD∧b_z X.ws X.ts kd vb va vc=SW∧X.ts=ST∧X.bs=SB∧b_L X.ws X.ts vb=lv from fun h=>by subst h;exact ⟨hsD,hSW,hST,hSB,hlv⟩)
 have HMK:=hid (show ∀ u,Below V.heap.size V u→Calls Tryz.prog 152 #[.agg #[.slice L.ws.a L.ws.n L.ws.c,.slice L.ts.a L.ts.n L.ts.c,.int .i64 D,.slice L.bs.a L.bs.n L.bs.c],.int .i64 k,.int .i64 kd,.int .i64 vb,.int .i64 va,.int .i64 vc] u (fun e w'=>∃ a n c a' n' c' q l d,e=.returned (.tuple #[.agg #[.slice a n c,.slice a' n' c',.int .i64 sD,.slice q l d],.int .i64 lv,.int .i64 se])∧SlP (fun b=>Q1 b∧(b < V.heap.size∨u.heap.size≤b)) w' a n SW∧SlP (fun b=>Q1 b∧(b < V.heap.size∨u.heap.size≤b)) w' a' n' ST∧BlP (fun b=>Q1 b∧(b < V.heap.size∨u.heap.size≤b)) w' q l SB∧Below u.heap.size u w') from fun u hu=>by
  have h:=h_S L.ws.a L.ts.a L.bs.a L.ws.n L.ws.c L.ts.n L.ts.c L.bs.n L.bs.c X.ws X.ts D X.bs k kd vb va vc u (f_s hu HHV.out.ws) (f_s hu HHV.out.ts) (a_G (a_C hu) HHV.out.bs).bl HWF.out;rw [hse,hsD,hSW,hST,hSB,hlv] at h;refine h.mono ?_;rintro e w' ⟨a,n,c,a',n',c',q,l,d,rfl,h1,h2,h3,h4⟩;have hq:∀ b,u.heap.size≤b→Q1 b∧(b < V.heap.size∨u.heap.size≤b):=fun b hb=>⟨HQV.out b (by have:=hu.size;omega),.inr hb⟩
  exact ⟨a,n,c,a',n',c',q,l,d,rfl,a_n hq h1,a_n hq h2,a_H hq h3,h4⟩)
 have HYY:=hid (show se=0→b_k { X with ws:=b_z X.ws X.ts kd vb va vc } k (g_K t ra lv)=Y from fun h=>by rw [←HYL.out,(HOK.out h).2.2.2.2]);clear hse hsD hSW hST hSB hlv;obtain ⟨x7,-⟩:=HXD.out 7 _ rfl;obtain ⟨y1,-⟩:=HIV.out 1 _ rfl;obtain ⟨y2,-⟩:=HIV.out 2 _ rfl;obtain ⟨y3,-⟩:=HIV.out 3 _ rfl;have za:=i_t HHV.out ra (by omega);have zb:=i_t HHV.out rb (by omega);have zc:=i_t HHV.out rc (by omega);rw [HTT.out] at za zb zc;rw [HVA.out.1] at za;rw [HVA.out.2.1] at zb;rw [HVA.out.2.2] at zc;have hG:=o_v Q1 w.heap.size V L D g b k ra rb rc kd va vb vc lv se sD SW ST SB
 go_upto_region 2 with fail
 refine d_K [some 13,some 14,some 15,some 16,some 17,some 18,some 19,some 20,some 21,some 22,some 23,some 24,some 25,some 26,some 27,some 28,some 29,some 30,some 31,some 32,some 33,some 34,some 35,some 36,some 37,some 38,some 39,some 40,some 41,some 42,some 43,some 44,some 12,some 45,some 46,some 47,some 7,none,some 8,some 9] (fun w'=>Below V.heap.size V w') (q_f Q1 w.heap.size V L D g b k ra rb rc kd va vb vc lv se sD SW ST SB) 31 36 (fun x y w=>∃ a n c a' n' c' q l d g,x=.tuple #[.agg #[.slice a n c,.slice a' n' c',.int .i64 sD,.slice q l d],.int .i64 lv,.int .i64 se]∧y=.pointer (some ⟨g,0,none⟩)∧SlP (fun b=>Q1 b∧b≠g) w a n SW∧SlP (fun b=>Q1 b∧b≠g) w a' n' ST∧BlP (fun b=>Q1 b∧b≠g) w q l SB) (by kernel_rfl) (by kernel_rfl) (by decide) rfl ((Below.refl _ _).drew) ?_ ?_
 ·show StepsL _ _ _ _ _ _ _
  refine InvD.c (fun _ _ w1 C _ hK=>oR C hK (h:=by simp [execOp,go_sem,C.o 0 (.pointer (some ⟨g,0,none⟩))])) ?_;refine InvD.c (fun _ _ w1 C _ hK=>oR C hK (h:=by simp [execOp,go_sem,C.i 0])) ?_;refine InvD.c (fun _ _ w1 C _ hK=>oR C hK (h:=by simp [execOp,go_sem,C.i 1])) ?_;refine InvD.c (fun _ _ w1 C _ hK=>oR C hK (h:=by simp [execOp,go_sem,C.i 2])) ?_;refine InvD.c (fun a1 vals w1 C K hK=>?_) ?_
  ·have e0:=C.i 3;exact J48
  refine InvD.c (fun _ _ w1 C _ hK=>oR C hK (h:=by simp [execOp,go_sem,C.o 0 (.pointer (some ⟨g,0,none⟩))])) ?_;refine InvD.c (fun _ _ w1 C _ hK=>oR C hK (h:=by simp [execOp,go_sem,C.i 5])) ?_;refine InvD.c (fun _ _ w1 C _ hK=>oR C hK (h:=by simp [execOp,go_sem,C.i 6])) ?_;refine InvD.c (fun _ _ w1 C _ hK=>oR C hK (h:=by simp [execOp,go_sem,C.i 7,a_t C.base x7])) ?_;refine InvD.c (fun _ _ w1 C _ hK=>oR C hK (h:=by simp [execOp,go_sem,C.o 2 (.int .i64 kd)])) ?_;refine InvD.c (fun _ _ w1 C _ hK=>oR C hK (h:=by simp [execOp,go_sem,C.o 6 (.pointer (some ⟨b,k*13,none⟩))])) ?_;refine InvD.c (fun _ _ w1 C _ hK=>oR C hK (h:=by simp [execOp,go_sem,C.o 4 (.pointer (some ⟨w.heap.size,0,none⟩))])) ?_;refine InvD.c (fun _ _ w1 C _ hK=>oR C hK (h:=by simp [execOp,go_sem,C.i 11,a_t C.base y2])) ?_;refine InvD.c (fun _ _ w1 C _ hK=>oR C hK (h:=by simp [execOp,go_sem,C.i 10])) ?_;refine InvD.c (fun _ _ w1 C _ hK=>oR C hK (h:=by simp [execOp,go_sem,C.i 13])) ?_;refine InvD.c (fun _ _ w1 C _ hK=>oR C hK (h:=by simp [execOp,go_sem,C.i 14,C.i 12,i5,i6])) ?_;refine InvD.c (fun _ _ w1 C _ hK=>oR C hK (h:=by simp [execOp,go_sem,C.i 15,a_t C.base zb])) ?_;refine InvD.c (fun _ _ w1 C _ hK=>oR C hK (h:=by simp [execOp,go_sem,C.o 6 (.pointer (some ⟨b,k*13,none⟩))])) ?_;refine InvD.c (fun _ _ w1 C _ hK=>oR C hK (h:=by simp [execOp,go_sem,C.o 4 (.pointer (some ⟨w.heap.size,0,none⟩))])) ?_;refine InvD.c (fun _ _ w1 C _ hK=>oR C hK (h:=by simp [execOp,go_sem,C.i 18,a_t C.base y1])) ?_;refine InvD.c (fun _ _ w1 C _ hK=>oR C hK (h:=by simp [execOp,go_sem,C.i 17])) ?_
  refine InvD.c (fun _ _ w1 C _ hK=>oR C hK (h:=by simp [execOp,go_sem,C.i 20])) ?_;refine InvD.c (fun _ _ w1 C _ hK=>oR C hK (h:=by simp [execOp,go_sem,C.i 21,C.i 19,i3,i4])) ?_;refine InvD.c (fun _ _ w1 C _ hK=>oR C hK (h:=by simp [execOp,go_sem,C.i 22,a_t C.base za])) ?_;refine InvD.c (fun _ _ w1 C _ hK=>oR C hK (h:=by simp [execOp,go_sem,C.o 6 (.pointer (some ⟨b,k*13,none⟩))])) ?_;refine InvD.c (fun _ _ w1 C _ hK=>oR C hK (h:=by simp [execOp,go_sem,C.o 4 (.pointer (some ⟨w.heap.size,0,none⟩))])) ?_;refine InvD.c (fun _ _ w1 C _ hK=>oR C hK (h:=by simp [execOp,go_sem,C.i 25,a_t C.base y3])) ?_;refine InvD.c (fun _ _ w1 C _ hK=>oR C hK (h:=by simp [execOp,go_sem,C.i 24])) ?_;refine InvD.c (fun _ _ w1 C _ hK=>oR C hK (h:=by simp [execOp,go_sem,C.i 27])) ?_;refine InvD.c (fun _ _ w1 C _ hK=>oR C hK (h:=by simp [execOp,go_sem,C.i 28,C.i 26,i7,i8])) ?_;refine InvD.c (fun _ _ w1 C _ hK=>oR C hK (h:=by simp [execOp,go_sem,C.i 29,a_t C.base zc])) ?_;refine InvD.c (fun a1 vals w1 C K hK=>?_) ?_
  ·have e0:=C.i 4;have e1:=C.i 8;have e2:=C.i 9;have e3:=C.i 16;have e4:=C.i 23;have e5:=C.i 30;rw [a_P] at e0 e1 e2 e3 e4 e5;refine a_i rfl (a_Q _ _ _ rfl 152 rfl [.agg #[.slice L.ws.a L.ws.n L.ws.c,.slice L.ts.a L.ts.n L.ts.c,.int .i64 D,.slice L.bs.a L.bs.n L.bs.c],.int .i64 k,.int .i64 kd,.int .i64 vb,.int .i64 va,.int .i64 vc] (by simp only [List.map_cons,List.map_nil,e0,e1,e2,e3,e4,e5]) (by kernel_rfl) ((HMK.out w1 C.base).mono ?_));exact J25
  refine InvD.c (fun a1 vals w1 C K hK=>?_) ?_
  ·have e0:=C.t 31 44 rfl rfl;obtain ⟨a,n,c,a',n',c',q,l,d,h1,-⟩:=C.says 31 rfl;refine a_i rfl (a_A (v:=vals 31) ?_ (d_e hK C rfl ⟨a,n,c,a',n',c',q,l,d,by show [vals 31,vals 31]=_;rw [List.head_eq_of_cons_eq h1]⟩));simp [execOp,go_sem,e0]
  refine InvD.c (fun a1 vals w1 C K hK=>?_) ?_
  ·have e0:=C.t 32 12 rfl rfl;obtain ⟨a,n,c,a',n',c',q,l,d,h1⟩:=C.says 32 rfl;have h2:=N67;have h3:=N37;rw [h2] at e0;refine a_i rfl (a_A (v:=.agg #[.slice a n c,.slice a' n' c',.int .i64 sD,.slice q l d]) ?_ (d_e hK C rfl (⟨a,n,c,a',n',c',q,l,d,by show [.agg #[.slice a n c,.slice a' n' c',.int .i64 sD,.slice q l d],vals 31]=_;rw [h3]⟩)));simp [execOp,go_sem,e0]
  refine InvD.c (fun a1 vals w1 C K hK=>?_) ?_
  ·have e0:=C.t 32 12 rfl rfl;obtain ⟨a,n,c,a',n',c',q,l,d,h1⟩:=C.says 32 rfl;have h2:=N67;have h3:=N37;rw [h2] at e0;refine a_i rfl (a_A (v:=.int .i64 lv) ?_ (d_e hK C rfl (rfl)));simp [execOp,go_sem,e0]
  refine InvD.c (fun a1 vals w1 C K hK=>?_) ?_
  ·have e0:=C.t 32 12 rfl rfl;obtain ⟨a,n,c,a',n',c',q,l,d,h1⟩:=C.says 32 rfl;have h2:=N67;have h3:=N37;exact J91
  refine InvD.c (fun a1 vals w1 C K hK=>?_) ?_
  ·exact J14
  refine InvD.c (fun a1 vals w1 C K hK=>?_) ?_
  ·have e0:=C.v 36 7 rfl rfl;have e1:=C.v 33 45 rfl rfl;obtain ⟨g,g1,g2,xs,hx,hx2⟩:=C.says 36 rfl;obtain ⟨a,n,c,a',n',c',q,l,d,h1⟩:=C.says 33 rfl;have y0:vals 36=.pointer (some ⟨g,0,none⟩):=List.head_eq_of_cons_eq g1;have y1:vals 33=.agg #[.slice a n c,.slice a' n' c',.int .i64 sD,.slice q l d]:=List.head_eq_of_cons_eq h1;have y2:=N37;obtain ⟨a2,n2,c2,a'2,n'2,c'2,q2,l2,d2,gg,z1,z2,p0x,p1x,p2x⟩:=C.two rfl rfl rfl rfl;rw [y2] at z1;rw [y0] at z2
   cases z1
   cases z2
   rw [y0] at e0;rw [y1] at e1;refine a_i rfl (a_7 30 _ _ rfl g #[.slice a n c,.slice a' n' c',.int .i64 sD,.slice q l d] e0 e1 xs hx (by rw [hx2];rfl) (by kernel_rfl) (by simp [Value.oneCell']) ?_);intro U HU;have hUx:=N98;have hk:=N113;have q0x:=a_r (w':=U) hk p0x;have q1x:=a_r (w':=U) hk p1x;have q2x:=a_G (w':=U) hk p2x;refine hK _ U ⟨g,a,n,c,a',n',c',q,l,d,by show [vals 36,vals 31]=_;rw [y0,y2],g2,hUx,q0x,q1x,q2x⟩ (by rw [HU.out];exact a_g g2 C.base) (fun jz hj h=>?_) (fun _ _ _=>⟨a,n,c,a',n',c',q,l,d,g,y2,y0,q0x,q1x,q2x⟩) (fun e=>absurd e (by decide)) (fun e=>absurd e (by decide)) (fun e=>absurd e (by decide))
   by_cases j16:jz=31
   ·subst j16;exact ⟨a,n,c,a',n',c',q,l,d,by show [vals 31]=_;rw [y2],a_n (fun _ h=>h.1) q0x,a_n (fun _ h=>h.1) q1x,a_H (fun _ h=>h.1) q2x⟩
   ·by_cases j20:jz=36
    ·subst j20;exact ⟨g,by show [vals 36]=_;rw [y0],g2,_,hUx,rfl⟩
    ·exact q_G _ _ _ _ _ _ _ _ _ _ _ _ _ _ _ _ _ _ _ _ _ _ _ _ _ j16 j20 hj h
  refine InvD.c (fun _ _ w1 C _ hK=>oR C hK (h:=by simp [execOp,go_sem,C.i 34])) ?_;refine InvD.c (fun _ _ w1 C _ hK=>oR C hK (h:=by simp [execOp,go_sem,C.i 35])) ?_;exact StepsL.nil
 ·intro vals w1 hb hv hbo;obtain ⟨g7,a,n,c,a',n',c',q,l,d,e1,g2,hm,q5,q6,q7⟩:=c_i (k:=37) rfl (hv 37 (by decide));have y20:vals 36=.pointer (some ⟨g7,0,none⟩):=List.head_eq_of_cons_eq e1;have y22:vals 38=.int .i64 lv:=List.head_eq_of_cons_eq (hv 38 (by decide));have y23:vals 39=.int .i64 se:=List.head_eq_of_cons_eq (hv 39 (by decide));simp only [c_N,Act.put,sA,sB,sC,y20,y22,y23];have HMV:=hid hm;have HQM:=hid (And.intro q5 (And.intro q6 q7));have HHE:=hid (d_y hb HHV.out);have HBE:=hid (HBN.out.andB hb);have HIE:=hid (a_h hb HIV.out);clear hb hbo hv e1 y20 y22 y23 hm q5 q6 q7 g2 HMK x7 y1 y2 y3 za zb zc hG i5 i6 i7 i8;have HC0:=j_P ⟨a,n,c⟩ ⟨a',n',c'⟩ ⟨q,l,d⟩ sD se w1;have HC:=hid HC0;clear HC0
  go_wp2_with (refine wpList_load_mid rfl 30 _ rfl g7 0 rfl [.slice a n c,.slice a' n' c',.int .i64 sD,.slice q l d] _ (a_f HMV.out) Tryz.underlying30 rfl (by kernel_rfl) ?_)
  refine HC.out.mono ?_;clear HC;rintro e2 w2 ⟨(⟨hz,rfl⟩ | ⟨hz,rfl⟩),hb2⟩
  ·have HZS:=hid hz;have HH2:=hid (d_y hb2 HHE.out);have HB2:=hid (HBE.out.andB hb2);have HI2:=hid (a_h hb2 HIE.out);have HQ2:=hid (And.intro (a_r (a_C hb2) HQM.out.1) (And.intro (a_r (a_C hb2) HQM.out.2.1) (a_G (a_C hb2) HQM.out.2.2)));obtain ⟨hD2,hW2,hT2,hB2,hv2⟩:=HOK.out hz;clear hz hb2 HHE HBE HIE HQM HMV
   go_upto_region 4 with (refine a_J rfl 30 _ _ rfl g 1 #[.slice a n c,.slice a' n' c',.int .i64 sD,.slice q l d] rfl rfl _ HH2.out.x (by simp) (by kernel_rfl) (by simp [Value.oneCell']) ?_;intro Z HZ)
   have HZZ:=hid (show Wk Q1 Z g b (L.setTso ⟨a,n,c⟩ ⟨a',n',c'⟩ ⟨q,l,d⟩) { X with ws:=b_z X.ws X.ts kd vb va vc } k from by
    have h:=k_l HH2.out ⟨a,n,c⟩ ⟨a',n',c'⟩ ⟨q,l,d⟩ (a_n (fun _ h=>h.1) HQ2.out.1) (a_n (fun _ h=>h.1) HQ2.out.2.1) (a_H (fun _ h=>h.1) HQ2.out.2.2);rw [←hW2,←hT2,←hB2] at h;have hd:X.D=sD:=HD.out.trans hD2;rw [HZ.out,←hd];exact h)
   have HBZ:=hid (show Bel Sx w Z by rw [HZ.out];exact e_q HNN.out.1 HB2.out);have HIZ:=hid (show a_p Z w.heap.size _ by rw [HZ.out];exact a_j (fun h=>by have:=a_N HH.out.x (by simp);have:=HSZ.out;omega) HI2.out);obtain ⟨y1,-⟩:=HIZ.out 1 _ rfl;obtain ⟨fa,fc,la,lc,-,ht⟩:=c_4 HZZ.out;rw [show thW { X with ws:=b_z X.ws X.ts kd vb va vc } k=t from HTT.out] at ht;have zt:=ht (1+ra) _ (c_J t.r ra (by have:=HRA.out;omega) _ _);rw [←Nat.add_assoc,HVA.out.1] at zt;obtain ⟨za,fz⟩:=zt;have HZS':=HZS.out;subst HZS';clear ht hD2 hW2 hT2 hB2 hv2 HZ;have hG:=o_w w.heap.size b k ra lv;refine c_I 7 [some 55,some 56,some 57,some 58,some 59,some 60,some 61] (fun w'=>Below Z.heap.size Z w') (t_Q w.heap.size b k ra lv) 100 100 (fun _ _ _=>True) (by kernel_rfl) (by kernel_rfl) (by decide) rfl rfl ((Below.refl _ _).drew) ?_
   show StepsL _ _ _ _ _ _ _
   refine InvZ.c (fun _ _ w1 _ C _ hK=>oR C hK (h:=by simp [execOp,go_sem,C.o 6 (.pointer (some ⟨b,k*13,none⟩))])) ?_;refine InvZ.c (fun _ _ w1 _ C _ hK=>oR C hK (h:=by simp [execOp,go_sem,C.o 4 (.pointer (some ⟨w.heap.size,0,none⟩))])) ?_;refine InvZ.c (fun _ _ w1 _ C _ hK=>oR C hK (h:=by simp [execOp,go_sem,C.i 1,a_t C.base y1])) ?_;refine InvZ.c (fun _ _ w1 _ C _ hK=>oR C hK (h:=by simp [execOp,go_sem,C.o 8 (.int .i64 lv)])) ?_;refine InvZ.c (fun _ _ w1 _ C _ hK=>oR C hK (h:=by simp [execOp,go_sem,C.i 0])) ?_;refine InvZ.c (fun a1 vals w1 hdf C K hK=>?_) ?_
   ·have e0:=C.isw 4 59 [] (.pointer (some ⟨b,k*13,none⟩)) rfl rfl rfl rfl;refine a_i rfl (a_A (v:=.pointer (some ⟨b,k*13+1,none⟩)) ?_ (d_e hK C rfl rfl));simp [execOp,go_sem,e0]
   refine InvZ.c (fun a1 vals w1 hdf C K hK=>?_) ?_
   ·have e0:=C.isw 5 60 [4] (.pointer (some ⟨b,k*13+1,none⟩)) rfl rfl rfl rfl;have e1:=C.i 2;refine a_i rfl (a_A (v:=.pointer (some ⟨b,k*13+1+ra,none⟩)) ?_ (d_e hK C rfl rfl));simp [execOp,go_sem,e0,e1,i3,i4]
   refine InvZ.last (n:=7) ?_ ?_ ?_ ?_
   ·rfl
   ·kernel_rfl
   ·decide
   ·intro vals w1 aE hae hval hb hv hbo K hK;have y61:vals 6=.pointer (some ⟨b,k*13+1+ra,none⟩):=e_Y rfl (hv 6 (by decide));have y58:vals 3=.int .i64 lv:=List.head_eq_of_cons_eq (hv 3 (by decide));have HHW:=d_y hb HZZ.out;have q1:=(hval 6 61 rfl rfl).trans y61;have q2:=(hval 3 58 rfl rfl).trans y58;have zz:w1.cell? ⟨b,k*13+1+ra,none⟩=some (.int .i64 va):=a_t hb za;have zf:w1.frozen? ⟨b,k*13+1+ra,none⟩=false:=by rw [hb.frozen (p:=⟨b,k*13+1+ra,none⟩) (b_Q za)];exact fz
    refine a_i rfl (g_y (w':=w1.setCell ⟨b,k*13+1+ra,none⟩ (.int .i64 lv)) ?_ (hK _ _ ?_))
    ·rw [←a_P] at q1 q2;simp [execOp,go_sem,q1,q2,zz,zf]
    rw [hae.out];simp only [c_N,Act.put,sA,sB,sC,y58,y61]
    have HE:=hid (show c_d g b Sx X Y k 0 w (.returned (.tuple #[])) (w1.setCell ⟨b,k*13+1+ra,none⟩ (.int .i64 lv)) from ⟨.inl ⟨rfl,rfl,Q1,_,by
     have h:=c_C HHW (1+ra) (.int .i64 lv) (g_K t ra lv) (by omega) (fun fa fc la lc T=>by
      rw [show thW { X with ws:=b_z X.ws X.ts kd vb va vc } k=t from HTT.out] at T ⊢;exact ⟨fa,fc,la,lc,(l_o t.r ra (by omega) lv (.int .i64 t.pc) _),⟨T.fcap,T.fs,T.lcap,T.lf⟩⟩)
     rw [←Nat.add_assoc] at h;rw [←HYY.out rfl];exact h⟩,(HBZ.out.andB hb).setCell (p:=⟨b,k*13+1+ra,none⟩) HNN.out.2 _⟩)
    clear hb hv hbo HHW y61 y58 hval hae q1 q2 zz zf
    go_wp2
    first | go_ret | go_end0
    exact HE.out
  ·go_wp2
   exact And.intro rfl ⟨.inr ⟨hz,rfl,Q1,L,d_y hb2 HHE.out⟩,HBE.out.andB hb2⟩
def l_v (bs:List (List (Int×Int))) (k:Nat):List Value:=((bs.take k).map (fun b=>Value.int .i64 b.length))++List.replicate (bs.length - k) (.int .i64 0)
theorem r_J (bs:List (List (Int×Int))) (k:Nat) (hk:k≤bs.length):(l_v bs k).length=bs.length:=by simp [l_v];omega
theorem p_Q {bs:List (List (Int×Int))} {k:Nat} (hk:k < bs.length):(l_v bs k).set k (.int .i64 (bs.getD k []).length)=l_v bs (k+1):=by
 have e:bs.take (k+1)=bs.take k++[bs.getD k []]:=by
  rw [List.take_succ_eq_append_getElem hk,List.getD_eq_getElem?_getD,List.getElem?_eq_getElem hk];rfl
 have hl:((bs.take k).map (fun b=>Value.int .i64 b.length)).length=k:=by simp;omega
 rw [l_v,l_v,e,List.map_append,List.set_append_right _ _ (by omega),hl,Nat.sub_self,show bs.length - k=(bs.length - (k+1))+1 by omega,List.replicate_succ,List.set_cons_zero];simp
theorem r_I (bs:List (List (Int×Int))):l_v bs bs.length=bs.map (fun b=>Value.int .i64 b.length):=by simp [l_v]
theorem u_n {Q:Nat→Prop} {w:World} {g:Nat} {zs:List Int} (hq:Q g) (h:a_p w g (zs.map (fun z=>Value.int .i64 z))):Vs repInt Q w (some ⟨g,0,none⟩) zs.length zs:=by
 refine ⟨rfl,.inr ⟨g,0,rfl,hq,fun i y hy=>⟨[.int .i64 y],rfl,fun j v hj=>?_⟩⟩⟩
 match j,hj with
 | 0,hj =>
  have hv:v=.int .i64 y:=by simpa using hj.symm
  subst hv;have h1:=(h i (.int .i64 y) (by rw [List.getElem?_map,hy];rfl)).1;rw [show 0+i*repInt.k+0=i by show 0+i*1+0=i;omega];exact h1
def q_i (zs:List Int) (w:World) (e:Ending) (w':World):Prop:=∃ a c,e=.returned (.slice a zs.length c)∧Cap a zs.length c∧Vs repInt (fun b=>w.heap.size≤b) w' a zs.length zs∧Below w.heap.size w w'
theorem l_w (Q:Nat→Prop) (g b:Nat) (L:WoL) (X:Wo) (k:Nat) (w:World) (H:Wk Q w g b L X k) (hn1:1≤X.bs.length) (hn:X.bs.length≤1000) :
  Calls Tryz.prog 118 #[.pointer (some ⟨g,0,none⟩)] w (q_i (b_m X) w):=by
 obtain ⟨n,hnn⟩:=mn (L.bs.n);have HL:=hid (show X.bs.length=n by rw [←hnn];exact H.bs.1);have hn8:n≤1000:=by have:=HL.out;omega
 obtain ⟨W,hW⟩:=nm (w.alloc (.cells (Zr n) 3));have HB:=N3
 have HR:=hid (show a_p W w.heap.size (l_v X.bs 0) by
  rw [hW,u_E,show Ir (List.replicate n 0)=(l_v X.bs 0).toArray by rw [l_v,HL.out];simp [Ir]];exact a_e _ _ rfl)
 have hmk:=j_K n hn8 w;rw [←hW] at hmk;have HH:=hid (d_y HB.out H);have ⟨HN,H0,HMK⟩:=hh3 hn8 H hmk;obtain ⟨b0,o0,q0,c0,hb0,-,-,-⟩:=f_p H.bs (i:=0) (by have:=HL.out;omega);have HBA:=hid hb0;obtain ⟨x4,-⟩:=H.x 4 _ rfl;rw [hnn,hb0] at x4;have HLN:=hid hnn;have mk:=HMK.out;clear hW hmk H hnn hn hn8 hb0 hn1
 go_enter Tryz.func118,Tryz.ntmps118
 go_upto_region 2 with fail
 have x4:=HH.out.x 4 _ rfl;obtain ⟨x4,-⟩:=x4;rw [HLN.out,HBA.out] at x4;clear mk
 go_wp2_with fail
 go_loopw [21] (fun i wr=>∃ j:Nat,j≤n∧i=.int .i64 j∧Hid (a_p wr w.heap.size (l_v X.bs j))∧Hid (Below w.heap.size W wr)) (fun i _=>n - (intOf i).toNat)
 case atStart=>exact ⟨0,by omega,rfl,HR.out,Below.refl _ _⟩
 case round =>
  obtain ⟨j,hj,rfl,hr,hb⟩:=hrel;have HBr:=hid (show Below w.heap.size w wr from HB.out.trans hb.out);have HHr:=hid (d_y HBr.out H0.out)
  by_cases hlt:j < n
  ·obtain ⟨bb,bo,q,c,hba,hbc,-,-⟩:=f_p HHr.out.bs (i:=j) (by have:=HLN.out;omega);rw [HBA.out] at hba
   cases hba
   obtain ⟨bl,hbl⟩:=mn ((X.bs.getD j []).length);rw [hbl] at hbc;have hjl:j < (l_v X.bs j).length:=by rw [r_J _ _ (by have:=HL.out;omega)];have:=HL.out;omega
   obtain ⟨z0,zf⟩:=hr.out j _ (List.getElem?_eq_getElem hjl);obtain ⟨v0,hv0⟩:=mn ((l_v X.bs j)[j]'hjl);rw [hv0] at z0;have i1:(0:Int)≤j:=by omega
   have i2:(j:Int) < n:=by omega
   have hwk:wrap64 ((j:Int)+1)=j+1:=IntWalk.wrap64_in _ (by have:=HN.out;omega)
   have HR2:=hid (show a_p (wr.setCell ⟨w.heap.size,j,none⟩ (.int .i64 bl)) w.heap.size (l_v X.bs (j+1)) by
    have h:=a_y hr.out j hjl (.int .i64 bl);rw [←hbl,p_Q (by have:=HL.out;omega),hbl] at h;exact h)
   have HB2:=hid (show Below w.heap.size W (wr.setCell ⟨w.heap.size,j,none⟩ (.int .i64 bl)) from hb.out.setCell (p:=⟨w.heap.size,j,none⟩) (Nat.le_refl _) _);clear hv0 hbl
   go_wp2_with fail
   clear hbc z0 zf hjl x4 i1 i2
   go_roundw
   case rel=>exact ⟨j+1,by omega,by go_num,HR2.out,HB2.out⟩
   case measure=>clear hj;rw [hwk];show n - ((j:Int)+1).toNat < n - ((j:Int)).toNat;omega
  ·obtain rfl:j=n:=by omega
   have HV:=hid (show Vs repInt (fun b=>w.heap.size≤b) wr (some ⟨w.heap.size,0,none⟩) (b_m X).length (b_m X) from u_n (Nat.le_refl _) (by
    have h:=hr.out;rw [←HL.out,r_I] at h;rw [b_m,List.map_map];exact h))
   have HLW:=hid (show (b_m X).length=j by rw [b_m,List.length_map];exact HL.out)
   go_wp2_with fail
   go_ret
   refine ⟨some ⟨w.heap.size,0,none⟩,j,?_,⟨by rw [HLW.out];exact Nat.le_refl _,by have:=HN.out;omega,fun h=>by cases h⟩,HV.out,HBr.out⟩;rw [HLW.out];rfl
theorem o_b (Q:Nat→Prop) (g b:Nat) (Sx:Nat→Prop) (L:WoL) (X Y:Wo) (k:Nat) (i:Ins) (E:Int) (w:World) (H:Wk Q w g b L X k) (hN:Sx g∧Sx b) (hpc:0≤(thW X k).pc∧(thW X k).pc≤1000) (ho:i.1=18∨i.1=23) (hE:E=0) (hY:b_k X k (b_j (thW X k))=Y) :
  Calls Tryz.prog 94 #[.pointer (some ⟨g,0,none⟩),.agg #[.int .i64 i.1,.int .i64 i.2.1,.int .i64 i.2.2.1,.int .i64 i.2.2.2]] w (c_d g b Sx X Y k E w):=by
 obtain ⟨op,ra,rb,rc⟩:=i;simp only at *;obtain ⟨W,hW⟩:=nm (w.alloc (Obj.cells (inC (op,ra,rb,rc)).toArray 66));have HI:=N21;have HB:=N3
 have HGS:=hid (show g < w.heap.size∧b < w.heap.size from ⟨a_N H.x (by simp),by
  obtain ⟨TC,h1,h2⟩:=H.tc;have h3:=b_f h2;have h4:repTh.k=13:=rfl;have h5:=H.hk;exact a_N h1 (by rw [h3,h4];omega)⟩)
 have HH:=hid (d_y HB.out H);have HC:=N58;obtain ⟨t,htt⟩:=mn (thW X k);rw [htt] at hpc hY;have ⟨HTT,HNN,HPC,HW⟩:=hh4 htt hN hpc hW;subst hE;have HY:=hid hY;have q0:(op==0)=false:=by simp;omega
 have q22:(op==22)=false:=by simp;omega
 have q16:(op==16)=false:=by simp;omega
 have q17:(op==17)=false:=by simp;omega
 have q19:(op==19)=false:=by simp;omega
 have q20:(op==20)=false:=by simp;omega
 have q21:(op==21)=false:=by simp;omega
 have q24:(op==24)=false:=by simp;omega
 have q25:(op==25)=false:=by simp;omega
 have q26:(op==26)=false:=by simp;omega
 clear ho hY htt;clear hW H hN hpc
 go_enter Tryz.func94,Tryz.ntmps94
 go_upto_region 1 with fail
 rw [←HW.out]
 go_wp2_with fail
 refine HC.out.mono ?_;rintro e1 V ⟨rfl,m,hm⟩;have HB1:=N15;clear HC hm;have HHV:=hid (d_y HB1.out HH.out);have HIV:=hid (a_h HB1.out HI.out);have HBV:=hid (a_a HB.out HB1.out);have HBN:=N46;clear HB HB1 HH HI HW;obtain ⟨y0,-⟩:=HIV.out 0 _ rfl;obtain ⟨fa2,fc2,la2,lc2,-,ht2⟩:=c_4 HHV.out;obtain ⟨p0,pf⟩:=ht2 0 _ rfl;have p0:V.cell? ⟨b,k*13,none⟩=some (.int .i64 (thW X k).pc):=p0;have pf:V.frozen? ⟨b,k*13,none⟩=false:=pf;obtain ⟨pc,hpc2⟩:=mn ((thW X k).pc);rw [hpc2] at p0;have hwk:wrap64 (pc+1)=pc+1:=IntWalk.wrap64_in _ (by rw [←hpc2,HTT.out];have:=HPC.out;omega)
 have HHE:=hid (show Wk Q (V.setCell ⟨b,k*13,none⟩ (.int .i64 (pc+1))) g b L (b_k X k (b_j (thW X k))) k from
  c_C HHV.out 0 (.int .i64 (pc+1)) (b_j (thW X k)) (by decide) (fun fa fc la lc T=>⟨fa,fc,la,lc,by rw [←hpc2];rfl,⟨T.fcap,T.fs,T.lcap,T.lf⟩⟩))
 have HBE:=hid (show Bel Sx w (V.setCell ⟨b,k*13,none⟩ (.int .i64 (pc+1))) from HBN.out.setCell (p:=⟨b,k*13,none⟩) HNN.out.2 _);clear ht2 hpc2
 go_wp2
 first | go_ret | go_end0
 refine ⟨.inl ⟨rfl,rfl,Q,L,?_⟩,HBE.out⟩;have HYE:=HHE;rw [←HY.out,←HTT.out];exact HYE.out
theorem n_9 (Q:Nat→Prop) (g b:Nat) (Sx:Nat→Prop) (L:WoL) (X Y:Wo) (k:Nat) (i:Ins) (E:Int) (w:World) (H:Wk Q w g b L X k) (hN:Sx g∧Sx b) (hpc:0≤(thW X k).pc∧(thW X k).pc≤1000) (ho:i.1=0) (hE:E=0) (hY:b_k X k { (thW X k) with st:=1 }=Y) :
  Calls Tryz.prog 94 #[.pointer (some ⟨g,0,none⟩),.agg #[.int .i64 i.1,.int .i64 i.2.1,.int .i64 i.2.2.1,.int .i64 i.2.2.2]] w (c_d g b Sx X Y k E w):=by
 obtain ⟨op,ra,rb,rc⟩:=i;simp only at *;obtain ⟨W,hW⟩:=nm (w.alloc (Obj.cells (inC (op,ra,rb,rc)).toArray 66));have HI:=N21;have HB:=N3
 have HGS:=hid (show g < w.heap.size∧b < w.heap.size from ⟨a_N H.x (by simp),by
  obtain ⟨TC,h1,h2⟩:=H.tc;have h3:=b_f h2;have h4:repTh.k=13:=rfl;have h5:=H.hk;exact a_N h1 (by rw [h3,h4];omega)⟩)
 have HH:=hid (d_y HB.out H);have HC:=N58;obtain ⟨t,htt⟩:=mn (thW X k);rw [htt] at hpc hY;have ⟨HTT,HNN,HPC,HW⟩:=hh4 htt hN hpc hW;subst hE ho;have HY:=hid hY;clear hY htt;clear hW H hN hpc
 go_enter Tryz.func94,Tryz.ntmps94
 go_upto_region 1 with fail
 rw [←HW.out]
 go_wp2_with fail
 refine HC.out.mono ?_;rintro e1 V ⟨rfl,m,hm⟩;have HB1:=N15;clear HC hm;have HHV:=hid (d_y HB1.out HH.out);have HIV:=hid (a_h HB1.out HI.out);have HBV:=hid (a_a HB.out HB1.out);have HBN:=N46;clear HB HB1 HH HI HW;obtain ⟨y0,-⟩:=HIV.out 0 _ rfl;obtain ⟨fa2,fc2,la2,lc2,-,ht2⟩:=c_4 HHV.out;obtain ⟨p0,pf⟩:=ht2 10 _ rfl;have HHE:=hid (c_C HHV.out 10 (.int .i64 1) { (thW X k) with st:=1 } (by decide) (fun fa fc la lc T=>⟨fa,fc,la,lc,rfl,⟨T.fcap,T.fs,T.lcap,T.lf⟩⟩));have HBE:=hid (HBN.out.setCell (p:=⟨b,k*13+10,none⟩) HNN.out.2 (.int .i64 1));clear ht2;exact J113
theorem o_e (Q:Nat→Prop) (g b:Nat) (Sx:Nat→Prop) (L:WoL) (X Y:Wo) (k:Nat) (i:Ins) (E:Int) (w:World) (H:Wk Q w g b L X k) (hN:Sx g∧Sx b) (hpc:0≤(thW X k).pc∧(thW X k).pc≤1000) (ho:i.1=22) (hE:E=0) (hl:(thW X k).lf.length=0) (hY:b_k X k { (thW X k) with lf:=b_m X }=Y) (hb1:1≤X.bs.length) (hb8:X.bs.length≤8) :
  Calls Tryz.prog 94 #[.pointer (some ⟨g,0,none⟩),.agg #[.int .i64 i.1,.int .i64 i.2.1,.int .i64 i.2.2.1,.int .i64 i.2.2.2]] w (c_d g b Sx X Y k E w):=by
 obtain ⟨op,ra,rb,rc⟩:=i;simp only at *;obtain ⟨W,hW⟩:=nm (w.alloc (Obj.cells (inC (op,ra,rb,rc)).toArray 66));have HI:=N21;have HB:=N3
 have HGS:=hid (show g < w.heap.size∧b < w.heap.size from ⟨a_N H.x (by simp),by
  obtain ⟨TC,h1,h2⟩:=H.tc;have h3:=b_f h2;have h4:repTh.k=13:=rfl;have h5:=H.hk;exact a_N h1 (by rw [h3,h4];omega)⟩)
 have HH:=hid (d_y HB.out H);have HC:=N58;obtain ⟨t,htt⟩:=mn (thW X k);rw [htt] at hpc hl hY;have ⟨HTT,HNN,HPC,HW⟩:=hh4 htt hN hpc hW;subst hE ho;have ⟨HY,HLL⟩:=hh2 hY hl;have HB8:=hid (And.intro hb1 hb8);clear hY htt hl hb1 hb8;clear hW H hN hpc
 go_enter Tryz.func94,Tryz.ntmps94
 go_upto_region 1 with fail
 rw [←HW.out]
 go_wp2_with fail
 refine HC.out.mono ?_;rintro e1 V ⟨rfl,m,hm⟩;have HB1:=N15;clear HC hm;have HHV:=hid (d_y HB1.out HH.out);have HIV:=hid (a_h HB1.out HI.out);have HBV:=hid (a_a HB.out HB1.out);have HBN:=N46;clear HB HB1 HH HI HW;obtain ⟨y0,-⟩:=HIV.out 0 _ rfl;obtain ⟨fa2,fc2,la2,lc2,-,ht2⟩:=c_4 HHV.out;obtain ⟨p0,-⟩:=ht2 12 _ rfl;rw [HTT.out,HLL.out] at p0;have HC:=hid (l_w Q g b L X k V HHV.out HB8.out.1 (by have:=HB8.out;omega));clear ht2
 go_wp2_with fail
 refine HC.out.mono ?_;clear HC p0;rintro e2 V2 ⟨a,c,rfl,hcap,hv,hb2⟩;have HH2:=hid (d_y hb2 HHV.out);have HB2:=hid (HBN.out.andB hb2);have HV:=hid (show Vs repInt Q V2 a (b_m X).length (b_m X) from b_e (fun x hx=>HHV.out.new x hx) hv);obtain ⟨fa2,fc2,la2,lc2,-,ht2⟩:=c_4 HH2.out;obtain ⟨p0,pf⟩:=ht2 12 _ rfl;have HHE:=hid (c_C HH2.out 12 (.slice a (b_m X).length c) { (thW X k) with lf:=b_m X } (by decide) (fun fa fc la lc T=>⟨fa,fc,a,c,rfl,⟨T.fcap,T.fs,hcap,HV.out⟩⟩));have HBE:=hid (HB2.out.setCell (p:=⟨b,k*13+12,none⟩) HNN.out.2 (.slice a (b_m X).length c));clear ht2 hv hcap hb2;exact J113
theorem o_f (Q:Nat→Prop) (g b:Nat) (Sx:Nat→Prop) (L:WoL) (X Y:Wo) (k:Nat) (i:Ins) (E:Int) (w:World) (H:Wk Q w g b L X k) (hN:Sx g∧Sx b) (hpc:0≤(thW X k).pc∧(thW X k).pc≤1000) (ho:i.1=22) (hE:E=0) (hl:(thW X k).lf.length≠0) (hY:b_k X k { b_j (thW X k) with lf:=[] }=Y) :
  Calls Tryz.prog 94 #[.pointer (some ⟨g,0,none⟩),.agg #[.int .i64 i.1,.int .i64 i.2.1,.int .i64 i.2.2.1,.int .i64 i.2.2.2]] w (c_d g b Sx X Y k E w):=by
 obtain ⟨op,ra,rb,rc⟩:=i;simp only at *;obtain ⟨W,hW⟩:=nm (w.alloc (Obj.cells (inC (op,ra,rb,rc)).toArray 66));have HI:=N21;have HB:=N3
 have HGS:=hid (show g < w.heap.size∧b < w.heap.size from ⟨a_N H.x (by simp),by
  obtain ⟨TC,h1,h2⟩:=H.tc;have h3:=b_f h2;have h4:repTh.k=13:=rfl;have h5:=H.hk;exact a_N h1 (by rw [h3,h4];omega)⟩)
 have HH:=hid (d_y HB.out H);have HC:=N58;obtain ⟨t,htt⟩:=mn (thW X k);rw [htt] at hpc hl hY;have ⟨HTT,HNN,HPC,HW⟩:=hh4 htt hN hpc hW;subst hE ho;have HY:=hid hY;obtain ⟨lm,hlm⟩:=mn (t.lf.length);have HLM:=hid hlm;rw [hlm] at hl;have hlb:((lm:Int)==0)=false:=by simp;omega
 clear hY htt hl hlm;clear hW H hN hpc
 go_enter Tryz.func94,Tryz.ntmps94
 go_upto_region 1 with fail
 rw [←HW.out]
 go_wp2_with fail
 refine HC.out.mono ?_;rintro e1 V ⟨rfl,m,hm⟩;have HB1:=N15;clear HC hm;have HHV:=hid (d_y HB1.out HH.out);have HIV:=hid (a_h HB1.out HI.out);have HBV:=hid (a_a HB.out HB1.out);have HBN:=N46;clear HB HB1 HH HI HW;obtain ⟨y0,-⟩:=HIV.out 0 _ rfl;obtain ⟨fa2,fc2,la2,lc2,-,ht2⟩:=c_4 HHV.out;obtain ⟨p12,pf12⟩:=ht2 12 _ rfl;rw [HTT.out,HLM.out] at p12;have H1:=c_C HHV.out 12 (.slice none 0 0) { (thW X k) with lf:=[] } (by decide) (fun fa fc la lc T=>⟨fa,fc,none,0,rfl,⟨T.fcap,T.fs,b_W,d_h⟩⟩);obtain ⟨Z,hZ⟩:=nm (V.setCell ⟨b,k*13+12,none⟩ (.slice none 0 0));rw [←hZ] at H1;have HHZ:=hid H1;have HBZ:=hid (show Bel Sx w Z by rw [hZ];exact HBN.out.setCell (p:=⟨b,k*13+12,none⟩) HNN.out.2 _);have HZ:=hid hZ;have HTZ:=hid (show thW (b_k X k { (thW X k) with lf:=[] }) k={ (thW X k) with lf:=[] } from f_J HHV.out.hk);clear ht2 H1 hZ
 go_upto_region 25 with fail
 rw [←HZ.out];clear p12 pf12 hlb;obtain ⟨fa2,fc2,la2,lc2,-,ht2⟩:=c_4 HHZ.out;obtain ⟨p0,pf⟩:=ht2 0 _ rfl;have p0:Z.cell? ⟨b,k*13,none⟩=some (.int .i64 (thW (b_k X k { (thW X k) with lf:=[] }) k).pc):=p0;have pf:Z.frozen? ⟨b,k*13,none⟩=false:=pf;obtain ⟨pc,hpc2⟩:∃ p,(thW (b_k X k { (thW X k) with lf:=[] }) k).pc=p:=⟨_,rfl⟩;rw [hpc2] at p0;have hwk:wrap64 (pc+1)=pc+1:=IntWalk.wrap64_in _ (by rw [←hpc2,HTZ.out,HTT.out,show ({ t with lf:=[] }:Thr).pc=t.pc from rfl];have:=HPC.out;omega)
 have HHE:=hid (show Wk Q (Z.setCell ⟨b,k*13,none⟩ (.int .i64 (pc+1))) g b L (b_k (b_k X k { (thW X k) with lf:=[] }) k (b_j (thW (b_k X k { (thW X k) with lf:=[] }) k))) k from
  c_C HHZ.out 0 (.int .i64 (pc+1)) (b_j (thW (b_k X k { (thW X k) with lf:=[] }) k)) (by decide) (fun fa fc la lc T=>⟨fa,fc,la,lc,by rw [←hpc2];rfl,⟨T.fcap,T.fs,T.lcap,T.lf⟩⟩))
 have HBE:=hid (show Bel Sx w (Z.setCell ⟨b,k*13,none⟩ (.int .i64 (pc+1))) from HBZ.out.setCell (p:=⟨b,k*13,none⟩) HNN.out.2 _);clear ht2 hpc2
 go_wp2
 first | go_ret | go_end0
 refine ⟨.inl ⟨rfl,rfl,Q,L,?_⟩,HBE.out⟩;have HYE:=HHE;rw [←HY.out,←HTT.out];rw [HTZ.out,g_T] at HYE;exact HYE.out
theorem k_I (Q:Nat→Prop) (g b:Nat) (Sx:Nat→Prop) (L:WoL) (X Y:Wo) (k:Nat) (i:Ins) (E:Int) (w:World) (H:Wk Q w g b L X k) (hN:Sx g∧Sx b) (hpc:0≤(thW X k).pc∧(thW X k).pc≤1000) (ho:i.1=19) (hwf:∀ j,j < 8→(Lit.int .i64 ((thW X k).r j)).wf=true) (ha:0≤i.2.1∧i.2.1≤7) (hb:0≤i.2.2.1∧i.2.2.1≤7) (hc:0≤i.2.2.2∧i.2.2.2≤7) (Z:Wo) (hE:b_y X.ws X.ts X.D X.bs k 0 (rgt (thW X k) i.2.2.1)=E) (hZ:b_k { X with ws:=b_z X.ws X.ts 0 (rgt (thW X k) i.2.2.1) (rgt (thW X k) i.2.1) (rgt (thW X k) i.2.2.2) } k (g_K (thW X k) i.2.1.toNat (b_L X.ws X.ts (rgt (thW X k) i.2.2.1)))=Z) (hY:b_k Z k (b_j (thW Z k))=Y) :
  Calls Tryz.prog 94 #[.pointer (some ⟨g,0,none⟩),.agg #[.int .i64 i.1,.int .i64 i.2.1,.int .i64 i.2.2.1,.int .i64 i.2.2.2]] w (c_d g b Sx X Y k E w):=by
 obtain ⟨op,ra,rb,rc⟩:=i;simp only at *;obtain ⟨W,hW⟩:=nm (w.alloc (Obj.cells (inC (op,ra,rb,rc)).toArray 66));have HI:=N21;have HB:=N3
 have HGS:=hid (show g < w.heap.size∧b < w.heap.size from ⟨a_N H.x (by simp),by
  obtain ⟨TC,h1,h2⟩:=H.tc;have h3:=b_f h2;have h4:repTh.k=13:=rfl;have h5:=H.hk;exact a_N h1 (by rw [h3,h4];omega)⟩)
 have HH:=hid (d_y HB.out H);have HC:=N58;obtain ⟨t,htt⟩:=mn (thW X k);rw [htt] at hpc hwf hE hZ;have ⟨HTT,HNN,HPC,HW⟩:=hh4 htt hN hpc hW;subst ho;have ⟨HY,HE,HZ,HWF⟩:=hh4 hY hE hZ hwf;have HRR:=hid (And.intro ha (And.intro hb hc));have HZT:=hid (show thW Z k=g_K t ra.toNat (b_L X.ws X.ts (rgt t rb)) by rw [←hZ];exact f_J (show k < ({ X with ws:=b_z X.ws X.ts 0 (rgt t rb) (rgt t ra) (rgt t rc) }:Wo).th.length from H.hk));have HZP:=N152;clear hY hE hZ hwf ha hb hc htt;clear hW H hN hpc
 go_enter Tryz.func94,Tryz.ntmps94
 go_upto_region 1 with fail
 rw [←HW.out]
 go_wp2_with fail
 refine HC.out.mono ?_;rintro e1 V ⟨rfl,m,hm⟩;have HB1:=N15;clear HC hm;have HHV:=hid (d_y HB1.out HH.out);have HIV:=hid (a_h HB1.out HI.out);have HBV:=hid (a_a HB.out HB1.out);have HBN:=N46;clear HB HB1 HH HI HW;obtain ⟨y0,-⟩:=HIV.out 0 _ rfl;have HC:=hid (g_h Q g b Sx L X Z k (19,ra,rb,rc) 0 E V HHV.out (fun c hc=>HHV.out.new c hc) HNN.out HRR.out.1 HRR.out.2.1 HRR.out.2.2 (by rw [HTT.out];exact HWF.out) (by rw [HTT.out];exact HE.out) (by rw [HTT.out];exact HZ.out));exact J5
theorem k_J (Q:Nat→Prop) (g b:Nat) (Sx:Nat→Prop) (L:WoL) (X Y:Wo) (k:Nat) (i:Ins) (E:Int) (w:World) (H:Wk Q w g b L X k) (hN:Sx g∧Sx b) (hpc:0≤(thW X k).pc∧(thW X k).pc≤1000) (ho:i.1=20) (hwf:∀ j,j < 8→(Lit.int .i64 ((thW X k).r j)).wf=true) (ha:0≤i.2.1∧i.2.1≤7) (hb:0≤i.2.2.1∧i.2.2.1≤7) (hc:0≤i.2.2.2∧i.2.2.2≤7) (Z:Wo) (hE:b_y X.ws X.ts X.D X.bs k 1 (rgt (thW X k) i.2.2.1)=E) (hZ:b_k { X with ws:=b_z X.ws X.ts 1 (rgt (thW X k) i.2.2.1) (rgt (thW X k) i.2.1) (rgt (thW X k) i.2.2.2) } k (g_K (thW X k) i.2.1.toNat (b_L X.ws X.ts (rgt (thW X k) i.2.2.1)))=Z) (hY:b_k Z k (b_j (thW Z k))=Y) :
  Calls Tryz.prog 94 #[.pointer (some ⟨g,0,none⟩),.agg #[.int .i64 i.1,.int .i64 i.2.1,.int .i64 i.2.2.1,.int .i64 i.2.2.2]] w (c_d g b Sx X Y k E w):=by
 obtain ⟨op,ra,rb,rc⟩:=i;simp only at *;obtain ⟨W,hW⟩:=nm (w.alloc (Obj.cells (inC (op,ra,rb,rc)).toArray 66));have HI:=N21;have HB:=N3
 have HGS:=hid (show g < w.heap.size∧b < w.heap.size from ⟨a_N H.x (by simp),by
  obtain ⟨TC,h1,h2⟩:=H.tc;have h3:=b_f h2;have h4:repTh.k=13:=rfl;have h5:=H.hk;exact a_N h1 (by rw [h3,h4];omega)⟩)
 have HH:=hid (d_y HB.out H);have HC:=N58;obtain ⟨t,htt⟩:=mn (thW X k);rw [htt] at hpc hwf hE hZ;have ⟨HTT,HNN,HPC,HW⟩:=hh4 htt hN hpc hW;subst ho;have ⟨HY,HE,HZ,HWF⟩:=hh4 hY hE hZ hwf;have HRR:=hid (And.intro ha (And.intro hb hc));have HZT:=hid (show thW Z k=g_K t ra.toNat (b_L X.ws X.ts (rgt t rb)) by rw [←hZ];exact f_J (show k < ({ X with ws:=b_z X.ws X.ts 1 (rgt t rb) (rgt t ra) (rgt t rc) }:Wo).th.length from H.hk));have HZP:=N152;clear hY hE hZ hwf ha hb hc htt;clear hW H hN hpc
 go_enter Tryz.func94,Tryz.ntmps94
 go_upto_region 1 with fail
 rw [←HW.out]
 go_wp2_with fail
 refine HC.out.mono ?_;rintro e1 V ⟨rfl,m,hm⟩;have HB1:=N15;clear HC hm;have HHV:=hid (d_y HB1.out HH.out);have HIV:=hid (a_h HB1.out HI.out);have HBV:=hid (a_a HB.out HB1.out);have HBN:=N46;clear HB HB1 HH HI HW;obtain ⟨y0,-⟩:=HIV.out 0 _ rfl;have HC:=hid (g_h Q g b Sx L X Z k (20,ra,rb,rc) 1 E V HHV.out (fun c hc=>HHV.out.new c hc) HNN.out HRR.out.1 HRR.out.2.1 HRR.out.2.2 (by rw [HTT.out];exact HWF.out) (by rw [HTT.out];exact HE.out) (by rw [HTT.out];exact HZ.out));exact J5
theorem k_K (Q:Nat→Prop) (g b:Nat) (Sx:Nat→Prop) (L:WoL) (X Y:Wo) (k:Nat) (i:Ins) (E:Int) (w:World) (H:Wk Q w g b L X k) (hN:Sx g∧Sx b) (hpc:0≤(thW X k).pc∧(thW X k).pc≤1000) (ho:i.1=21) (hwf:∀ j,j < 8→(Lit.int .i64 ((thW X k).r j)).wf=true) (ha:0≤i.2.1∧i.2.1≤7) (hb:0≤i.2.2.1∧i.2.2.1≤7) (hc:0≤i.2.2.2∧i.2.2.2≤7) (Z:Wo) (hE:b_y X.ws X.ts X.D X.bs k 2 (rgt (thW X k) i.2.2.1)=E) (hZ:b_k { X with ws:=b_z X.ws X.ts 2 (rgt (thW X k) i.2.2.1) (rgt (thW X k) i.2.1) (rgt (thW X k) i.2.2.2) } k (g_K (thW X k) i.2.1.toNat (b_L X.ws X.ts (rgt (thW X k) i.2.2.1)))=Z) (hY:b_k Z k (b_j (thW Z k))=Y) :
  Calls Tryz.prog 94 #[.pointer (some ⟨g,0,none⟩),.agg #[.int .i64 i.1,.int .i64 i.2.1,.int .i64 i.2.2.1,.int .i64 i.2.2.2]] w (c_d g b Sx X Y k E w):=by
 obtain ⟨op,ra,rb,rc⟩:=i;simp only at *;obtain ⟨W,hW⟩:=nm (w.alloc (Obj.cells (inC (op,ra,rb,rc)).toArray 66));have HI:=N21;have HB:=N3
 have HGS:=hid (show g < w.heap.size∧b < w.heap.size from ⟨a_N H.x (by simp),by
  obtain ⟨TC,h1,h2⟩:=H.tc;have h3:=b_f h2;have h4:repTh.k=13:=rfl;have h5:=H.hk;exact a_N h1 (by rw [h3,h4];omega)⟩)
 have HH:=hid (d_y HB.out H);have HC:=N58;obtain ⟨t,htt⟩:=mn (thW X k);rw [htt] at hpc hwf hE hZ;have ⟨HTT,HNN,HPC,HW⟩:=hh4 htt hN hpc hW;subst ho;have ⟨HY,HE,HZ,HWF⟩:=hh4 hY hE hZ hwf;have HRR:=hid (And.intro ha (And.intro hb hc));have HZT:=hid (show thW Z k=g_K t ra.toNat (b_L X.ws X.ts (rgt t rb)) by rw [←hZ];exact f_J (show k < ({ X with ws:=b_z X.ws X.ts 2 (rgt t rb) (rgt t ra) (rgt t rc) }:Wo).th.length from H.hk));have HZP:=N152;clear hY hE hZ hwf ha hb hc htt;clear hW H hN hpc
 go_enter Tryz.func94,Tryz.ntmps94
 go_upto_region 1 with fail
 rw [←HW.out]
 go_wp2_with fail
 refine HC.out.mono ?_;rintro e1 V ⟨rfl,m,hm⟩;have HB1:=N15;clear HC hm;have HHV:=hid (d_y HB1.out HH.out);have HIV:=hid (a_h HB1.out HI.out);have HBV:=hid (a_a HB.out HB1.out);have HBN:=N46;clear HB HB1 HH HI HW;obtain ⟨y0,-⟩:=HIV.out 0 _ rfl;have HC:=hid (g_h Q g b Sx L X Z k (21,ra,rb,rc) 2 E V HHV.out (fun c hc=>HHV.out.new c hc) HNN.out HRR.out.1 HRR.out.2.1 HRR.out.2.2 (by rw [HTT.out];exact HWF.out) (by rw [HTT.out];exact HE.out) (by rw [HTT.out];exact HZ.out));exact J5
theorem k_L (Q:Nat→Prop) (g b:Nat) (Sx:Nat→Prop) (L:WoL) (X Y:Wo) (k:Nat) (i:Ins) (E:Int) (w:World) (H:Wk Q w g b L X k) (hN:Sx g∧Sx b) (hpc:0≤(thW X k).pc∧(thW X k).pc≤1000) (ho:i.1=24) (hwf:∀ j,j < 8→(Lit.int .i64 ((thW X k).r j)).wf=true) (ha:0≤i.2.1∧i.2.1≤7) (hb:0≤i.2.2.1∧i.2.2.1≤7) (Z:Wo) (hE:c_F X.ws X.ts (rgt (thW X k) i.2.1) (rgt (thW X k) i.2.2.1) 1=E) (hZ:{ X with ws:=c_5 X.ws X.ts (rgt (thW X k) i.2.1) (rgt (thW X k) i.2.2.1) 1,ts:=c_O X.ws X.ts (rgt (thW X k) i.2.1) (rgt (thW X k) i.2.2.1) 1 }=Z) (hY:b_k Z k (b_j (thW Z k))=Y) :
  Calls Tryz.prog 94 #[.pointer (some ⟨g,0,none⟩),.agg #[.int .i64 i.1,.int .i64 i.2.1,.int .i64 i.2.2.1,.int .i64 i.2.2.2]] w (c_d g b Sx X Y k E w):=by
 obtain ⟨op,ra,rb,rc⟩:=i;simp only at *;obtain ⟨W,hW⟩:=nm (w.alloc (Obj.cells (inC (op,ra,rb,rc)).toArray 66));have HI:=N21;have HB:=N3
 have HGS:=hid (show g < w.heap.size∧b < w.heap.size from ⟨a_N H.x (by simp),by
  obtain ⟨TC,h1,h2⟩:=H.tc;have h3:=b_f h2;have h4:repTh.k=13:=rfl;have h5:=H.hk;exact a_N h1 (by rw [h3,h4];omega)⟩)
 have HH:=hid (d_y HB.out H);have HC:=N58;obtain ⟨t,htt⟩:=mn (thW X k);rw [htt] at hpc hwf hE hZ;have ⟨HTT,HNN,HPC,HW⟩:=hh4 htt hN hpc hW;subst ho;have ⟨HY,HE,HZ,HWF⟩:=hh4 hY hE hZ hwf;have HRR:=hid (And.intro ha hb);have HZT:=hid (show thW Z k=t by rw [←hZ];exact htt);have HZP:=hid (show t.pc=t.pc from rfl);clear hY hE hZ hwf ha hb htt;clear hW H hN hpc
 go_enter Tryz.func94,Tryz.ntmps94
 go_upto_region 1 with fail
 rw [←HW.out]
 go_wp2_with fail
 refine HC.out.mono ?_;rintro e1 V ⟨rfl,m,hm⟩;have HB1:=N15;clear HC hm;have HHV:=hid (d_y HB1.out HH.out);have HIV:=hid (a_h HB1.out HI.out);have HBV:=hid (a_a HB.out HB1.out);have HBN:=N46;clear HB HB1 HH HI HW;obtain ⟨y0,-⟩:=HIV.out 0 _ rfl
 have HC:=hid ((show Calls Tryz.prog 124 #[.pointer (some ⟨g,0,none⟩),.agg #[.int .i64 24,.int .i64 ra,.int .i64 rb,.int .i64 rc],.int .i64 1] V (c_d g b Sx X Z k E V) from by
  have h:=p_H Q g b Sx L X k (24,ra,rb,rc) 1 V HHV.out (fun c hc=>HHV.out.new c hc) HNN.out.1 HRR.out.1 HRR.out.2 (by rw [HTT.out];exact HWF.out);rw [HTT.out] at h;have h1:=HE.out;have h2:=HZ.out;subst h1 h2;exact h))
 obtain ⟨y1,-⟩:=HIV.out 1 _ rfl;obtain ⟨y2,-⟩:=HIV.out 2 _ rfl;obtain ⟨y3,-⟩:=HIV.out 3 _ rfl
 go_wp2_with fail
 refine HC.out.mono ?_;clear HC y0 y1 y2 y3;rintro e2 V2 ⟨(⟨hz,rfl,Q2,L2,hh⟩ | ⟨hz,rfl,Q2,L2,hh⟩),hb2⟩
 ·have HZE:=hid hz;have HH2:=hid hh;have HB2:=hid (HBN.out.trans hb2);clear hz hh hb2;obtain ⟨fa2,fc2,la2,lc2,-,ht2⟩:=c_4 HH2.out;obtain ⟨p0,pf⟩:=ht2 0 _ rfl;have p0:V2.cell? ⟨b,k*13,none⟩=some (.int .i64 (thW Z k).pc):=p0;have pf:V2.frozen? ⟨b,k*13,none⟩=false:=pf;obtain ⟨pc,hpc2⟩:=mn ((thW Z k).pc);rw [hpc2] at p0;have hwk:=N184;exact J11
 ·go_wp2
  exact And.intro rfl ⟨.inr ⟨hz,rfl,Q2,L2,hh⟩,HBN.out.trans hb2⟩
theorem k_M (Q:Nat→Prop) (g b:Nat) (Sx:Nat→Prop) (L:WoL) (X Y:Wo) (k:Nat) (i:Ins) (E:Int) (w:World) (H:Wk Q w g b L X k) (hN:Sx g∧Sx b) (hpc:0≤(thW X k).pc∧(thW X k).pc≤1000) (ho:i.1=25) (hwf:∀ j,j < 8→(Lit.int .i64 ((thW X k).r j)).wf=true) (ha:0≤i.2.1∧i.2.1≤7) (hb:0≤i.2.2.1∧i.2.2.1≤7) (Z:Wo) (hE:c_F X.ws X.ts (rgt (thW X k) i.2.1) (rgt (thW X k) i.2.2.1) 2=E) (hZ:{ X with ws:=c_5 X.ws X.ts (rgt (thW X k) i.2.1) (rgt (thW X k) i.2.2.1) 2,ts:=c_O X.ws X.ts (rgt (thW X k) i.2.1) (rgt (thW X k) i.2.2.1) 2 }=Z) (hY:b_k Z k (b_j (thW Z k))=Y) :
  Calls Tryz.prog 94 #[.pointer (some ⟨g,0,none⟩),.agg #[.int .i64 i.1,.int .i64 i.2.1,.int .i64 i.2.2.1,.int .i64 i.2.2.2]] w (c_d g b Sx X Y k E w):=by
 obtain ⟨op,ra,rb,rc⟩:=i;simp only at *;obtain ⟨W,hW⟩:=nm (w.alloc (Obj.cells (inC (op,ra,rb,rc)).toArray 66));have HI:=N21;have HB:=N3
 have HGS:=hid (show g < w.heap.size∧b < w.heap.size from ⟨a_N H.x (by simp),by
  obtain ⟨TC,h1,h2⟩:=H.tc;have h3:=b_f h2;have h4:repTh.k=13:=rfl;have h5:=H.hk;exact a_N h1 (by rw [h3,h4];omega)⟩)
 have HH:=hid (d_y HB.out H);have HC:=N58;obtain ⟨t,htt⟩:=mn (thW X k);rw [htt] at hpc hwf hE hZ;have ⟨HTT,HNN,HPC,HW⟩:=hh4 htt hN hpc hW;subst ho;have ⟨HY,HE,HZ,HWF⟩:=hh4 hY hE hZ hwf;have HRR:=hid (And.intro ha hb);have HZT:=hid (show thW Z k=t by rw [←hZ];exact htt);have HZP:=hid (show t.pc=t.pc from rfl);clear hY hE hZ hwf ha hb htt;clear hW H hN hpc
 go_enter Tryz.func94,Tryz.ntmps94
 go_upto_region 1 with fail
 rw [←HW.out]
 go_wp2_with fail
 refine HC.out.mono ?_;rintro e1 V ⟨rfl,m,hm⟩;have HB1:=N15;clear HC hm;have HHV:=hid (d_y HB1.out HH.out);have HIV:=hid (a_h HB1.out HI.out);have HBV:=hid (a_a HB.out HB1.out);have HBN:=N46;clear HB HB1 HH HI HW;obtain ⟨y0,-⟩:=HIV.out 0 _ rfl
 have HC:=hid ((show Calls Tryz.prog 124 #[.pointer (some ⟨g,0,none⟩),.agg #[.int .i64 25,.int .i64 ra,.int .i64 rb,.int .i64 rc],.int .i64 2] V (c_d g b Sx X Z k E V) from by
  have h:=p_H Q g b Sx L X k (25,ra,rb,rc) 2 V HHV.out (fun c hc=>HHV.out.new c hc) HNN.out.1 HRR.out.1 HRR.out.2 (by rw [HTT.out];exact HWF.out);rw [HTT.out] at h;have h1:=HE.out;have h2:=HZ.out;subst h1 h2;exact h))
 obtain ⟨y1,-⟩:=HIV.out 1 _ rfl;obtain ⟨y2,-⟩:=HIV.out 2 _ rfl;obtain ⟨y3,-⟩:=HIV.out 3 _ rfl
 go_wp2_with fail
 refine HC.out.mono ?_;clear HC y0 y1 y2 y3;rintro e2 V2 ⟨(⟨hz,rfl,Q2,L2,hh⟩ | ⟨hz,rfl,Q2,L2,hh⟩),hb2⟩
 ·have HZE:=hid hz;have HH2:=hid hh;have HB2:=hid (HBN.out.trans hb2);clear hz hh hb2;obtain ⟨fa2,fc2,la2,lc2,-,ht2⟩:=c_4 HH2.out;obtain ⟨p0,pf⟩:=ht2 0 _ rfl;have p0:V2.cell? ⟨b,k*13,none⟩=some (.int .i64 (thW Z k).pc):=p0;have pf:V2.frozen? ⟨b,k*13,none⟩=false:=pf;obtain ⟨pc,hpc2⟩:=mn ((thW Z k).pc);rw [hpc2] at p0;have hwk:=N184;exact J11
 ·go_wp2
  exact And.intro rfl ⟨.inr ⟨hz,rfl,Q2,L2,hh⟩,HBN.out.trans hb2⟩
end Go.Proofs.YtogdpojnbgeknaaGreatDoor
