import Derived.Test.YtogdpojnbgeknaaGreatDoorT21
import Derived.Test.YtogdpojnbgeknaaGreatDoorT26
import Derived.Test.YtogdpojnbgeknaaGreatDoorT24
import Derived.Test.YtogdpojnbgeknaaGreatDoorT29
import Derived.Test.YtogdpojnbgeknaaGreatDoorT31
import Derived.Test.YtogdpojnbgeknaaGreatDoorT0
set_option maxRecDepth 100000
set_option maxHeartbeats 16000000
namespace Go.Proofs.YtogdpojnbgeknaaGreatDoor
open Go.ChangeShapes Go.WideShapes Go.ChangeAt Go.RowKit
open Gen
open Lib (hid)
def c_c (g b:Nat) (Sx:Nat→Prop) (X Y:Wo) (k:Nat) (E:Int) (w:World) (e:Ending) (w':World):Prop:=
 ((E=0∧e=.returned (.tuple #[])∧∃ Q' L',Wk Q' w' g b L' Y k)∨(E≠0∧e=.panicked (l_E E)∧∃ Q' L',Wk Q' w' g b L' X k))∧Bel Sx w w'
section
variable {Q:Nat→Prop} {w:World} {g b:Nat} {L:WoL} {X:Wo} {k:Nat}
theorem c_z (H:Wk Q w g b L X k) (f:Nat) (v:Value) (t:Thr) (hf:f < 13)
  (hR:∀ fa fc la lc,ThQ Q w fa (thW X k).fs.length fc la (thW X k).lf.length lc (thW X k)→repTh.R Q w ((thC (thW X k) fa (thW X k).fs.length fc la (thW X k).lf.length lc).set f v) t) :
  Wk Q (w.setCell ⟨b,k*13+f,none⟩ v) g b L (b_j X k t) k:=by
 refine p_G H f [v] t (by simp;omega) (fun fa fc la lc T=>?_);have h:=hR fa fc la lc T;have hl:f < (thC (thW X k) fa (thW X k).fs.length fc la (thW X k).lf.length lc).length:=hf;rw [List.set_eq_take_append_cons_drop,if_pos hl] at h
 simpa using h
theorem p_F (H:Wk Q w g b L X k) (p q:Sp) {ws ts:List Int} (h1:SlP Q w p.a p.n ws) (h2:SlP Q w q.a q.n ts):Wk Q (d_o w g 1 [.slice p.a p.n p.c,.slice q.a q.n q.c]) g b (L.setMem p q) { X with ws:=ws,ts:=ts } k:=by
 have hK:Kept Q w (d_o w g 1 [.slice p.a p.n p.c,.slice q.a q.n q.c]):=a_t (fun c hc=>(H.hQ c hc).1);obtain ⟨TC,t1,t2⟩:=H.tc;exact ⟨b_b 1 H.x (by simp),H.hb,⟨TC,a_j H.hgb t1,b_m hK t2⟩,a_z hK H.co,a_r hK h1,a_r hK h2,a_G hK H.bs,l_D H.ev (fun e=>(H.evo _ e).1 rfl) (fun c hc=>(H.hQ c hc).1),H.evo,H.cco,H.cth,H.cev,H.hk,H.hn,H.hQ,H.hgb,fun c hc=>H.new c (by rwa [a_R] at hc),H.lo⟩
theorem j_Y (H:Wk Q w g b L X k) (p q r:Sp) {ws ts:List Int} {bs:List (List (Int×Int))} (h1:SlP Q w p.a p.n ws) (h2:SlP Q w q.a q.n ts) (h3:BlP Q w r.a r.n bs):Wk Q (d_o w g 1 [.slice p.a p.n p.c,.slice q.a q.n q.c,.int .i64 X.D,.slice r.a r.n r.c]) g b (L.setTso p q r) { X with ws:=ws,ts:=ts,bs:=bs } k:=by
 have hK:Kept Q w (d_o w g 1 [.slice p.a p.n p.c,.slice q.a q.n q.c,.int .i64 X.D,.slice r.a r.n r.c]):=a_t (fun c hc=>(H.hQ c hc).1);obtain ⟨TC,t1,t2⟩:=H.tc;exact ⟨b_b 1 H.x (by simp),H.hb,⟨TC,a_j H.hgb t1,b_m hK t2⟩,a_z hK H.co,a_r hK h1,a_r hK h2,a_G hK h3,l_D H.ev (fun e=>(H.evo _ e).1 rfl) (fun c hc=>(H.hQ c hc).1),H.evo,H.cco,H.cth,H.cev,H.hk,H.hn,H.hQ,H.hgb,fun c hc=>H.new c (by rwa [a_R] at hc),H.lo⟩
theorem l_h (H:Wk Q w g b L X k):w.rangeAt b (k*13+1) [.int .i64 ((thW X k).r 0),.int .i64 ((thW X k).r 1),.int .i64 ((thW X k).r 2),.int .i64 ((thW X k).r 3),.int .i64 ((thW X k).r 4),.int .i64 ((thW X k).r 5),.int .i64 ((thW X k).r 6),.int .i64 ((thW X k).r 7)]:=fun j v hj=>by
 obtain ⟨fa,fc,la,lc,-,ht⟩:=c_1 H;have h1:=N145;rw [Nat.add_assoc];refine (ht (1+j) v ?_).1;rw [←hj];exact J44
theorem i_e (H:Wk Q w g b L X k) (j:Nat) (hj:j < 8):w.cell? ⟨b,k*13+1+j,none⟩=some (.int .i64 ((thW X k).r j)):=l_h H j _ (b_L _ j hj _)
theorem p_i {X:Wo} {k:Nat} (hk:k < X.th.length):b_j X k (thW X k)=X:=by
 have h:X.th.set k (thW X k)=X.th:=by
  apply List.ext_getElem?
  intro i;rw [List.getElem?_set]
  by_cases e:k=i
  ·subst e;rw [if_pos rfl,if_pos hk,j_M hk]
  ·rw [if_neg e]
 rw [b_j,h]
theorem f_A {X:Wo} {k:Nat} {t:Thr} (hk:k < X.th.length):thW (b_j X k t) k=t:=by
 rw [thW,b_j,List.getD_eq_getElem?_getD,List.getElem?_set_self hk];rfl
theorem g_K {X:Wo} {k:Nat} {t u:Thr}:b_j (b_j X k t) k u=b_j X k u:=by
 simp [b_j]
end
theorem m_y (Q:Nat→Prop) (g b:Nat) (Sx:Nat→Prop) (L:WoL) (X:Wo) (k:Nat) (e:Int) (w:World) (H:Wk Q w g b L X k) (hN:Sx b) :
  Calls Tryz.prog 91 #[.pointer (some ⟨g,0,none⟩),.int .i64 e] w (fun en w'=>en=.returned (.tuple #[])∧Wk Q w' g b L (b_j X k (if (thW X k).st=2 then thW X k else b_t (thW X k) e)) k∧Bel Sx w w'):=by
 have HC:=hid (b_1 Q g b L X k w H);obtain ⟨fa,fc,la,lc,-,ht⟩:=c_1 H;obtain ⟨t10,f10⟩:=ht 10 _ rfl;obtain ⟨t11,f11⟩:=ht 11 _ rfl;have HH:=hid H;clear ht H;obtain ⟨st,hst⟩:=mn ((thW X k).st);rw [hst] at t10 ⊢;have HST:=hid hst;clear hst
 by_cases h2:st=2
 ·subst h2
  go_enter Tryz.func91,Tryz.ntmps91
  go_wp2_with fail
  refine HC.out.mono ?_;rintro e1 w1 ⟨rfl,m,rfl⟩;clear HC;have t10:(w.drewN m).cell? ⟨b,k*13+10,none⟩=some (.int .i64 2):=t10
  go_wp2
  first | go_ret | go_end0
  refine ⟨rfl,?_,d_m (below_drewN (Below.refl _ _) m)⟩;rw [p_i HH.out.hk];exact d_u (below_drewN (Below.refl _ _) m) HH.out
 ·have hb:(st != 2)=true:=by simpa using h2
  have HNE:=hid h2;clear h2
  go_enter Tryz.func91,Tryz.ntmps91
  go_wp2_with fail
  refine HC.out.mono ?_;rintro e1 w1 ⟨rfl,m,rfl⟩;clear HC;obtain ⟨W,hW⟩:=nm (w.drewN m);have HB:=hid (show Below w.heap.size w W by rw [hW];exact below_drewN (Below.refl _ _) m);have HBN:=hid (show Bel Sx w W from d_m HB.out);have t10:W.cell? ⟨b,k*13+10,none⟩=some (.int .i64 st):=by rw [hW];exact t10
  have f10:W.frozen? ⟨b,k*13+10,none⟩=false:=by rw [hW];exact f10
  have t11:W.cell? ⟨b,k*13+11,none⟩=some (.int .i64 (thW X k).ft):=by rw [hW];exact t11
  have f11:W.frozen? ⟨b,k*13+11,none⟩=false:=by rw [hW];exact f11
  rw [←hW];clear hW;have H1:=c_z (d_u HB.out HH.out) 10 (.int .i64 2) { thW X k with st:=2 } (by decide) (fun fa fc la lc T=>⟨fa,fc,la,lc,rfl,⟨T.fcap,T.fs,T.lcap,T.lf⟩⟩)
  have H2:=c_z H1 11 (.int .i64 e) (b_t (thW X k) e) (by decide) (fun fa fc la lc T=>by
   rw [f_A HH.out.hk] at T ⊢;exact ⟨fa,fc,la,lc,rfl,⟨T.fcap,T.fs,T.lcap,T.lf⟩⟩)
  rw [g_K] at H2;have ⟨HH2,HNN⟩:=hh2 H2 hN;clear H1 H2 hN
  go_wp2
  first | go_ret | go_end0
  refine ⟨rfl,?_,(HBN.out.setCell (p:=⟨b,k*13+10,none⟩) HNN.out _).setCell (p:=⟨b,k*13+11,none⟩) HNN.out _⟩;exact HH2.out
def t_w (h g:Nat) (L:WoL) (ra rb:Nat) (va vb tag me:Int) (zs us:List Int) (Q:Nat→Prop):b_p:=[isV 0 (.pointer (some ⟨g,0,none⟩)),isV 1 (.pointer (some ⟨g,0,none⟩)),isV 2 (.pointer (some ⟨g,0,none⟩)),isV 3 (.pointer (some ⟨g,0,none⟩)),isV 4 (.pointer (some ⟨g,1,none⟩)),isV 5 (.pointer (some ⟨g,1,none⟩)),isV 6 (.agg #[.slice L.ws.a L.ws.n L.ws.c,.slice L.ts.a L.ts.n L.ts.c]),isV 7 (.pointer (some ⟨h,1,none⟩)),isV 8 (.int .i64 ra),isV 9 (.pointer (some ⟨h+1,ra,none⟩)),isV 10 (.int .i64 va),isV 11 (.pointer (some ⟨h,2,none⟩)),isV 12 (.int .i64 rb),isV 13 (.pointer (some ⟨h+1,rb,none⟩)),isV 14 (.int .i64 vb),isV 15 (.int .i64 tag),([16],fun vz w=>∃ p q:Sp,vz=[.tuple #[.agg #[.slice p.a p.n p.c,.slice q.a q.n q.c],.int .i64 me]]∧SlP Q w p.a p.n zs∧SlP Q w q.a q.n us),([17],fun vz w=>∃ p q:Sp,vz=[.agg #[.slice p.a p.n p.c,.slice q.a q.n q.c]]∧SlP Q w p.a p.n zs∧SlP Q w q.a q.n us),isV 18 (.int .i64 me),([19],fun vz w=>me=0∧∃ p q:Sp,vz=[.agg #[.slice p.a p.n p.c,.slice q.a q.n q.c]]∧SlP Q w p.a p.n zs∧SlP Q w q.a q.n us),isW 20 [] (.pointer (some ⟨g,0,none⟩)),isW 21 [20] (.pointer (some ⟨g,0,none⟩)),isW 22 [21,20] (.pointer (some ⟨g,1,none⟩)),isW 23 [22,21,20] (.pointer (some ⟨g,1,none⟩))]
theorem o_l (h g:Nat) (L:WoL) (ra rb:Nat) (va vb tag me:Int) (zs us:List Int) (Q:Nat→Prop):c_j (t_w h g  L  ra rb  va vb tag me  zs us  Q ):=a_d<|a_d<|a_d<|a_d<|a_d<|a_d<|a_d<|a_d<|a_d<|a_d<|a_d<|a_d<|a_d<|a_d<|a_d<|a_d<|a_v (fun _ _ _ hb h=>by obtain ⟨p,q,h1,h2,h3⟩:=h;exact ⟨p,q,h1,a_r (a_C hb) h2,a_r (a_C hb) h3⟩)<|a_v (fun _ _ _ hb h=>by obtain ⟨p,q,h1,h2,h3⟩:=h;exact ⟨p,q,h1,a_r (a_C hb) h2,a_r (a_C hb) h3⟩)<|a_d<|a_v (fun _ _ _ hb h=>by obtain ⟨h0,p,q,h1,h2,h3⟩:=h;exact ⟨h0,p,q,h1,a_r (a_C hb) h2,a_r (a_C hb) h3⟩)<|a_3<|a_3<|a_3<|a_3<|b_u
theorem p_s (Q:Nat→Prop) (g b:Nat) (Sx:Nat→Prop) (L:WoL) (X:Wo) (k:Nat) (i:Ins) (tag:Int) (w:World) (H:Wk Q w g b L X k) (hQ:∀ c,w.heap.size≤c→Q c) (hN:Sx g) (ha:0≤i.2.1∧i.2.1≤7) (hb:0≤i.2.2.1∧i.2.2.1≤7) (hwf:∀ j,j < 8→(Lit.int .i64 ((thW X k).r j)).wf=true) :
  Calls Tryz.prog 124 #[.pointer (some ⟨g,0,none⟩),.agg #[.int .i64 i.1,.int .i64 i.2.1,.int .i64 i.2.2.1,.int .i64 i.2.2.2],.int .i64 tag] w
   (c_c g b Sx X { X with ws:=c_2 X.ws X.ts (rgt (thW X k) i.2.1) (rgt (thW X k) i.2.2.1) tag,ts:=c_L X.ws X.ts (rgt (thW X k) i.2.1) (rgt (thW X k) i.2.2.1) tag } k (c_C X.ws X.ts (rgt (thW X k) i.2.1) (rgt (thW X k) i.2.2.1) tag) w):=by
 obtain ⟨o,ra,rb,c⟩:=i;simp only at ha hb ⊢;obtain ⟨ra,rfl⟩:∃ j:Nat,ra=j:=⟨ra.toNat,by omega⟩;obtain ⟨rb,rfl⟩:∃ j:Nat,rb=j:=⟨rb.toNat,by omega⟩;simp only [rgt,Int.toNat_natCast];obtain ⟨W,hW⟩:=nm (w.alloc (Obj.cells (inC (o,(ra:Int),(rb:Int),c)).toArray 66));have HI:=hid (show a_p W w.heap.size (inC (o,(ra:Int),(rb:Int),c)) by rw [hW];exact a_e _ _ rfl);have HB:=N3;have HSZ:=N147;have HH:=hid (d_u HB.out H);have HC:=N57;have HT:=hid (l_h HH.out);obtain ⟨t,htt⟩:=mn (thW X k);rw [htt] at HT hwf ⊢;obtain ⟨va,hva⟩:=mn (t.r ra);obtain ⟨vb,hvb⟩:=mn (t.r rb);rw [hva,hvb];have ⟨HQ,HNN,HW⟩:=hh3 hQ hN hW;have HWF:=hid (hwf ra (by omega));rw [hva] at HWF;have ⟨HVA,HVB⟩:=hh2 hva hvb;clear hW H hva hvb htt hQ hN hwf
 go_enter Tryz.func124,Tryz.ntmps124
 go_upto_region 1 with fail
 rw [←HW.out]
 go_wp2_with fail
 refine HC.out.mono ?_;rintro e1 w1 ⟨rfl,m,hm⟩;have HB1:=N209;have HZ1:=hid (show w1.heap.size=w.heap.size+1 by rw [hm,←HSZ.out];rfl);have HT1:=hid (fun j v hj=>a_u HB1.out (HT.out j v hj));clear HC hm HT
 go_upto_region 2 with (first | (refine wpList_load_mid rfl 43 _ rfl b (k*13+1) rfl (rgC t.r) _ HT1.out Tryz.underlying43 rfl (by kernel_rfl) ?_) | (refine a_c rfl 43 _ _ rfl w1.heap.size (rgC t.r).toArray rfl rfl _ (a_e rgZ w1.heap.size rfl) rfl (by kernel_rfl) (by simp [Value.oneCell']) ?_;intro V HV))
 have HR2:=N202;have HB2:=N115;have HI2:=hid (a_i HB2.out HI.out);have HH2:=hid (d_u HB2.out HH.out);rw [HZ1.out] at HR2 ⊢;have HBV:=hid (show Below w.heap.size w V from a_b HB.out HB2.out);have HB2N:=N46;have HQ:=hid (show ∀ c,V.heap.size≤c→Q c from fun c hc=>HQ.out c (by have:=HBV.out.size;omega));have HL:=hid (fun (u:World) (hu:Below V.heap.size V u)=>p_S L.ws.a L.ts.a L.ws.n L.ws.c L.ts.n L.ts.c X.ws X.ts va vb tag u (f_k hu HH2.out.ws) (f_k hu HH2.out.ts) HWF.out);obtain ⟨zs,hzs⟩:=mn (c_2 X.ws X.ts va vb tag);obtain ⟨us,hus⟩:=mn (c_L X.ws X.ts va vb tag);obtain ⟨me,hme⟩:=mn (c_C X.ws X.ts va vb tag);rw [hzs,hus,hme] at HL ⊢;obtain ⟨q2,-⟩:=HI2.out 2 _ rfl;obtain ⟨q1,-⟩:=HI2.out 1 _ rfl;have i1:(0:Int)≤rb:=by omega
 have i2:(rb:Int) < 8:=by omega
 have i3:(0:Int)≤ra:=by omega
 have i4:(ra:Int) < 8:=by omega
 obtain ⟨r1,-⟩:=HR2.out rb _ (b_L t.r rb (by omega) _);obtain ⟨r2,-⟩:=HR2.out ra _ (b_L t.r ra (by omega) _);rw [HVA.out] at r2;rw [HVB.out] at r1;clear hzs hus hme HV HR2 ha hb;have hG:=o_l w.heap.size g L ra rb va vb tag me zs us Q;refine c_G 24 [some 12,some 13,some 14,some 15,some 16,some 17,some 18,some 19,some 20,some 21,some 22,some 23,some 24,some 25,some 26,some 27,some 28,some 29,some 30,some 31,some 32,some 33,some 34,some 35] (fun w'=>Below V.heap.size V w') (t_w w.heap.size g L ra rb va vb tag me zs us Q) 100 100 (fun _ _ _=>True) (by kernel_rfl) (by kernel_rfl) (by decide) rfl rfl ((Below.refl _ _).drew) ?_
 show StepsL _ _ _ _ _ _ _
 refine InvZ.c (fun _ _ w1 _ C _ hK=>oR C hK (h:=by simp [execOp,go_sem,C.o 0 (.pointer (some ⟨g,0,none⟩))])) ?_;refine InvZ.c (fun _ _ w1 _ C _ hK=>oR C hK (h:=by simp [execOp,go_sem,C.o 0 (.pointer (some ⟨g,0,none⟩))])) ?_;refine InvZ.c (fun _ _ w1 _ C _ hK=>oR C hK (h:=by simp [execOp,go_sem,C.i 1])) ?_;refine InvZ.c (fun _ _ w1 _ C _ hK=>oR C hK (h:=by simp [execOp,go_sem,C.i 2])) ?_;refine InvZ.c (fun _ _ w1 _ C _ hK=>oR C hK (h:=by simp [execOp,go_sem,C.i 3])) ?_;refine InvZ.c (fun _ _ w1 _ C _ hK=>oR C hK (h:=by simp [execOp,go_sem,C.i 4])) ?_;refine InvZ.c (fun a1 vals w1 hdf C K hK=>?_) ?_
 ·have e0:=C.i 5;exact J74
 refine InvZ.c (fun _ _ w1 _ C _ hK=>oR C hK (h:=by simp [execOp,go_sem,C.o 4 (.pointer (some ⟨w.heap.size,0,none⟩))])) ?_;refine InvZ.c (fun _ _ w1 _ C _ hK=>oR C hK (h:=by simp [execOp,go_sem,C.i 7,a_u C.base q1])) ?_;refine InvZ.c (fun _ _ w1 _ C _ hK=>oR C hK (h:=by simp [execOp,go_sem,C.o 6 (.pointer (some ⟨w.heap.size+1,0,none⟩)),C.i 8,i3,i4])) ?_;refine InvZ.c (fun _ _ w1 _ C _ hK=>oR C hK (h:=by simp [execOp,go_sem,C.i 9,a_u C.base r2])) ?_;refine InvZ.c (fun _ _ w1 _ C _ hK=>oR C hK (h:=by simp [execOp,go_sem,C.o 4 (.pointer (some ⟨w.heap.size,0,none⟩))])) ?_;refine InvZ.c (fun _ _ w1 _ C _ hK=>oR C hK (h:=by simp [execOp,go_sem,C.i 11,a_u C.base q2])) ?_;refine InvZ.c (fun _ _ w1 _ C _ hK=>oR C hK (h:=by simp [execOp,go_sem,C.o 6 (.pointer (some ⟨w.heap.size+1,0,none⟩)),C.i 12,i1,i2])) ?_;refine InvZ.c (fun _ _ w1 _ C _ hK=>oR C hK (h:=by simp [execOp,go_sem,C.i 13,a_u C.base r1])) ?_;refine InvZ.c (fun _ _ w1 _ C _ hK=>oR C hK (h:=by simp [execOp,go_sem,C.o 2 (.int .i64 tag)])) ?_;refine InvZ.c (fun a1 vals w1 hdf C K hK=>?_) ?_
 ·have e0:=C.i 6;have e1:=C.i 10;have e2:=C.i 14;have e3:=C.i 15;rw [a_M] at e0 e1 e2 e3;refine a_g rfl (a_O _ _ _ rfl 153 rfl [.agg #[.slice L.ws.a L.ws.n L.ws.c,.slice L.ts.a L.ts.n L.ts.c],.int .i64 va,.int .i64 vb,.int .i64 tag] (by simp only [List.map_cons,List.map_nil,e0,e1,e2,e3]) (by kernel_rfl) ((HL.out w1 C.base).mono ?_));rintro e9 w2 ⟨a1x,n1x,c1x,a2x,n2x,c2x,rfl,z1,z2,hb2⟩;exact ⟨_,rfl,o_9 hK hG (fun _ _ _ _ _ _=>trivial) hb2 rfl ⟨⟨a1x,n1x,c1x⟩,⟨a2x,n2x,c2x⟩,rfl,c_K (fun b hb=>HQ.out b (by have:=C.base.size;omega)) z1,c_K (fun b hb=>HQ.out b (by have:=C.base.size;omega)) z2⟩ (a_b C.base hb2)⟩
 refine InvZ.c (fun a1 vals w1 hdf C K hK=>?_) ?_
 ·have e0:=C.t 16 28 rfl rfl;obtain ⟨p,q,h1,h2,h3⟩:=C.says 16 rfl;have h1:vals 16=_:=List.head_eq_of_cons_eq h1;rw [h1] at e0;refine a_g rfl (a_x (v:=.agg #[.slice p.a p.n p.c,.slice q.a q.n q.c]) ?_ (c_Q hK C rfl ⟨p,q,rfl,h2,h3⟩));simp [execOp,go_sem,e0]
 refine InvZ.c (fun a1 vals w1 hdf C K hK=>?_) ?_
 ·have e0:=C.t 16 28 rfl rfl;obtain ⟨p,q,h1,h2,h3⟩:=C.says 16 rfl;have h1:vals 16=_:=List.head_eq_of_cons_eq h1;rw [h1] at e0;refine a_g rfl (a_x (v:=.int .i64 me) ?_ (c_Q hK C rfl rfl));simp [execOp,go_sem,e0]
 refine InvZ.c (fun a1 vals w1 hdf C K hK=>?_) ?_
 ·have e0:=C.t 17 29 rfl rfl;obtain ⟨p,q,h1,h2,h3⟩:=C.says 17 rfl;have h1:vals 17=_:=List.head_eq_of_cons_eq h1;rw [h1] at e0;have e1:=C.i 18;rw [a_M] at e0 e1;refine a_g rfl (f_Y _ _ _ rfl 49 rfl [.agg #[.slice p.a p.n p.c,.slice q.a q.n q.c],.int .i64 me] (by simp only [List.map_cons,List.map_nil,e0,e1]) (by kernel_rfl) ((o_J p q me w1).mono ?_));rintro e9 w2 ⟨(⟨hz,rfl⟩ | ⟨hz,rfl⟩),hb2⟩
  ·exact .inl ⟨_,rfl,o_9 hK hG (fun _ _ _ _ _ _=>trivial) hb2 rfl ⟨hz,p,q,rfl,a_r (a_C hb2) h2,a_r (a_C hb2) h3⟩ (a_b C.base hb2)⟩
  ·refine .inr ⟨_,rfl,And.intro hdf ?_⟩;exact ⟨.inr ⟨hz,rfl,Q,L,d_u (a_b C.base hb2) HH2.out⟩,HB2N.out.andB (a_b C.base hb2)⟩
 refine InvZ.c (fun _ _ w1 _ C _ hK=>oR C hK (h:=by simp [execOp,go_sem,C.i 0])) ?_;refine InvZ.c (fun a1 vals w1 hdf C K hK=>?_) ?_
 ·have e0:=C.isw 20 32 [] (.pointer (some ⟨g,0,none⟩)) rfl rfl rfl rfl;exact J81
 refine InvZ.c (fun a1 vals w1 hdf C K hK=>?_) ?_
 ·have e0:=C.isw 21 33 [20] (.pointer (some ⟨g,0,none⟩)) rfl rfl rfl rfl;exact J80
 refine InvZ.c (fun a1 vals w1 hdf C K hK=>?_) ?_
 ·have e0:=C.isw 22 34 [21,20] (.pointer (some ⟨g,1,none⟩)) rfl rfl rfl rfl;exact J80
 refine InvZ.last (n:=24) ?_ ?_ ?_ ?_
 ·rfl
 ·kernel_rfl
 ·decide
 ·intro vals w1 aE hae hval hb hv hbo K hK;obtain ⟨hz,p,q,h1,h2,h3⟩:=c_f (k:=19) rfl (hv 19 (by decide));have HZM:=hid hz;clear hz;have y31:vals 19=_:=List.head_eq_of_cons_eq h1;have y35:vals 23=.pointer (some ⟨g,1,none⟩):=e_L rfl (hv 23 (by decide));have HHW:=d_u hb HH2.out;refine a_g rfl (e_r 26 _ _ rfl g 1 #[.slice p.a p.n p.c,.slice q.a q.n q.c] ((hval 23 35 rfl rfl).trans y35) ((hval 19 31 rfl rfl).trans y31) _ HHW.x (by simp) (by kernel_rfl) (by simp [Value.oneCell']) ?_);intro U HU;refine hK _ _ ?_;rw [hae.out];simp only [c_I,Act.put,sA,sB,sC,y31,y35];have HE:=hid (show c_c g b Sx X { X with ws:=zs,ts:=us } k me w (.returned (.tuple #[])) U from ⟨.inl ⟨HZM.out,rfl,Q,L.setMem p q,by rw [HU.out];exact p_F HHW p q h2 h3⟩,by rw [HU.out];exact e_h HNN.out (HB2N.out.andB hb)⟩);clear hb hv hbo h1 h2 h3 HHW y31 y35 HU hval hae
  go_wp2
  first | go_ret | go_end0
  exact HE.out
end Go.Proofs.YtogdpojnbgeknaaGreatDoor
