import Derived.Test.YtogdpojnbgeknaaGreatDoorT42
import Derived.Test.YtogdpojnbgeknaaGreatDoorT43
import Derived.StillTailTactics
import Derived.Deep.DeepCutAuto
import Derived.Test.YtogdpojnbgeknaaGreatDoorT0
set_option maxRecDepth 100000
set_option maxHeartbeats 16000000
namespace Go.Proofs.YtogdpojnbgeknaaGreatDoor
open Go.ChangeShapes Go.WideShapes Go.ChangeAt Go.RowKit
open Gen
open Lib (hid)
theorem j_R {Q:Nat→Prop} {w:World} {a:Option Addr} {n:Nat} {zs:List Int} (h:Vs repInt Q w a n zs):Sl w a n zs:=by
 obtain ⟨h1,h2⟩:=h;refine ⟨h1,h2.imp id ?_⟩;rintro ⟨b,o,e,_,f⟩;refine ⟨b,o,e,fun i hi=>?_⟩;have h5:=f i _ (List.getElem?_eq_getElem hi);rw [show repInt.k=1 from rfl,Nat.mul_one] at h5;rw [n_K h5];simp [hi]
theorem j_I {α:Type} (l:List α) (k:Nat) (d:α):l.set k (l.getD k d)=l:=by
 apply List.ext_getElem?
 intro i;rw [List.getElem?_set]
 by_cases e:k=i
 ·subst e
  by_cases h:k < l.length
  ·rw [if_pos rfl,if_pos h,List.getD_eq_getElem?_getD,List.getElem?_eq_getElem h];rfl
  ·rw [if_pos rfl,if_neg h,List.getElem?_eq_none (by omega)]
 ·rw [if_neg e]
def t_e (n:Nat) (ts:List Thr):Prop:=∀ t∈ts,(t.lf.length=0∨t.lf.length=n)∧∀ z∈t.lf,0≤z∧z≤8
theorem q_B {n k:Nat} {ts:List Thr} {t:Thr} (h:t_e n ts) (ht:(t.lf.length=0∨t.lf.length=n)∧∀ z∈t.lf,0≤z∧z≤8):t_e n (ts.set k t):=fun u hu=>by
 rcases List.mem_or_eq_of_mem_set hu with h1 | h1
 ·exact h u h1
 ·subst h1;exact ht
theorem s_D {n k:Nat} {ts:List Thr} (h:t_e n ts):((ts.getD k d_E).lf.length=0∨(ts.getD k d_E).lf.length=n)∧∀ z∈(ts.getD k d_E).lf,0≤z∧z≤8:=by
 by_cases hk:k < ts.length
 ·rw [List.getD_eq_getElem?_getD,List.getElem?_eq_getElem hk];exact h _ (List.getElem_mem hk)
 ·rw [List.getD_eq_getElem?_getD,List.getElem?_eq_none (by omega)];exact ⟨.inl rfl,fun _ h=>by cases h⟩
theorem t_K (X:Wo) (k:Nat):(flT X k).lf=(thW X k).lf:=by
 unfold flT;split <;> rfl
def n_q (ts:List Thr) (j k:Nat):List Thr:=(ts.take k).map (i_w j)
theorem o_B {ts:List Thr} {j k:Nat} {x:Thr} (hx:ts[k]?=some x):n_q ts j (k+1)=n_q ts j k++[i_w j x]:=by
 obtain ⟨hk,rfl⟩:=List.getElem?_eq_some_iff.1 hx;rw [n_q,List.take_succ_eq_append_getElem hk,List.map_append];rfl
theorem q_D {ts:List Thr} {j n:Nat} (hn:ts.length=n):n_q ts j n=ts.map (i_w j):=by rw [n_q,List.take_of_length_le (by omega)]
def WoL.setBs (L:WoL) (p:Sp):WoL:={ L with bs:=p }
theorem p_f {Q:Nat→Prop} {w:World} {L:WoL} {X:Wo} (R:RWo Q w L X) {p:Sp} {bs:List (List (Int×Int))} (h:BlP Q w p.a p.n bs):RWo Q w (L.setBs p) { X with bs:=bs }:=⟨R.co,R.ws,R.ts,h,R.th,R.ev,R.cco,R.cth,R.cev⟩
abbrev u_v (F:Nat) (Q:Nat→Prop) (w:World) (v:Value) (n:Nat) (ts:List Thr):Prop:=d_l F (fun b=>Q b∧b < w.heap.size∧v.ownBlock≠some b) w v n ts
theorem h_o {F:Nat} {Q Q':Nat→Prop} {w:World} {v:Value} {n:Nat} {ts:List Thr} (hQ:∀ b,Q b→Q' b) (h:d_l F Q w v n ts):d_l F Q' w v n ts:=by
 obtain ⟨cs,h1,h2⟩:=h;exact ⟨cs,h1,c_l hQ h2⟩
def p_O (X:Wo) (j:Nat):Wo:={ d_t X j with th:=X.th.set j (flT X j) }
def t_m (Q:Nat→Prop) (W:World) (g:Nat) (x:Value) (k:Nat) (ys:List Thr) (u:Thr) (n m:Nat) (wx:World):Prop:=
 ∃ (a p:Option Addr) (c d:Nat),a_p wx g (thC u a n c p m d)∧d_l W.heap.size (fun b=>Q b∧b < wx.heap.size∧x.ownBlock≠some b) wx x k ys∧ThQ (fun b=>Q b∧b < wx.heap.size∧x.ownBlock≠some b) wx a n c p m d u∧Below W.heap.size W wx
def u_b (Q:Nat→Prop) (w:World) (X2:Wo) (D:Int) (wx:World):Prop:=∃ L2:WoL,a_p wx w.heap.size (woC L2 D)∧a_p wx (w.heap.size+1) woZ∧RWo Q wx L2 X2∧Below w.heap.size w wx∧w.heap.size+3≤wx.heap.size
theorem m_z (Q:Nat→Prop) (L:WoL) (X:Wo) (j:Nat) (w:World) (R:RWo Q w L X) (hj:j < L.th.n) (hQ:∀ b,w.heap.size≤b→Q b) (hn:L.th.n≤8) (hbn:L.bs.n=L.th.n) (hb8:(bfW X j).length≤8) (hb0:0 < (bfW X j).length) (hm:d_g X.ws X.ts=true) (hlf:t_e L.th.n X.th) :
  Calls Tryz.prog 24 #[woV L X.D,.int .i64 j] w (b_B Q (d_t X j) w):=by
 obtain ⟨D,hD⟩:=mn (X.D);rw [hD];have HD:=hid hD;obtain ⟨tb,tq,t,ta,tc,qa,qc,htl,htt,-,T,hr⟩:=d_b R.th hj;have htw:=N53;have HTW:=hid htw;obtain ⟨Q1,hQ1⟩:∃ Q1:Nat→Prop,Q1=fun b=>Q b∧(b < w.heap.size∨w.heap.size+3≤b):=⟨_,rfl⟩
 have HQ2:=N30;have HR1:=N41;obtain ⟨bb,bo,q,c,hba,hbc,-,hpl⟩:=f_i R.bs (i:=j) (by omega);obtain ⟨bl,hbl⟩:=mn ((X.bs.getD j []).length);have hbl1:(bfW X j).length=bl:=hbl;obtain ⟨pb,po,hq,-,hrow⟩:=hpl.2.resolve_left (by omega);have hp0:=hrow 0 hb0;rw [hq,hbl] at hbc;obtain ⟨pa,hpa⟩:=mn ((f_F (bfW X j)).1);obtain ⟨pv,hpv⟩:=mn ((f_F (bfW X j)).2);rw [show ((X.bs.getD j []).getD 0 (0,0)).1=pa from hpa,show ((X.bs.getD j []).getD 0 (0,0)).2=pv from hpv,Nat.zero_mul,Nat.add_zero] at hp0;rw [hbl1] at hb8 hb0;obtain ⟨W,hW⟩:=nm ((w.alloc (Obj.cells (woC L D).toArray 33)).alloc (Obj.cells woZ.toArray 33));have HX:=N52;have HZ:=N63;have HB:=N3;have HSZ:=N43
 have HPR:=hid (show W.rangeAt pb po [.int .i64 pa,.int .i64 pv] from fun x v hx=>by
  match x,hx with
  | 0,hx=>cases hx;exact a_u HB.out hp0.1
  | 1,hx=>cases hx;exact a_u HB.out hp0.2)
 have k5:=a_u HB.out hbc;have HC10:=hid (hr 10 _ rfl);have ⟨HW,HTL,HBA,HN,HM⟩:=hh5 hW htl hba hn hm;have HB8:=hid (And.intro hbn (And.intro hbl1 hb8));have HP:=hid (And.intro hpa hpv);have HLF:=hid hlf;have i1:(0:Int)≤j:=by omega
 have i2:(j:Int) < L.bs.n:=by omega
 have i3:(0:Int) < bl:=by omega
 obtain ⟨k4,-⟩:=HX.out 4 _ rfl;rw [hba] at k4;clear htl hD htt T hr hQ1 R hW htw hQ hn hbn hb8 hb0 hm hlf hba hbc hpl hbl hbl1 hrow hp0 hpa hpv hq;unfold woV
 go_enter Tryz.func24,Tryz.ntmps24
 go_upto_region 1 with fail
 rw [←HW.out]
 go_upto_region 2 with (first | (refine wpList_load_mid rfl 59 _ rfl pb po rfl [.int .i64 pa,.int .i64 pv] _ HPR.out Tryz.underlying59 rfl (by kernel_rfl) ?_) | (refine a_c rfl 59 _ _ rfl W.heap.size #[.int .i64 pa,.int .i64 pv] rfl rfl _ (a_e [.int .i64 0,.int .i64 0] W.heap.size rfl) rfl (by kernel_rfl) (by simp [Value.oneCell']) ?_;intro V HV))
 rw [HSZ.out];simp only [Act.put];have HX2:=N31;have HZ2:=N74;have HP2:=hid (show a_p V (w.heap.size+2) [.int .i64 pa,.int .i64 pv] by rw [HV.out,HSZ.out];exact a_q (a_e [.int .i64 0,.int .i64 0] _ HSZ.out.symm) rfl);have HB2:=N27;have HS2:=N119;have HR2:=N109;clear HV HX HZ HB HSZ HW k5 k4 i2 i3 HPR;have h0:=j_u L.ws.a L.ts.a L.bs.a L.ws.n L.ws.c L.ts.n L.ts.c L.bs.n L.bs.c D X.bs j V Q1 HR2.out.bs (by have:=HB8.out.1;omega) (by have:=HB8.out.1;have:=HN.out;omega) (by have:=HB8.out.2;show (bfW X j).length≤8;omega) (fun b hb=>HQ2.out.2.2 b (by have:=HS2.out;omega));have HC:=hid h0;clear h0
 go_wp2_with (refine wpList_load_mid rfl 30 _ rfl w.heap.size 1 rfl [.slice L.ws.a L.ws.n L.ws.c,.slice L.ts.a L.ts.n L.ts.c,.int .i64 D,.slice L.bs.a L.bs.n L.bs.c] _ (f_W HX2.out) Tryz.underlying30 rfl (by kernel_rfl) ?_)
 refine HC.out.mono ?_;clear HC;rintro e2 w2 ⟨r,f,rfl,hbs2,hb2⟩;have HX3:=hid (a_i hb2 HX2.out);have HZ3:=hid (a_i hb2 HZ2.out);have HP3:=hid (a_i hb2 HP2.out);have HB3:=hid (a_b HB2.out hb2);have HR3:=hid (p_f (p:=⟨r,L.bs.n,f⟩) (b_G hb2 HR2.out) hbs2);have HS3:=hid (show w.heap.size+3≤w2.heap.size by have:=hb2.size;have:=HS2.out;omega);clear hb2 hbs2 HX2 HZ2 HP2 HB2 HR2 HS2
 go_upto_region 3 with (refine a_L rfl 30 _ _ rfl w.heap.size 1 #[.slice L.ws.a L.ws.n L.ws.c,.slice L.ts.a L.ts.n L.ts.c,.int .i64 D,.slice r L.bs.n f] rfl rfl _ HX3.out (by simp) (by kernel_rfl) (by simp [Value.oneCell']) ?_;intro U3 HU3)
 simp only [Act.put];have HX4:=hid (show a_p U3 w.heap.size (woC (L.setBs ⟨r,L.bs.n,f⟩) D) by rw [HU3.out];exact b_b (xs:=[.slice L.ws.a L.ws.n L.ws.c,.slice L.ts.a L.ts.n L.ts.c,.int .i64 D,.slice r L.bs.n f]) 1 HX3.out (by simp));have HZ4:=hid (show a_p U3 (w.heap.size+1) woZ by rw [HU3.out];exact a_j (by omega) HZ3.out);have HP4:=hid (show a_p U3 (w.heap.size+2) [.int .i64 pa,.int .i64 pv] by rw [HU3.out];exact a_j (by omega) HP3.out);have HB4:=hid (show Below w.heap.size w U3 by rw [HU3.out];exact a_h (Nat.le_refl _) HB3.out);have HR4:=hid (show RWo Q1 U3 (L.setBs ⟨r,L.bs.n,f⟩) { X with bs:=X.bs.set j (e_z (bfW X j)) } from a_B (by rw [HU3.out];exact a_t (fun b hb=>by have:=HQ2.out.2.1 b hb;omega)) HR3.out);have HS4:=hid (show w.heap.size+3≤U3.heap.size by rw [HU3.out,a_R];exact HS3.out);clear HU3 HX3 HZ3 HP3 HB3 HR3 HS3;obtain ⟨p0,-⟩:=HP4.out 0 _ rfl;obtain ⟨p1,-⟩:=HP4.out 1 _ rfl;have h0:=c_E Q1 L.ws.a L.ts.a L.ws.n L.ws.c L.ts.n L.ts.c X.ws X.ts pa pv U3 HR4.out.ws.sl HR4.out.ts (fun b hb=>HQ2.out.2.2 b (by have:=HS4.out;omega)) HM.out;obtain ⟨e,he⟩:=mn (a_I X.ws X.ts pa);rw [he] at h0;have ⟨HE,HC⟩:=hh2 he h0;clear h0 he
 go_wp2_with (refine wpList_load_mid rfl 26 _ rfl w.heap.size 1 rfl [.slice L.ws.a L.ws.n L.ws.c,.slice L.ts.a L.ts.n L.ts.c] _ (mem_range (L:=L.setBs ⟨r,L.bs.n,f⟩) HX4.out) Tryz.underlying26 rfl (by kernel_rfl) ?_)
 refine HC.out.mono ?_;clear HC p0 p1;rintro e4 w4 ⟨a,n,c,a',n',c',rfl,s1,s2,hb4⟩;have HX5:=hid (a_i hb4 HX4.out);have HZ5:=hid (a_i hb4 HZ4.out);have HB5:=hid (a_b HB4.out hb4);have HR5:=hid (b_G hb4 HR4.out);have HS5:=hid (show w.heap.size+3≤w4.heap.size by have:=hb4.size;have:=HS4.out;omega);have HL5:=hid (And.intro (c_g s1) (c_g s2));clear hb4 s1 s2 HX4 HZ4 HP4 HB4 HR4 HS4
 go_upto_if 36 with (refine a_c rfl 26 _ _ rfl w4.heap.size #[.slice a n c,.slice a' n' c'] rfl rfl _ (a_e [.slice none 0 0,.slice none 0 0] w4.heap.size rfl) rfl (by kernel_rfl) (by simp [Value.oneCell']) ?_;intro U HU)
 have hk6:Kept (fun b=>Q1 b∧b < w4.heap.size) w4 U:=by rw [HU.out];exact a_6 (e_u _ _) (a_t (fun b hb=>by have:=hb.2;omega))
 have HM6:=hid (show a_p U w4.heap.size [.slice a n c,.slice a' n' c'] by rw [HU.out];exact a_q (a_e [.slice none 0 0,.slice none 0 0] _ rfl) rfl);have HX6:=hid (show a_p U w.heap.size (woC (L.setBs ⟨r,L.bs.n,f⟩) D) by rw [HU.out];exact a_j (by have:=HS5.out;omega) (a_s _ HX5.out));have HZ6:=hid (show a_p U (w.heap.size+1) woZ by rw [HU.out];exact a_j (by have:=HS5.out;omega) (a_s _ HZ5.out));have HB6:=hid (show Below w.heap.size w U by rw [HU.out];exact a_h (by have:=HS5.out;omega) (HB5.out.alloc HB5.out.size _));have HR6:=hid (show RWo (fun b=>Q1 b∧b < w4.heap.size) U (L.setBs ⟨r,L.bs.n,f⟩) { X with bs:=X.bs.set j (e_z (bfW X j)) } from a_B hk6 (c_e HR5.out));have HL6:=hid (And.intro (a_r hk6 HL5.out.1) (a_r hk6 HL5.out.2));have HS6:=hid (show U.heap.size=w4.heap.size+1 by rw [HU.out,a_R];simp);clear hk6 HU HX5 HZ5 HB5 HR5 HL5
 go_cut [] (fun wx=>u_b Q1 w (p_O X j) D wx)
 case first =>
  by_cases e0:e=0
  ·subst e0
   go_wp2_with (first | (refine wpList_load_mid rfl 26 _ rfl w4.heap.size 0 rfl [.slice a n c,.slice a' n' c'] _ (a_f HM6.out) Tryz.underlying26 rfl (by kernel_rfl) ?_) | (refine a_L rfl 26 _ _ rfl w.heap.size 1 #[.slice a n c,.slice a' n' c'] rfl rfl _ HX6.out (by simp) (by kernel_rfl) (by simp [Value.oneCell']) ?_;intro V HV))
   go_meet
   have hk:Kept Q1 U V:=by rw [HV.out];exact a_t (fun b hb=>by have:=HQ2.out.2.1 b hb;omega)
   have hX:p_O X j={ X with bs:=X.bs.set j (e_z (bfW X j)),ws:=c_q X.ws X.ts pa pv,ts:=c_p X.ws X.ts pa }:=by
    unfold p_O d_t;have h1:flE X j=0:=by rw [flE,HP.out.1];exact HE.out
    have h2:flT X j=thW X j:=by rw [flT,if_pos (.inl h1)]
    rw [if_pos h1,h2,c_q,c_p,if_pos HE.out,if_pos HE.out,HP.out.1,HP.out.2];simp only [thW,j_I]
   refine ⟨((L.setBs ⟨r,L.bs.n,f⟩).setMem ⟨a,n,c⟩ ⟨a',n',c'⟩),?_,?_,?_,?_,?_⟩
   ·rw [HV.out];exact b_b (xs:=[.slice a n c,.slice a' n' c']) 1 HX6.out (by simp)
   ·rw [HV.out];exact a_j (by omega) HZ6.out
   ·rw [hX];exact h_5 (a_B hk (a_D (fun b h=>h.1) HR6.out)) (a_r hk (a_n (fun b h=>h.1) HL6.out.1)) (a_r hk (a_n (fun b h=>h.1) HL6.out.2))
   ·rw [HV.out];exact a_h (Nat.le_refl _) HB6.out
   ·rw [HV.out,a_R,HS6.out];have:=HS5.out;omega
  ·have hk0:(e==0)=false:=by simpa using e0
   have h1:flE X j=e:=by rw [flE,HP.out.1];exact HE.out
   have HF1:=hid h1;have c10:U.cell? ⟨tb,tq+j*13+10,none⟩=some (.int .i64 t.st):=a_u HB6.out HC10.out;obtain ⟨k5,-⟩:=HX6.out 5 _ rfl;rw [show ((L.setBs ⟨r,L.bs.n,f⟩).th)=L.th from rfl,HTL.out] at k5;have i2:(j:Int) < L.th.n:=by omega
   clear h1 e0
   by_cases st2:t.st=2
   ·have hs2:(t.st != 2)=false:=by simp [st2]
    have HST:=hid st2;clear st2
    go_wp2_with fail
    go_meet
    have hX:p_O X j={ X with bs:=X.bs.set j (e_z (bfW X j)) }:=by
     unfold p_O d_t;have h2:flT X j=thW X j:=by rw [flT,if_pos (.inr (by rw [HTW.out];exact HST.out))]
     rw [h2,if_neg (by rw [HF1.out];simpa using hk0)];simp only [thW,j_I]
    refine ⟨(L.setBs ⟨r,L.bs.n,f⟩),HX6.out,HZ6.out,?_,HB6.out,?_⟩
    ·rw [hX];exact a_D (fun b h=>h.1) HR6.out
    ·rw [HS6.out];have:=HS5.out;omega
   ·have hs2:(t.st != 2)=true:=by simpa using st2
    have HST:=hid st2;have h0:=c_W Q1 (L.setBs ⟨r,L.bs.n,f⟩) { X with bs:=X.bs.set j (e_z (bfW X j)) } j e U (a_D (fun b h=>h.1) HR6.out) hj (fun b hb=>HQ2.out.2.2 b (by have:=HS6.out;have:=HS5.out;omega)) (by have:=HN.out;show L.th.n≤1000;omega)
    have hX:b_j { X with bs:=X.bs.set j (e_z (bfW X j)) } j (b_t (thW { X with bs:=X.bs.set j (e_z (bfW X j)) } j) e)=p_O X j:=by
     unfold p_O d_t;have h2:flT X j=b_t (thW X j) e:=by rw [flT,if_neg (by rw [HTW.out,HF1.out];exact fun h=>h.elim (by simpa using hk0) HST.out),HF1.out]
     rw [h2,if_neg (by rw [HF1.out];simpa using hk0)];rfl
    rw [hX,show ({ X with bs:=X.bs.set j (e_z (bfW X j)) }:Wo).D=D from HD.out] at h0;have HC:=hid h0;clear h0 hX st2
    go_wp2_with (refine wpList_load_mid rfl 33 _ rfl (w.heap.size) 0 rfl (woC (L.setBs ⟨r,L.bs.n,f⟩) D) _ (a_f HX6.out) Tryz.underlying33 rfl (by kernel_rfl) ?_)
    refine HC.out.mono ?_;rintro e9 w9 ⟨L9,rfl,R9,hb9⟩;have HX9:=hid (a_i hb9 HX6.out);have HZ9:=hid (a_i hb9 HZ6.out);have HB9:=hid (a_b HB6.out hb9);have HR9:=hid R9;have HS9:=hid (show w.heap.size+3≤w9.heap.size by have:=hb9.size;have:=HS6.out;have:=HS5.out;omega);clear hb9 R9 HC;rw [show (p_O X j).D=D from HD.out]
    go_wp2_with (refine a_c rfl 33 _ _ rfl (w.heap.size) (woC L9 D).toArray rfl rfl _ HX9.out rfl (by kernel_rfl) (b_o _ _) ?_;intro V HV)
    go_meet
    have hk:Kept Q1 w9 V:=by rw [HV.out];exact a_t (fun b hb=>by have:=HQ2.out.2.1 b hb;omega)
    refine ⟨L9,?_,?_,a_B hk HR9.out,?_,?_⟩
    ·rw [HV.out];exact a_q HX9.out rfl
    ·rw [HV.out];exact a_j (by omega) HZ9.out
    ·rw [HV.out];exact a_h (Nat.le_refl _) HB9.out
    ·rw [HV.out,a_R];exact HS9.out
 case rest =>
  clear HX6 HZ6 HB6 HR6 HL6 HM6 HS6 HS5 HC10 HTL HBA;obtain ⟨L2,hx2,hz2,r2,hb2,hs2⟩:=hcut;obtain ⟨W,hW⟩:=nm (wc);subst hW;obtain ⟨n2,hn2⟩:=mn (L2.th.n);obtain ⟨a2,ha2⟩:=mn (L2.th.a);obtain ⟨c2,hc2⟩:=mn (L2.th.c);have ⟨HX,HZ,HR,HB,HS⟩:=hh5 hx2 hz2 r2 hb2 hs2;obtain ⟨XT,hXT⟩:=mn ((p_O X j).th);have hlen:XT.length=n2:=by rw [←hXT,r2.th.1,hn2]
  have hn2L:n2=L.th.n:=by
   rw [←hlen,←hXT]
   show (X.th.set j (flT X j)).length=_
   rw [List.length_set];exact HR1.out.th.1
  have HXL:=hid (show t_e n2 XT by
   rw [hn2L,←hXT];exact q_B HLF.out (by rw [t_K];exact s_D HLF.out))
  have HVT:=hid (show Vs repTh (fun b=>Q1 b∧b < W.heap.size) W a2 n2 XT by rw [←hXT,←hn2,←ha2];exact c_O r2.th);have ⟨HXT,HLN⟩:=hh2 hXT hlen;have hj2:j < n2:=by omega
  have HN2:=hid (show n2≤8 by have:=HN.out;omega);have HCC:=hid (show n2=L2.th.n from hn2.symm);obtain ⟨j0,ki,kz0,kz1,kz2⟩:=info_parts l_I;have HJ:=N72;obtain ⟨x5,-⟩:=(a_s (Obj.cells #[] 46) HX.out) 5 _ rfl;rw [ha2,hn2,hc2] at x5;clear hx2 hz2 r2 hb2 hs2 ha2 hc2 hn2 hn2L hXT hlen ki kz0 kz1 kz2
  go_wp2_with fail
  clear x5
  go_loopw [8,55] (fun v i wr=>∃ (k:Nat) (va:Option Addr) (vc:Nat),k≤n2∧i=.int .i64 k∧v=.slice va k vc∧Hid (u_v W.heap.size Q1 wr (.slice va k vc) k (n_q XT j k))∧Below W.heap.size W wr) (fun _ i _=>n2 - (intOf i).toNat)
  case atStart =>
   refine ⟨0,_,_,Nat.zero_le _,rfl,rfl,⟨[],?_,rfl⟩,(Below.refl _ _).alloc (Nat.le_refl _) _⟩;exact World.ownsRow_lit W #[] 0 (Nat.le_refl _) (by decide) rfl (e:=46) (size:=13)
  case round =>
   obtain ⟨k,va,vc,hk,rfl,rfl,ho,hb⟩:=hrel;have HB1:=hid hb
   by_cases hlt:k < n2
   ·obtain ⟨b,o,x,xa,xc,ya,yc,rfl,hxx,hqb,X5,hr⟩:=d_b HVT.out hlt;have i1:(0:Int)≤k:=by omega
    have i2:(k:Int) < n2:=by omega
    have hkL:Kept (fun b=>Q1 b∧b < W.heap.size) W wr:=c_o hb (fun b hb=>hb.2);have HR5:=hid (show wr.rangeAt b (o+k*13) (thC x xa x.fs.length xc ya x.lf.length yc) from fun j v hj=>hkL b _ v hqb (hr j v hj));have HXQ:=hid (a_w hkL X5);have hsz:=hb.size;have HNX:=hid (o_B (j:=j) hxx);have HLX:=hid (HXL.out x (List.mem_of_getElem? hxx));obtain ⟨xn,hxn⟩:=mn (x.fs.length);obtain ⟨xm,hxm⟩:=mn (x.lf.length);have HXN:=hid (And.intro hxn hxm);rw [hxn,hxm] at HR5 HXQ;obtain ⟨wo,hwo⟩:=nm (wr);subst hwo;have HKN:=hid (show k+1≤8 by have:=HN2.out;omega);clear hxx X5 hr hxn hxm hb hqb hkL
    go_upto_region 12 with (first | (refine wpList_load_mid rfl 46 _ rfl b (o+k*13) rfl (thC x xa xn xc ya xm yc) _ HR5.out Tryz.underlying46 rfl (by kernel_rfl) ?_) | (refine a_c rfl 46 _ _ rfl wo.heap.size (thC x xa xn xc ya xm yc).toArray rfl rfl _ (a_e thN wo.heap.size rfl) rfl (by kernel_rfl) (a_K _ _ _ _ _ _ _) ?_;intro U HU))
    have hkU:Kept (fun b=>Q1 b∧b < wo.heap.size) wo U:=by rw [HU.out];exact a_6 (e_u _ _) (a_t (fun b hb=>by have:=hb.2;omega))
    have Y:=N151;have HOB:=hid (show ∀ g,(Value.slice va k vc).ownBlock=some g→W.heap.size≤g∧g < wo.heap.size from fun g hg=>by obtain ⟨cs,h1,-⟩:=ho.out;exact h1.lt g hg);have HNE:=hid (show (Value.slice va k vc).ownBlock≠some wo.heap.size from fun h=>by have:=(HOB.out _ h).2;omega)
    have HO5:=hid (show d_l W.heap.size (fun b=>Q1 b∧b < wo.heap.size∧(Value.slice va k vc).ownBlock≠some b) U (.slice va k vc) k (n_q XT j k) by
     rw [HU.out];exact e_9 (i_N ((Below.refl _ _).alloc (Nat.le_refl _) _) ho.out) HNE.out (fun b hb=>by have:=hb.2.1;omega))
    have HB5:=hid (show Below W.heap.size W U by rw [HU.out];exact a_h hsz (HB1.out.alloc hsz _));have HZ5:=hid (show U.heap.size=wo.heap.size+1 by rw [HU.out];simp [a_R]);have HXU:=hid (show ThQ (fun b=>Q1 b∧b < W.heap.size) U xa xn xc ya xm yc x from a_w (fun b o v hq hv=>hkU b o v ⟨hq.1,by have:=hq.2;omega⟩ hv) HXQ.out);obtain ⟨y12,-⟩:=Y.out 12 _ rfl;clear HU HR5 HXQ hkU;obtain ⟨u,hu⟩:=mn (i_w j x);have HUL:=hid hu;have HNX2:=hid (show n_q XT j (k+1)=n_q XT j k++[u] by rw [HNX.out,hu]);clear hu
    have HUN:=hid (show u.fs.length=xn∧u.lf.length=xm by
     rw [←HUL.out,i_w]
     split
     ·exact HXN.out
     ·exact ⟨HXN.out.1,by rw [show ∀ l:List Int,({ x with lf:=l }:Thr).lf=l from fun _=>rfl,List.length_set];exact HXN.out.2⟩)
    go_upto_if 62 with fail
    go_cut [] (fun wx=>t_m Q1 W wo.heap.size (.slice va k vc) k (n_q XT j k) u xn xm wx)
    case first =>
     by_cases hm0:0 < xm
     ·have i3:(0:Int) < xm:=by omega
      have i4:(0:Int)≤j:=by omega
      have i5:(j:Int) < xm:=by have h:=HLX.out.1;rw [HXN.out.2] at h;omega
      obtain ⟨lb,lo,z,rfl,hz,hzc⟩:=l_K (d_3 HXU.out.lf) (show j < xm by omega);have hz8:=HLX.out.2 z (List.mem_of_getElem? hz);have hwz:wrap64 (z - 1)=z - 1:=IntWalk.wrap64_in _ (by omega);obtain ⟨ll,hll⟩:=mn (e_q x.lf j (max 0 (z - 1)));have HLL:=hid hll
      have HUX:=hid (show (⟨x.pc,x.r,x.fs,x.st,x.ft,ll⟩:Thr)=u by
       rw [←HUL.out,i_w,if_neg (by rw [HXN.out.2];omega),←hll,h_w,List.getD_eq_getElem?_getD,hz];rfl)
      have HWL:=hid (show ll.length=xm by rw [←hll,e_q,c_y];exact HXN.out.2);have HXM:=hid (show xm≤1000 by have:=HN2.out;have h:=HLX.out.1;rw [HXN.out.2] at h;omega);clear hz hll
      go_upto_region 13 with fail
      go_still_tail 10,(by kernel_rfl)
      change wpList _ _ _ _ _ U.drew;clear y12 hzc
      go_wp2_with fail
      all_goals
       obtain ⟨v0,hv0⟩:=nm (max 0 (z - 1));have hv:e_q x.lf j v0=ll:=by rw [←HLL.out,hv0]
       first
        | (rw [show z - 1=v0 by rw [hv0];omega])
        | (rw [show (Value.int .i64 0)=.int .i64 v0 by rw [hv0,show max 0 (z - 1)=(0:Int) by omega]])
       refine (n_F (some ⟨lb,lo,none⟩) xm yc x.lf j v0 U.drew (j_R (a_z (t_N _) HXU.out.lf)) HXM.out).mono ?_;rintro e2 w2 ⟨p2,d2,rfl,hcp,s2,hb2⟩;rw [hv] at s2;have HCP:=hid hcp;clear hv hcp;have hB2:Below U.heap.size U w2:=a_b (Below.refl _ _).drew hb2;have HY2:=hid (a_i hB2 Y.out);have HW2:=hid hB2;have HS2:=hid (show Vs repInt (fun b=>(Q1 b∧wo.heap.size < b)∧b < w2.heap.size) w2 p2 xm ll from c_O (b_e (fun b hb=>⟨HQ2.out.2.2 b (by have h1:U.heap.size≤b:=hb;have:=HZ5.out;have:=HS.out;omega),by have h1:U.heap.size≤b:=hb;have:=HZ5.out;omega⟩) s2));have HZ7:=hid (show U.heap.size≤w2.heap.size from hB2.size);clear s2 hb2 hB2 hv0;obtain ⟨u4,t4⟩:=HY2.out 12 _ rfl
       go_wp2_with fail
       go_meet
       clear u4 t4;obtain ⟨V,hV⟩:=nm (w2.setCell ⟨wo.heap.size,12,none⟩ (.slice p2 xm d2));rw [←hV];have HV:=hid (show V=d_o w2 wo.heap.size 12 [.slice p2 xm d2] from hV);clear hV;have hz6:V.heap.size=w2.heap.size:=by rw [HV.out,a_R]
       have hkV:Kept (fun b=>Q1 b∧b < wo.heap.size) U V:=by rw [HV.out];exact a_6 (a_C HW2.out) (a_t (fun b hb=>by have:=hb.2;omega))
       have hBV:Below W.heap.size W V:=by rw [HV.out];exact a_h hsz (a_b HB5.out HW2.out)
       have h1:=hBV.size;have hz7:=HZ7.out;have hz5:=HZ5.out;rw [←HUX.out];refine ⟨xa,p2,xc,d2,?_,?_,⟨HXU.out.fcap,?_,?_,?_⟩,hBV⟩
       ·rw [HV.out];exact b_b (xs:=[.slice p2 xm d2]) 12 HY2.out (by simp)
       ·refine h_o (fun b hb=>⟨hb.1,by have:=hb.2.1;omega,hb.2.2⟩) (show d_l W.heap.size (fun b=>Q1 b∧b < wo.heap.size∧(Value.slice va k vc).ownBlock≠some b) V (.slice va k vc) k (n_q XT j k) from ?_);rw [HV.out];exact e_9 (i_N HW2.out HO5.out) HNE.out (fun b hb=>by have:=hb.2.1;omega)
       ·exact b_e (fun b hb=>⟨hb.1,by have:=hb.2;omega,fun h=>by have:=(HOB.out _ h).1;have:=hb.2;omega⟩) (a_z (fun b o v hq hv=>hkV b o v ⟨hq.1,by have:=hq.2;omega⟩ hv) HXU.out.fs)
       ·exact HCP.out
       ·refine b_e (fun b hb=>⟨hb.1.1,by have:=hb.2;omega,fun h=>by have:=(HOB.out _ h).2;have:=hb.1.2;omega⟩) (a_z (Q:=fun b=>(Q1 b∧wo.heap.size < b)∧b < w2.heap.size) (w:=w2) ?_ HS2.out);rw [HV.out];exact a_t (fun b hb=>by have:=hb.1.2;omega)
     ·obtain rfl:xm=0:=by omega
      have HUX:=hid (show x=u by rw [←HUL.out,i_w,if_pos HXN.out.2]);clear hm0
      go_wp2_with fail
      go_meet
      have hz5:=HZ5.out;rw [←HUX.out];exact ⟨xa,ya,xc,yc,Y.out,h_o (fun b hb=>⟨hb.1,by have:=hb.2.1;omega,hb.2.2⟩) HO5.out,b_y (fun b hb=>⟨hb.1,by have:=hb.2;omega,fun h=>by have:=(HOB.out _ h).1;have:=hb.2;omega⟩) HXU.out,HB5.out⟩
    case rest =>
     obtain ⟨xa9,p9,xc9,d9,hy9,ho9,hf9,hb9⟩:=hcut;obtain ⟨V,hV⟩:=nm (wc);subst hV;have ⟨Y2,HO6,HF,HB6⟩:=hh4 hy9 ho9 hf9 hb9;clear hy9 ho9 hf9 hb9 y12;obtain ⟨cs6,own6,fl6⟩:=HO6.out;have ⟨HOW,HFL⟩:=hh2 own6 fl6;clear own6 fl6
     go_wp2_with (first | (refine wpList_load_mid rfl 46 _ rfl wo.heap.size 0 rfl (thC u xa9 xn xc9 p9 xm d9) _ (a_f Y2.out) Tryz.underlying46 rfl (by kernel_rfl) ?_) | (at_builtin;refine wpList_append_own_at _ rfl (.tmp 75) (.tmp 77) 24 rfl W.heap.size 46 j0 (.agg thN.toArray) 13 136 Tryz.underlying24 HJ.out.1 HJ.out.2.1 HJ.out.2.2.1 HJ.out.2.2.2 rfl (by decide) (.slice va k vc) k cs6 rfl (a_8 HOW.out ((Below.refl _ _).alloc (Nat.le_refl _) _)) ⟨V.heap.size,0,none⟩ 1 1 (thC u xa9 xn xc9 p9 xm d9) rfl rfl (e_F _ _ _) (g_9 _ _ _ _ _ _ _) (by have:=HKN.out;unfold maxLen;omega) (by have:=HKN.out;omega) (by have:=HB6.out.size;simp;omega) ?_))
     intro v4 w4 hown hgrow _ hat;obtain ⟨va4,vc4,rfl⟩:=c_D hown;have hbo:∀ g,(Value.slice va k vc).ownBlock=some g→W.heap.size≤g∧g < V.heap.size:=fun g hg=>HOW.out.lt g hg
     have HB7:=hid (show Below W.heap.size W w4 from (HB6.out.alloc (HB6.out.size) _).grown hgrow (by have:=HB6.out.size;simp;omega) (fun g hr=>(hbo g hr).1));have hsz4:V.heap.size≤w4.heap.size:=by have h:=hgrow.size;simp at h;omega
     have HO7:=hid (show u_v W.heap.size Q1 w4 (.slice va4 (k+1) vc4) (k+1) (n_q XT j (k+1)) by
      rw [HNX2.out];have hk:Kept (fun b=>Q1 b∧b < V.heap.size∧(Value.slice va k vc).ownBlock≠some b) V w4:=a_6 (e_u _ _) (c_Y hgrow (fun b hb h=>hb.2.2 h));have hf:=i_r (b_m hk HFL.out) HUN.out (a_w hk HF.out);refine ⟨_,hown,c_l (fun b hb=>⟨hb.1,by have:=hb.2.1;omega,fun h=>?_⟩) hf⟩
      rcases hat with h1 | h1
      ·rw [h1] at h;exact hb.2.2 h
      ·rw [h1] at h;have h3:=Option.some.inj h;have h4:=hb.2.1
       first
        | omega
        | (simp at h3;omega))
     clear hown hgrow hbo hsz4 hat;have hkn:=HKN.out;have hwk:=N171
     go_wp2_with fail
     go_roundw
     case rel=>exact ⟨k+1,va4,vc4,by omega,by go_num,rfl,HO7.out,HB7.out⟩
     case measure=>simp [intOf];omega
   ·obtain rfl:k=n2:=by omega
    obtain ⟨W3,hW3⟩:=nm (wr);subst hW3;obtain ⟨cs,h1,h2⟩:=ho.out;obtain ⟨a9,c9,e9,k1,k2,k3,V9⟩:=e_v (r:=repTh) (Q:=Q1) h1 (c_l (fun b hb=>hb.1) h2) (fun b hb _=>HQ2.out.2.2 b (by have:=HS.out;omega))
    cases e9
    rw [q_D HLN.out] at V9;have HV9:=hid (And.intro (show Cap va k vc from ⟨k1,k2,k3⟩) V9);have HX9:=hid (a_i HB1.out HX.out);have HZ9:=hid (a_i HB1.out HZ.out);have HB9:=hid (a_b HB.out HB1.out);have HR9:=hid (b_G HB1.out HR.out);clear h1 h2 k1 k2 k3 V9 hb ho;obtain ⟨x5,f5⟩:=HX9.out 5 _ rfl
    go_upto_region 17 with fail
    clear x5 f5;obtain ⟨U6,hU6⟩:=nm (W3.setCell ⟨w.heap.size,5,none⟩ (.slice va k vc));rw [←hU6];have HU6:=hid (show U6=d_o W3 w.heap.size 5 [.slice va k vc] from hU6);clear hU6;have HX10:=hid (show a_p U6 w.heap.size (woC (L2.setTh va k vc) D) by rw [HU6.out];exact b_b (xs:=[.slice va k vc]) 5 HX9.out (by simp));have HZ10:=hid (show a_p U6 (w.heap.size+1) woZ by rw [HU6.out];exact a_j (by omega) HZ9.out);have HB10:=hid (show Below w.heap.size w U6 by rw [HU6.out];exact a_h (Nat.le_refl _) HB9.out);have hk10:Kept Q1 W3 U6:=by rw [HU6.out];exact a_t (fun b hb=>by have:=HQ2.out.2.1 b hb;omega)
    have HR10:=hid (show RWo Q1 U6 (L2.setTh va k vc) (d_t X j) from by
     have h:=j_H (X:=p_O X j) (a_B hk10 HR9.out) HV9.out.1 (a_z hk10 HV9.out.2);rw [←HXT.out] at h;exact h)
    clear hk10 HU6 HX9 HZ9 HB9 HR9 HV9
    go_wp2_with (first | (refine wpList_load_mid rfl 33 _ rfl (w.heap.size) 0 rfl (woC (L2.setTh va k vc) D) _ (a_f HX10.out) Tryz.underlying33 rfl (by kernel_rfl) ?_) | (refine a_c rfl 33 _ _ rfl (w.heap.size+1) (woC (L2.setTh va k vc) D).toArray rfl rfl _ HZ10.out rfl (by kernel_rfl) (b_o _ _) ?_;intro U HU))
    have HZ11:=hid (show a_p U (w.heap.size+1) (woC (L2.setTh va k vc) D) by rw [HU.out];exact a_q HZ10.out rfl);refine a_V ⟨w.heap.size+1,0,none⟩ rfl rfl rfl (a_E HZ11.out 33 Tryz.underlying33 rfl (by kernel_rfl)) ?_;have hkU:Kept Q1 U6 U:=by rw [HU.out];exact a_t (fun b hb=>by have:=HQ2.out.2.1 b hb;omega)
    exact a_Y (L:=L2.setTh va k vc) (by rw [show (d_t X j).D=D from HD.out]) (a_D HQ2.out.1 (a_B hkU HR10.out)) (by rw [HU.out];exact a_h (by omega) HB10.out)
end Go.Proofs.YtogdpojnbgeknaaGreatDoor
