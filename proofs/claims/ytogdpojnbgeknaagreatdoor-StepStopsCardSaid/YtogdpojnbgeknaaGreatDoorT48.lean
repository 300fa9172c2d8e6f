import Derived.Test.YtogdpojnbgeknaaGreatDoorT42
import Derived.Test.YtogdpojnbgeknaaGreatDoorT47
import Derived.Test.YtogdpojnbgeknaaGreatDoorT0
import Derived.Test.YtogdpojnbgeknaaGreatDoorT7
set_option maxRecDepth 100000
set_option maxHeartbeats 16000000
namespace Go.Proofs.YtogdpojnbgeknaaGreatDoor
open Go.ChangeShapes Go.WideShapes Go.ChangeAt Go.RowKit
open Gen
open Lib (hid)
theorem j_f (L:WoL) (X:Wo) (k v:Int) (w:World) (R:RWo Any w L X) (hrw:b_i X=true) :
  Calls Tryz.prog 64 #[woV L X.D,.agg #[.int .i64 k,.int .i64 v]] w (b_l (f_e X (k,v)) w):=by
 obtain ⟨y,hy⟩:=mn (f_e X (k,v));rw [hy];obtain ⟨D,hD⟩:=mn (X.D);rw [hD];have ⟨HD,HY,HR,HRW⟩:=hh4 hD hy R hrw;have HTL:=N187;have HBN:=hid (show L.bs.n=L.th.n by have h:=(a_N hrw).2.2.1;have:=R.bs.1;have:=R.th.1;omega);obtain ⟨W,hW⟩:=nm ((w.alloc (Obj.cells (woC L D).toArray 33)).alloc (Obj.cells #[.int .i64 k,.int .i64 v] 68));have HX:=N52;have HA:=hid (show a_p W (w.heap.size+1) [.int .i64 k,.int .i64 v] by rw [hW];exact a_e _ _ (by simp));have HB:=N3;have HW:=hid hW;clear hy hD R hrw hW;unfold woV
 go_enter Tryz.func64,Tryz.ntmps64
 go_upto_region 1 with fail
 rw [←HW.out];obtain ⟨a1,-⟩:=HA.out 1 _ rfl;have h0:=s_u L D v W
 by_cases hv:0≤v∧v < L.th.n
 ·rw [decide_eq_true hv] at h0;have HC:=hid h0;obtain ⟨j,hj⟩:∃ j:Nat,v=j:=⟨v.toNat,by omega⟩;subst hj;have hj:j < L.th.n:=by omega
  have HHW:=hid (show l_H X j=true by rw [l_H,HTL.out];exact decide_eq_true hv);clear h0 hv
  go_wp2_with (refine wpList_load_mid rfl 33 _ rfl (w.heap.size) 0 rfl (woC L D) _ (a_f HX.out) Tryz.underlying33 rfl (by kernel_rfl) ?_)
  refine HC.out.mono ?_;clear HC a1;rintro e1 w1 ⟨rfl,hb1⟩;have HX1:=hid (a_i hb1 HX.out);have HA1:=hid (a_i hb1 HA.out);have HB1:=hid (a_b HB.out hb1);have HR1:=hid (b_G HB1.out HR.out);clear hb1;obtain ⟨a0,-⟩:=HA1.out 0 _ rfl;obtain ⟨a1,-⟩:=HA1.out 1 _ rfl
  by_cases hk:k=0
  ·subst hk;have HYV:=hid (show h_z X j=y by rw [←HY.out,f_e,if_pos rfl];simp only [HHW.out,Bool.true_and,Int.toNat_natCast]);have h0:=q_e L X j w1 HR1.out hj HRW.out;rw [HYV.out,HD.out] at h0;have HC:=hid h0;clear h0
   go_wp2_with (refine wpList_load_mid rfl 33 _ rfl (w.heap.size) 0 rfl (woC L D) _ (a_f HX1.out) Tryz.underlying33 rfl (by kernel_rfl) ?_)
   refine HC.out.mono ?_;clear HC a0 a1;rintro e2 w2 ⟨rfl,hb2⟩;have HB2:=hid (a_b HB1.out hb2);clear hb2
   go_wp2
   go_ret
   exact a_k rfl HB2.out
  ·have hk0:(k==0)=false:=by simpa using hk
   by_cases h1:k=1
   ·subst h1;have HYV:=hid (show decide ((bfW X j).length≠0)=y by rw [←HY.out,f_e,if_neg (by simp)];simp only [HHW.out,Bool.true_and,Int.toNat_natCast,decide_true]);obtain ⟨bb,bo,q,c,hba,hbc,-,-⟩:=f_i HR1.out.bs (i:=j) (by have:=HBN.out;omega);obtain ⟨bl,hbl⟩:=mn ((X.bs.getD j []).length);rw [hbl] at hbc
    have HYW:=hid (show decide (0 < bl)=y by
     rw [←HYV.out,show (bfW X j).length=bl from hbl]
     by_cases e:bl=0
     ·subst e;simp
     ·rw [decide_eq_true (show 0 < bl by omega),decide_eq_true e])
    obtain ⟨x4,-⟩:=HX1.out 4 _ rfl;rw [hba] at x4;have i1:(0:Int)≤j:=by omega
    have i2:(j:Int) < L.bs.n:=by have:=HBN.out;omega
    clear hbl hba
    go_wp2_with fail
    go_ret
    exact a_k HYW.out.symm HB1.out
   ·have hk1:(k==1)=false:=by simpa using h1
    have HYV:=hid (show false=y by rw [←HY.out,f_e,if_neg hk,decide_eq_false h1];simp)
    go_wp2_with fail
    go_ret
    exact a_k (s:=false) HYV.out.symm HB1.out
 ·rw [decide_eq_false hv] at h0;have HC:=hid h0;have HYV:=hid (show false=y by rw [←HY.out,f_e,l_H,HTL.out,decide_eq_false hv];rfl);clear h0 hv
  go_wp2_with (refine wpList_load_mid rfl 33 _ rfl (w.heap.size) 0 rfl (woC L D) _ (a_f HX.out) Tryz.underlying33 rfl (by kernel_rfl) ?_)
  refine HC.out.mono ?_;clear HC a1;rintro e1 w1 ⟨rfl,hb1⟩;have HB1:=hid (a_b HB.out hb1);clear hb1
  go_wp2
  go_ret
  exact a_k (s:=false) HYV.out.symm HB1.out
theorem s_3 (X:Wo) (k:Nat):(d_q X k).D=X.D:=by
 unfold d_q d_5
 repeat' split
 all_goals rfl
theorem m_F {X:Wo} {n:Nat} (h:b_i X=true) (hn:X.th.length=n):t_e n X.th:=fun t ht=>by
 have h1:=(a_N h).2.2.2 t ht;simp only [e_Q,a_1,b_4,Bool.and_eq_true,decide_eq_true_eq,List.all_eq_true] at h1;exact ⟨by have:=h1.2;omega,h1.1.2.2⟩
theorem s_i (Q:Nat→Prop) (L:WoL) (X:Wo) (k v:Int) (w:World) (R:RWo Q w L X) (hQ:∀ b,w.heap.size≤b→Q b) (hrw:b_i X=true) (hen:L.ev.n≤100000) (hwf:∀ j k,k < 8→(Lit.int .i64 ((thW X j).r k)).wf=true) :
  Calls Tryz.prog 29 #[woV L X.D,.agg #[.int .i64 k,.int .i64 v]] w (b_B Q (doW X (k,v)) w):=by
 obtain ⟨Y,hy⟩:=mn (doW X (k,v));rw [hy];obtain ⟨D,hD⟩:=mn (X.D);rw [hD];have ⟨HD,HY,HRW,HEN,HWF⟩:=hh5 hD hy hrw hen hwf;have HTL:=N187;have HBN:=hid (show L.bs.n=L.th.n∧L.th.n≤8 by have h:=(a_N hrw).2.2.1;have h2:=(a_X (a_N hrw).2.1).2.1;have:=R.bs.1;have:=R.th.1;omega);obtain ⟨Q1,hQ1⟩:∃ Q1:Nat→Prop,Q1=fun b=>Q b∧(b < w.heap.size∨w.heap.size+3≤b):=⟨_,rfl⟩
 have HQ2:=N30;have HR:=N41;obtain ⟨W,hW⟩:=nm (((w.alloc (Obj.cells (woC L D).toArray 33)).alloc (Obj.cells #[.int .i64 k,.int .i64 v] 68)).alloc (Obj.cells woZ.toArray 33));have HX:=N70;have HA:=hid (show a_p W (w.heap.size+1) [.int .i64 k,.int .i64 v] by rw [hW];exact a_s _ (a_e _ _ (by simp)));have HZ:=N83;have HB:=N3;have HS:=N123;have HW:=hid hW;clear hy hD R hrw hW hQ1 hQ hen hwf;unfold woV
 go_enter Tryz.func29,Tryz.ntmps29
 go_upto_region 1 with fail
 rw [←HW.out];have h0:=j_f L X k v W (c_J (b_G HB.out HR.out)) HRW.out;rw [HD.out] at h0;obtain ⟨b,hb⟩:=mn (f_e X (k,v));rw [hb] at h0;have ⟨HBB,HC⟩:=hh2 hb h0;clear h0 hb
 go_wp2_with (first | (refine wpList_load_mid rfl 33 _ rfl (w.heap.size) 0 rfl (woC L D) _ (a_f HX.out) Tryz.underlying33 rfl (by kernel_rfl) ?_) | (refine wpList_load_mid rfl 68 _ rfl (w.heap.size+1) 0 rfl [.int .i64 k,.int .i64 v] _ (a_f HA.out) Tryz.underlying68 rfl (by kernel_rfl) ?_))
 refine HC.out.mono ?_;clear HC;rintro e1 w1 ⟨rfl,hb1⟩;have HX1:=hid (a_i hb1 HX.out);have HA1:=hid (a_i hb1 HA.out);have HZ1:=hid (a_i hb1 HZ.out);have HB1:=hid (a_b HB.out hb1);have HR1:=hid (b_G HB1.out HR.out);have HS1:=hid (show w.heap.size+3≤w1.heap.size by have:=hb1.size;have:=HS.out;omega);clear hb1 HX HA HZ HB HS
 cases b with
 | false =>
  have HYF:=hid (show X=Y by rw [←HY.out,doW,if_neg (by rw [HBB.out];decide)])
  go_wp2_with (first | (refine wpList_load_mid rfl 33 _ rfl (w.heap.size) 0 rfl (woC L D) _ (a_f HX1.out) Tryz.underlying33 rfl (by kernel_rfl) ?_) | (refine a_c rfl 33 _ _ rfl (w.heap.size+2) (woC L D).toArray rfl rfl _ HZ1.out rfl (by kernel_rfl) (b_o _ _) ?_;intro U HU))
  have HZ2:=hid (show a_p U (w.heap.size+2) (woC L D) by rw [HU.out];exact a_q HZ1.out rfl);refine a_V ⟨w.heap.size+2,0,none⟩ rfl rfl rfl (a_E HZ2.out 33 Tryz.underlying33 rfl (by kernel_rfl)) ?_;have hkU:Kept Q1 w1 U:=by rw [HU.out];exact a_t (fun b hb=>by have:=HQ2.out.2.1 b hb;omega)
  rw [←HYF.out];exact a_Y (L:=L) (by rw [HD.out]) (a_D HQ2.out.1 (a_B hkU HR1.out)) (by rw [HU.out];exact a_h (by omega) HB1.out)
 | true =>
  have hdd:=HBB.out;unfold f_e at hdd
  have hh:l_H X v=true:=by
   have h1:=hdd;simp only [Bool.and_eq_true] at h1;exact h1.1
  rw [l_H,HTL.out,decide_eq_true_eq] at hh;obtain ⟨j,hj⟩:∃ j:Nat,v=j:=⟨v.toNat,by omega⟩;subst hj;have hj:j < L.th.n:=by omega
  obtain ⟨a0,-⟩:=HA1.out 0 _ rfl;obtain ⟨a1,-⟩:=HA1.out 1 _ rfl;have hQw:∀ b,w1.heap.size≤b→Q1 b:=fun b hb=>HQ2.out.2.2 b (by have:=HS1.out;omega)
  by_cases hk:k=0
  ·subst hk;have HYF:=hid (show d_q X j=Y by rw [←HY.out,doW,if_pos HBB.out,if_pos rfl,Int.toNat_natCast]);have h0:=n_D Q1 L X j w1 HR1.out hj hQw (by have:=HBN.out.2;omega) HEN.out HRW.out (HWF.out j);rw [HYF.out,HD.out] at h0;have HC:=hid h0;have HDY:=hid (show Y.D=D by rw [←HYF.out,←HD.out];exact s_3 X j);clear h0 hdd hh hQw;exact J29
  ·have hk0:(k==0)=false:=by simpa using hk
   have hb0:(bfW X j).length≠0:=by
    simp only [if_neg hk,Bool.and_eq_true,decide_eq_true_eq,Int.toNat_natCast] at hdd;exact hdd.2.2
   have HYF:=hid (show d_t X j=Y by rw [←HY.out,doW,if_pos HBB.out,if_neg hk,Int.toNat_natCast]);have hm:=a_X (a_N HRW.out).2.1;have h0:=m_z Q1 L X j w1 HR1.out hj hQw HBN.out.2 HBN.out.1 (by have h:=(hm.2.2.2 j (by have:=HR1.out.bs.1;have:=HBN.out.1;omega)).1;have:=hm.2.2.1.2;show (X.bs.getD j []).length≤8;omega) (by omega) hm.1 (m_F HRW.out HTL.out);rw [HYF.out,HD.out] at h0;have HC:=hid h0;have HDY:=N134;clear h0 hdd hh hQw hm hb0 hk;exact J29
def j_G (X:Wo):List (Int×Int)→Nat
 | []=>0
 | a::l=>(if f_e X a=true then 1 else 0)+j_G (doW X a) l
theorem q_5 {l:List (Int×Int)}:∀ {X:Wo} {a:Int×Int},j_G X (l++[a])=j_G X l+(if f_e (h_E X l) a=true then 1 else 0):=by
 induction l with
 | nil=>intro X a;show _+0=0+_;rw [Nat.add_zero,Nat.zero_add];rfl
 | cons b l ih =>
  intro X a;rw [List.cons_append,j_G,ih,j_G,Nat.add_assoc]
  rfl
theorem p_e {X:Wo} {l:List (Int×Int)} {k:Nat} {a:Int×Int} (h:l[k]?=some a):j_G X (l.take (k+1))=j_G X (l.take k)+(if f_e (h_E X (l.take k)) a=true then 1 else 0):=by
 obtain ⟨hk,rfl⟩:=List.getElem?_eq_some_iff.1 h;rw [List.take_succ_eq_append_getElem hk,q_5]
theorem s_1 {l:List (Int×Int)}:∀ {X:Wo},j_G X l≤l.length:=by
 induction l with
 | nil=>intro X;exact Nat.le_refl _
 | cons a l ih =>
  intro X;have:=@ih (doW X a);rw [j_G,List.length_cons]
  split <;> omega
def i_i (Q:Nat→Prop) (Y:Wo) (n:Nat) (w:World) (e:Ending) (w':World):Prop:=∃ L,e=.returned (.tuple #[woV L Y.D,.int .i64 n])∧RWo Q w' L Y∧Below w.heap.size w w'
theorem l_q (Q:Nat→Prop) (L:WoL) (X:Wo) (acts:List (Int×Int)) (m:Nat) (aa:Option Addr) (an ac:Nat) (w:World) (R:RWo Q w L X) (A:Vs e_U Any w aa an acts) (hQ:∀ b,w.heap.size≤b→Q b) (ok:OkW X m) (hm:m+an≤100000) :
  Calls Tryz.prog 28 #[woV L X.D,.slice aa an ac] w (i_i Q (h_E X acts) (j_G X acts) w):=by
 have HSL:=hid (show acts.length=an from A.1);obtain ⟨D,hD⟩:=mn (X.D);obtain ⟨Q1,hQ1⟩:∃ Q1:Nat→Prop,Q1=fun b=>Q b∧(b < w.heap.size∨w.heap.size+2≤b):=⟨_,rfl⟩
 have HQ2:=N102;obtain ⟨W,hW⟩:=nm ((w.alloc (Obj.cells (woC L X.D).toArray 33)).alloc (Obj.cells woZ.toArray 33));have HX:=hid (show a_p W w.heap.size (woC L X.D) by rw [hW];exact a_s _ (a_e _ _ rfl));have HZ:=N236;have HB:=N3;have HSZ:=N43;have HRW:=hid (show RWo Q1 W L X from a_D (fun b h=>by rw [hQ1];exact ⟨h.1,.inl h.2⟩) (a_B (c_o HB.out (fun _ h=>h.2)) (c_e R)));have ⟨HA,HOK,HMM,HW⟩:=hh4 A ok hm hW;clear hW R A hQ ok hm hQ1 hD;unfold woV
 go_enter Tryz.func28,Tryz.ntmps28
 go_upto_region 1 with fail
 rw [←HW.out]
 go_wp2_with fail
 go_loopw [6,11] (fun c i wr=>∃ (k:Nat) (L1:WoL),k≤an∧i=.int .i64 k∧c=.int .i64 (j_G X (acts.take k))∧Hid (a_p wr w.heap.size (woC L1 (h_E X (acts.take k)).D))∧Hid (a_p wr (w.heap.size+1) woZ)∧Hid (Below w.heap.size w wr)∧Hid (RWo Q1 wr L1 (h_E X (acts.take k)))) (fun _ i _=>an - (intOf i).toNat)
 case atStart=>exact ⟨0,L,Nat.zero_le _,rfl,rfl,HX.out,HZ.out,HB.out,HRW.out⟩
 case round =>
  obtain ⟨k,L1,hk,rfl,rfl,hx,hz,hb,hr⟩:=hrel;have hsz:=a_P hz.out (by simp);have HSX:=hid (show w.heap.size+2≤wr.heap.size by omega)
  by_cases hlt:k < an
  ·obtain ⟨b,o,⟨p,v⟩,rfl,ht,-,hA⟩:=j_P HA.out hlt;obtain ⟨cs,hc1,hc2⟩:=hA;have hc1:cs=[.int .i64 p,.int .i64 v]:=hc1;subst hc1;have HRA:=hid (show wr.rangeAt b (o+k*2) [.int .i64 p,.int .i64 v] from fun j u hu=>a_u hb.out (hc2 j u hu));have HTK:=hid (q_7 (X:=X) ht);have HNK:=hid (p_e (X:=X) ht);have hok:=k_Q (l:=acts.take k) HOK.out;rw [List.length_take,HSL.out,Nat.min_eq_left hk] at hok;have HOZ:=hid hok;have HNL:=hid (show j_G X (acts.take k)≤100000 by have:=s_1 (X:=X) (l:=acts.take k);rw [List.length_take] at this;have:=HMM.out;omega);obtain ⟨Z,hZ⟩:=mn (h_E X (acts.take k));obtain ⟨nn,hnn⟩:=mn (j_G X (acts.take k));rw [hZ] at HTK HNK hx hr HOZ;rw [hnn] at HNK HNL ⊢;have HHX:=hx;have HHZ:=hz;have HHB:=hb;have HHR:=hr;have i1:(0:Int)≤k:=by omega
   have i2:(k:Int) < an:=by omega
   have hwk:wrap64 ((k:Int)+1)=k+1:=IntWalk.wrap64_in _ (by have:=HMM.out;omega);have hwn:wrap64 ((nn:Int)+1)=nn+1:=IntWalk.wrap64_in _ (by have:=HNL.out;omega);clear hx hz hb hr hc2 ht hZ hnn hok hsz
   go_upto_region 5 with (first | (refine wpList_load_mid rfl 68 _ rfl b (o+k*2) rfl [.int .i64 p,.int .i64 v] _ HRA.out Tryz.underlying68 rfl (by kernel_rfl) ?_) | (refine a_c rfl 68 _ _ rfl wr.heap.size #[.int .i64 p,.int .i64 v] rfl rfl _ (a_e [.int .i64 0,.int .i64 0] wr.heap.size rfl) rfl (by kernel_rfl) (by simp [Value.oneCell']) ?_;intro U HU))
   have HBU0:=hid (show Below wr.heap.size wr U by rw [HU.out];exact a_h (Nat.le_refl _) ((Below.refl _ _).alloc (Nat.le_refl _) _));have HUX:=hid (a_i HBU0.out HHX.out);have HUZ:=hid (a_i HBU0.out HHZ.out);have HUA:=hid (show a_p U wr.heap.size [.int .i64 p,.int .i64 v] by rw [HU.out];exact a_q (a_e [.int .i64 0,.int .i64 0] wr.heap.size rfl) rfl);have HUB:=hid (a_b HHB.out HBU0.out);have HUR:=hid (b_G HBU0.out HHR.out);have HSU:=hid (show w.heap.size+2≤U.heap.size by have:=HBU0.out.size;have:=HSX.out;omega);have HC:=hid (j_f L1 Z p v U (c_J HUR.out) HOZ.out.right);clear HU
   go_wp2_with (first | (refine wpList_load_mid rfl 33 _ rfl w.heap.size 0 rfl (woC L1 Z.D) _ (a_f HUX.out) Tryz.underlying33 rfl (by kernel_rfl) ?_) | (refine wpList_load_mid rfl 68 _ rfl wr.heap.size 0 rfl [.int .i64 p,.int .i64 v] _ (a_f HUA.out) Tryz.underlying68 rfl (by kernel_rfl) ?_))
   refine HC.out.mono ?_;clear HC;rintro e1 w1 ⟨rfl,hb1⟩;have H1X:=hid (a_i hb1 HUX.out);have H1Z:=hid (a_i hb1 HUZ.out);have H1A:=hid (a_i hb1 HUA.out);have H1B:=hid (a_b HUB.out hb1);have H1R:=hid (b_G hb1 HUR.out);have HS1:=hid (show w.heap.size+2≤w1.heap.size by have:=hb1.size;have:=HSU.out;omega);clear hb1
   cases hd:f_e Z (p,v) with
   | false =>
    have HTK2:=hid (show h_E X (acts.take (k+1))=Z by rw [HTK.out,doW,if_neg (by rw [hd];decide)]);have HNK2:=hid (show j_G X (acts.take (k+1))=nn by rw [HNK.out,if_neg (by rw [hd];decide)];rfl);clear hd
    go_wp2_with fail
    go_roundw
    case rel=>exact ⟨k+1,L1,by omega,by go_num,by rw [HNK2.out],by rw [HTK2.out];exact H1X.out,H1Z.out,H1B.out,by rw [HTK2.out];exact H1R.out⟩
    case measure=>rw [hwk];simp only [intOf];omega
   | true =>
    have HNK2:=hid (show j_G X (acts.take (k+1))=nn+1 by rw [HNK.out,if_pos hd]);have HC:=hid (s_i Q1 L1 Z p v w1 H1R.out (fun b hb=>HQ2.out.2.2 b (by have:=HS1.out;omega)) HOZ.out.right (by have h:=HOZ.out.ev;have h2:=H1R.out.ev.1;have:=HMM.out;omega) (h_s HOZ.out.wf));obtain ⟨Y,hY⟩:=mn (doW Z (p,v));rw [hY] at HC HTK;clear hd hY
    go_upto_region 7 with fail
    go_wp2_with (first | (refine wpList_load_mid rfl 33 _ rfl w.heap.size 0 rfl (woC L1 Z.D) _ (a_f H1X.out) Tryz.underlying33 rfl (by kernel_rfl) ?_) | (refine wpList_load_mid rfl 68 _ rfl wr.heap.size 0 rfl [.int .i64 p,.int .i64 v] _ (a_f H1A.out) Tryz.underlying68 rfl (by kernel_rfl) ?_))
    refine HC.out.mono ?_;clear HC;rintro e2 w2 ⟨L9,rfl,hr9,hb2⟩;have H2X:=hid (a_i hb2 H1X.out);have H2Z:=hid (a_i hb2 H1Z.out);have H2B:=hid (a_b H1B.out hb2);have H2R:=hid hr9;clear hr9 hb2
    go_upto_region 8 with (refine a_c rfl 33 _ _ rfl w.heap.size (woC L9 Y.D).toArray rfl rfl _ H2X.out rfl (by kernel_rfl) (b_o _ _) ?_;intro V HV)
    have H3X:=hid (show a_p V w.heap.size (woC L9 Y.D) by rw [HV.out];exact a_q H2X.out rfl);have H3Z:=hid (show a_p V (w.heap.size+1) woZ by rw [HV.out];exact a_j (by omega) H2Z.out);have H3B:=hid (show Below w.heap.size w V by rw [HV.out];exact a_h (Nat.le_refl _) H2B.out);have H3R:=hid (show RWo Q1 V L9 Y from a_B (by rw [HV.out];exact a_t (fun b hb=>by have:=HQ2.out.2.1 b hb;omega)) H2R.out);clear HV
    go_wp2_with fail
    go_roundw
    case rel=>exact ⟨k+1,L9,by omega,by go_num,by rw [HNK2.out];rfl,by rw [HTK.out];exact H3X.out,H3Z.out,H3B.out,by rw [HTK.out];exact H3R.out⟩
    case measure=>rw [hwk];simp only [intOf];omega
  ·obtain rfl:k=an:=by omega
   have hr2:=hr.out;have hx2:=hx.out;rw [List.take_of_length_le (by have:=HSL.out;omega)] at hr2 hx2 ⊢;have ⟨HHX,HHR⟩:=hh2 hx2 hr2;have HHB:=hb;have HHZ:=hz;clear hx hr hz hb hx2 hr2
   go_wp2_with (first | (refine wpList_load_mid rfl 33 _ rfl w.heap.size 0 rfl (woC L1 (h_E X acts).D) _ (a_f HHX.out) Tryz.underlying33 rfl (by kernel_rfl) ?_) | (refine a_c rfl 33 _ _ rfl (w.heap.size+1) (woC L1 (h_E X acts).D).toArray rfl rfl _ HHZ.out rfl (by kernel_rfl) (b_o _ _) ?_;intro V HV))
   refine a_l ⟨w.heap.size+1,0,none⟩ rfl rfl rfl (a_E (show a_p V (w.heap.size+1) (woC L1 (h_E X acts).D) by rw [HV.out];exact a_q HHZ.out rfl) 33 Tryz.underlying33 rfl (by kernel_rfl)) ?_;exact ⟨L1,rfl,a_D HQ2.out.1 (a_B (by rw [HV.out];exact a_t (fun b hb=>by have:=HQ2.out.2.1 b hb;omega)) HHR.out),by rw [HV.out];exact a_h (by omega) HHB.out⟩
end Go.Proofs.YtogdpojnbgeknaaGreatDoor
