import Derived.Test.YtogdpojnbgeknaaGreatDoorT6
import Derived.Test.YtogdpojnbgeknaaGreatDoorT5
import Derived.Test.YtogdpojnbgeknaaGreatDoorT0
import Derived.OpenShut
namespace Go.Proofs.YtogdpojnbgeknaaGreatDoor
open Go.RowKit
theorem d_N {i:Ins} {m:Int} (h:c_M i m=true):(0≤i.1∧i.1 < 27)∧∀ k,k < 3→kOk i m (opSign.getD i.1.toNat []) k=true:=by
  simp only [c_M,Bool.and_eq_true,decide_eq_true_eq,List.all_eq_true] at h;exact ⟨h.1,fun k hk=>h.2 k (List.mem_range.2 hk)⟩
theorem c_4 {i:Ins} {m:Int} (h:c_M i m=true) (ho:i.1=16∨i.1=17∨(19≤i.1∧i.1≤21)∨(23≤i.1∧i.1≤25)):(0≤i.2.1∧i.2.1≤7)∧(0≤i.2.2.1∧i.2.2.1≤7)∧((19≤i.1∧i.1≤21)→0≤i.2.2.2∧i.2.2.2≤7):=by
  obtain ⟨o,a,b,c⟩:=i;obtain ⟨-,h2⟩:=d_N h;simp only at ho ⊢;have k0:=h2 0 (by omega);have k1:=h2 1 (by omega);have k2:=h2 2 (by omega)
  rcases (show o=16∨o=17∨o=19∨o=20∨o=21∨o=23∨o=24∨o=25 by omega) with rfl | rfl | rfl | rfl | rfl | rfl | rfl | rfl <;>
    (simp [kOk,opSign,e_a,b_S] at k0 k1 k2;omega)
theorem k_x {i:Ins} {m:Int} (h:c_M i m=true) (hm:m≤1000) (ho:1≤i.1∧i.1≤15):c_3 i=true:=by
  obtain ⟨o,a,b,c⟩:=i;obtain ⟨-,h2⟩:=d_N h;simp only at ho;have k0:=h2 0 (by omega);have k1:=h2 1 (by omega);have k2:=h2 2 (by omega)
  rcases (show o=1∨o=2∨o=3∨o=4∨o=5∨o=6∨o=7∨o=8∨o=9∨o=10∨o=11∨o=12∨o=13∨o=14∨o=15 by omega) with rfl | rfl | rfl | rfl | rfl | rfl | rfl | rfl | rfl | rfl | rfl | rfl | rfl | rfl | rfl <;>
    (simp [kOk,opSign,e_a,b_S] at k0 k1 k2
     simp [c_3,g_y,h_Z,n_r,opd,List.range_succ]
     try omega)
theorem m_b {X:Wo} {k:Nat} (h:(X.code.length:Int)≤(thW X k).pc):d_q X k=b_j X k (b_t (thW X k) 3):=by
  have e:h_m X k=3:=by rw [h_m,if_pos h]
  rw [d_q,e,if_neg (by decide)]
theorem p_p {X:Wo} {k:Nat} (h:(thW X k).pc < X.code.length):d_q X k=if d_f X k (thW X k) (inW X (thW X k).pc)=0 then d_5 X k (thW X k) (inW X (thW X k).pc) else b_j X k (b_t (thW X k) (d_f X k (thW X k) (inW X (thW X k).pc))):=by
  have e:h_m X k=d_f X k (thW X k) (inW X (thW X k).pc):=by rw [h_m,if_neg (by omega)]
  rw [d_q,e]
def goX (X:Wo) (k:Nat) (t:Thr) (i:Ins):Wo:=if d_f X k t i=0 then d_5 X k t i else b_j X k (b_t t (d_f X k t i))
theorem s_r {X:Wo} {k:Nat} {t:Thr} {i:Ins} (h:i.1=0):goX X k t i=b_j X k { t with st:=1 }:=by
  simp [goX,d_f,d_5,h]
theorem s_s {X:Wo} {k:Nat} {t:Thr} {i:Ins} (h:1≤i.1∧i.1≤15) (hl:t.lf.length≠0):goX X k t i=b_j X k (b_t t 9):=by
  have e:d_f X k t i=9:=by rw [d_f,if_pos h,if_neg hl]
  rw [goX,e,if_neg (by decide)]
theorem t_L {X:Wo} {k:Nat} {t:Thr} {i:Ins} (h:1≤i.1∧i.1≤15) (hl:t.lf.length=0):goX X k t i=if doE t i=0 then b_j X k (doT t k i) else b_j X k (b_t t (doE t i)):=by
  have e:d_f X k t i=doE t i:=by rw [d_f,if_pos h,if_pos hl]
  rw [goX,e];congr 1;rw [d_5,if_neg (by omega),if_pos h]
theorem r_K {X:Wo} {k:Nat} {t:Thr} {i:Ins} (h:i.1=16∨i.1=17):goX X k t i=p_L X k t i:=by
  rcases h with h | h
  · have e:d_f X k t i=c_5 X.ws X.ts X.D X.bs k (wrap64 (rgt t i.2.2.1+i.2.2.2)):=by rw [d_f,if_neg (by omega),if_pos h]
    rw [goX,e,p_L,if_pos h,t_P];congr 1;rw [d_5,if_neg (by omega),if_neg (by omega),if_pos h]
  · have e:d_f X k t i=b_d X.ws X.ts X.D X.bs k (wrap64 (rgt t i.2.2.1+i.2.2.2)):=by rw [d_f,if_neg (by omega),if_neg (by omega),if_pos h]
    rw [goX,e,p_L,if_neg (show ¬ i.1=16 by omega),r_V];congr 1;rw [d_5,if_neg (by omega),if_neg (by omega),if_neg (by omega),if_pos h]
theorem s_t {X:Wo} {k:Nat} {t:Thr} {i:Ins} (h:19≤i.1∧i.1≤21):goX X k t i=k_I X k t i:=by
  have e:d_f X k t i=b_v X.ws X.ts X.D X.bs k (i.1 - 19) (rgt t i.2.2.1):=by rw [d_f,if_neg (by omega),if_neg (by omega),if_neg (by omega),if_pos h]
  rw [goX,e,k_I];congr 1;rw [d_5,if_neg (by omega),if_neg (by omega),if_neg (by omega),if_neg (by omega),if_pos h]
theorem q_p {X:Wo} {k:Nat} {t:Thr} {i:Ins} (h:i.1=22):goX X k t i=g_p X k t:=by
  have e:=N86;rw [goX,e,if_pos rfl,d_5,if_neg (by omega),if_neg (by omega),if_neg (by omega),if_neg (by omega),if_neg (by omega),if_pos h,g_p]
theorem n_7 {X:Wo} {k:Nat} {t:Thr} {i:Ins} (h:i.1=24∨i.1=25):goX X k t i=i_x X k t i:=by
  have e:d_f X k t i=c_C X.ws X.ts (rgt t i.2.1) (rgt t i.2.2.1) (i.1 - 23):=by rw [d_f,if_neg (by omega),if_neg (by omega),if_neg (by omega),if_neg (by omega),if_pos h]
  rw [goX,e,i_x];congr 1;rw [d_5,if_neg (by omega),if_neg (by omega),if_neg (by omega),if_neg (by omega),if_neg (by omega),if_neg (by omega),if_pos h]
theorem q_q {X:Wo} {k:Nat} {t:Thr} {i:Ins} (h:i.1=26):goX X k t i={ b_j X k (b_h t) with ev:=X.ev++[(i.2.1,(k:Int),t.r 0,t.r 1,t.r 2,t.r 3)] }:=by
  have e:=N86;rw [goX,e,if_pos rfl,d_5,if_neg (by omega),if_neg (by omega),if_neg (by omega),if_neg (by omega),if_neg (by omega),if_neg (by omega),if_neg (by omega),if_pos h]
theorem n_8 {X:Wo} {k:Nat} {t:Thr} {i:Ins} (h:i.1=18∨i.1=23):goX X k t i=b_j X k (b_h t):=by
  have e:=N86;rw [goX,e,if_pos rfl,d_5,if_neg (by omega),if_neg (by omega),if_neg (by omega),if_neg (by omega),if_neg (by omega),if_neg (by omega),if_neg (by omega),if_neg (by omega)]
end Go.Proofs.YtogdpojnbgeknaaGreatDoor
namespace Go.Proofs.YtogdpojnbgeknaaGreatDoor
theorem mayT_iff {ws ts:List Int} {D:Int} {bs:List (List (Int×Int))}:d_O ws ts D bs=true ↔ d_g ws ts=true∧c_0 bs.length D=true∧∀ b∈bs,h_x ws.length D b=true:=by
 simp only [d_O,Bool.and_eq_true,List.all_eq_true,and_assoc]
theorem n_N {N:Nat} {D x v:Int} {b:List (Int×Int)} (hb:h_x N D b=true) (hl:(b.length:Int)≠D) (h0:0≤x) (h1:x < N):h_x N D (b++[(x,v)])=true:=by
 simp only [h_x,Bool.and_eq_true,decide_eq_true_eq,List.all_eq_true] at hb ⊢;refine ⟨by rw [List.length_append,List.length_singleton];have:=hb.1;omega,fun p hp=>?_⟩
 rcases List.mem_append.1 hp with h | h
 ·exact hb.2 p h
 ·simp at h;subst h;simp [inP,h0,h1]
theorem f_9 {ws ts:List Int} {D x v:Int} {bs:List (List (Int×Int))} (hm:d_O ws ts D bs=true) (hu:a_I ws ts x=0):d_O (ws.set x.toNat v) ts D bs=true:=by
 obtain ⟨h1,h2,h3⟩:=mayT_iff.1 hm;obtain ⟨_,_,_,ht⟩:=d_V hu;refine mayT_iff.2 ⟨s_F h1 (by rw [ht];decide),h2,?_⟩;rw [List.length_set];exact h3
theorem h_1 {ws ts:List Int} {D:Int} {bs:List (List (Int×Int))} {j:Nat} {b:List (Int×Int)} (hm:d_O ws ts D bs=true) (hb:h_x ws.length D b=true):d_O ws ts D (bs.set j b)=true:=by
 obtain ⟨h1,h2,h3⟩:=mayT_iff.1 hm;refine mayT_iff.2 ⟨h1,by rw [List.length_set];exact h2,fun c hc=>?_⟩
 rcases List.mem_or_eq_of_mem_set hc with h | h
 ·exact h3 c h
 ·rw [h];exact hb
theorem o_F {ws ts:List Int} {D th:Int} {bs:List (List (Int×Int))} (h:j_i ws ts D bs th=true):h_x ws.length D (d_L bs th)=true:=by
 obtain ⟨hm,h0,h1⟩:=d_e h;have e:d_L bs th=bs[th.toNat]'(by omega):=by simp [d_L,show th.toNat < bs.length by omega]
 rw [e];exact (mayT_iff.1 hm).2.2 _ (List.getElem_mem _)
theorem n_e {ws ts:List Int} {D th x:Int} {bs:List (List (Int×Int))} (h:b_d ws ts D bs th x=0):j_i ws ts D bs th=true∧a_I ws ts x=0∧(D=0∨(D≠0∧((d_L bs th).length:Int)≠D)):=by
 unfold b_d at h
 split at h
 ·rename_i h1
  split at h
  ·rename_i h2
   refine ⟨h1,h2,?_⟩
   split at h
   ·left;assumption
   ·rename_i h3
    split at h
    ·simp at h
    ·right;exact ⟨h3,by assumption⟩
  ·exact absurd h (by assumption)
 ·simp at h
end Go.Proofs.YtogdpojnbgeknaaGreatDoor
namespace Go.Proofs.YtogdpojnbgeknaaGreatDoor
open Go.RowKit
theorem f_Q {X:Wo} (h1:c_a X.code=true) (h2:d_O X.ws X.ts X.D X.bs=true) (h3:X.th.length=X.bs.length) (h4:∀ t∈X.th,e_Q X.th.length t=true):b_i X=true:=by
 simp only [b_i,Bool.and_eq_true,decide_eq_true_eq,List.all_eq_true];exact ⟨⟨⟨h1,h2⟩,h3⟩,h4⟩
theorem oneW_iff {n:Nat} {t:Thr}:e_Q n t=true ↔ (0≤t.pc∧t.pc≤1000)∧c_n t.fs=true∧f_x t.st t.ft=true∧b_4 t.lf=true∧(t.lf.length=0∨t.lf.length=n):=by
 simp only [e_Q,a_1,Bool.and_eq_true,decide_eq_true_eq,and_assoc]
theorem b_W {X:Wo} {k:Nat} {t:Thr} (h:b_i X=true) (ht:e_Q X.th.length t=true):b_i (b_j X k t)=true:=by
 obtain ⟨h1,h2,h3,h4⟩:=a_N h;refine f_Q h1 h2 ?_ ?_
 ·show (X.th.set k t).length=_
  rw [List.length_set];exact h3
 ·intro u hu
  show e_Q (X.th.set k t).length u=true
  rw [List.length_set]
  rcases List.mem_or_eq_of_mem_set hu with h | h
  ·exact h4 u h
  ·subst h;exact ht
theorem f_y {X:Wo} {ws ts:List Int} {bs:List (List (Int×Int))} (h:b_i X=true) (hm:d_O ws ts X.D bs=true) (hl:bs.length=X.bs.length):b_i { X with ws:=ws,ts:=ts,bs:=bs }=true:=by
 obtain ⟨h1,-,h3,h4⟩:=a_N h;exact f_Q (X:={ X with ws:=ws,ts:=ts,bs:=bs }) h1 hm (h3.trans hl.symm) h4
theorem g_8 {n:Nat} {t:Thr} {e:Int} (h:e_Q n t=true) (h1:1≤e) (h2:e≤16):e_Q n (b_t t e)=true:=by
 rw [oneW_iff] at h ⊢;refine ⟨h.1,h.2.1,?_,h.2.2.2⟩;simp only [b_t,f_x,decide_eq_true_eq];exact .inl ⟨trivial,h1,h2⟩
theorem r_N {n:Nat} {t:Thr} {pc:Int} {r:Nat→Int} (h:e_Q n t=true) (hp:0≤pc∧pc≤1000):e_Q n ⟨pc,r,t.fs,t.st,t.ft,t.lf⟩=true:=by
 rw [oneW_iff] at h ⊢;exact ⟨hp,h.2⟩
theorem f_M {n:Nat} {t:Thr} (h:e_Q n t=true) (hp:t.pc < 1000):e_Q n (b_h t)=true:=by
 have:=(oneW_iff.1 h).1;exact r_N h (by omega)
theorem o_X {n:Nat} {t:Thr} {a v:Int} (h:e_Q n t=true) (hp:t.pc < 1000):e_Q n (c_Z t a v)=true:=by
 have:=(oneW_iff.1 h).1;exact r_N h (by omega)
theorem o_W {n:Nat} {t:Thr} {l:List Int} (h:e_Q n t=true) (h1:b_4 l=true) (h2:l.length=0∨l.length=n):e_Q n { t with lf:=l }=true:=by
 rw [oneW_iff] at h ⊢;exact ⟨h.1,h.2.1,h.2.2.1,h1,h2⟩
def E16 (e:Int):Prop:=0≤e∧e≤16
theorem p_v (t:Int):E16 (r_k t):=by unfold r_k E16;repeat' split;all_goals omega
theorem r_i (t:Int):E16 (r_h t):=by unfold r_h E16;repeat' split;all_goals omega
theorem f_X (ws ts:List Int) (i:Int):E16 (a_I ws ts i):=by
 unfold a_I
 split
 ·split
  ·exact p_v _
  ·unfold E16;omega
 ·unfold E16;omega
theorem o_u {ws ts:List Int} {D:Int} {bs:List (List (Int×Int))} {th x:Int}:E16 (c_5 ws ts D bs th x):=by
 unfold c_5;split
 ·exact f_X _ _ _
 ·unfold E16;omega
theorem n_d {ws ts:List Int} {D:Int} {bs:List (List (Int×Int))} {th x:Int}:E16 (b_d ws ts D bs th x):=by
 unfold b_d;split
 ·split
  ·repeat' split
   all_goals (unfold E16;omega)
  ·exact f_X _ _ _
 ·unfold E16;omega
theorem o_z {ws ts:List Int} {D:Int} {bs:List (List (Int×Int))} {th k x:Int}:E16 (b_v ws ts D bs th k x):=by
 unfold b_v;split
 ·split
  ·exact f_X _ _ _
  ·unfold E16;omega
 ·unfold E16;omega
theorem s_0 (tag t:Int):E16 (i_W tag t):=by
 unfold i_W;split
 ·exact r_i _
 ·exact p_v _
theorem q_8 {f:Int→Int} (hf:∀ t,E16 (f t)) (ts:List Int) (i k:Nat):E16 (f_h f ts i k):=by
 induction k with
 | zero=>unfold f_h E16;omega
 | succ k ih =>
  unfold f_h
  split
  ·exact hf _
  ·exact ih
theorem q_F {ws ts:List Int} {i k tag:Int}:E16 (c_C ws ts i k tag):=by
 unfold c_C;split
 ·split
  ·exact q_8 (s_0 _) _ _ _
  ·unfold E16;omega
 ·unfold E16;omega
theorem t_H {t:Thr} {i:Ins}:E16 (doE t i):=by
 unfold doE d_w e_g
 repeat' split
 all_goals (unfold E16;omega)
theorem s_y {X:Wo} {k:Nat} {t:Thr} {i:Ins}:E16 (d_f X k t i):=by
 unfold d_f
 split
 ·split
  ·exact t_H
  ·unfold E16;omega
 ·repeat' split
  ·exact o_u
  ·exact n_d
  ·exact o_z
  ·exact q_F
  ·unfold E16;omega
theorem g_h {X:Wo} {k:Nat} (hk:k < X.th.length):thW X k∈X.th:=by
 rw [thW,List.getD_eq_getElem?_getD,List.getElem?_eq_getElem hk];exact List.getElem_mem hk
theorem o_n {X:Wo} {pc:Int} (h0:0≤pc) (h1:pc < X.code.length):inW X pc∈X.code:=by
 exact J97
theorem d_n {c:List Ins} (h:c_a c=true):c.length≤1000∧∀ i∈c,c_M i c.length=true:=by
 simpa only [c_a,Bool.and_eq_true,decide_eq_true_eq,List.all_eq_true] using h
theorem s_e {X:Wo} {k:Nat} (h:b_i X=true) (hk:k < X.th.length):h_x X.ws.length X.D (bfW X k)=true:=by
 obtain ⟨-,h2,h3,-⟩:=a_N h;refine (mayT_iff.1 h2).2.2 _ ?_;rw [bfW,List.getD_eq_getElem?_getD,List.getElem?_eq_getElem (show k < X.bs.length by omega)];exact List.getElem_mem _
theorem i_J {X:Wo} (h:b_i X=true):b_4 (b_2 X)=true:=by
 obtain ⟨-,h2,-,-⟩:=a_N h;obtain ⟨-,hb,hd,-⟩:=a_X h2;simp only [b_4,b_2,List.length_map,Bool.and_eq_true,decide_eq_true_eq,List.all_eq_true,List.mem_map];refine ⟨by omega,?_⟩;rintro z ⟨b,hbm,rfl⟩;have:=(mayT_iff.1 h2).2.2 b hbm;simp only [h_x,Bool.and_eq_true,decide_eq_true_eq] at this
 omega
theorem q_r {X:Wo} {k:Nat} {t:Thr} {i:Ins} (h:b_i X=true) (hk:k < X.th.length) (ht:e_Q X.th.length t=true) (hst:t.st=0) (hpc:t.pc < 1000) (hi:c_M i X.code.length=true) (hc:X.code.length≤1000):b_i (goX X k t i)=true:=by
 have hE:=s_y (X:=X) (k:=k) (t:=t) (i:=i);have h2:=(a_N h).2.1;have h3:=(a_N h).2.2.1;have hmb:=(mayT_iff.1 h2).1;unfold goX
 split
 ·rename_i he
  unfold d_5
  split
  ·refine b_W h ?_;rw [oneW_iff] at ht ⊢;refine ⟨ht.1,ht.2.1,?_,ht.2.2.2⟩;have h9:=ht.2.2.1;simp only [f_x,decide_eq_true_eq] at h9 ⊢;refine .inr ⟨.inr trivial,?_⟩
   rcases h9 with h9 | h9
   ·rw [hst] at h9;exact absurd h9.1 (by decide)
   ·exact h9.2
  ·split
   ·rename_i h0 hl
    by_cases hlf:t.lf.length=0
    ·have hd:doE t i=0:=by rw [d_f,if_pos hl,if_pos hlf] at he;exact he
     have hrt:a_1 t=true:=by simp only [e_Q,Bool.and_eq_true] at ht;exact ht.1
     have hb8:X.bs.length≤8:=(a_X h2).2.1.2;have hk8:k < 8:=by have:=(a_N h).2.2.1;omega
     have ha:apE t k i=0:=by
      have hr7:f_J t k=true:=by simp only [f_J,hrt,Bool.true_and,decide_eq_true_eq];exact ⟨by omega,by omega⟩
      have hrd:d_1 t=true:=by simp [d_1,hst,hlf]
      rw [apE,if_neg (by rintro (h | h);rw [hr7] at h;cases h;omega),if_neg (by rw [hrd];decide),if_neg (by omega),if_neg (by rw [k_x hi (by omega) hl];decide),hd]
     obtain ⟨r1,r2,r3⟩:=q_4 ha;rw [(r_G ha).2.2.2.2.2.2.2.2.2] at r1 r2 r3;refine b_W h ?_;simp only [e_Q,r1,r3,Bool.true_and,decide_eq_true_eq];exact .inl rfl
    ·rw [d_f,if_pos hl,if_neg hlf] at he
     omega
   ·split
    ·exact b_W h (o_X ht hpc)
    ·split
     ·rename_i n0 n1 n16 h17
      have hs:b_d X.ws X.ts X.D X.bs k (wrap64 (rgt t i.2.2.1+i.2.2.2))=0:=by rw [d_f,if_neg n1,if_neg n16,if_pos h17] at he;exact he
      obtain ⟨s1,s2,s3⟩:=n_e hs;obtain ⟨hu1,hu2,hu3,-⟩:=d_V s2;refine f_y (X:=b_j X k (b_h t)) (b_W h (f_M ht hpc)) ?_ ?_
      ·show d_O (b_N X.ws X.D _ _) X.ts X.D (b_I X.D X.bs k _ _)=true
       by_cases hD:X.D=0
       ·rw [b_N,if_pos hD,b_I,if_pos hD];exact f_9 h2 s2
       ·rw [b_N,if_neg hD,b_I,if_neg hD];refine h_1 h2 (n_N (o_F s1) ?_ hu2 hu3)
        rcases s3 with h | h
        ·exact absurd h hD
        ·exact h.2
      ·show (b_I X.D X.bs k _ _).length=X.bs.length
       unfold b_I;split
       ·rfl
       ·rw [List.length_set]
     ·split
      ·rename_i n0 n1 n16 n17 hl
       have hs:b_v X.ws X.ts X.D X.bs k (i.1 - 19) (rgt t i.2.2.1)=0:=by rw [d_f,if_neg n1,if_neg n16,if_neg n17,if_pos hl] at he;exact he
       have hu:a_I X.ws X.ts (rgt t i.2.2.1)=0:=by
        unfold b_v at hs
        split at hs
        ·split at hs
         ·exact hs
         ·omega
        ·omega
       exact f_y (X:=b_j X k (c_Z t _ _)) (b_W h (o_X ht hpc)) (f_9 h2 hu) rfl
      ·split
       ·split
        ·exact b_W h (o_W ht (i_J h) (.inr (by rw [b_2,List.length_map,h3])))
        ·exact b_W h (o_W (t:=b_h t) (f_M ht hpc) (by simp [b_4]) (.inl rfl))
       ·split
        ·rename_i n0 n1 n16 n17 nl n22 hm
         have hs:c_C X.ws X.ts (rgt t i.2.1) (rgt t i.2.2.1) (i.1 - 23)=0:=by rw [d_f,if_neg n1,if_neg n16,if_neg n17,if_neg nl,if_pos hm] at he;exact he
         refine f_y (X:=b_j X k (b_h t)) (b_W h (f_M ht hpc)) ?_ rfl
         show d_O X.ws (c_L X.ws X.ts _ _ _) X.D X.bs=true
         rw [c_L,if_pos hs];refine mayT_iff.2 ⟨q_G hmb (by omega),(mayT_iff.1 h2).2⟩
        ·split
         ·exact b_W h (f_M ht hpc)
         ·exact b_W h (f_M ht hpc)
 ·exact b_W h (g_8 ht (by unfold E16 at hE;omega) hE.2)
theorem k_f {X:Wo} {k:Nat} (h:h_z X k=true):(thW X k).st=0:=by
 unfold h_z n_Q at h
 split at h
 ·cases h
 ·rename_i h1;exact Classical.not_not.1 h1
theorem n_a {X:Wo} {k:Nat} (h:b_i X=true) (hk:k < X.th.length) (hc:h_z X k=true):b_i (d_q X k)=true:=by
 have h1:=d_n (a_N h).1;have ht:=(a_N h).2.2.2 _ (g_h hk);have hp:=(oneW_iff.1 ht).1
 by_cases hpc:(thW X k).pc < X.code.length
 ·rw [p_p hpc];exact q_r h hk ht (k_f hc) (by omega) (h1.2 _ (o_n hp.1 hpc)) h1.1
 ·rw [m_b (by omega)];exact b_W h (g_8 ht (by omega) (by omega))
theorem k_q {X:Wo} {k:Nat} (h:b_i X=true) (hk:k < X.th.length):b_i (d_t X k)=true:=by
 obtain ⟨h1,h2,h3,h4⟩:=a_N h;have hE:=f_X X.ws X.ts (f_F (bfW X k)).1;have hbuf:=s_e h hk
 have hrest:h_x X.ws.length X.D (e_z (bfW X k))=true:=by
  simp only [h_x,Bool.and_eq_true,decide_eq_true_eq,List.all_eq_true] at hbuf ⊢;refine ⟨by have:=hbuf.1;rw [e_z,List.length_drop];omega,fun p hp=>hbuf.2 p (List.mem_of_mem_drop hp)⟩
 have hlen:((X.th.set k (flT X k)).map (i_w k)).length=X.th.length:=by simp
 refine f_Q h1 ?_ ?_ ?_
 ·show d_O (if flE X k=0 then _ else X.ws) X.ts X.D (X.bs.set k (e_z (bfW X k)))=true
  have hm:=h_1 (j:=k) h2 hrest
  split
  ·rename_i he
   exact f_9 hm he
  ·exact hm
 ·show ((X.th.set k (flT X k)).map (i_w k)).length=(X.bs.set k _).length
  rw [hlen,List.length_set,h3]
 ·intro u hu
  show e_Q ((X.th.set k (flT X k)).map (i_w k)).length u=true
  rw [hlen];have hu:u∈(X.th.set k (flT X k)).map (i_w k):=hu;rw [List.mem_map] at hu;obtain ⟨v,hv,rfl⟩:=hu
  have hv1:e_Q X.th.length v=true:=by
   rcases List.mem_or_eq_of_mem_set hv with h | rfl
   ·exact h4 v h
   ·unfold flT
    split
    ·exact h4 _ (g_h hk)
    ·rename_i hn
     exact g_8 (h4 _ (g_h hk)) (by unfold E16 at hE;unfold flE at hn ⊢;omega) (by unfold flE;exact hE.2)
  unfold i_w
  split
  ·exact hv1
  ·have h5:=oneW_iff.1 hv1;refine o_W hv1 ?_ (by rw [List.length_set];exact h5.2.2.2.2);have h6:=h5.2.2.2.1;simp only [b_4,Bool.and_eq_true,decide_eq_true_eq,List.all_eq_true,List.length_set] at h6 ⊢;refine ⟨h6.1,fun z hz=>?_⟩
   rcases List.mem_or_eq_of_mem_set hz with h | rfl
   ·exact h6.2 z h
   ·by_cases hkl:k < v.lf.length
    ·have:v.lf.getD k 0∈v.lf:=by rw [List.getD_eq_getElem?_getD,List.getElem?_eq_getElem hkl];exact List.getElem_mem _
     have:=h6.2 _ this
     omega
    ·rw [List.getD_eq_getElem?_getD,List.getElem?_eq_none (by omega)];decide
theorem q_g {X:Wo} {a:Int×Int} (h:b_i X=true):b_i (doW X a)=true:=by
 unfold doW
 split
 ·rename_i hd
  simp only [f_e,l_H,Bool.and_eq_true,decide_eq_true_eq] at hd;have hk:a.2.toNat < X.th.length:=by omega
  split
  ·rename_i h0
   rw [if_pos h0] at hd;exact n_a h hk hd.2
  ·rename_i h0
   rw [if_neg h0] at hd;simp only [Bool.and_eq_true,decide_eq_true_eq] at hd;exact k_q h hk
 ·exact h
theorem l_4 (X:Wo) (k:Nat) (t:Thr):(b_j X k t).th.length=X.th.length:=by simp [b_j]
theorem r_e (X:Wo) (k:Nat):(d_q X k).th.length=X.th.length:=by
 unfold d_q d_5
 repeat' split
 all_goals first | exact l_4 X k _ | (show (b_j X k _).th.length=_;exact l_4 X k _)
theorem n_U (X:Wo) (a:Int×Int):(doW X a).th.length=X.th.length:=by
 unfold doW
 split
 ·split
  ·exact r_e _ _
  ·simp [d_t]
 ·rfl
theorem s_4 (X:Wo) (k:Nat):(d_q X k).ev.length≤X.ev.length+1:=by
 unfold d_q d_5
 repeat' split
 all_goals (simp [b_j] <;> omega)
theorem u_h (X:Wo) (a:Int×Int):(doW X a).ev.length≤X.ev.length+1:=by
 unfold doW
 split
 ·split
  ·exact s_4 _ _
  ·simp [d_t]
 ·omega
def W64 (z:Int):Prop:=(Lit.int .i64 z).wf=true
theorem j_S {z:Int} (h0:-9223372036854775808≤z) (h1:z≤9223372036854775807):W64 z:=WalkArith.wf_i64 (by omega)
theorem d_4:W64 0:=j_S (by omega) (by omega)
theorem r_o (z:Int):W64 (wrap64 z):=RowKit.wrap64_wf z
theorem r_n (op:BinOp) (x y:Int):W64 (bits op .i64 x y):=wf_bits _ _ _ _
structure WfT (t:Thr):Prop where
  r:∀ j,W64 (t.r j)
  fs:∀ f∈t.fs,W64 f.2.1∧W64 f.2.2.1∧W64 f.2.2.2.1∧W64 f.2.2.2.2
structure WfW (X:Wo):Prop where
  code:∀ i∈X.code,W64 i.2.1∧W64 i.2.2.1∧W64 i.2.2.2
  ws:∀ z∈X.ws,W64 z
  bs:∀ b∈X.bs,∀ p∈b,W64 p.2
  th:∀ t∈X.th,WfT t
theorem m_g:WfT d_E:=⟨fun _=>d_4,fun f hf=>by cases hf⟩
theorem h_t {X:Wo} (h:WfW X) (k:Nat):WfT (thW X k):=by
  by_cases hk:k < X.th.length
  · exact h.th _ (g_h hk)
  · rw [thW,List.getD_eq_getElem?_getD,List.getElem?_eq_none (by omega)];exact m_g
theorem h_s {X:Wo} (h:WfW X):∀ j k,k < 8→(Lit.int .i64 ((thW X j).r k)).wf=true:=fun j k _=>(h_t h j).r k
theorem d_W {X:Wo} (h:WfW X) {k:Nat} {t:Thr} (ht:WfT t):WfW (b_j X k t):=
  ⟨h.code,h.ws,h.bs,fun u hu=>by
    rcases List.mem_or_eq_of_mem_set hu with h1 | rfl
    · exact h.th u h1
    · exact ht⟩
theorem r_u {r:Nat→Int} {a v:Int} (h:∀ j,W64 (r j)) (hv:W64 v):∀ j,W64 (b_V r a v j):=fun j=>by
  unfold b_V;split
  · exact hv
  · exact h j
theorem l_f {t:Thr} {a v:Int} (h:WfT t) (hv:W64 v):WfT (c_Z t a v):=⟨r_u h.r hv,h.fs⟩
theorem g_N {t:Thr} (h:WfT t):WfT (b_h t):=⟨h.r,h.fs⟩
theorem j_T {t:Thr} (h:WfT t) (a:Int):W64 (rgt t a):=h.r _
theorem t_2 {t:Thr} {k:Int} {i:Ins} (h:WfT t) (hi:W64 i.2.1∧W64 i.2.2.1∧W64 i.2.2.2) (hk:W64 k):W64 (opV t k i):=by
  unfold opV
  repeat' split
  all_goals first | exact hi.2.1 | exact j_T h _ | exact r_o _ | exact r_n _ _ _ | exact hk | exact d_4 | exact j_S (by omega) (by omega)
theorem t_Y {t:Thr} {k:Int} {i:Ins} (h:WfT t) (hi:W64 i.2.1∧W64 i.2.2.1∧W64 i.2.2.2) (hk:W64 k):WfT (doT t k i):=by
  unfold doT brT goT f_d f_0
  repeat' split
  all_goals first
    | exact ⟨h.r,h.fs⟩
    | exact m_g
    | exact l_f h (t_2 h hi hk)
    | (refine ⟨h.r,fun f hf=>?_⟩
       rcases List.mem_append.1 hf with h1 | h1
       · exact h.fs f h1
       · obtain rfl:=List.mem_singleton.1 h1
         exact ⟨h.r _,h.r _,h.r _,h.r _⟩)
    | (have hl:∀ f,f=e_x t→W64 f.2.1∧W64 f.2.2.1∧W64 f.2.2.2.1∧W64 f.2.2.2.2:=by
         rintro f rfl;unfold e_x
         by_cases hq:t.fs.length - 1 < t.fs.length
         · rw [List.getD_eq_getElem?_getD,List.getElem?_eq_getElem hq];exact h.fs _ (List.getElem_mem hq)
         · rw [List.getD_eq_getElem?_getD,List.getElem?_eq_none (by omega)];exact ⟨d_4,d_4,d_4,d_4⟩
       refine ⟨fun j=>?_,fun f hf=>h.fs f (List.mem_of_mem_take hf)⟩;have hl:=hl _ rfl
       show W64 (j_B t.r _ _ _ _ j)
       unfold j_B
       repeat' split
       all_goals first | exact hl.1 | exact hl.2.1 | exact hl.2.2.1 | exact hl.2.2.2 | exact h.r j)
theorem s_9 {ws:List Int} (h:∀ z∈ws,W64 z) (i:Nat):W64 (ws.getD i 0):=by
  by_cases hq:i < ws.length
  · rw [List.getD_eq_getElem?_getD,List.getElem?_eq_getElem hq];exact h _ (List.getElem_mem hq)
  · rw [List.getD_eq_getElem?_getD,List.getElem?_eq_none (by omega)];exact d_4
theorem i_U {ws ts:List Int} (h:∀ z∈ws,W64 z) (i:Int):W64 (b_K ws ts i):=by
  unfold b_K;split
  · exact s_9 h _
  · exact d_4
theorem i_T {bs:List (List (Int×Int))} (h:∀ b∈bs,∀ p∈b,W64 p.2) (k:Int):∀ p∈d_L bs k,W64 p.2:=by
  unfold d_L
  by_cases hq:k.toNat < bs.length
  · rw [List.getD_eq_getElem?_getD,List.getElem?_eq_getElem hq];exact h _ (List.getElem_mem hq)
  · rw [List.getD_eq_getElem?_getD,List.getElem?_eq_none (by omega)];intro p hp;cases hp
theorem r_s {ws ts:List Int} {D:Int} {bs:List (List (Int×Int))} (h:∀ z∈ws,W64 z) (hb:∀ b∈bs,∀ p∈b,W64 p.2) (k x:Int):W64 (f_f ws ts D bs k x):=by
  unfold f_f;split
  · cases hn:b_9 (d_L bs k) x with
    | none=>exact i_U h x
    | some v =>
      unfold b_9 at hn
      cases hf:(d_L bs k).reverse.find? (fun p=>p.1==x) with
      | none=>rw [hf] at hn;cases hn
      | some p =>
        rw [hf] at hn
        cases hn
        exact i_T hb k p (List.mem_reverse.1 (List.mem_of_find?_eq_some hf))
  · exact d_4
theorem p_C {ws:List Int} (h:∀ z∈ws,W64 z) {i:Nat} {v:Int} (hv:W64 v):∀ z∈ws.set i v,W64 z:=fun z hz=>by
  rcases List.mem_or_eq_of_mem_set hz with h1 | rfl
  · exact h z h1
  · exact hv
theorem r_t {k word a b:Int} (hw:W64 word) (ha:W64 a) (hb:W64 b):W64 (d_y k word a b):=by
  unfold d_y
  repeat' split
  all_goals first | exact hb | exact hw | exact ha | exact wf_wrap .i64 _
theorem t_0 {X:Wo} {k:Nat} {t:Thr} {i:Ins} (h:WfW X) (ht:WfT t) (hi:W64 i.2.1∧W64 i.2.2.1∧W64 i.2.2.2) (hk:W64 k):WfW (d_5 X k t i):=by
  unfold d_5
  split
  · exact d_W h ⟨ht.r,ht.fs⟩
  · split
    · exact d_W h (t_Y ht hi hk)
    · split
      · exact d_W h (l_f ht (r_s h.ws h.bs _ _))
      · split
        · have h1:=d_W (k:=k) h (g_N ht)
          refine ⟨h1.code,?_,?_,h1.th⟩
          · show ∀ z∈b_N X.ws X.D _ _,W64 z
            unfold b_N;split
            · exact p_C h.ws (j_T ht _)
            · exact h.ws
          · show ∀ b∈b_I X.D X.bs k _ _,_
            unfold b_I;split
            · exact h.bs
            · intro b hb p hp
              rcases List.mem_or_eq_of_mem_set hb with h2 | rfl
              · exact h.bs b h2 p hp
              · rcases List.mem_append.1 hp with h3 | h3
                · exact i_T h.bs _ p h3
                · obtain rfl:=List.mem_singleton.1 h3
                  exact j_T ht _
        · split
          · have h1:=d_W (k:=k) h (l_f (a:=i.2.1) ht (i_U (ts:=X.ts) h.ws (rgt t i.2.2.1)))
            exact ⟨h1.code,p_C h.ws (r_t (i_U h.ws _) (j_T ht _) (j_T ht _)),h1.bs,h1.th⟩
          · split
            · split
              · exact d_W h ⟨ht.r,ht.fs⟩
              · exact d_W h ⟨ht.r,ht.fs⟩
            · split
              · have h1:=d_W (k:=k) h (g_N ht)
                exact ⟨h1.code,h1.ws,h1.bs,h1.th⟩
              · split
                · have h1:=d_W (k:=k) h (g_N ht)
                  exact ⟨h1.code,h1.ws,h1.bs,h1.th⟩
                · exact d_W h (g_N ht)
theorem t_Z {X:Wo} (h:WfW X) (pc:Int):W64 (inW X pc).2.1∧W64 (inW X pc).2.2.1∧W64 (inW X pc).2.2.2:=by
  unfold inW
  by_cases hq:pc.toNat < X.code.length
  · rw [List.getD_eq_getElem?_getD,List.getElem?_eq_getElem hq];exact h.code _ (List.getElem_mem hq)
  · rw [List.getD_eq_getElem?_getD,List.getElem?_eq_none (by omega)];exact ⟨d_4,d_4,d_4⟩
theorem p_D {X:Wo} {k:Nat} (h:WfW X) (hk:k < 1000):WfW (d_q X k):=by
  unfold d_q;split
  · exact t_0 h (h_t h k) (t_Z h _) (j_S (by omega) (by omega))
  · exact d_W h ⟨(h_t h k).r,(h_t h k).fs⟩
theorem r_r {X:Wo} {k:Nat} (h:WfW X):WfW (d_t X k):=by
  have hbf:∀ p∈bfW X k,W64 p.2:=by have:=i_T h.bs (k:Int);rwa [d_L,Int.toNat_natCast] at this
  refine ⟨h.code,?_,?_,?_⟩
  · show ∀ z∈(if flE X k=0 then X.ws.set (f_F (bfW X k)).1.toNat (f_F (bfW X k)).2 else X.ws),W64 z
    split
    · refine p_C h.ws ?_
      unfold f_F
      by_cases hq:0 < (bfW X k).length
      · rw [List.getD_eq_getElem?_getD,List.getElem?_eq_getElem hq];exact hbf _ (List.getElem_mem hq)
      · rw [List.getD_eq_getElem?_getD,List.getElem?_eq_none (by omega)];exact d_4
    · exact h.ws
  · intro b hb p hp
    rcases List.mem_or_eq_of_mem_set hb with h2 | rfl
    · exact h.bs b h2 p hp
    · exact hbf p (List.mem_of_mem_drop hp)
  · intro u hu
    have hu:u∈(X.th.set k (flT X k)).map (i_w k):=hu;rw [List.mem_map] at hu;obtain ⟨v,hv,rfl⟩:=hu
    have hv1:WfT v:=by
      rcases List.mem_or_eq_of_mem_set hv with h1 | rfl
      · exact h.th v h1
      · unfold flT;split
        · exact h_t h k
        · exact ⟨(h_t h k).r,(h_t h k).fs⟩
    unfold i_w;split
    · exact hv1
    · exact ⟨hv1.r,hv1.fs⟩
theorem u_s {X:Wo} {a:Int×Int} (h:WfW X) (hn:X.th.length≤8):WfW (doW X a):=by
  unfold doW;split
  · rename_i hd
    simp only [f_e,l_H,Bool.and_eq_true,decide_eq_true_eq] at hd
    split
    · exact p_D h (by omega)
    · exact r_r h
  · exact h
structure OkW (X:Wo) (m:Nat):Prop where
  right:b_i X=true
  wf:WfW X
  ev:X.ev.length≤m
theorem s_I {X:Wo} {m:Nat} (h:OkW X m):1≤X.th.length∧X.th.length≤8:=by
  have h1:=a_N h.right;have:=(a_X h1.2.1).2.1
  omega
theorem t_Q {X:Wo} {m:Nat} {a:Int×Int} (h:OkW X m):OkW (doW X a) (m+1):=
  ⟨q_g h.right,u_s h.wf (s_I h).2,by have:=u_h X a;have:=h.ev;omega⟩
theorem k_Q {l:List (Int×Int)}:∀ {X:Wo} {m:Nat},OkW X m→OkW (h_E X l) (m+l.length):=by
  induction l with
  | nil=>intro X m h;exact h
  | cons a l ih =>
    intro X m h;have:=ih (t_Q (a:=a) h);rw [h_E,List.foldl_cons];rw [List.length_cons,show m+(l.length+1)=m+1+l.length by omega];exact this
theorem q_7 {X:Wo} {l:List (Int×Int)} {k:Nat} {a:Int×Int} (h:l[k]?=some a):h_E X (l.take (k+1))=doW (h_E X (l.take k)) a:=by
  obtain ⟨hk,rfl⟩:=List.getElem?_eq_some_iff.1 h;rw [List.take_succ_eq_append_getElem hk,h_E,List.foldl_append];rfl
end Go.Proofs.YtogdpojnbgeknaaGreatDoor
