import Derived.Test.YtolabfafgbmdbaaGreatDoorQ7
import Derived.OpenShut
import Derived.Test.YtolabfafgbmdbaaGreatDoorQ0
import Derived.Test.YtolabfafgbmdbaaGreatDoorQ5
set_option maxRecDepth 100000
set_option maxHeartbeats 16000000
namespace Go.Proofs.YtolabfafgbmdbaaGreatDoor
open Go.RowKit
theorem f_W {X:Wo} (h1:b_8 X.code=true) (h2:d_q X.ws X.ts X.D X.bs=true) (h3:X.th.length=X.bs.length) (h4:∀ t∈X.th,e_q X.th.length t=true):b_e X=true:=by
 simp only [b_e,Bool.and_eq_true,decide_eq_true_eq,List.all_eq_true];exact ⟨⟨⟨h1,h2⟩,h3⟩,h4⟩
theorem oneW_iff {n:Nat} {t:Thr}:e_q n t=true ↔ (0≤t.pc∧t.pc≤1000)∧c_q t.fs=true∧d_8 t.st t.ft=true∧b_6 t.lf=true∧(t.lf.length=0∨t.lf.length=n):=by
 simp only [e_q,a_Q,Bool.and_eq_true,decide_eq_true_eq,and_assoc]
theorem b_Z {X:Wo} {k:Nat} {t:Thr} (h:b_e X=true) (ht:e_q X.th.length t=true):b_e (b_k X k t)=true:=by
 obtain ⟨h1,h2,h3,h4⟩:=a_O h;refine f_W h1 h2 ?_ ?_
 ·show (X.th.set k t).length=_
  rw [List.length_set];exact h3
 ·intro u hu
  show e_q (X.th.set k t).length u=true
  rw [List.length_set]
  rcases List.mem_or_eq_of_mem_set hu with h | h
  ·exact h4 u h
  ·subst h;exact ht
theorem f_D {X:Wo} {ws ts:List Int} {bs:List (List (Int×Int))} (h:b_e X=true) (hm:d_q ws ts X.D bs=true) (hl:bs.length=X.bs.length):b_e { X with ws:=ws,ts:=ts,bs:=bs }=true:=by
 obtain ⟨h1,-,h3,h4⟩:=a_O h;exact f_W (X:={ X with ws:=ws,ts:=ts,bs:=bs }) h1 hm (h3.trans hl.symm) h4
theorem h_i {n:Nat} {t:Thr} {e:Int} (h:e_q n t=true) (h1:1≤e) (h2:e≤16):e_q n (b_w t e)=true:=by
 rw [oneW_iff] at h ⊢;refine ⟨h.1,h.2.1,?_,h.2.2.2⟩;simp only [b_w,d_8,decide_eq_true_eq];exact .inl ⟨trivial,h1,h2⟩
theorem r_4 {n:Nat} {t:Thr} {pc:Int} {r:Nat→Int} (h:e_q n t=true) (hp:0≤pc∧pc≤1000):e_q n ⟨pc,r,t.fs,t.st,t.ft,t.lf⟩=true:=by
 rw [oneW_iff] at h ⊢;exact ⟨hp,h.2⟩
theorem f_S {n:Nat} {t:Thr} (h:e_q n t=true) (hp:t.pc < 1000):e_q n (b_j t)=true:=by
 have:=(oneW_iff.1 h).1;exact r_4 h (by omega)
theorem o_9 {n:Nat} {t:Thr} {a v:Int} (h:e_q n t=true) (hp:t.pc < 1000):e_q n (c_4 t a v)=true:=by
 have:=(oneW_iff.1 h).1;exact r_4 h (by omega)
theorem o_8 {n:Nat} {t:Thr} {l:List Int} (h:e_q n t=true) (h1:b_6 l=true) (h2:l.length=0∨l.length=n):e_q n { t with lf:=l }=true:=by
 rw [oneW_iff] at h ⊢;exact ⟨h.1,h.2.1,h.2.2.1,h1,h2⟩
def E16 (e:Int):Prop:=0≤e∧e≤16
theorem p_H (t:Int):E16 (r_B t):=by unfold r_B E16;repeat' split;all_goals omega
theorem r_A (t:Int):E16 (r_z t):=by unfold r_z E16;repeat' split;all_goals omega
theorem f_4 (ws ts:List Int) (i:Int):E16 (a_I ws ts i):=by
 unfold a_I
 split
 ·split
  ·exact p_H _
  ·unfold E16;omega
 ·unfold E16;omega
theorem o_G {ws ts:List Int} {D:Int} {bs:List (List (Int×Int))} {th x:Int}:E16 (c_9 ws ts D bs th x):=by
 unfold c_9;split
 ·exact f_4 _ _ _
 ·unfold E16;omega
theorem n_o {ws ts:List Int} {D:Int} {bs:List (List (Int×Int))} {th x:Int}:E16 (b_g ws ts D bs th x):=by
 unfold b_g;split
 ·split
  ·repeat' split
   all_goals (unfold E16;omega)
  ·exact f_4 _ _ _
 ·unfold E16;omega
theorem o_L {ws ts:List Int} {D:Int} {bs:List (List (Int×Int))} {th k x:Int}:E16 (b_y ws ts D bs th k x):=by
 unfold b_y;split
 ·split
  ·exact f_4 _ _ _
  ·unfold E16;omega
 ·unfold E16;omega
theorem t_e (tag t:Int):E16 (j_e tag t):=by
 unfold j_e;split
 ·exact r_A _
 ·exact p_H _
theorem r_q {f:Int→Int} (hf:∀ t,E16 (f t)) (ts:List Int) (i k:Nat):E16 (f_l f ts i k):=by
 induction k with
 | zero=>unfold f_l E16;omega
 | succ k ih =>
  unfold f_l
  split
  ·exact hf _
  ·exact ih
theorem q_Y {ws ts:List Int} {i k tag:Int}:E16 (c_G ws ts i k tag):=by
 unfold c_G;split
 ·split
  ·exact r_q (t_e _) _ _ _
  ·unfold E16;omega
 ·unfold E16;omega
theorem t_T {t:Thr} {i:Ins}:E16 (doE t i):=by
 unfold doE d_B e_l
 repeat' split
 all_goals (unfold E16;omega)
theorem s_N {X:Wo} {k:Nat} {t:Thr} {i:Ins}:E16 (d_k X k t i):=by
 unfold d_k
 split
 ·split
  ·exact t_T
  ·unfold E16;omega
 ·repeat' split
  ·exact o_G
  ·exact n_o
  ·exact o_L
  ·exact q_Y
  ·unfold E16;omega
theorem g_o {X:Wo} {k:Nat} (hk:k < X.th.length):thW X k∈X.th:=by
 rw [thW,List.getD_eq_getElem?_getD,List.getElem?_eq_getElem hk];exact List.getElem_mem hk
theorem o_A {X:Wo} {pc:Int} (h0:0≤pc) (h1:pc < X.code.length):inW X pc∈X.code:=by
 exact J109
theorem d_u {c:List Ins} (h:b_8 c=true):c.length≤1000∧∀ i∈c,c_Q i c.length=true:=by
 simpa only [b_8,Bool.and_eq_true,decide_eq_true_eq,List.all_eq_true] using h
theorem s_v {X:Wo} {k:Nat} (h:b_e X=true) (hk:k < X.th.length):f_9 X.ws.length X.D (bfW X k)=true:=by
 obtain ⟨-,h2,h3,-⟩:=a_O h;refine (mayT_iff.1 h2).2.2 _ ?_;rw [bfW,List.getD_eq_getElem?_getD,List.getElem?_eq_getElem (show k < X.bs.length by omega)];exact List.getElem_mem _
theorem i_0 {X:Wo} (h:b_e X=true):b_6 (b_5 X)=true:=by
 obtain ⟨-,h2,-,-⟩:=a_O h;obtain ⟨-,hb,hd,-⟩:=a_T h2;simp only [b_6,b_5,List.length_map,Bool.and_eq_true,decide_eq_true_eq,List.all_eq_true,List.mem_map];refine ⟨by omega,?_⟩;rintro z ⟨b,hbm,rfl⟩;have:=(mayT_iff.1 h2).2.2 b hbm;simp only [f_9,Bool.and_eq_true,decide_eq_true_eq] at this
 omega
theorem q_J {X:Wo} {k:Nat} {t:Thr} {i:Ins} (h:b_e X=true) (hk:k < X.th.length) (ht:e_q X.th.length t=true) (hst:t.st=0) (hpc:t.pc < 1000) (hi:c_Q i X.code.length=true) (hc:X.code.length≤1000):b_e (goX X k t i)=true:=by
 have hE:=s_N (X:=X) (k:=k) (t:=t) (i:=i);have h2:=(a_O h).2.1;have h3:=(a_O h).2.2.1;have hmb:=(mayT_iff.1 h2).1;unfold goX
 split
 ·rename_i he
  unfold d_1
  split
  ·refine b_Z h ?_;rw [oneW_iff] at ht ⊢;refine ⟨ht.1,ht.2.1,?_,ht.2.2.2⟩;have h9:=ht.2.2.1;simp only [d_8,decide_eq_true_eq] at h9 ⊢;refine .inr ⟨.inr trivial,?_⟩
   rcases h9 with h9 | h9
   ·rw [hst] at h9;exact absurd h9.1 (by decide)
   ·exact h9.2
  ·split
   ·rename_i h0 hl
    by_cases hlf:t.lf.length=0
    ·have hd:doE t i=0:=by rw [d_k,if_pos hl,if_pos hlf] at he;exact he
     have hrt:a_Q t=true:=by simp only [e_q,Bool.and_eq_true] at ht;exact ht.1
     have hb8:X.bs.length≤8:=(a_T h2).2.1.2;have hk8:k < 8:=by have:=(a_O h).2.2.1;omega
     have ha:apE t k i=0:=by
      have hr7:f_P t k=true:=by simp only [f_P,hrt,Bool.true_and,decide_eq_true_eq];exact ⟨by omega,by omega⟩
      have hrd:d_5 t=true:=by simp [d_5,hst,hlf]
      rw [apE,if_neg (by rintro (h | h);rw [hr7] at h;cases h;omega),if_neg (by rw [hrd];decide),if_neg (by omega),if_neg (by rw [k_P hi (by omega) hl];decide),hd]
     obtain ⟨r1,r2,r3⟩:=r_n ha;rw [(r_X ha).2.2.2.2.2.2.2.2.2] at r1 r2 r3;refine b_Z h ?_;simp only [e_q,r1,r3,Bool.true_and,decide_eq_true_eq];exact .inl rfl
    ·rw [d_k,if_pos hl,if_neg hlf] at he
     omega
   ·split
    ·exact b_Z h (o_9 ht hpc)
    ·split
     ·rename_i n0 n1 n16 h17
      have hs:b_g X.ws X.ts X.D X.bs k (wrap64 (rgt t i.2.2.1+i.2.2.2))=0:=by rw [d_k,if_neg n1,if_neg n16,if_pos h17] at he;exact he
      obtain ⟨s1,s2,s3⟩:=n_p hs;obtain ⟨hu1,hu2,hu3,-⟩:=d_Y s2;refine f_D (X:=b_k X k (b_j t)) (b_Z h (f_S ht hpc)) ?_ ?_
      ·show d_q (b_Q X.ws X.D _ _) X.ts X.D (b_F X.D X.bs k _ _)=true
       by_cases hD:X.D=0
       ·rw [b_Q,if_pos hD,b_F,if_pos hD];exact g_h h2 s2
       ·rw [b_Q,if_neg hD,b_F,if_neg hD];refine i_e h2 (n_2 (o_Q s1) ?_ hu2 hu3)
        rcases s3 with h | h
        ·exact absurd h hD
        ·exact h.2
      ·show (b_F X.D X.bs k _ _).length=X.bs.length
       unfold b_F;split
       ·rfl
       ·rw [List.length_set]
     ·split
      ·rename_i n0 n1 n16 n17 hl
       have hs:b_y X.ws X.ts X.D X.bs k (i.1 - 19) (rgt t i.2.2.1)=0:=by rw [d_k,if_neg n1,if_neg n16,if_neg n17,if_pos hl] at he;exact he
       have hu:a_I X.ws X.ts (rgt t i.2.2.1)=0:=by
        unfold b_y at hs
        split at hs
        ·split at hs
         ·exact hs
         ·omega
        ·omega
       exact f_D (X:=b_k X k (c_4 t _ _)) (b_Z h (o_9 ht hpc)) (g_h h2 hu) rfl
      ·split
       ·split
        ·exact b_Z h (o_8 ht (i_0 h) (.inr (by rw [b_5,List.length_map,h3])))
        ·exact b_Z h (o_8 (t:=b_j t) (f_S ht hpc) (by simp [b_6]) (.inl rfl))
       ·split
        ·rename_i n0 n1 n16 n17 nl n22 hm
         have hs:c_G X.ws X.ts (rgt t i.2.1) (rgt t i.2.2.1) (i.1 - 23)=0:=by rw [d_k,if_neg n1,if_neg n16,if_neg n17,if_neg nl,if_pos hm] at he;exact he
         refine f_D (X:=b_k X k (b_j t)) (b_Z h (f_S ht hpc)) ?_ rfl
         show d_q X.ws (c_P X.ws X.ts _ _ _) X.D X.bs=true
         rw [c_P,if_pos hs];refine mayT_iff.2 ⟨q_Z hmb (by omega),(mayT_iff.1 h2).2⟩
        ·split
         ·exact b_Z h (f_S ht hpc)
         ·exact b_Z h (f_S ht hpc)
 ·exact b_Z h (h_i ht (by unfold E16 at hE;omega) hE.2)
theorem k_x {X:Wo} {k:Nat} (h:k_i X k=true):(thW X k).st=0:=by
 unfold k_i p_Z at h
 split at h
 ·cases h
 ·rename_i h1;exact Classical.not_not.1 h1
theorem i_m {X:Wo} {k:Nat} (h:b_e X=true) (hk:k < X.th.length) (hc:k_i X k=true):b_e (c_O X k)=true:=by
 have h1:=d_u (a_O h).1;have ht:=(a_O h).2.2.2 _ (g_o hk);have hp:=(oneW_iff.1 ht).1
 by_cases hpc:(thW X k).pc < X.code.length
 ·rw [p_D hpc];exact q_J h hk ht (k_x hc) (by omega) (h1.2 _ (o_A hp.1 hpc)) h1.1
 ·rw [m_n (by omega)];exact b_Z h (h_i ht (by omega) (by omega))
theorem k_J {X:Wo} {k:Nat} (h:b_e X=true) (hk:k < X.th.length):b_e (e_D X k)=true:=by
 obtain ⟨h1,h2,h3,h4⟩:=a_O h;have hE:=f_4 X.ws X.ts (f_K (bfW X k)).1;have hbuf:=s_v h hk
 have hrest:f_9 X.ws.length X.D (e_I (bfW X k))=true:=by
  simp only [f_9,Bool.and_eq_true,decide_eq_true_eq,List.all_eq_true] at hbuf ⊢;refine ⟨by have:=hbuf.1;rw [e_I,List.length_drop];omega,fun p hp=>hbuf.2 p (List.mem_of_mem_drop hp)⟩
 have hlen:((X.th.set k (flT X k)).map (k_3 k)).length=X.th.length:=by simp
 refine f_W h1 ?_ ?_ ?_
 ·show d_q (if flE X k=0 then _ else X.ws) X.ts X.D (X.bs.set k (e_I (bfW X k)))=true
  have hm:=i_e (j:=k) h2 hrest
  split
  ·rename_i he
   exact g_h hm he
  ·exact hm
 ·show ((X.th.set k (flT X k)).map (k_3 k)).length=(X.bs.set k _).length
  rw [hlen,List.length_set,h3]
 ·intro u hu
  show e_q ((X.th.set k (flT X k)).map (k_3 k)).length u=true
  rw [hlen];have hu:u∈(X.th.set k (flT X k)).map (k_3 k):=hu;rw [List.mem_map] at hu;obtain ⟨v,hv,rfl⟩:=hu
  have hv1:e_q X.th.length v=true:=by
   rcases List.mem_or_eq_of_mem_set hv with h | rfl
   ·exact h4 v h
   ·unfold flT
    split
    ·exact h4 _ (g_o hk)
    ·rename_i hn
     exact h_i (h4 _ (g_o hk)) (by unfold E16 at hE;unfold flE at hn ⊢;omega) (by unfold flE;exact hE.2)
  unfold k_3
  split
  ·exact hv1
  ·have h5:=oneW_iff.1 hv1;refine o_8 hv1 ?_ (by rw [List.length_set];exact h5.2.2.2.2);have h6:=h5.2.2.2.1;simp only [b_6,Bool.and_eq_true,decide_eq_true_eq,List.all_eq_true,List.length_set] at h6 ⊢;refine ⟨h6.1,fun z hz=>?_⟩
   rcases List.mem_or_eq_of_mem_set hz with h | rfl
   ·exact h6.2 z h
   ·by_cases hkl:k < v.lf.length
    ·have:v.lf.getD k 0∈v.lf:=by rw [List.getD_eq_getElem?_getD,List.getElem?_eq_getElem hkl];exact List.getElem_mem _
     have:=h6.2 _ this
     omega
    ·rw [List.getD_eq_getElem?_getD,List.getElem?_eq_none (by omega)];decide
theorem q_w {X:Wo} {a:Int×Int} (h:b_e X=true):b_e (doW X a)=true:=by
 unfold doW
 split
 ·rename_i hd
  simp only [f_w,m_S,Bool.and_eq_true,decide_eq_true_eq] at hd;have hk:a.2.toNat < X.th.length:=by omega
  split
  ·rename_i h0
   rw [if_pos h0] at hd;exact i_m h hk hd.2
  ·rename_i h0
   rw [if_neg h0] at hd;simp only [Bool.and_eq_true,decide_eq_true_eq] at hd;exact k_J h hk
 ·exact h
theorem m_g (X:Wo) (k:Nat) (t:Thr):(b_k X k t).th.length=X.th.length:=by simp [b_k]
theorem r_x (X:Wo) (k:Nat):(c_O X k).th.length=X.th.length:=by
 unfold c_O d_1
 repeat' split
 all_goals first | exact m_g X k _ | (show (b_k X k _).th.length=_;exact m_g X k _)
theorem p_C (X:Wo) (k:Nat):(c_O X k).ev.length≤X.ev.length+1:=by
 unfold c_O d_1
 repeat' split
 all_goals (simp [b_k] <;> omega)
theorem u_t (X:Wo) (a:Int×Int):(doW X a).ev.length≤X.ev.length+1:=by
 unfold doW
 split
 ·split
  ·exact p_C _ _
  ·simp [e_D]
 ·omega
def W64 (z:Int):Prop:=(Lit.int .i64 z).wf=true
theorem k_a {z:Int} (h0:-9223372036854775808≤z) (h1:z≤9223372036854775807):W64 z:=WalkArith.wf_i64 (by omega)
theorem d_9:W64 0:=k_a (by omega) (by omega)
theorem r_F (z:Int):W64 (wrap64 z):=RowKit.wrap64_wf z
theorem r_E (op:BinOp) (x y:Int):W64 (bits op .i64 x y):=wf_bits _ _ _ _
structure WfT (t:Thr):Prop where
  r:∀ j,W64 (t.r j)
  fs:∀ f∈t.fs,W64 f.2.1∧W64 f.2.2.1∧W64 f.2.2.2.1∧W64 f.2.2.2.2
structure WfW (X:Wo):Prop where
  code:∀ i∈X.code,W64 i.2.1∧W64 i.2.2.1∧W64 i.2.2.2
  ws:∀ z∈X.ws,W64 z
  bs:∀ b∈X.bs,∀ p∈b,W64 p.2
  th:∀ t∈X.th,WfT t
theorem m_u:WfT d_J:=⟨fun _=>d_9,fun f hf=>by cases hf⟩
theorem h_E {X:Wo} (h:WfW X) (k:Nat):WfT (thW X k):=by
  by_cases hk:k < X.th.length
  · exact h.th _ (g_o hk)
  · rw [thW,List.getD_eq_getElem?_getD,List.getElem?_eq_none (by omega)];exact m_u
theorem j_b {X:Wo} (h:WfW X):∀ j k,k < 8→(Lit.int .i64 ((thW X j).r k)).wf=true:=fun j k _=>(h_E h j).r k
theorem d_Z {X:Wo} (h:WfW X) {k:Nat} {t:Thr} (ht:WfT t):WfW (b_k X k t):=
  ⟨h.code,h.ws,h.bs,fun u hu=>by
    rcases List.mem_or_eq_of_mem_set hu with h1 | rfl
    · exact h.th u h1
    · exact ht⟩
theorem r_L {r:Nat→Int} {a v:Int} (h:∀ j,W64 (r j)) (hv:W64 v):∀ j,W64 (b_Y r a v j):=fun j=>by
  unfold b_Y;split
  · exact hv
  · exact h j
theorem l_u {t:Thr} {a v:Int} (h:WfT t) (hv:W64 v):WfT (c_4 t a v):=⟨r_L h.r hv,h.fs⟩
theorem g_U {t:Thr} (h:WfT t):WfT (b_j t):=⟨h.r,h.fs⟩
theorem k_b {t:Thr} (h:WfT t) (a:Int):W64 (rgt t a):=h.r _
theorem u_f {t:Thr} {k:Int} {i:Ins} (h:WfT t) (hi:W64 i.2.1∧W64 i.2.2.1∧W64 i.2.2.2) (hk:W64 k):W64 (opV t k i):=by
  unfold opV
  repeat' split
  all_goals first | exact hi.2.1 | exact k_b h _ | exact r_F _ | exact r_E _ _ _ | exact hk | exact d_9 | exact k_a (by omega) (by omega)
theorem u_b {t:Thr} {k:Int} {i:Ins} (h:WfT t) (hi:W64 i.2.1∧W64 i.2.2.1∧W64 i.2.2.2) (hk:W64 k):WfT (doT t k i):=by
  unfold doT brT goT f_i f_7
  repeat' split
  all_goals first
    | exact ⟨h.r,h.fs⟩
    | exact m_u
    | exact l_u h (u_f h hi hk)
    | (refine ⟨h.r,fun f hf=>?_⟩
       rcases List.mem_append.1 hf with h1 | h1
       · exact h.fs f h1
       · obtain rfl:=List.mem_singleton.1 h1
         exact ⟨h.r _,h.r _,h.r _,h.r _⟩)
    | (have hl:∀ f,f=e_G t→W64 f.2.1∧W64 f.2.2.1∧W64 f.2.2.2.1∧W64 f.2.2.2.2:=by
         rintro f rfl;unfold e_G
         by_cases hq:t.fs.length - 1 < t.fs.length
         · rw [List.getD_eq_getElem?_getD,List.getElem?_eq_getElem hq];exact h.fs _ (List.getElem_mem hq)
         · rw [List.getD_eq_getElem?_getD,List.getElem?_eq_none (by omega)];exact ⟨d_9,d_9,d_9,d_9⟩
       refine ⟨fun j=>?_,fun f hf=>h.fs f (List.mem_of_mem_take hf)⟩;have hl:=hl _ rfl
       show W64 (j_V t.r _ _ _ _ j)
       unfold j_V
       repeat' split
       all_goals first | exact hl.1 | exact hl.2.1 | exact hl.2.2.1 | exact hl.2.2.2 | exact h.r j)
theorem t_m {ws:List Int} (h:∀ z∈ws,W64 z) (i:Nat):W64 (ws.getD i 0):=by
  by_cases hq:i < ws.length
  · rw [List.getD_eq_getElem?_getD,List.getElem?_eq_getElem hq];exact h _ (List.getElem_mem hq)
  · rw [List.getD_eq_getElem?_getD,List.getElem?_eq_none (by omega)];exact d_9
theorem j_a {ws ts:List Int} (h:∀ z∈ws,W64 z) (i:Int):W64 (b_M ws ts i):=by
  unfold b_M;split
  · exact t_m h _
  · exact d_9
theorem i_9 {bs:List (List (Int×Int))} (h:∀ b∈bs,∀ p∈b,W64 p.2) (k:Int):∀ p∈d_P bs k,W64 p.2:=by
  unfold d_P
  by_cases hq:k.toNat < bs.length
  · rw [List.getD_eq_getElem?_getD,List.getElem?_eq_getElem hq];exact h _ (List.getElem_mem hq)
  · rw [List.getD_eq_getElem?_getD,List.getElem?_eq_none (by omega)];intro p hp;cases hp
theorem r_J {ws ts:List Int} {D:Int} {bs:List (List (Int×Int))} (h:∀ z∈ws,W64 z) (hb:∀ b∈bs,∀ p∈b,W64 p.2) (k x:Int):W64 (f_j ws ts D bs k x):=by
  unfold f_j;split
  · cases hn:c_c (d_P bs k) x with
    | none=>exact j_a h x
    | some v =>
      unfold c_c at hn
      cases hf:(d_P bs k).reverse.find? (fun p=>p.1==x) with
      | none=>rw [hf] at hn;cases hn
      | some p =>
        rw [hf] at hn
        cases hn
        exact i_9 hb k p (List.mem_reverse.1 (List.mem_of_find?_eq_some hf))
  · exact d_9
theorem p_O {ws:List Int} (h:∀ z∈ws,W64 z) {i:Nat} {v:Int} (hv:W64 v):∀ z∈ws.set i v,W64 z:=fun z hz=>by
  rcases List.mem_or_eq_of_mem_set hz with h1 | rfl
  · exact h z h1
  · exact hv
theorem r_K {k word a b:Int} (hw:W64 word) (ha:W64 a) (hb:W64 b):W64 (d_D k word a b):=by
  unfold d_D
  repeat' split
  all_goals first | exact hb | exact hw | exact ha | exact wf_wrap .i64 _
theorem u_d {X:Wo} {k:Nat} {t:Thr} {i:Ins} (h:WfW X) (ht:WfT t) (hi:W64 i.2.1∧W64 i.2.2.1∧W64 i.2.2.2) (hk:W64 k):WfW (d_1 X k t i):=by
  unfold d_1
  split
  · exact d_Z h ⟨ht.r,ht.fs⟩
  · split
    · exact d_Z h (u_b ht hi hk)
    · split
      · exact d_Z h (l_u ht (r_J h.ws h.bs _ _))
      · split
        · have h1:=d_Z (k:=k) h (g_U ht)
          refine ⟨h1.code,?_,?_,h1.th⟩
          · show ∀ z∈b_Q X.ws X.D _ _,W64 z
            unfold b_Q;split
            · exact p_O h.ws (k_b ht _)
            · exact h.ws
          · show ∀ b∈b_F X.D X.bs k _ _,_
            unfold b_F;split
            · exact h.bs
            · intro b hb p hp
              rcases List.mem_or_eq_of_mem_set hb with h2 | rfl
              · exact h.bs b h2 p hp
              · rcases List.mem_append.1 hp with h3 | h3
                · exact i_9 h.bs _ p h3
                · obtain rfl:=List.mem_singleton.1 h3
                  exact k_b ht _
        · split
          · have h1:=d_Z (k:=k) h (l_u (a:=i.2.1) ht (j_a (ts:=X.ts) h.ws (rgt t i.2.2.1)))
            exact ⟨h1.code,p_O h.ws (r_K (j_a h.ws _) (k_b ht _) (k_b ht _)),h1.bs,h1.th⟩
          · split
            · split
              · exact d_Z h ⟨ht.r,ht.fs⟩
              · exact d_Z h ⟨ht.r,ht.fs⟩
            · split
              · have h1:=d_Z (k:=k) h (g_U ht)
                exact ⟨h1.code,h1.ws,h1.bs,h1.th⟩
              · split
                · have h1:=d_Z (k:=k) h (g_U ht)
                  exact ⟨h1.code,h1.ws,h1.bs,h1.th⟩
                · exact d_Z h (g_U ht)
theorem u_c {X:Wo} (h:WfW X) (pc:Int):W64 (inW X pc).2.1∧W64 (inW X pc).2.2.1∧W64 (inW X pc).2.2.2:=by
  unfold inW
  by_cases hq:pc.toNat < X.code.length
  · rw [List.getD_eq_getElem?_getD,List.getElem?_eq_getElem hq];exact h.code _ (List.getElem_mem hq)
  · rw [List.getD_eq_getElem?_getD,List.getElem?_eq_none (by omega)];exact ⟨d_9,d_9,d_9⟩
theorem p_P {X:Wo} {k:Nat} (h:WfW X) (hk:k < 1000):WfW (c_O X k):=by
  unfold c_O;split
  · exact u_d h (h_E h k) (u_c h _) (k_a (by omega) (by omega))
  · exact d_Z h ⟨(h_E h k).r,(h_E h k).fs⟩
theorem r_I {X:Wo} {k:Nat} (h:WfW X):WfW (e_D X k):=by
  have hbf:∀ p∈bfW X k,W64 p.2:=by have:=i_9 h.bs (k:Int);rwa [d_P,Int.toNat_natCast] at this
  refine ⟨h.code,?_,?_,?_⟩
  · show ∀ z∈(if flE X k=0 then X.ws.set (f_K (bfW X k)).1.toNat (f_K (bfW X k)).2 else X.ws),W64 z
    split
    · refine p_O h.ws ?_
      unfold f_K
      by_cases hq:0 < (bfW X k).length
      · rw [List.getD_eq_getElem?_getD,List.getElem?_eq_getElem hq];exact hbf _ (List.getElem_mem hq)
      · rw [List.getD_eq_getElem?_getD,List.getElem?_eq_none (by omega)];exact d_9
    · exact h.ws
  · intro b hb p hp
    rcases List.mem_or_eq_of_mem_set hb with h2 | rfl
    · exact h.bs b h2 p hp
    · exact hbf p (List.mem_of_mem_drop hp)
  · intro u hu
    have hu:u∈(X.th.set k (flT X k)).map (k_3 k):=hu;rw [List.mem_map] at hu;obtain ⟨v,hv,rfl⟩:=hu
    have hv1:WfT v:=by
      rcases List.mem_or_eq_of_mem_set hv with h1 | rfl
      · exact h.th v h1
      · unfold flT;split
        · exact h_E h k
        · exact ⟨(h_E h k).r,(h_E h k).fs⟩
    unfold k_3;split
    · exact hv1
    · exact ⟨hv1.r,hv1.fs⟩
theorem u_E {X:Wo} {a:Int×Int} (h:WfW X) (hn:X.th.length≤8):WfW (doW X a):=by
  unfold doW;split
  · rename_i hd
    simp only [f_w,m_S,Bool.and_eq_true,decide_eq_true_eq] at hd
    split
    · exact p_P h (by omega)
    · exact r_I h
  · exact h
structure OkW (X:Wo) (m:Nat):Prop where
  right:b_e X=true
  wf:WfW X
  ev:X.ev.length≤m
theorem t_3 {X:Wo} {m:Nat} (h:OkW X m):1≤X.th.length∧X.th.length≤8:=by
  have h1:=a_O h.right;have:=(a_T h1.2.1).2.1
  omega
theorem t_2 {X:Wo} {m:Nat} {a:Int×Int} (h:OkW X m):OkW (doW X a) (m+1):=
  ⟨q_w h.right,u_E h.wf (t_3 h).2,by have:=u_t X a;have:=h.ev;omega⟩
theorem o_5 {l:List (Int×Int)}:∀ {X:Wo} {m:Nat},OkW X m→OkW (j_0 X l) (m+l.length):=by
  induction l with
  | nil=>intro X m h;exact h
  | cons a l ih =>
    intro X m h;have:=ih (t_2 (a:=a) h);rw [j_0,List.foldl_cons];rw [List.length_cons,show m+(l.length+1)=m+1+l.length by omega];exact this
theorem r_p {X:Wo} {l:List (Int×Int)} {k:Nat} {a:Int×Int} (h:l[k]?=some a):j_0 X (l.take (k+1))=doW (j_0 X (l.take k)) a:=by
  obtain ⟨hk,rfl⟩:=List.getElem?_eq_some_iff.1 h;rw [List.take_succ_eq_append_getElem hk,j_0,List.foldl_append];rfl
end Go.Proofs.YtolabfafgbmdbaaGreatDoor
namespace Go.Proofs.YtolabfafgbmdbaaGreatDoor
open Go.ChangeShapes Go.WideShapes Go.ChangeAt Go.RowKit
open Gen
theorem n_j {code:List Ins} {ws ts starts:List Int} {D:Int} (h1:b_8 code=true) (h2:d_g ws ts=true) (h3:1≤starts.length∧starts.length≤8) (h4:0≤D∧D≤8) (h5:∀ s∈starts,0≤s∧s≤code.length):b_e (k_5 code starts ws ts D)=true:=by
 have h6:=(d_u h1).1;refine f_W h1 (mayT_iff.2 ⟨h2,?_,fun b hb=>?_⟩) ?_ ?_
 ·simp only [c_i,k_5,List.length_replicate,decide_eq_true_eq];omega
 ·obtain rfl:=(List.mem_replicate.1 hb).2;simp only [f_9,List.length_nil,List.all_nil,Bool.and_true,decide_eq_true_eq];exact h4.1
 ·simp [k_5]
 ·intro t ht;obtain ⟨s,hs,rfl⟩:=List.mem_map.1 ht;have:=h5 s hs;exact oneW_iff.2 ⟨⟨this.1,by show s≤1000;omega⟩,rfl,rfl,rfl,.inl rfl⟩
def p_0 (n:Nat) (s:Int):Int:=((s.tmod (n+1))+n+1).tmod (n+1)
theorem o_z (n:Nat) (s:Int):0≤p_0 n s∧p_0 n s≤n:=by
 have h0:(0:Int) < (n:Int)+1:=by omega
 have h1:=Int.tmod_lt_of_pos s h0;have h2:-((n:Int)+1) < s.tmod (n+1):=Int.neg_lt_of_neg_lt (by have:=Int.tmod_lt_of_pos (-s) h0;rw [Int.neg_tmod] at this;omega);have h3:0≤s.tmod (n+1)+n+1:=by omega
 have h4:=Int.tmod_nonneg ((n:Int)+1) h3;have h5:=Int.tmod_lt_of_pos (s.tmod (n+1)+n+1) h0;exact ⟨h4,by unfold p_0;omega⟩
theorem u_e {code:List Ins} {ws ts starts:List Int} {D:Int} (h1:∀ i∈code,W64 i.2.1∧W64 i.2.2.1∧W64 i.2.2.2) (h2:∀ z∈ws,W64 z):WfW (k_5 code starts ws ts D):=by
 refine ⟨h1,h2,fun b hb=>?_,fun t ht=>?_⟩
 ·rw [(List.mem_replicate.1 hb).2];intro p hp;exact absurd hp List.not_mem_nil
 ·obtain ⟨s,-,rfl⟩:=List.mem_map.1 ht;exact ⟨fun _=>d_9,fun f hf=>by cases hf⟩
theorem o_4 {code:List Ins} {ws ts starts:List Int} {D:Int} (h1:b_8 code=true) (h2:d_g ws ts=true) (h3:1≤starts.length∧starts.length≤8) (h4:0≤D∧D≤8) (h5:∀ s∈starts,0≤s∧s≤code.length) (h6:∀ i∈code,W64 i.2.1∧W64 i.2.2.1∧W64 i.2.2.2) (h7:∀ z∈ws,W64 z):OkW (k_5 code starts ws ts D) 0:=
 ⟨n_j h1 h2 h3 h4 h5,u_e h6 h7,Nat.le_refl _⟩
end Go.Proofs.YtolabfafgbmdbaaGreatDoor
namespace Go.Proofs.YtolabfafgbmdbaaGreatDoor
open Go.ChangeShapes Go.WideShapes Go.ChangeAt Go.RowKit
open Gen
open Lib (hid)
theorem e_Y (v m:Int) (w:World):Calls Tryz.prog 130 #[.int .i64 v,.int .i64 m] w (g_X (decide (0≤v∧v≤m)) w):=by
 go_enter Tryz.func130,Tryz.ntmps130
 exact J95
theorem j_D (t:Thr) (self:Int) (fa la:Option Addr) (fn fc ln lc:Nat) (w:World) (F:ThF w fa fn fc la ln lc t) :
  Calls Tryz.prog 113 #[.agg (thC t fa fn fc la ln lc).toArray,.int .i64 self] w (a_1 (f_P t self) w):=by
 obtain ⟨W,hW⟩:=nm (w.alloc (Obj.cells (thC t fa fn fc la ln lc).toArray 46));have X:=N110;have hB:=N2;have FW:=hid (c_0 hB F);have ⟨HX,HB,HW⟩:=hh3 X hB hW;clear hW X hB F
 go_enter Tryz.func113,Tryz.ntmps113
 go_upto_region 1 with fail
 rw [←HW.out];have k0:=(HX.out 0 _ rfl).1;have k1:=(HX.out 1 _ rfl).1;have k2:=(HX.out 2 _ rfl).1;have k3:=(HX.out 3 _ rfl).1;have k4:=(HX.out 4 _ rfl).1;have k5:=(HX.out 5 _ rfl).1;have k6:=(HX.out 6 _ rfl).1;have k7:=(HX.out 7 _ rfl).1;have k8:=(HX.out 8 _ rfl).1;have k9:=(HX.out 9 _ rfl).1;have k10:=(HX.out 10 _ rfl).1;have k11:=(HX.out 11 _ rfl).1;have k12:=(HX.out 12 _ rfl).1
 go_wp2_with fail
 refine (d_i t fa la fn fc ln lc _ FW.out).mono ?_;rintro e w1 ⟨rfl,hb1⟩;have HB1:=hid (a_a HB.out hb1);clear hb1
 cases h1:a_Q t with
 | false =>
  have H1:=hid h1;clear h1
  go_wp2
  go_ret
  exact a_i (by rw [f_P,H1.out];rfl) HB1.out
 | true =>
  have H1:=hid h1;clear h1
  go_wp2_with fail
  refine (e_Y self 7 _).mono ?_;rintro e w2 ⟨rfl,h⟩
  cases h
  obtain ⟨b,hb⟩:=mn (decide (0≤self∧self≤7));rw [hb];have HBB:=hid hb;clear hb
  go_wp2
  go_ret
  exact a_i (by rw [f_P,H1.out,HBB.out];rfl) HB1.out
theorem h_f (t:Thr) (fa la:Option Addr) (fn fc ln lc:Nat) (w:World) (hl:t.lf.length=ln) :
  Calls Tryz.prog 114 #[.agg (thC t fa fn fc la ln lc).toArray] w (a_1 (d_5 t) w):=by
 have HL:=hid hl;clear hl
 go_enter Tryz.func114,Tryz.ntmps114
 go_wp2
 all_goals
  go_ret
  refine a_i ?_ (by go_grown);have e:d_5 t=(decide (t.st=0)&&decide (ln=0)):=by rw [d_5,HL.out]
  rw [e]
  try simp only [beq_iff_eq,beq_eq_false_iff_ne] at *
  rw [Bool.eq_iff_iff];simp
  try omega
theorem l_a (s:UInt8) (v:Int) (w:World):Calls Tryz.prog 146 #[.int .u8 s.toNat,.int .i64 v] w (g_X (n_C s v) w):=by
 go_enter Tryz.func146,Tryz.ntmps146
 by_cases h1:s=114
 ·subst h1;have e:n_C 114 v=decide (0≤v∧v≤7):=rfl;rw [e]
  go_wp2_with fail
  refine (e_Y v 7 _).mono ?_;rintro e w2 ⟨rfl,h⟩
  cases h
  go_wp2
  go_ret
  exact c_U (by simp)
 ·by_cases h2:s=110
  ·subst h2
   go_wp2
   go_ret
   exact c_U rfl
  ·have e:n_C s v=decide (0≤v∧v≤1000):=by rw [n_C,if_neg h1,if_neg h2]
   have q1:((s.toNat:Int)==114)=false:=by
    rw [beq_eq_false_iff_ne];intro q;apply h1;apply UInt8.toNat_inj.1;show s.toNat=114;omega
   have q2:((s.toNat:Int)==110)=false:=by
    rw [beq_eq_false_iff_ne];intro q;apply h2;apply UInt8.toNat_inj.1;show s.toNat=110;omega
   rw [e];clear h1 h2 e
   go_wp2_with fail
   refine (e_Y v 1000 _).mono ?_;rintro e w2 ⟨rfl,h⟩
   cases h
   go_wp2
   go_ret
   exact c_U (by simp)
end Go.Proofs.YtolabfafgbmdbaaGreatDoor
