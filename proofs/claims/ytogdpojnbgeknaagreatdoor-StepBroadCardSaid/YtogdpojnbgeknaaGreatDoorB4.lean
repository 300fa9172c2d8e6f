import Derived.Test.YtogdpojnbgeknaaGreatDoorB3
import Derived.Test.YtogdpojnbgeknaaGreatDoorB0
import Derived.OpenShut
import Derived.Deep.Strs
import Derived.Deep.QuietTactic
import Derived.Test.YtogdpojnbgeknaaGreatDoorB2
import Derived.Test.YtogdpojnbgeknaaGreatDoorB1
import Derived.Deep.MidRow
set_option maxRecDepth 100000
set_option maxHeartbeats 16000000
namespace Go.Proofs.YtogdpojnbgeknaaGreatDoor
open Go.RowKit
abbrev Ev:=Int×Int×Int×Int×Int×Int
structure Wo where
 code:List Ins
 ws:List Int
 ts:List Int
 D:Int
 bs:List (List (Int×Int))
 th:List Thr
 ev:List Ev
def zWo:Wo:=⟨[],[],[],0,[],[],[]⟩
def e_o (n:Nat) (t:Thr):Bool:=a_R t&&decide (t.lf.length=0∨t.lf.length=n)
def a_6 (X:Wo):Bool:=b_U X.code&&d_o X.ws X.ts X.D X.bs&&decide (X.th.length=X.bs.length)&&X.th.all (e_o X.th.length)
theorem a_M {X:Wo} (h:a_6 X=true):b_U X.code=true∧d_o X.ws X.ts X.D X.bs=true∧X.th.length=X.bs.length∧∀ t∈X.th,e_o X.th.length t=true:=by
 simp only [a_6,Bool.and_eq_true,decide_eq_true_eq,List.all_eq_true] at h;exact ⟨h.1.1.1,h.1.1.2,h.1.2,h.2⟩
def n_L (ts:List Thr) (n k:Nat):Prop:=∀ i t,i < k→ts[i]?=some t→e_o n t=true
theorem f_b {ts:List Thr} {n k:Nat} {t:Thr} (h:n_L ts n k) (ht:ts[k]?=some t) (h1:e_o n t=true):n_L ts n (k+1):=by
 intro i u hi hu
 by_cases e:i=k
 ·subst e;rw [ht] at hu;cases hu;exact h1
 ·exact h i u (by omega) hu
theorem i_j {X:Wo} {n:Nat} (h1:b_U X.code=true) (h2:d_o X.ws X.ts X.D X.bs=true) (h3:X.th.length=X.bs.length) (hn:X.th.length=n) (h:n_L X.th n n):a_6 X=true:=by
 simp only [a_6,Bool.and_eq_true,decide_eq_true_eq,List.all_eq_true];refine ⟨⟨⟨h1,h2⟩,h3⟩,fun t ht=>?_⟩;obtain ⟨i,hi,rfl⟩:=List.mem_iff_getElem.1 ht;rw [hn];exact h i _ (by omega) (List.getElem?_eq_getElem hi)
theorem c_Q {X:Wo} (h:b_U X.code=false∨d_o X.ws X.ts X.D X.bs=false∨X.th.length≠X.bs.length∨∃ t∈X.th,e_o X.th.length t=false):a_6 X=false:=by
 cases hr:a_6 X with
 | false=>rfl
 | true =>
  obtain ⟨h1,h2,h3,h4⟩:=a_M hr
  rcases h with h | h | h | ⟨t,ht,h⟩
  ·rw [h] at h1;cases h1
  ·rw [h] at h2;cases h2
  ·exact absurd h3 h
  ·rw [h4 t ht] at h;cases h
def thW (X:Wo) (k:Nat):Thr:=X.th.getD k d_z
def bfW (X:Wo) (k:Nat):List (Int×Int):=X.bs.getD k []
def inW (X:Wo) (pc:Int):Ins:=X.code.getD pc.toNat (0,0,0,0)
def b_k (X:Wo) (k:Nat) (t:Thr):Wo:={ X with th:=X.th.set k t }
def b_w (t:Thr) (e:Int):Thr:={ t with st:=2,ft:=e }
def b_j (t:Thr):Thr:={ t with pc:=t.pc+1 }
def k_C (X:Wo) (t:Thr) (b:List (Int×Int)) (i:Ins):Bool:=
 if i.1=17 then decide (X.D=0∨(b.length:Int) < X.D) else
 if i.1=18∨i.1=19∨i.1=20∨i.1=21 then decide (b.length=0) else
 if i.1=22 then t.lf.all (fun n=>decide (n=0)) else
 if i.1=23 then decide (b.length=0)&&(decide (a_I X.ws X.ts (rgt t i.2.2.1)≠0)||decide (b_L X.ws X.ts (rgt t i.2.2.1)≠rgt t i.2.1)) else true
def n_A (X:Wo) (t:Thr) (b:List (Int×Int)):Bool:=if t.st≠0 then false else if (X.code.length:Int)≤t.pc then true else k_C X t b (inW X t.pc)
def g_8 (X:Wo) (k:Nat):Bool:=n_A X (thW X k) (bfW X k)
def f_r (X:Wo) (k:Int):Bool:=decide (0≤k∧k < X.th.length)
def b_m (X:Wo):List Int:=X.bs.map fun b=>(b.length:Int)
def d_f (X:Wo) (k:Nat) (t:Thr) (i:Ins):Int:=
 if 1≤i.1∧i.1≤15 then (if t.lf.length=0 then doE t i else 9) else
 if i.1=16 then c_8 X.ws X.ts X.D X.bs k (wrap64 (rgt t i.2.2.1+i.2.2.2)) else
 if i.1=17 then b_g X.ws X.ts X.D X.bs k (wrap64 (rgt t i.2.2.1+i.2.2.2)) else
 if 19≤i.1∧i.1≤21 then b_y X.ws X.ts X.D X.bs k (i.1 - 19) (rgt t i.2.2.1) else
 if i.1=24∨i.1=25 then c_F X.ws X.ts (rgt t i.2.1) (rgt t i.2.2.1) (i.1 - 23) else 0
def d_3 (X:Wo) (k:Nat) (t:Thr) (i:Ins):Wo:=
 if i.1=0 then b_k X k { t with st:=1 } else
 if 1≤i.1∧i.1≤15 then b_k X k (doT t k i) else
 if i.1=16 then b_k X k (c_2 t i.2.1 (f_m X.ws X.ts X.D X.bs k (wrap64 (rgt t i.2.2.1+i.2.2.2)))) else
 if i.1=17 then { b_k X k (b_j t) with ws:=b_O X.ws X.D (wrap64 (rgt t i.2.2.1+i.2.2.2)) (rgt t i.2.1),bs:=b_J X.D X.bs k (wrap64 (rgt t i.2.2.1+i.2.2.2)) (rgt t i.2.1) } else
 if 19≤i.1∧i.1≤21 then { b_k X k (c_2 t i.2.1 (b_L X.ws X.ts (rgt t i.2.2.1))) with ws:=b_z X.ws X.ts (i.1 - 19) (rgt t i.2.2.1) (rgt t i.2.1) (rgt t i.2.2.2) } else
 if i.1=22 then (if t.lf.length=0 then b_k X k { t with lf:=b_m X } else b_k X k { b_j t with lf:=[] }) else
 if i.1=24∨i.1=25 then { b_k X k (b_j t) with ts:=c_O X.ws X.ts (rgt t i.2.1) (rgt t i.2.2.1) (i.1 - 23) } else
 if i.1=26 then { b_k X k (b_j t) with ev:=X.ev++[(i.2.1,(k:Int),t.r 0,t.r 1,t.r 2,t.r 3)] } else b_k X k (b_j t)
def g_q (X:Wo) (k:Nat):Int:=if (X.code.length:Int)≤(thW X k).pc then 3 else d_f X k (thW X k) (inW X (thW X k).pc)
def c_R (X:Wo) (k:Nat):Wo:=if g_q X k=0 then d_3 X k (thW X k) (inW X (thW X k).pc) else b_k X k (b_w (thW X k) (g_q X k))
def i_O (X:Wo) (k:Nat) (t:Thr) (i:Ins):Wo:=
 if c_F X.ws X.ts (rgt t i.2.1) (rgt t i.2.2.1) (i.1 - 23)=0 then { b_k X k (b_j t) with ts:=c_O X.ws X.ts (rgt t i.2.1) (rgt t i.2.2.1) (i.1 - 23) } else b_k X k (b_w t (c_F X.ws X.ts (rgt t i.2.1) (rgt t i.2.2.1) (i.1 - 23)))
def k_7 (X:Wo) (k:Nat) (t:Thr) (i:Ins):Wo:=
 if b_y X.ws X.ts X.D X.bs k (i.1 - 19) (rgt t i.2.2.1)=0 then { b_k X k (c_2 t i.2.1 (b_L X.ws X.ts (rgt t i.2.2.1))) with ws:=b_z X.ws X.ts (i.1 - 19) (rgt t i.2.2.1) (rgt t i.2.1) (rgt t i.2.2.2) } else b_k X k (b_w t (b_y X.ws X.ts X.D X.bs k (i.1 - 19) (rgt t i.2.2.1)))
def u_e (X:Wo) (k:Nat) (t:Thr) (i:Ins):Wo:=
 if c_8 X.ws X.ts X.D X.bs k (wrap64 (rgt t i.2.2.1+i.2.2.2))=0 then b_k X k (c_2 t i.2.1 (f_m X.ws X.ts X.D X.bs k (wrap64 (rgt t i.2.2.1+i.2.2.2)))) else b_k X k (b_w t (c_8 X.ws X.ts X.D X.bs k (wrap64 (rgt t i.2.2.1+i.2.2.2))))
def s_g (X:Wo) (k:Nat) (t:Thr) (i:Ins):Wo:=
 if b_g X.ws X.ts X.D X.bs k (wrap64 (rgt t i.2.2.1+i.2.2.2))=0 then { b_k X k (b_j t) with ws:=b_O X.ws X.D (wrap64 (rgt t i.2.2.1+i.2.2.2)) (rgt t i.2.1),bs:=b_J X.D X.bs k (wrap64 (rgt t i.2.2.1+i.2.2.2)) (rgt t i.2.1) } else b_k X k (b_w t (b_g X.ws X.ts X.D X.bs k (wrap64 (rgt t i.2.2.1+i.2.2.2))))
def p_1 (X:Wo) (k:Nat) (t:Thr) (i:Ins):Wo:=if i.1=16 then u_e X k t i else s_g X k t i
def g_B (X:Wo) (k:Nat) (t:Thr):Wo:=if t.lf.length=0 then b_k X k { t with lf:=b_m X } else b_k X k { b_j t with lf:=[] }
def i_M (k:Nat) (t:Thr):Thr:=if t.lf.length=0 then t else { t with lf:=t.lf.set k (max 0 (t.lf.getD k 0 - 1)) }
def flE (X:Wo) (k:Nat):Int:=a_I X.ws X.ts (f_O (bfW X k)).1
def flT (X:Wo) (k:Nat):Thr:=if flE X k=0∨(thW X k).st=2 then thW X k else b_w (thW X k) (flE X k)
def d_x (X:Wo) (k:Nat):Wo:=
 { X with ws:=if flE X k=0 then X.ws.set (f_O (bfW X k)).1.toNat (f_O (bfW X k)).2 else X.ws,bs:=X.bs.set k (e_K (bfW X k)),th:=(X.th.set k (flT X k)).map (i_M k) }
def e_f (X:Wo) (a:Int×Int):Bool:=f_r X a.2&&(if a.1=0 then g_8 X a.2.toNat else decide (a.1=1)&&decide ((bfW X a.2.toNat).length≠0))
def doW (X:Wo) (a:Int×Int):Wo:=if e_f X a=true then (if a.1=0 then c_R X a.2.toNat else d_x X a.2.toNat) else X
def j_4 (X:Wo) (l:List (Int×Int)):Wo:=l.foldl doW X
def l_b (code:List Ins) (starts:List Int) (ws ts:List Int) (D:Int):Wo:=⟨code,ws,ts,D,List.replicate starts.length [],starts.map (fun s=>{ d_z with pc:=s }),[]⟩
theorem d_T {i:Ins} {m:Int} (h:c_K i m=true):(0≤i.1∧i.1 < 27)∧∀ k,k < 3→kOk i m (opSign.getD i.1.toNat []) k=true:=by
  simp only [c_K,Bool.and_eq_true,decide_eq_true_eq,List.all_eq_true] at h;exact ⟨h.1,fun k hk=>h.2 k (List.mem_range.2 hk)⟩
theorem c_7 {i:Ins} {m:Int} (h:c_K i m=true) (ho:i.1=16∨i.1=17∨(19≤i.1∧i.1≤21)∨(23≤i.1∧i.1≤25)):(0≤i.2.1∧i.2.1≤7)∧(0≤i.2.2.1∧i.2.2.1≤7)∧((19≤i.1∧i.1≤21)→0≤i.2.2.2∧i.2.2.2≤7):=by
  obtain ⟨o,a,b,c⟩:=i;obtain ⟨-,h2⟩:=d_T h;simp only at ho ⊢;have k0:=h2 0 (by omega);have k1:=h2 1 (by omega);have k2:=h2 2 (by omega)
  rcases (show o=16∨o=17∨o=19∨o=20∨o=21∨o=23∨o=24∨o=25 by omega) with rfl | rfl | rfl | rfl | rfl | rfl | rfl | rfl <;>
    (simp [kOk,opSign,e_c,b_T] at k0 k1 k2;omega)
theorem k_W {i:Ins} {m:Int} (h:c_K i m=true) (hm:m≤1000) (ho:1≤i.1∧i.1≤15):c_6 i=true:=by
  obtain ⟨o,a,b,c⟩:=i;obtain ⟨-,h2⟩:=d_T h;simp only at ho;have k0:=h2 0 (by omega);have k1:=h2 1 (by omega);have k2:=h2 2 (by omega)
  rcases (show o=1∨o=2∨o=3∨o=4∨o=5∨o=6∨o=7∨o=8∨o=9∨o=10∨o=11∨o=12∨o=13∨o=14∨o=15 by omega) with rfl | rfl | rfl | rfl | rfl | rfl | rfl | rfl | rfl | rfl | rfl | rfl | rfl | rfl | rfl <;>
    (simp [kOk,opSign,e_c,b_T] at k0 k1 k2
     simp [c_6,g_J,i_c,n_C,opd,List.range_succ]
     try omega)
theorem m_q {X:Wo} {k:Nat} (h:(X.code.length:Int)≤(thW X k).pc):c_R X k=b_k X k (b_w (thW X k) 3):=by
  have e:g_q X k=3:=by rw [g_q,if_pos h]
  rw [c_R,e,if_neg (by decide)]
theorem p_G {X:Wo} {k:Nat} (h:(thW X k).pc < X.code.length):c_R X k=if d_f X k (thW X k) (inW X (thW X k).pc)=0 then d_3 X k (thW X k) (inW X (thW X k).pc) else b_k X k (b_w (thW X k) (d_f X k (thW X k) (inW X (thW X k).pc))):=by
  have e:g_q X k=d_f X k (thW X k) (inW X (thW X k).pc):=by rw [g_q,if_neg (by omega)]
  rw [c_R,e]
def goX (X:Wo) (k:Nat) (t:Thr) (i:Ins):Wo:=if d_f X k t i=0 then d_3 X k t i else b_k X k (b_w t (d_f X k t i))
theorem s_M {X:Wo} {k:Nat} {t:Thr} {i:Ins} (h:i.1=0):goX X k t i=b_k X k { t with st:=1 }:=by
  simp [goX,d_f,d_3,h]
theorem s_N {X:Wo} {k:Nat} {t:Thr} {i:Ins} (h:1≤i.1∧i.1≤15) (hl:t.lf.length≠0):goX X k t i=b_k X k (b_w t 9):=by
  have e:d_f X k t i=9:=by rw [d_f,if_pos h,if_neg hl]
  rw [goX,e,if_neg (by decide)]
theorem t_9 {X:Wo} {k:Nat} {t:Thr} {i:Ins} (h:1≤i.1∧i.1≤15) (hl:t.lf.length=0):goX X k t i=if doE t i=0 then b_k X k (doT t k i) else b_k X k (b_w t (doE t i)):=by
  have e:d_f X k t i=doE t i:=by rw [d_f,if_pos h,if_pos hl]
  rw [goX,e];congr 1;rw [d_3,if_neg (by omega),if_pos h]
theorem r_5 {X:Wo} {k:Nat} {t:Thr} {i:Ins} (h:i.1=16∨i.1=17):goX X k t i=p_1 X k t i:=by
  rcases h with h | h
  · have e:d_f X k t i=c_8 X.ws X.ts X.D X.bs k (wrap64 (rgt t i.2.2.1+i.2.2.2)):=by rw [d_f,if_neg (by omega),if_pos h]
    rw [goX,e,p_1,if_pos h,u_e];congr 1;rw [d_3,if_neg (by omega),if_neg (by omega),if_pos h]
  · have e:d_f X k t i=b_g X.ws X.ts X.D X.bs k (wrap64 (rgt t i.2.2.1+i.2.2.2)):=by rw [d_f,if_neg (by omega),if_neg (by omega),if_pos h]
    rw [goX,e,p_1,if_neg (show ¬ i.1=16 by omega),s_g];congr 1;rw [d_3,if_neg (by omega),if_neg (by omega),if_neg (by omega),if_pos h]
theorem s_O {X:Wo} {k:Nat} {t:Thr} {i:Ins} (h:19≤i.1∧i.1≤21):goX X k t i=k_7 X k t i:=by
  have e:d_f X k t i=b_y X.ws X.ts X.D X.bs k (i.1 - 19) (rgt t i.2.2.1):=by rw [d_f,if_neg (by omega),if_neg (by omega),if_neg (by omega),if_pos h]
  rw [goX,e,k_7];congr 1;rw [d_3,if_neg (by omega),if_neg (by omega),if_neg (by omega),if_neg (by omega),if_pos h]
theorem q_K {X:Wo} {k:Nat} {t:Thr} {i:Ins} (h:i.1=22):goX X k t i=g_B X k t:=by
  have e:=N87;rw [goX,e,if_pos rfl,d_3,if_neg (by omega),if_neg (by omega),if_neg (by omega),if_neg (by omega),if_neg (by omega),if_pos h,g_B]
theorem o_l {X:Wo} {k:Nat} {t:Thr} {i:Ins} (h:i.1=24∨i.1=25):goX X k t i=i_O X k t i:=by
  have e:d_f X k t i=c_F X.ws X.ts (rgt t i.2.1) (rgt t i.2.2.1) (i.1 - 23):=by rw [d_f,if_neg (by omega),if_neg (by omega),if_neg (by omega),if_neg (by omega),if_pos h]
  rw [goX,e,i_O];congr 1;rw [d_3,if_neg (by omega),if_neg (by omega),if_neg (by omega),if_neg (by omega),if_neg (by omega),if_neg (by omega),if_pos h]
theorem q_L {X:Wo} {k:Nat} {t:Thr} {i:Ins} (h:i.1=26):goX X k t i={ b_k X k (b_j t) with ev:=X.ev++[(i.2.1,(k:Int),t.r 0,t.r 1,t.r 2,t.r 3)] }:=by
  have e:=N87;rw [goX,e,if_pos rfl,d_3,if_neg (by omega),if_neg (by omega),if_neg (by omega),if_neg (by omega),if_neg (by omega),if_neg (by omega),if_neg (by omega),if_pos h]
theorem o_m {X:Wo} {k:Nat} {t:Thr} {i:Ins} (h:i.1=18∨i.1=23):goX X k t i=b_k X k (b_j t):=by
  have e:=N87;rw [goX,e,if_pos rfl,d_3,if_neg (by omega),if_neg (by omega),if_neg (by omega),if_neg (by omega),if_neg (by omega),if_neg (by omega),if_neg (by omega),if_neg (by omega)]
end Go.Proofs.YtogdpojnbgeknaaGreatDoor
namespace Go.Proofs.YtogdpojnbgeknaaGreatDoor
theorem mayT_iff {ws ts:List Int} {D:Int} {bs:List (List (Int×Int))}:d_o ws ts D bs=true ↔ d_g ws ts=true∧c_f bs.length D=true∧∀ b∈bs,g_c ws.length D b=true:=by
 simp only [d_o,Bool.and_eq_true,List.all_eq_true,and_assoc]
theorem n_1 {N:Nat} {D x v:Int} {b:List (Int×Int)} (hb:g_c N D b=true) (hl:(b.length:Int)≠D) (h0:0≤x) (h1:x < N):g_c N D (b++[(x,v)])=true:=by
 simp only [g_c,Bool.and_eq_true,decide_eq_true_eq,List.all_eq_true] at hb ⊢;refine ⟨by rw [List.length_append,List.length_singleton];have:=hb.1;omega,fun p hp=>?_⟩
 rcases List.mem_append.1 hp with h | h
 ·exact hb.2 p h
 ·simp at h;subst h;simp [inP,h0,h1]
theorem g_j {ws ts:List Int} {D x v:Int} {bs:List (List (Int×Int))} (hm:d_o ws ts D bs=true) (hu:a_I ws ts x=0):d_o (ws.set x.toNat v) ts D bs=true:=by
 obtain ⟨h1,h2,h3⟩:=mayT_iff.1 hm;obtain ⟨_,_,_,ht⟩:=d_0 hu;refine mayT_iff.2 ⟨s_0 h1 (by rw [ht];decide),h2,?_⟩;rw [List.length_set];exact h3
theorem i_e {ws ts:List Int} {D:Int} {bs:List (List (Int×Int))} {j:Nat} {b:List (Int×Int)} (hm:d_o ws ts D bs=true) (hb:g_c ws.length D b=true):d_o ws ts D (bs.set j b)=true:=by
 obtain ⟨h1,h2,h3⟩:=mayT_iff.1 hm;refine mayT_iff.2 ⟨h1,by rw [List.length_set];exact h2,fun c hc=>?_⟩
 rcases List.mem_or_eq_of_mem_set hc with h | h
 ·exact h3 c h
 ·rw [h];exact hb
theorem o_S {ws ts:List Int} {D th:Int} {bs:List (List (Int×Int))} (h:j_D ws ts D bs th=true):g_c ws.length D (d_Q bs th)=true:=by
 obtain ⟨hm,h0,h1⟩:=d_j h;have e:d_Q bs th=bs[th.toNat]'(by omega):=by simp [d_Q,show th.toNat < bs.length by omega]
 rw [e];exact (mayT_iff.1 hm).2.2 _ (List.getElem_mem _)
theorem n_p {ws ts:List Int} {D th x:Int} {bs:List (List (Int×Int))} (h:b_g ws ts D bs th x=0):j_D ws ts D bs th=true∧a_I ws ts x=0∧(D=0∨(D≠0∧((d_Q bs th).length:Int)≠D)):=by
 unfold b_g at h
 split at h
 ·rename_i h1
  split at h
  ·rename_i h2
   refine ⟨h1,h2,?_⟩
   split at h
   ·left;assumption
   ·rename_i h3
    split at h
    ·simp at h
    ·right;exact ⟨h3,by assumption⟩
  ·exact absurd h (by assumption)
 ·simp at h
end Go.Proofs.YtogdpojnbgeknaaGreatDoor
namespace Go.Proofs.YtogdpojnbgeknaaGreatDoor
open Go.RowKit
theorem f_Z {X:Wo} (h1:b_U X.code=true) (h2:d_o X.ws X.ts X.D X.bs=true) (h3:X.th.length=X.bs.length) (h4:∀ t∈X.th,e_o X.th.length t=true):a_6 X=true:=by
 simp only [a_6,Bool.and_eq_true,decide_eq_true_eq,List.all_eq_true];exact ⟨⟨⟨h1,h2⟩,h3⟩,h4⟩
theorem oneW_iff {n:Nat} {t:Thr}:e_o n t=true ↔ (0≤t.pc∧t.pc≤1000)∧c_p t.fs=true∧e_a t.st t.ft=true∧b_6 t.lf=true∧(t.lf.length=0∨t.lf.length=n):=by
 simp only [e_o,a_R,Bool.and_eq_true,decide_eq_true_eq,and_assoc]
theorem b_Z {X:Wo} {k:Nat} {t:Thr} (h:a_6 X=true) (ht:e_o X.th.length t=true):a_6 (b_k X k t)=true:=by
 obtain ⟨h1,h2,h3,h4⟩:=a_M h;refine f_Z h1 h2 ?_ ?_
 ·show (X.th.set k t).length=_
  rw [List.length_set];exact h3
 ·intro u hu
  show e_o (X.th.set k t).length u=true
  rw [List.length_set]
  rcases List.mem_or_eq_of_mem_set hu with h | h
  ·exact h4 u h
  ·subst h;exact ht
theorem f_H {X:Wo} {ws ts:List Int} {bs:List (List (Int×Int))} (h:a_6 X=true) (hm:d_o ws ts X.D bs=true) (hl:bs.length=X.bs.length):a_6 { X with ws:=ws,ts:=ts,bs:=bs }=true:=by
 obtain ⟨h1,-,h3,h4⟩:=a_M h;exact f_Z (X:={ X with ws:=ws,ts:=ts,bs:=bs }) h1 hm (h3.trans hl.symm) h4
theorem h_k {n:Nat} {t:Thr} {e:Int} (h:e_o n t=true) (h1:1≤e) (h2:e≤16):e_o n (b_w t e)=true:=by
 rw [oneW_iff] at h ⊢;refine ⟨h.1,h.2.1,?_,h.2.2.2⟩;simp only [b_w,e_a,decide_eq_true_eq];exact .inl ⟨trivial,h1,h2⟩
theorem r_8 {n:Nat} {t:Thr} {pc:Int} {r:Nat→Int} (h:e_o n t=true) (hp:0≤pc∧pc≤1000):e_o n ⟨pc,r,t.fs,t.st,t.ft,t.lf⟩=true:=by
 rw [oneW_iff] at h ⊢;exact ⟨hp,h.2⟩
theorem f_V {n:Nat} {t:Thr} (h:e_o n t=true) (hp:t.pc < 1000):e_o n (b_j t)=true:=by
 have:=(oneW_iff.1 h).1;exact r_8 h (by omega)
theorem p_c {n:Nat} {t:Thr} {a v:Int} (h:e_o n t=true) (hp:t.pc < 1000):e_o n (c_2 t a v)=true:=by
 have:=(oneW_iff.1 h).1;exact r_8 h (by omega)
theorem p_b {n:Nat} {t:Thr} {l:List Int} (h:e_o n t=true) (h1:b_6 l=true) (h2:l.length=0∨l.length=n):e_o n { t with lf:=l }=true:=by
 rw [oneW_iff] at h ⊢;exact ⟨h.1,h.2.1,h.2.2.1,h1,h2⟩
def E16 (e:Int):Prop:=0≤e∧e≤16
theorem p_K (t:Int):E16 (r_D t):=by unfold r_D E16;repeat' split;all_goals omega
theorem r_C (t:Int):E16 (r_B t):=by unfold r_B E16;repeat' split;all_goals omega
theorem f_6 (ws ts:List Int) (i:Int):E16 (a_I ws ts i):=by
 unfold a_I
 split
 ·split
  ·exact p_K _
  ·unfold E16;omega
 ·unfold E16;omega
theorem o_I {ws ts:List Int} {D:Int} {bs:List (List (Int×Int))} {th x:Int}:E16 (c_8 ws ts D bs th x):=by
 unfold c_8;split
 ·exact f_6 _ _ _
 ·unfold E16;omega
theorem n_o {ws ts:List Int} {D:Int} {bs:List (List (Int×Int))} {th x:Int}:E16 (b_g ws ts D bs th x):=by
 unfold b_g;split
 ·split
  ·repeat' split
   all_goals (unfold E16;omega)
  ·exact f_6 _ _ _
 ·unfold E16;omega
theorem o_N {ws ts:List Int} {D:Int} {bs:List (List (Int×Int))} {th k x:Int}:E16 (b_y ws ts D bs th k x):=by
 unfold b_y;split
 ·split
  ·exact f_6 _ _ _
  ·unfold E16;omega
 ·unfold E16;omega
theorem t_l (tag t:Int):E16 (j_g tag t):=by
 unfold j_g;split
 ·exact r_C _
 ·exact p_K _
theorem r_t {f:Int→Int} (hf:∀ t,E16 (f t)) (ts:List Int) (i k:Nat):E16 (f_o f ts i k):=by
 induction k with
 | zero=>unfold f_o E16;omega
 | succ k ih =>
  unfold f_o
  split
  ·exact hf _
  ·exact ih
theorem q_0 {ws ts:List Int} {i k tag:Int}:E16 (c_F ws ts i k tag):=by
 unfold c_F;split
 ·split
  ·exact r_t (t_l _) _ _ _
  ·unfold E16;omega
 ·unfold E16;omega
theorem t_5 {t:Thr} {i:Ins}:E16 (doE t i):=by
 unfold doE d_B e_p
 repeat' split
 all_goals (unfold E16;omega)
theorem s_T {X:Wo} {k:Nat} {t:Thr} {i:Ins}:E16 (d_f X k t i):=by
 unfold d_f
 split
 ·split
  ·exact t_5
  ·unfold E16;omega
 ·repeat' split
  ·exact o_I
  ·exact n_o
  ·exact o_N
  ·exact q_0
  ·unfold E16;omega
theorem g_r {X:Wo} {k:Nat} (hk:k < X.th.length):thW X k∈X.th:=by
 rw [thW,List.getD_eq_getElem?_getD,List.getElem?_eq_getElem hk];exact List.getElem_mem hk
theorem o_C {X:Wo} {pc:Int} (h0:0≤pc) (h1:pc < X.code.length):inW X pc∈X.code:=by
 exact J108
theorem d_t {c:List Ins} (h:b_U c=true):c.length≤1000∧∀ i∈c,c_K i c.length=true:=by
 simpa only [b_U,Bool.and_eq_true,decide_eq_true_eq,List.all_eq_true] using h
theorem s_A {X:Wo} {k:Nat} (h:a_6 X=true) (hk:k < X.th.length):g_c X.ws.length X.D (bfW X k)=true:=by
 obtain ⟨-,h2,h3,-⟩:=a_M h;refine (mayT_iff.1 h2).2.2 _ ?_;rw [bfW,List.getD_eq_getElem?_getD,List.getElem?_eq_getElem (show k < X.bs.length by omega)];exact List.getElem_mem _
theorem i_1 {X:Wo} (h:a_6 X=true):b_6 (b_m X)=true:=by
 obtain ⟨-,h2,-,-⟩:=a_M h;obtain ⟨-,hb,hd,-⟩:=a_S h2;simp only [b_6,b_m,List.length_map,Bool.and_eq_true,decide_eq_true_eq,List.all_eq_true,List.mem_map];refine ⟨by omega,?_⟩;rintro z ⟨b,hbm,rfl⟩;have:=(mayT_iff.1 h2).2.2 b hbm;simp only [g_c,Bool.and_eq_true,decide_eq_true_eq] at this
 omega
theorem q_M {X:Wo} {k:Nat} {t:Thr} {i:Ins} (h:a_6 X=true) (hk:k < X.th.length) (ht:e_o X.th.length t=true) (hst:t.st=0) (hpc:t.pc < 1000) (hi:c_K i X.code.length=true) (hc:X.code.length≤1000):a_6 (goX X k t i)=true:=by
 have hE:=s_T (X:=X) (k:=k) (t:=t) (i:=i);have h2:=(a_M h).2.1;have h3:=(a_M h).2.2.1;have hmb:=(mayT_iff.1 h2).1;unfold goX
 split
 ·rename_i he
  unfold d_3
  split
  ·refine b_Z h ?_;rw [oneW_iff] at ht ⊢;refine ⟨ht.1,ht.2.1,?_,ht.2.2.2⟩;have h9:=ht.2.2.1;simp only [e_a,decide_eq_true_eq] at h9 ⊢;refine .inr ⟨.inr trivial,?_⟩
   rcases h9 with h9 | h9
   ·rw [hst] at h9;exact absurd h9.1 (by decide)
   ·exact h9.2
  ·split
   ·rename_i h0 hl
    by_cases hlf:t.lf.length=0
    ·have hd:doE t i=0:=by rw [d_f,if_pos hl,if_pos hlf] at he;exact he
     have hrt:a_R t=true:=by simp only [e_o,Bool.and_eq_true] at ht;exact ht.1
     have hb8:X.bs.length≤8:=(a_S h2).2.1.2;have hk8:k < 8:=by have:=(a_M h).2.2.1;omega
     have ha:apE t k i=0:=by
      have hr7:f_S t k=true:=by simp only [f_S,hrt,Bool.true_and,decide_eq_true_eq];exact ⟨by omega,by omega⟩
      have hrd:d_7 t=true:=by simp [d_7,hst,hlf]
      rw [apE,if_neg (by rintro (h | h);rw [hr7] at h;cases h;omega),if_neg (by rw [hrd];decide),if_neg (by omega),if_neg (by rw [k_W hi (by omega) hl];decide),hd]
     obtain ⟨r1,r2,r3⟩:=r_q ha;rw [(r_Z ha).2.2.2.2.2.2.2.2.2] at r1 r2 r3;refine b_Z h ?_;simp only [e_o,r1,r3,Bool.true_and,decide_eq_true_eq];exact .inl rfl
    ·rw [d_f,if_pos hl,if_neg hlf] at he
     omega
   ·split
    ·exact b_Z h (p_c ht hpc)
    ·split
     ·rename_i n0 n1 n16 h17
      have hs:b_g X.ws X.ts X.D X.bs k (wrap64 (rgt t i.2.2.1+i.2.2.2))=0:=by rw [d_f,if_neg n1,if_neg n16,if_pos h17] at he;exact he
      obtain ⟨s1,s2,s3⟩:=n_p hs;obtain ⟨hu1,hu2,hu3,-⟩:=d_0 s2;refine f_H (X:=b_k X k (b_j t)) (b_Z h (f_V ht hpc)) ?_ ?_
      ·show d_o (b_O X.ws X.D _ _) X.ts X.D (b_J X.D X.bs k _ _)=true
       by_cases hD:X.D=0
       ·rw [b_O,if_pos hD,b_J,if_pos hD];exact g_j h2 s2
       ·rw [b_O,if_neg hD,b_J,if_neg hD];refine i_e h2 (n_1 (o_S s1) ?_ hu2 hu3)
        rcases s3 with h | h
        ·exact absurd h hD
        ·exact h.2
      ·show (b_J X.D X.bs k _ _).length=X.bs.length
       unfold b_J;split
       ·rfl
       ·rw [List.length_set]
     ·split
      ·rename_i n0 n1 n16 n17 hl
       have hs:b_y X.ws X.ts X.D X.bs k (i.1 - 19) (rgt t i.2.2.1)=0:=by rw [d_f,if_neg n1,if_neg n16,if_neg n17,if_pos hl] at he;exact he
       have hu:a_I X.ws X.ts (rgt t i.2.2.1)=0:=by
        unfold b_y at hs
        split at hs
        ·split at hs
         ·exact hs
         ·omega
        ·omega
       exact f_H (X:=b_k X k (c_2 t _ _)) (b_Z h (p_c ht hpc)) (g_j h2 hu) rfl
      ·split
       ·split
        ·exact b_Z h (p_b ht (i_1 h) (.inr (by rw [b_m,List.length_map,h3])))
        ·exact b_Z h (p_b (t:=b_j t) (f_V ht hpc) (by simp [b_6]) (.inl rfl))
       ·split
        ·rename_i n0 n1 n16 n17 nl n22 hm
         have hs:c_F X.ws X.ts (rgt t i.2.1) (rgt t i.2.2.1) (i.1 - 23)=0:=by rw [d_f,if_neg n1,if_neg n16,if_neg n17,if_neg nl,if_pos hm] at he;exact he
         refine f_H (X:=b_k X k (b_j t)) (b_Z h (f_V ht hpc)) ?_ rfl
         show d_o X.ws (c_O X.ws X.ts _ _ _) X.D X.bs=true
         rw [c_O,if_pos hs];refine mayT_iff.2 ⟨q_1 hmb (by omega),(mayT_iff.1 h2).2⟩
        ·split
         ·exact b_Z h (f_V ht hpc)
         ·exact b_Z h (f_V ht hpc)
 ·exact b_Z h (h_k ht (by unfold E16 at hE;omega) hE.2)
theorem k_D {X:Wo} {k:Nat} (h:g_8 X k=true):(thW X k).st=0:=by
 unfold g_8 n_A at h
 split at h
 ·cases h
 ·rename_i h1;exact Classical.not_not.1 h1
theorem n_m {X:Wo} {k:Nat} (h:a_6 X=true) (hk:k < X.th.length) (hc:g_8 X k=true):a_6 (c_R X k)=true:=by
 have h1:=d_t (a_M h).1;have ht:=(a_M h).2.2.2 _ (g_r hk);have hp:=(oneW_iff.1 ht).1
 by_cases hpc:(thW X k).pc < X.code.length
 ·rw [p_G hpc];exact q_M h hk ht (k_D hc) (by omega) (h1.2 _ (o_C hp.1 hpc)) h1.1
 ·rw [m_q (by omega)];exact b_Z h (h_k ht (by omega) (by omega))
theorem k_P {X:Wo} {k:Nat} (h:a_6 X=true) (hk:k < X.th.length):a_6 (d_x X k)=true:=by
 obtain ⟨h1,h2,h3,h4⟩:=a_M h;have hE:=f_6 X.ws X.ts (f_O (bfW X k)).1;have hbuf:=s_A h hk
 have hrest:g_c X.ws.length X.D (e_K (bfW X k))=true:=by
  simp only [g_c,Bool.and_eq_true,decide_eq_true_eq,List.all_eq_true] at hbuf ⊢;refine ⟨by have:=hbuf.1;rw [e_K,List.length_drop];omega,fun p hp=>hbuf.2 p (List.mem_of_mem_drop hp)⟩
 have hlen:((X.th.set k (flT X k)).map (i_M k)).length=X.th.length:=by simp
 refine f_Z h1 ?_ ?_ ?_
 ·show d_o (if flE X k=0 then _ else X.ws) X.ts X.D (X.bs.set k (e_K (bfW X k)))=true
  have hm:=i_e (j:=k) h2 hrest
  split
  ·rename_i he
   exact g_j hm he
  ·exact hm
 ·show ((X.th.set k (flT X k)).map (i_M k)).length=(X.bs.set k _).length
  rw [hlen,List.length_set,h3]
 ·intro u hu
  show e_o ((X.th.set k (flT X k)).map (i_M k)).length u=true
  rw [hlen];have hu:u∈(X.th.set k (flT X k)).map (i_M k):=hu;rw [List.mem_map] at hu;obtain ⟨v,hv,rfl⟩:=hu
  have hv1:e_o X.th.length v=true:=by
   rcases List.mem_or_eq_of_mem_set hv with h | rfl
   ·exact h4 v h
   ·unfold flT
    split
    ·exact h4 _ (g_r hk)
    ·rename_i hn
     exact h_k (h4 _ (g_r hk)) (by unfold E16 at hE;unfold flE at hn ⊢;omega) (by unfold flE;exact hE.2)
  unfold i_M
  split
  ·exact hv1
  ·have h5:=oneW_iff.1 hv1;refine p_b hv1 ?_ (by rw [List.length_set];exact h5.2.2.2.2);have h6:=h5.2.2.2.1;simp only [b_6,Bool.and_eq_true,decide_eq_true_eq,List.all_eq_true,List.length_set] at h6 ⊢;refine ⟨h6.1,fun z hz=>?_⟩
   rcases List.mem_or_eq_of_mem_set hz with h | rfl
   ·exact h6.2 z h
   ·by_cases hkl:k < v.lf.length
    ·have:v.lf.getD k 0∈v.lf:=by rw [List.getD_eq_getElem?_getD,List.getElem?_eq_getElem hkl];exact List.getElem_mem _
     have:=h6.2 _ this
     omega
    ·rw [List.getD_eq_getElem?_getD,List.getElem?_eq_none (by omega)];decide
theorem q_z {X:Wo} {a:Int×Int} (h:a_6 X=true):a_6 (doW X a)=true:=by
 unfold doW
 split
 ·rename_i hd
  simp only [e_f,f_r,Bool.and_eq_true,decide_eq_true_eq] at hd;have hk:a.2.toNat < X.th.length:=by omega
  split
  ·rename_i h0
   rw [if_pos h0] at hd;exact n_m h hk hd.2
  ·rename_i h0
   rw [if_neg h0] at hd;simp only [Bool.and_eq_true,decide_eq_true_eq] at hd;exact k_P h hk
 ·exact h
theorem m_j (X:Wo) (k:Nat) (t:Thr):(b_k X k t).th.length=X.th.length:=by simp [b_k]
theorem i_5 (X:Wo) (k:Nat):(c_R X k).th.length=X.th.length:=by
 unfold c_R d_3
 repeat' split
 all_goals first | exact m_j X k _ | (show (b_k X k _).th.length=_;exact m_j X k _)
theorem t_7 (X:Wo) (a:Int×Int):(doW X a).th.length=X.th.length:=by
 unfold doW
 split
 ·split
  ·exact i_5 _ _
  ·simp [d_x]
 ·rfl
theorem t_p (X:Wo) (k:Nat):(c_R X k).ev.length≤X.ev.length+1:=by
 unfold c_R d_3
 repeat' split
 all_goals (simp [b_k] <;> omega)
theorem u_H (X:Wo) (a:Int×Int):(doW X a).ev.length≤X.ev.length+1:=by
 unfold doW
 split
 ·split
  ·exact t_p _ _
  ·simp [d_x]
 ·omega
def W64 (z:Int):Prop:=(Lit.int .i64 z).wf=true
theorem k_f {z:Int} (h0:-9223372036854775808≤z) (h1:z≤9223372036854775807):W64 z:=WalkArith.wf_i64 (by omega)
theorem e_b:W64 0:=k_f (by omega) (by omega)
theorem r_H (z:Int):W64 (wrap64 z):=RowKit.wrap64_wf z
theorem r_G (op:BinOp) (x y:Int):W64 (bits op .i64 x y):=wf_bits _ _ _ _
structure WfT (t:Thr):Prop where
  r:∀ j,W64 (t.r j)
  fs:∀ f∈t.fs,W64 f.2.1∧W64 f.2.2.1∧W64 f.2.2.2.1∧W64 f.2.2.2.2
structure WfW (X:Wo):Prop where
  code:∀ i∈X.code,W64 i.2.1∧W64 i.2.2.1∧W64 i.2.2.2
  ws:∀ z∈X.ws,W64 z
  bs:∀ b∈X.bs,∀ p∈b,W64 p.2
  th:∀ t∈X.th,WfT t
theorem m_x:WfT d_z:=⟨fun _=>e_b,fun f hf=>by cases hf⟩
theorem h_H {X:Wo} (h:WfW X) (k:Nat):WfT (thW X k):=by
  by_cases hk:k < X.th.length
  · exact h.th _ (g_r hk)
  · rw [thW,List.getD_eq_getElem?_getD,List.getElem?_eq_none (by omega)];exact m_x
theorem g_v {X:Wo} (h:WfW X):∀ j k,k < 8→(Lit.int .i64 ((thW X j).r k)).wf=true:=fun j k _=>(h_H h j).r k
theorem d_1 {X:Wo} (h:WfW X) {k:Nat} {t:Thr} (ht:WfT t):WfW (b_k X k t):=
  ⟨h.code,h.ws,h.bs,fun u hu=>by
    rcases List.mem_or_eq_of_mem_set hu with h1 | rfl
    · exact h.th u h1
    · exact ht⟩
theorem r_N {r:Nat→Int} {a v:Int} (h:∀ j,W64 (r j)) (hv:W64 v):∀ j,W64 (b_Y r a v j):=fun j=>by
  unfold b_Y;split
  · exact hv
  · exact h j
theorem l_x {t:Thr} {a v:Int} (h:WfT t) (hv:W64 v):WfT (c_2 t a v):=⟨r_N h.r hv,h.fs⟩
theorem g_W {t:Thr} (h:WfT t):WfT (b_j t):=⟨h.r,h.fs⟩
theorem k_g {t:Thr} (h:WfT t) (a:Int):W64 (rgt t a):=h.r _
theorem u_s {t:Thr} {k:Int} {i:Ins} (h:WfT t) (hi:W64 i.2.1∧W64 i.2.2.1∧W64 i.2.2.2) (hk:W64 k):W64 (opV t k i):=by
  unfold opV
  repeat' split
  all_goals first | exact hi.2.1 | exact k_g h _ | exact r_H _ | exact r_G _ _ _ | exact hk | exact e_b | exact k_f (by omega) (by omega)
theorem u_o {t:Thr} {k:Int} {i:Ins} (h:WfT t) (hi:W64 i.2.1∧W64 i.2.2.1∧W64 i.2.2.2) (hk:W64 k):WfT (doT t k i):=by
  unfold doT brT goT f_l g_a
  repeat' split
  all_goals first
    | exact ⟨h.r,h.fs⟩
    | exact m_x
    | exact l_x h (u_s h hi hk)
    | (refine ⟨h.r,fun f hf=>?_⟩
       rcases List.mem_append.1 hf with h1 | h1
       · exact h.fs f h1
       · obtain rfl:=List.mem_singleton.1 h1
         exact ⟨h.r _,h.r _,h.r _,h.r _⟩)
    | (have hl:∀ f,f=e_I t→W64 f.2.1∧W64 f.2.2.1∧W64 f.2.2.2.1∧W64 f.2.2.2.2:=by
         rintro f rfl;unfold e_I
         by_cases hq:t.fs.length - 1 < t.fs.length
         · rw [List.getD_eq_getElem?_getD,List.getElem?_eq_getElem hq];exact h.fs _ (List.getElem_mem hq)
         · rw [List.getD_eq_getElem?_getD,List.getElem?_eq_none (by omega)];exact ⟨e_b,e_b,e_b,e_b⟩
       refine ⟨fun j=>?_,fun f hf=>h.fs f (List.mem_of_mem_take hf)⟩;have hl:=hl _ rfl
       show W64 (j_Z t.r _ _ _ _ j)
       unfold j_Z
       repeat' split
       all_goals first | exact hl.1 | exact hl.2.1 | exact hl.2.2.1 | exact hl.2.2.2 | exact h.r j)
theorem t_v {ws:List Int} (h:∀ z∈ws,W64 z) (i:Nat):W64 (ws.getD i 0):=by
  by_cases hq:i < ws.length
  · rw [List.getD_eq_getElem?_getD,List.getElem?_eq_getElem hq];exact h _ (List.getElem_mem hq)
  · rw [List.getD_eq_getElem?_getD,List.getElem?_eq_none (by omega)];exact e_b
theorem j_e {ws ts:List Int} (h:∀ z∈ws,W64 z) (i:Int):W64 (b_L ws ts i):=by
  unfold b_L;split
  · exact t_v h _
  · exact e_b
theorem j_d {bs:List (List (Int×Int))} (h:∀ b∈bs,∀ p∈b,W64 p.2) (k:Int):∀ p∈d_Q bs k,W64 p.2:=by
  unfold d_Q
  by_cases hq:k.toNat < bs.length
  · rw [List.getD_eq_getElem?_getD,List.getElem?_eq_getElem hq];exact h _ (List.getElem_mem hq)
  · rw [List.getD_eq_getElem?_getD,List.getElem?_eq_none (by omega)];intro p hp;cases hp
theorem r_L {ws ts:List Int} {D:Int} {bs:List (List (Int×Int))} (h:∀ z∈ws,W64 z) (hb:∀ b∈bs,∀ p∈b,W64 p.2) (k x:Int):W64 (f_m ws ts D bs k x):=by
  unfold f_m;split
  · cases hn:c_b (d_Q bs k) x with
    | none=>exact j_e h x
    | some v =>
      unfold c_b at hn
      cases hf:(d_Q bs k).reverse.find? (fun p=>p.1==x) with
      | none=>rw [hf] at hn;cases hn
      | some p =>
        rw [hf] at hn
        cases hn
        exact j_d hb k p (List.mem_reverse.1 (List.mem_of_find?_eq_some hf))
  · exact e_b
theorem p_R {ws:List Int} (h:∀ z∈ws,W64 z) {i:Nat} {v:Int} (hv:W64 v):∀ z∈ws.set i v,W64 z:=fun z hz=>by
  rcases List.mem_or_eq_of_mem_set hz with h1 | rfl
  · exact h z h1
  · exact hv
theorem r_M {k word a b:Int} (hw:W64 word) (ha:W64 a) (hb:W64 b):W64 (d_D k word a b):=by
  unfold d_D
  repeat' split
  all_goals first | exact hb | exact hw | exact ha | exact wf_wrap .i64 _
theorem u_q {X:Wo} {k:Nat} {t:Thr} {i:Ins} (h:WfW X) (ht:WfT t) (hi:W64 i.2.1∧W64 i.2.2.1∧W64 i.2.2.2) (hk:W64 k):WfW (d_3 X k t i):=by
  unfold d_3
  split
  · exact d_1 h ⟨ht.r,ht.fs⟩
  · split
    · exact d_1 h (u_o ht hi hk)
    · split
      · exact d_1 h (l_x ht (r_L h.ws h.bs _ _))
      · split
        · have h1:=d_1 (k:=k) h (g_W ht)
          refine ⟨h1.code,?_,?_,h1.th⟩
          · show ∀ z∈b_O X.ws X.D _ _,W64 z
            unfold b_O;split
            · exact p_R h.ws (k_g ht _)
            · exact h.ws
          · show ∀ b∈b_J X.D X.bs k _ _,_
            unfold b_J;split
            · exact h.bs
            · intro b hb p hp
              rcases List.mem_or_eq_of_mem_set hb with h2 | rfl
              · exact h.bs b h2 p hp
              · rcases List.mem_append.1 hp with h3 | h3
                · exact j_d h.bs _ p h3
                · obtain rfl:=List.mem_singleton.1 h3
                  exact k_g ht _
        · split
          · have h1:=d_1 (k:=k) h (l_x (a:=i.2.1) ht (j_e (ts:=X.ts) h.ws (rgt t i.2.2.1)))
            exact ⟨h1.code,p_R h.ws (r_M (j_e h.ws _) (k_g ht _) (k_g ht _)),h1.bs,h1.th⟩
          · split
            · split
              · exact d_1 h ⟨ht.r,ht.fs⟩
              · exact d_1 h ⟨ht.r,ht.fs⟩
            · split
              · have h1:=d_1 (k:=k) h (g_W ht)
                exact ⟨h1.code,h1.ws,h1.bs,h1.th⟩
              · split
                · have h1:=d_1 (k:=k) h (g_W ht)
                  exact ⟨h1.code,h1.ws,h1.bs,h1.th⟩
                · exact d_1 h (g_W ht)
theorem u_p {X:Wo} (h:WfW X) (pc:Int):W64 (inW X pc).2.1∧W64 (inW X pc).2.2.1∧W64 (inW X pc).2.2.2:=by
  unfold inW
  by_cases hq:pc.toNat < X.code.length
  · rw [List.getD_eq_getElem?_getD,List.getElem?_eq_getElem hq];exact h.code _ (List.getElem_mem hq)
  · rw [List.getD_eq_getElem?_getD,List.getElem?_eq_none (by omega)];exact ⟨e_b,e_b,e_b⟩
theorem p_S {X:Wo} {k:Nat} (h:WfW X) (hk:k < 1000):WfW (c_R X k):=by
  unfold c_R;split
  · exact u_q h (h_H h k) (u_p h _) (k_f (by omega) (by omega))
  · exact d_1 h ⟨(h_H h k).r,(h_H h k).fs⟩
theorem r_K {X:Wo} {k:Nat} (h:WfW X):WfW (d_x X k):=by
  have hbf:∀ p∈bfW X k,W64 p.2:=by have:=j_d h.bs (k:Int);rwa [d_Q,Int.toNat_natCast] at this
  refine ⟨h.code,?_,?_,?_⟩
  · show ∀ z∈(if flE X k=0 then X.ws.set (f_O (bfW X k)).1.toNat (f_O (bfW X k)).2 else X.ws),W64 z
    split
    · refine p_R h.ws ?_
      unfold f_O
      by_cases hq:0 < (bfW X k).length
      · rw [List.getD_eq_getElem?_getD,List.getElem?_eq_getElem hq];exact hbf _ (List.getElem_mem hq)
      · rw [List.getD_eq_getElem?_getD,List.getElem?_eq_none (by omega)];exact e_b
    · exact h.ws
  · intro b hb p hp
    rcases List.mem_or_eq_of_mem_set hb with h2 | rfl
    · exact h.bs b h2 p hp
    · exact hbf p (List.mem_of_mem_drop hp)
  · intro u hu
    have hu:u∈(X.th.set k (flT X k)).map (i_M k):=hu;rw [List.mem_map] at hu;obtain ⟨v,hv,rfl⟩:=hu
    have hv1:WfT v:=by
      rcases List.mem_or_eq_of_mem_set hv with h1 | rfl
      · exact h.th v h1
      · unfold flT;split
        · exact h_H h k
        · exact ⟨(h_H h k).r,(h_H h k).fs⟩
    unfold i_M;split
    · exact hv1
    · exact ⟨hv1.r,hv1.fs⟩
theorem u_S {X:Wo} {a:Int×Int} (h:WfW X) (hn:X.th.length≤8):WfW (doW X a):=by
  unfold doW;split
  · rename_i hd
    simp only [e_f,f_r,Bool.and_eq_true,decide_eq_true_eq] at hd
    split
    · exact p_S h (by omega)
    · exact r_K h
  · exact h
structure OkW (X:Wo) (m:Nat):Prop where
  right:a_6 X=true
  wf:WfW X
  ev:X.ev.length≤m
theorem s_3 {X:Wo} {m:Nat} (h:OkW X m):1≤X.th.length∧X.th.length≤8:=by
  have h1:=a_M h.right;have:=(a_S h1.2.1).2.1
  omega
theorem o_6 {X:Wo} {m:Nat} {a:Int×Int} (h:OkW X m):OkW (doW X a) (m+1):=
  ⟨q_z h.right,u_S h.wf (s_3 h).2,by have:=u_H X a;have:=h.ev;omega⟩
theorem o_8 {l:List (Int×Int)}:∀ {X:Wo} {m:Nat},OkW X m→OkW (j_4 X l) (m+l.length):=by
  induction l with
  | nil=>intro X m h;exact h
  | cons a l ih =>
    intro X m h;have:=ih (o_6 (a:=a) h);rw [j_4,List.foldl_cons];rw [List.length_cons,show m+(l.length+1)=m+1+l.length by omega];exact this
theorem r_s {X:Wo} {l:List (Int×Int)} {k:Nat} {a:Int×Int} (h:l[k]?=some a):j_4 X (l.take (k+1))=doW (j_4 X (l.take k)) a:=by
  obtain ⟨hk,rfl⟩:=List.getElem?_eq_some_iff.1 h;rw [List.take_succ_eq_append_getElem hk,j_4,List.foldl_append];rfl
theorem k_S {α:Type} {l:List α} {k i:Nat} {x d:α} (h:k≠i):(l.set k x).getD i d=l.getD i d:=by
 simp only [List.getD_eq_getElem?_getD,List.getElem?_set,if_neg h]
theorem m_u {X:Wo} {k i:Nat} {t:Thr} (h:k≠i):thW (b_k X k t) i=thW X i:=k_S h
theorem r_A {X:Wo} {k i:Nat} (h:k≠i):thW (c_R X k) i=thW X i:=by
 unfold c_R d_3
 repeat' split
 all_goals first | exact m_u h | (show thW (b_k X k _) i=_;exact m_u h)
theorem j_9 (X:Wo) (k:Nat):(c_R X k).code=X.code:=by
 unfold c_R d_3
 repeat' split
 all_goals rfl
end Go.Proofs.YtogdpojnbgeknaaGreatDoor
namespace Go.Proofs.YtogdpojnbgeknaaGreatDoor
open Go.ChangeShapes Go.WideShapes Go.ChangeAt Go.RowKit
open Gen
open Lib (hid)
theorem e_Z (v m:Int) (w:World):Calls Tryz.prog 130 #[.int .i64 v,.int .i64 m] w (g_Z (decide (0≤v∧v≤m)) w):=by
 go_enter Tryz.func130,Tryz.ntmps130
 exact J95
theorem j_I (t:Thr) (self:Int) (fa la:Option Addr) (fn fc ln lc:Nat) (w:World) (F:ThF w fa fn fc la ln lc t) :
  Calls Tryz.prog 113 #[.agg (thC t fa fn fc la ln lc).toArray,.int .i64 self] w (b_h (f_S t self) w):=by
 obtain ⟨W,hW⟩:=nm (w.alloc (Obj.cells (thC t fa fn fc la ln lc).toArray 46));have X:=N110;have hB:=N2;have FW:=hid (d_b hB F);have ⟨HX,HB,HW⟩:=hh3 X hB hW;clear hW X hB F
 go_enter Tryz.func113,Tryz.ntmps113
 go_upto_region 1 with fail
 rw [←HW.out];have k0:=(HX.out 0 _ rfl).1;have k1:=(HX.out 1 _ rfl).1;have k2:=(HX.out 2 _ rfl).1;have k3:=(HX.out 3 _ rfl).1;have k4:=(HX.out 4 _ rfl).1;have k5:=(HX.out 5 _ rfl).1;have k6:=(HX.out 6 _ rfl).1;have k7:=(HX.out 7 _ rfl).1;have k8:=(HX.out 8 _ rfl).1;have k9:=(HX.out 9 _ rfl).1;have k10:=(HX.out 10 _ rfl).1;have k11:=(HX.out 11 _ rfl).1;have k12:=(HX.out 12 _ rfl).1
 go_wp2_with fail
 refine (d_i t fa la fn fc ln lc _ FW.out).mono ?_;rintro e w1 ⟨rfl,hb1⟩;have HB1:=hid (a_a HB.out hb1);clear hb1
 cases h1:a_R t with
 | false =>
  have H1:=hid h1;clear h1
  go_wp2
  go_ret
  exact a_k (by rw [f_S,H1.out];rfl) HB1.out
 | true =>
  have H1:=hid h1;clear h1
  go_wp2_with fail
  refine (e_Z self 7 _).mono ?_;rintro e w2 ⟨rfl,h⟩
  cases h
  obtain ⟨b,hb⟩:=mn (decide (0≤self∧self≤7));rw [hb];have HBB:=hid hb;clear hb
  go_wp2
  go_ret
  exact a_k (by rw [f_S,H1.out,HBB.out];rfl) HB1.out
theorem h_h (t:Thr) (fa la:Option Addr) (fn fc ln lc:Nat) (w:World) (hl:t.lf.length=ln) :
  Calls Tryz.prog 114 #[.agg (thC t fa fn fc la ln lc).toArray] w (b_h (d_7 t) w):=by
 have HL:=hid hl;clear hl
 go_enter Tryz.func114,Tryz.ntmps114
 go_wp2
 all_goals
  go_ret
  refine a_k ?_ (by go_grown);have e:d_7 t=(decide (t.st=0)&&decide (ln=0)):=by rw [d_7,HL.out]
  rw [e]
  try simp only [beq_iff_eq,beq_eq_false_iff_ne] at *
  rw [Bool.eq_iff_iff];simp
  try omega
theorem l_f (s:UInt8) (v:Int) (w:World):Calls Tryz.prog 146 #[.int .u8 s.toNat,.int .i64 v] w (g_Z (n_C s v) w):=by
 go_enter Tryz.func146,Tryz.ntmps146
 by_cases h1:s=114
 ·subst h1;have e:n_C 114 v=decide (0≤v∧v≤7):=rfl;rw [e]
  go_wp2_with fail
  refine (e_Z v 7 _).mono ?_;rintro e w2 ⟨rfl,h⟩
  cases h
  go_wp2
  go_ret
  exact c_T (by simp)
 ·by_cases h2:s=110
  ·subst h2
   go_wp2
   go_ret
   exact c_T rfl
  ·have e:n_C s v=decide (0≤v∧v≤1000):=by rw [n_C,if_neg h1,if_neg h2]
   have q1:((s.toNat:Int)==114)=false:=by
    rw [beq_eq_false_iff_ne];intro q;apply h1;apply UInt8.toNat_inj.1;show s.toNat=114;omega
   have q2:((s.toNat:Int)==110)=false:=by
    rw [beq_eq_false_iff_ne];intro q;apply h2;apply UInt8.toNat_inj.1;show s.toNat=110;omega
   rw [e];clear h1 h2 e
   go_wp2_with fail
   refine (e_Z v 1000 _).mono ?_;rintro e w2 ⟨rfl,h⟩
   cases h
   go_wp2
   go_ret
   exact c_T (by simp)
theorem s_L (i:In4) (k:Nat) (hk:k < 3):([.int .i64 i.2.1,.int .i64 i.2.2.1,.int .i64 i.2.2.2]:List Value)[k]?=some (.int .i64 (opd i k)):=by
 rcases (show k=0∨k=1∨k=2 by omega) with rfl | rfl | rfl <;> rfl
def j_k (i:In4) (s:List UInt8) (k:Nat):Prop:=∀ j,j < k→n_C (s.getD j 0) (opd i j)=true
theorem k_N {i:In4} {s:List UInt8} {k:Nat} (h:j_k i s k) (h1:n_C (s.getD k 0) (opd i k)=true):j_k i s (k+1):=by
 intro j hj
 by_cases e:j=k
 ·subst e;exact h1
 ·exact h j (by omega)
theorem q_B {i:In4} {s:List UInt8} (h:j_k i s s.length):g_J i s=true:=by
 simp only [g_J,List.all_eq_true,List.mem_range];exact h
theorem s_I {i:In4} {s:List UInt8} {k:Nat} (hk:k < s.length) (h1:n_C (s.getD k 0) (opd i k)=false):g_J i s=false:=by
 cases hr:g_J i s with
 | false=>rfl
 | true=>rw [s_H hr hk] at h1;cases h1
theorem l_W (i:In4) (s:List UInt8) (w:World) (hs:s.length≤3) :
  Calls Tryz.prog 116 #[.agg #[.int .i64 i.1,.int .i64 i.2.1,.int .i64 i.2.2.1,.int .i64 i.2.2.2],.string ⟨s.toArray⟩] w (b_h (g_J i s) w):=by
 obtain ⟨W,hW⟩:=nm (w.alloc (Obj.cells #[.int .i64 i.1,.int .i64 i.2.1,.int .i64 i.2.2.1,.int .i64 i.2.2.2] 66));have hB:=N2;have X:a_p W w.heap.size [.int .i64 i.1,.int .i64 i.2.1,.int .i64 i.2.2.1,.int .i64 i.2.2.2]:=by rw [hW];exact a_e [.int .i64 i.1,.int .i64 i.2.1,.int .i64 i.2.2.1,.int .i64 i.2.2.2] _ rfl
 obtain ⟨V,hV⟩:=nm (W.alloc (Obj.cells #[.int .i64 i.2.1,.int .i64 i.2.2.1,.int .i64 i.2.2.2] 151));have Y:a_p V W.heap.size [.int .i64 i.2.1,.int .i64 i.2.2.1,.int .i64 i.2.2.2]:=by rw [hV];exact a_e [.int .i64 i.2.1,.int .i64 i.2.2.1,.int .i64 i.2.2.2] _ rfl
 have hV2:Below W.heap.size W V:=by rw [hV];go_grown
 have HB:=hid (a_a hB hV2);have ⟨HX,HY,HW,HV⟩:=hh4 X Y hW hV;clear hW X hB hV Y hV2
 go_enter Tryz.func116,Tryz.ntmps116
 go_upto_region 1 with fail
 rw [←HW.out];have k0:=(HX.out 0 _ rfl).1;have k1:=(HX.out 1 _ rfl).1;have k2:=(HX.out 2 _ rfl).1;have k3:=(HX.out 3 _ rfl).1
 go_upto_region 2 with fail
 rw [←HV.out];clear k0 k1 k2 k3
 go_wp2
 go_loopw [16] (fun x wr=>∃ k:Nat,k≤s.length∧x=.int .i64 k∧Hid (j_k i s k)∧Below V.heap.size V wr) (fun x _=>s.length - (intOf x).toNat)
 case atStart=>exact ⟨0,by omega,rfl,(show j_k i s 0 from fun j hj=>by omega),Below.refl _ _⟩
 case round =>
  obtain ⟨k,hk,rfl,hf,hb⟩:=hrel
  by_cases hlt:k < s.length
  ·have i1:(0:Int)≤k:=by omega
   have i2:(k:Int) < s.length:=by omega
   have i3:(k:Int) < 3:=by omega
   have y:=((a_h hb HY.out) k _ (s_L i k (by omega))).1;have HB1:=hid (a_a HB.out hb);have hb':=hid hb;have hz:k < (⟨s.toArray⟩:ByteArray).size:=by show k < s.toArray.size;simpa using hlt
   have hu:(⟨s.toArray⟩:ByteArray)[k]=s.getD k 0:=by show s.toArray[k]'_=_;rw [List.getD_eq_getElem?_getD];simp [hlt]
   have q:=fun (d:Nat)=>l_f ((⟨s.toArray⟩:ByteArray)[k]) (opd i k) (wr.drewN d)
   rw [hu] at q;clear hb
   cases h0:n_C (s.getD k 0) (opd i k) with
   | true =>
    have HS:=hid (k_N hf.out h0);rw [h0,←hu] at q;clear h0 hu
    go_wp2
    go_quiet ((go_at_call 146;exact Calls.quiet_of_same (q _)))
    go_wp2
    go_roundw
    case rel=>exact ⟨k+1,by omega,by go_num,HS.out,b_5 hb'.out _⟩
    case measure=>simp [intOf];omega
   | false =>
    have HS:=hid (s_I hlt h0);rw [h0,←hu] at q;clear h0 hu
    go_wp2
    go_quiet ((go_at_call 146;exact Calls.quiet_of_same (q _)))
    go_wp2
    go_ret
    exact a_k HS.out (b_5 HB1.out _)
  ·obtain rfl:k=s.length:=by omega
   have HB1:=hid (a_a HB.out hb);clear hb
   go_wp2
   go_ret
   exact a_k (q_B hf.out) HB1.out
end Go.Proofs.YtogdpojnbgeknaaGreatDoor
namespace Go.Proofs.YtogdpojnbgeknaaGreatDoor
open Go.ChangeShapes Go.WideShapes Go.ChangeAt Go.RowKit
open Gen
theorem a_f {w:World} {g:Nat} {vs:List Value} (h:a_p w g vs):w.rangeAt g 0 vs:=fun j v hj=>by rw [Nat.zero_add];exact (h j v hj).1
theorem n_t {w:World} {g:Nat} {vs:List Value} (h:a_p w g vs) (n:Nat) (hn:n=vs.length):w.there g 0 n:=fun j hj=>by
 rw [Nat.zero_add];have hv:vs[j]?=some (vs[j]'(by omega)):=by simp [show j < vs.length by omega]
 obtain ⟨h1,h2⟩:=h j _ hv;exact ⟨by rw [h1];rfl,h2⟩
section
variable {P:Program} {ops:Array Oper} {o:Oper} {a:Act} {w:World} {K:Act→World→Prop} {Q:Exit→Act→World→Prop} {E:Prop}
theorem c_H {c:Prop} [Decidable c] {X Y:Prop} (hc:c) (h:X):if c then X else Y:=by rw [if_pos hc];exact h
theorem a_7 (ty:TypeId) (x y:Operand) (ho:o.op=.store ty x y) (g:Nat) (cells:Array Value) (hx:a.eval x=.pointer (some ⟨g,0,none⟩)) (hy:a.eval y=.agg cells)
  (vs:List Value) (hv:a_p w g vs) (hl:cells.size=vs.length) (hi:(P.info? ty).map (·.size)=some cells.size) (h1:cells.all (·.oneCell')=true)
  (h:∀ U,Hid (U=d_u w g 0 cells.toList)→K (a.put o.dst undef) U):Oper.wp P o a w K Q:=
 wp_store_mid ty x y ho g 0 cells hx hy (n_t hv _ hl) hi h1 (h _ (Lib.hid (f_e _ _ _ _)))
theorem a_c {rest:List Oper} (hg:o.guard=none) (ty:TypeId) (x y:Operand) (ho:o.op=.store ty x y) (g:Nat) (cells:Array Value) (hx:a.eval x=.pointer (some ⟨g,0,none⟩)) (hy:a.eval y=.agg cells)
  (vs:List Value) (hv:a_p w g vs) (hl:cells.size=vs.length) (hi:(P.info? ty).map (·.size)=some cells.size) (h1:cells.all (·.oneCell')=true)
  (h:∀ U,Hid (U=d_u w g 0 cells.toList)→wpList P ops Q rest (a.put o.dst undef) U):wpList P ops Q (o::rest) a w:=
 wpList_plain hg fun _ hK=>a_7 ty x y ho g cells hx hy vs hv hl hi h1 (fun U hU=>hK _ _ (h U hU))
theorem a_Q (x:Operand) (args:Array Operand) (aT:Array TypeId) (ho:o.op=Op.call { callee:=.value x,args:=args,argTypes:=aT })
  (f:FuncId) (hx:a.eval x=.func (.func f) #[] #[]) (vs:List Value) (hv:args.toList.map a.eval=vs) (hf:(P.funcs[f]?).map (fun fn=>(fn.name=="runtime.NumGoroutine",fn.body.isNone))=some (false,false))
  (h:Calls P f vs.toArray w (fun e w'=>∃ v,e=.returned v∧K (a.put o.dst v) w')):Oper.wp P o a w K Q:=by
 have e:(execOp a.eval o).run P w=.ok (.enter f vs.toArray) w:=by
  exact J52
 unfold Oper.wp;rw [e,Oper.upon_enter];exact h.mono (by rintro e w' ⟨v,rfl,hK⟩;exact hK)
end
end Go.Proofs.YtogdpojnbgeknaaGreatDoor
namespace Go.Proofs.YtogdpojnbgeknaaGreatDoor
open Go.ChangeShapes Go.WideShapes Go.ChangeAt Go.RowKit
open Gen
open Lib (hid)
def i_v (v:Int) (w:World) (e:Ending) (w':World):Prop:=e=.returned (.int .i64 v)∧Below w.heap.size w w'
theorem g_g {v u:Int} {w w':World} (h:v=u) (hb:Below w.heap.size w w'):i_v v w (.returned (.int .i64 u)) w':=by subst h;exact ⟨rfl,hb⟩
def j_m (t:Thr) (fa la:Option Addr) (fn fc ln lc:Nat) (x:Int) (w:World) (e:Ending) (w':World):Prop:=
 e=.returned (.tuple #[.agg (thC t fa fn fc la ln lc).toArray,.int .i64 x])∧Below w.heap.size w w'
theorem l_3 (t:Thr) (self:Int) (i:In4) (fa la:Option Addr) (fn fc ln lc:Nat) (w:World) (h:0≤i.2.1∧i.2.1≤7) :
  Calls Tryz.prog 159 #[.agg (tkC t fa fn fc la ln lc self i).toArray] w (i_v (rgt t i.2.1) w):=by
 obtain ⟨j,hj,hj8⟩:=a_5 h;obtain ⟨W,hW⟩:=nm (w.alloc (Obj.cells (tkC t fa fn fc la ln lc self i).toArray 168));have X:=N97;have hB:=N2;have e:rgt t i.2.1=t.r j:=by rw [rgt,hj];rfl
 have kr:=(X (1+j) _ (c_J t.r j hj8 _ _)).1;have ki:=(X 15 _ rfl).1;rw [hj] at ki;have i1:(0:Int)≤j:=by omega
 have i2:(j:Int) < 8:=by omega
 have ⟨HB,HW,HE⟩:=hh3 hB hW e;clear hW X hB e h hj
 go_enter Tryz.func159,Tryz.ntmps159
 exact J94
theorem d_4 (t:Thr) (self:Int) (i:In4) (fa la:Option Addr) (fn fc ln lc:Nat) (w:World) (h:0≤i.2.2.1∧i.2.2.1≤7) :
  Calls Tryz.prog 155 #[.agg (tkC t fa fn fc la ln lc self i).toArray] w (i_v (rgt t i.2.2.1) w):=by
 obtain ⟨j,hj,hj8⟩:=a_5 h;obtain ⟨W,hW⟩:=nm (w.alloc (Obj.cells (tkC t fa fn fc la ln lc self i).toArray 168));have X:=N97;have hB:=N2;have e:rgt t i.2.2.1=t.r j:=by rw [rgt,hj];rfl
 have kr:=(X (1+j) _ (c_J t.r j hj8 _ _)).1;have ki:=(X 16 _ rfl).1;rw [hj] at ki;have i1:(0:Int)≤j:=by omega
 have i2:(j:Int) < 8:=by omega
 have ⟨HB,HW,HE⟩:=hh3 hB hW e;clear hW X hB e h hj
 go_enter Tryz.func155,Tryz.ntmps155
 exact J94
theorem f_R (t:Thr) (self:Int) (i:In4) (fa la:Option Addr) (fn fc ln lc:Nat) (w:World) (h:0≤i.2.2.2∧i.2.2.2≤7) :
  Calls Tryz.prog 156 #[.agg (tkC t fa fn fc la ln lc self i).toArray] w (i_v (rgt t i.2.2.2) w):=by
 obtain ⟨j,hj,hj8⟩:=a_5 h;obtain ⟨W,hW⟩:=nm (w.alloc (Obj.cells (tkC t fa fn fc la ln lc self i).toArray 168));have X:=N97;have hB:=N2;have e:rgt t i.2.2.2=t.r j:=by rw [rgt,hj];rfl
 have kr:=(X (1+j) _ (c_J t.r j hj8 _ _)).1;have ki:=(X 17 _ rfl).1;rw [hj] at ki;have i1:(0:Int)≤j:=by omega
 have i2:(j:Int) < 8:=by omega
 have ⟨HB,HW,HE⟩:=hh3 hB hW e;clear hW X hB e h hj
 go_enter Tryz.func156,Tryz.ntmps156
 exact J94
theorem a_L (t:Thr) (fa la:Option Addr) (fn fc ln lc:Nat):((thC t fa fn fc la ln lc).toArray:Array Value).all (·.oneCell')=true:=by simp [Value.oneCell']
theorem a_T {w U:World} {g:Nat} {vs:List Value} {t:Thr} {fa la:Option Addr} {fn fc ln lc:Nat} (hU:Hid (U=d_u w g 0 (thC t fa fn fc la ln lc))) (h:a_p w g vs) (hl:vs.length=13) :
  (loadVar 46 ⟨g,0,none⟩).run Tryz.prog U=.ok (.agg (thC t fa fn fc la ln lc).toArray) U:=by
 rw [hU.out];exact b_s _ _ t fa la fn fc ln lc (a_q (xs:=(thC t fa fn fc la ln lc)) h (by rw [hl];rfl))
theorem a_x {w w' U:World} {F g:Nat} {vs:List Value} (hU:Hid (U=d_u w' g 0 vs)) (hg:F≤g) (h:Below F w w'):Below F w U:=by
 rw [hU.out];exact a_g hg h
theorem d_C (t:Thr) (self:Int) (i:In4) (pc:Int) (fa la:Option Addr) (fn fc ln lc:Nat) (w:World) :
  Calls Tryz.prog 157 #[.agg (tkC t fa fn fc la ln lc self i).toArray,.int .i64 pc] w (j_m (goT t pc) fa la fn fc ln lc 0 w):=by
 obtain ⟨W,hW⟩:=nm ((w.alloc (Obj.cells (tkC t fa fn fc la ln lc self i).toArray 168)).alloc (Obj.cells thN.toArray 46));have X:=N18;have R:=N14;have hB:=N2;obtain ⟨V,hV⟩:=nm (W.setCell ⟨w.heap.size,0,none⟩ (.int .i64 pc));have X2:a_p V w.heap.size [.int .i64 (goT t pc).pc,.int .i64 ((goT t pc).r 0),.int .i64 ((goT t pc).r 1),.int .i64 ((goT t pc).r 2),.int .i64 ((goT t pc).r 3),.int .i64 ((goT t pc).r 4),.int .i64 ((goT t pc).r 5),.int .i64 ((goT t pc).r 6),.int .i64 ((goT t pc).r 7),.slice fa fn fc,.int .i64 (goT t pc).st,.int .i64 (goT t pc).ft,.slice la ln lc,.int .i64 self,.int .i64 i.1,.int .i64 i.2.1,.int .i64 i.2.2.1,.int .i64 i.2.2.2]:=by rw [hV];exact a_y X 0 (by simp) _
 have R2:a_p V (w.heap.size+1) thN:=by rw [hV];exact a_l R (by omega) _
 have hB2:Below w.heap.size w V:=by rw [hV];exact hB.setCell (p:=⟨w.heap.size,0,none⟩) (Nat.le_refl _) _
 obtain ⟨z,hz⟩:=mn (goT t pc);rw [hz] at X2 ⊢;have HX:=hid X
 have HX2:=hid (show a_p V w.heap.size (thC z fa fn fc la ln lc) from fun j v hj=>X2 j v (by
  rw [←hj];have:j < 13:=by have:=(List.getElem?_eq_some_iff.1 hj).1;simpa using this
  rcases (show j=0∨j=1∨j=2∨j=3∨j=4∨j=5∨j=6∨j=7∨j=8∨j=9∨j=10∨j=11∨j=12 by omega) with rfl | rfl | rfl | rfl | rfl | rfl | rfl | rfl | rfl | rfl | rfl | rfl | rfl <;> rfl))
 have ⟨HR2,HB,HW,HV⟩:=hh4 R2 hB2 hW hV;clear hW X R hB hV X2 R2 hB2 hz
 go_enter Tryz.func157,Tryz.ntmps157
 go_upto_region 1 with fail
 rw [←HW.out];obtain ⟨y0,g0⟩:=HX.out 0 _ rfl
 go_upto_region 2 with fail
 rw [←HV.out];clear y0 g0
 go_wp2_with (first | (refine wpList_load_mid rfl 46 _ rfl w.heap.size 0 rfl (thC z fa fn fc la ln lc) _ (a_f HX2.out) Tryz.underlying46 rfl (by kernel_rfl) ?_) | (refine a_c rfl 46 _ _ rfl (w.heap.size+1) (thC z fa fn fc la ln lc).toArray rfl rfl _ HR2.out rfl (by kernel_rfl) (a_L _ _ _ _ _ _ _) ?_;intro U HU))
 refine a_m ⟨w.heap.size+1,0,none⟩ rfl rfl rfl (a_T HU HR2.out rfl) ?_;exact ⟨rfl,a_x HU (by omega) HB.out⟩
theorem b_o (t:Thr) (self:Int) (i:In4) (v:Int) (fa la:Option Addr) (fn fc ln lc:Nat) (w:World) (h:0≤i.2.1∧i.2.1≤7) (hp:0≤t.pc∧t.pc≤1000) :
  Calls Tryz.prog 154 #[.agg (tkC t fa fn fc la ln lc self i).toArray,.int .i64 v] w (j_m (c_2 t i.2.1 v) fa la fn fc ln lc 0 w):=by
 obtain ⟨j,hj,hj8⟩:=a_5 h;obtain ⟨W,hW⟩:=nm ((w.alloc (Obj.cells (tkC t fa fn fc la ln lc self i).toArray 168)).alloc (Obj.cells thN.toArray 46));have X:=N18;have R:=N14;have hB:=N2;obtain ⟨u,hu⟩:∃ u:Thr,u=⟨t.pc,b_Y t.r i.2.1 v,t.fs,t.st,t.ft,t.lf⟩:=⟨_,rfl⟩;obtain ⟨V,hV⟩:=nm (W.setCell ⟨w.heap.size,1+j,none⟩ (.int .i64 v))
 have X2:a_p V w.heap.size (tkC u fa fn fc la ln lc self i):=by
  have h1:=a_y X (1+j) (by simp;omega) (.int .i64 v);rw [l_o t.r j hj8 v,←hV,←hj] at h1;rw [hu];exact h1
 have R2:a_p V (w.heap.size+1) thN:=by rw [hV];exact a_l R (by omega) _
 have hB2:Below w.heap.size w V:=by rw [hV];exact hB.setCell (p:=⟨w.heap.size,1+j,none⟩) (Nat.le_refl _) _
 obtain ⟨kr,fr⟩:=X (1+j) _ (c_J t.r j hj8 _ _);have ki:=(X 15 _ rfl).1;rw [hj] at ki;have i1:(0:Int)≤j:=by omega
 have i2:(j:Int) < 8:=by omega
 have e1:goT u (t.pc+1)=c_2 t i.2.1 v:=by rw [hu];rfl
 have e2:u.pc=t.pc:=by rw [hu]
 have ⟨HX2,HR2,HB,HW,HV⟩:=hh5 X2 R2 hB2 hW hV;have HE:=hid (And.intro e1 e2);have HP:=hid hp;clear hW X R hB hV X2 R2 hB2 hu e1 e2 hj h hp
 go_enter Tryz.func154,Tryz.ntmps154
 go_upto_region 1 with fail
 rw [←HW.out]
 go_upto_region 2 with fail
 rw [←HV.out];clear kr fr ki;have k0:=(HX2.out 0 _ rfl).1;have p1:0≤u.pc:=by rw [HE.out.2];exact HP.out.1
 have p2:u.pc≤1000:=by rw [HE.out.2];exact HP.out.2
 go_wp2_with (refine wpList_load_mid rfl 168 _ rfl w.heap.size 0 rfl (tkC u fa fn fc la ln lc self i) _ (a_f HX2.out) Tryz.underlying168 rfl (by kernel_rfl) ?_)
 refine (d_C u self i (u.pc+1) fa la fn fc ln lc _).mono ?_;rintro e w1 ⟨rfl,hb1⟩;have HB1:=hid (a_a HB.out hb1);have HR3:=hid (a_h hb1 HR2.out);clear hb1 k0;obtain ⟨z,hz⟩:=mn (goT u (u.pc+1));rw [hz];have hzz:z=c_2 t i.2.1 v:=by rw [←hz,HE.out.2,HE.out.1]
 have HZZ:=hid hzz;clear hz p1 p2 hzz
 go_wp2_with (refine a_c rfl 46 _ _ rfl (w.heap.size+1) (thC z fa fn fc la ln lc).toArray rfl rfl _ HR3.out rfl (by kernel_rfl) (a_L _ _ _ _ _ _ _) ?_;intro U HU)
 refine a_m ⟨w.heap.size+1,0,none⟩ rfl rfl rfl (a_T HU HR3.out rfl) ?_;rw [←HZZ.out];exact ⟨rfl,a_x HU (by omega) HB1.out⟩
theorem e_0 (t:Thr) (self:Int) (i:In4) (b:Bool) (fa la:Option Addr) (fn fc ln lc:Nat) (w:World) (hp:0≤t.pc∧t.pc≤1000) :
  Calls Tryz.prog 158 #[.agg (tkC t fa fn fc la ln lc self i).toArray,.bool b] w (j_m (brT t b i.2.2.1) fa la fn fc ln lc 0 w):=by
 obtain ⟨W,hW⟩:=nm ((w.alloc (Obj.cells (tkC t fa fn fc la ln lc self i).toArray 168)).alloc (Obj.cells thN.toArray 46));have X:=N18;have R:=N14;have hB:=N2;have ⟨HX,HR,HB,HW⟩:=hh4 X R hB hW;have p1:=hp.1;have p2:=hp.2;clear hW X R hB hp
 go_enter Tryz.func158,Tryz.ntmps158
 go_upto_region 1 with fail
 rw [←HW.out];have k0:=(HX.out 0 _ rfl).1;have k16:=(HX.out 16 _ rfl).1
 cases b with
 | true =>
  go_wp2_with (refine wpList_load_mid rfl 168 _ rfl w.heap.size 0 rfl (tkC t fa fn fc la ln lc self i) _ (a_f HX.out) Tryz.underlying168 rfl (by kernel_rfl) ?_)
  refine (d_C t self i i.2.2.1 fa la fn fc ln lc _).mono ?_;rintro e w1 ⟨rfl,hb1⟩;have HB1:=hid (a_a HB.out hb1);have HR3:=hid (a_h hb1 HR.out);clear hb1 k0 k16;obtain ⟨z,hz⟩:=mn (goT t i.2.2.1);rw [hz];have hz2:brT t true i.2.2.1=z:=hz;exact J66
 | false =>
  go_wp2_with (refine wpList_load_mid rfl 168 _ rfl w.heap.size 0 rfl (tkC t fa fn fc la ln lc self i) _ (a_f HX.out) Tryz.underlying168 rfl (by kernel_rfl) ?_)
  refine (d_C t self i (t.pc+1) fa la fn fc ln lc _).mono ?_;rintro e w1 ⟨rfl,hb1⟩;have HB1:=hid (a_a HB.out hb1);have HR3:=hid (a_h hb1 HR.out);clear hb1 k0 k16;obtain ⟨z,hz⟩:=mn (goT t (t.pc+1));rw [hz];have hz2:brT t false i.2.2.1=z:=hz;exact J66
end Go.Proofs.YtogdpojnbgeknaaGreatDoor
namespace Go.Proofs.YtogdpojnbgeknaaGreatDoor
open Go.ChangeShapes Go.WideShapes Go.ChangeAt Go.RowKit
open Gen
theorem p_g {g:Nat} {w0 w1 w2:World} {cs xs:List Value} (hb:Below g w0 w1∧a_p w1 g cs∧a_p w1 (g+1) xs∧xs.length=13) (hb2:Below w1.heap.size w1 w2) (hc:0 < cs.length):Below g w0 w2∧a_p w2 g cs∧a_p w2 (g+1) xs∧xs.length=13:=
 ⟨hb.1.trans (hb2.mono (Nat.le_of_lt (a_N hb.2.1 hc))),a_h hb2 hb.2.1,a_h hb2 hb.2.2.1,hb.2.2.2⟩
end Go.Proofs.YtogdpojnbgeknaaGreatDoor
