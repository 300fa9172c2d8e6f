import Derived.Test.YtogdpojnbgeknaaGreatDoorT16
import Derived.Test.YtogdpojnbgeknaaGreatDoorT6
import Derived.Test.YtogdpojnbgeknaaGreatDoorT0
import Derived.Test.YtogdpojnbgeknaaGreatDoorT3
import Derived.Test.YtogdpojnbgeknaaGreatDoorT9
import Derived.Test.YtogdpojnbgeknaaGreatDoorT10
import Derived.Maps.AppendAt
import Derived.Test.YtogdpojnbgeknaaGreatDoorT8
import Derived.Test.YtogdpojnbgeknaaGreatDoorT1
set_option maxRecDepth 100000
set_option maxHeartbeats 16000000
namespace Go.Proofs.YtogdpojnbgeknaaGreatDoor
open Go.ChangeShapes Go.WideShapes Go.ChangeAt Go.RowKit
def r_5 (Q:Nat→Prop) (ws ts:List Int) (D:Int) (bs:List (List (Int×Int))) (v x:Int) (w:World) (e:Ending) (w':World):Prop:=
 ∃ a n c a' n' c' q l d,e=.returned (.tuple #[.agg #[.slice a n c,.slice a' n' c',.int .i64 D,.slice q l d],.int .i64 v,.int .i64 x])∧SlP Q w' a n ws∧SlP Q w' a' n' ts∧BlP Q w' q l bs∧Below w.heap.size w w'
theorem l_X {Q:Nat→Prop} {A B:List Int} {z u E:Int} {C:List (List (Int×Int))} (he:E≠0) {w w':World} (hb:Below w.heap.size w w'):r_5 Q (okL E A) (okL E B) (okZ E z) (okL E C) (okZ E u) E w (.returned (.tuple #[.agg #[.slice none 0 0,.slice none 0 0,.int .i64 0,.slice none 0 0],.int .i64 0,.int .i64 E])) w':=by
 rw [d_p he,d_p he,g_b he,d_p he,g_b he];exact J100
theorem f_O {Q:Nat→Prop} {A B:List Int} {z u E:Int} {C:List (List (Int×Int))} (he:E=0) {w w':World} {a a' q:Option Addr} {n c n' c' l d:Nat} (s1:SlP Q w' a n A) (s2:SlP Q w' a' n' B) (s3:BlP Q w' q l C) (hb:Below w.heap.size w w') :
  r_5 Q (okL E A) (okL E B) (okZ E z) (okL E C) (okZ E u) E w (.returned (.tuple #[.agg #[.slice a n c,.slice a' n' c',.int .i64 z,.slice q l d],.int .i64 u,.int .i64 0])) w':=by
 subst he;exact ⟨_,_,_,_,_,_,_,_,_,rfl,s1,s2,s3,hb⟩
theorem h_d (Q:Nat→Prop) (a a' q:Option Addr) (n c n' c' l d:Nat) (ws ts:List Int) (D:Int) (bs:List (List (Int×Int))) (th k x y z:Int) (w:World) (P1:SlP Q w a n ws) (P2:SlP Q w a' n' ts) (PB:BlP Q w q l bs) (hQQ:∀ b,w.heap.size≤b→Q b) (hh:j_i ws ts D bs th=true) (hk:k_y k=true) :
  Calls Tryz.prog 103 #[.agg #[.slice a n c,.slice a' n' c',.int .i64 D,.slice q l d],.int .i64 th,.int .i64 k,.int .i64 x,.int .i64 y,.int .i64 z] w (r_5 Q (okL (b_v ws ts D bs th k x) (b_w ws ts k x y z)) (okL (b_v ws ts D bs th k x) ts) (okZ (b_v ws ts D bs th k x) D) (okL (b_v ws ts D bs th k x) bs) (okZ (b_v ws ts D bs th k x) (b_K ws ts x)) (b_v ws ts D bs th k x) w):=by
 have S1:=P1.sl;have S2:=P2.sl;have S:=PB.bl;have Hl:=Lib.hid S.1;obtain ⟨hm,h0,h1⟩:=d_e hh;obtain ⟨j,rfl⟩:=N120;have hjl:j < l:=by rw [←Hl.out];omega
 have i1:(0:Int)≤j:=by omega
 have i2:(j:Int) < l:=by omega
 obtain ⟨ps,hps⟩:=mn (bs.getD j []);have HE:=Lib.hid (show b_v ws ts D bs j k x=if ps=[] then a_I ws ts x else 9 by rw [b_v,if_pos ⟨hh,hk⟩,d_L,Int.toNat_natCast,hps]);have HM:=Lib.hid (a_X hm).1;have hkk:k=0∨k=1∨k=2:=by simp only [k_y,decide_eq_true_eq] at hk;omega
 obtain ⟨W,hW⟩:=nm ((w.alloc (Obj.cells #[.slice a n c,.slice a' n' c',.int .i64 D,.slice q l d] 30)).alloc (Obj.cells #[.slice none 0 0,.slice none 0 0,.int .i64 0,.slice none 0 0] 30));have b0:=N2;have X:=N88;have R:=N80;have T1:=slB b0 S1;have T2:=h_G b0 (d_T (Q':=fun b=>Q b∧b≠w.heap.size∧b≠w.heap.size+1) (fun b q h=>⟨q,by omega,by omega⟩) P2);have hz:=c_9 R;obtain ⟨b,o,p,pc,rfl,k0,hcap,hp⟩:=k_a S hjl;replace k0:=a_u b0 k0;rw [hps] at k0;obtain ⟨m,hmm⟩:=mn (ps.length);rw [hmm] at k0;have ⟨HPL,HB,HW,HRR,HX⟩:=hh5 hmm b0 hW R X;clear hps hmm hcap hp b0 hW hh hm h0 h1 hk
 go_enter Tryz.func103,Tryz.ntmps103
 go_upto_region 1 with fail
 rw [←HW.out];obtain ⟨⟨x0,x1,x2,x3⟩,-⟩:=id X;obtain ⟨⟨r0,r1,r2,r3⟩,f0,f1,f2,f3⟩:=id R
 by_cases hne:ps=[]
 ·have HNE:=Lib.hid hne;obtain rfl:0=m:=by rw [←HPL.out,hne];rfl
  clear hne
  go_wp2_with fail
  refine (d_S a a' n c n' c' ws ts x _ T1 T2.sl HM.out).mono ?_;rintro e w1 ⟨rfl,hb⟩;obtain ⟨ev,hev⟩:=mn (a_I ws ts x);obtain ⟨lv,hlv⟩:=mn (b_K ws ts x);have ⟨HEV,HLV⟩:=hh2 hev hlv;rw [hev,hlv];replace R:=b_k hb R;replace X:=b_k hb X;replace T1:=slB hb T1;replace T2:=h_G hb T2;have HB1:=Lib.hid (a_b HB.out hb);have hz1:W.heap.size≤w1.heap.size:=hb.size;have HES:=Lib.hid (show b_v ws ts D bs j k x=ev by rw [HE.out,if_pos HNE.out,hev]);clear hb hev hlv x0 x1 x2 x3 r0 r1 r2 r3 f0 f1 f2 f3 k0
  by_cases he:ev=0
  ·subst he;obtain ⟨⟨x0,x1,x2,x3⟩,g0,g1,g2,g3⟩:=id X;have ⟨HX1,HR1⟩:=hh2 X R;clear X R;obtain ⟨nv,hnv⟩:=mn (d_y k lv y z);have HNV:=Lib.hid hnv
   have hcases:(k=0∧lv=y∧nv=z)∨(k=0∧lv≠y∧nv=lv)∨(k=1∧nv=y)∨(k=2∧nv=wrap64 (lv+y)):=by
    rcases hkk with rfl | rfl | rfl
    ·rw [d_y,if_pos rfl] at hnv
     by_cases e:lv=y
     ·rw [if_pos e] at hnv;exact .inl ⟨rfl,e,hnv.symm⟩
     ·rw [if_neg e] at hnv;exact .inr (.inl ⟨rfl,e,hnv.symm⟩)
    ·rw [d_y,if_neg (by decide),if_pos rfl] at hnv;exact .inr (.inr (.inl ⟨rfl,hnv.symm⟩))
    ·rw [d_y,if_neg (by decide),if_neg (by decide)] at hnv;exact .inr (.inr (.inr ⟨rfl,hnv.symm.trans (IntWalk.i64_left _)⟩))
   clear hkk hnv;have hQ:∀ b,w1.heap.size≤b→Q b∧b≠w.heap.size∧b≠w.heap.size+1:=fun b h=>⟨hQQ b (by omega),by omega,by omega⟩
   have HQ:=Lib.hid hQ;clear hQ
   rcases hcases with ⟨rfl,rfl,rfl⟩ | ⟨rfl,hw,rfl⟩ | ⟨rfl,rfl⟩ | ⟨rfl,hw⟩
   ·have q1:(lv==lv)=true:=by simp
    go_wp2_with fail
    have h0:=N121;with_reducible refine h0.mono ?_
    clear h0;rw [HEV.out];rintro e w3 ⟨a2,n2,c2,a3,n3,c3,rfl,u1,u2,hb3⟩;have HTS:=Lib.hid (show c_q ws ts x nv=b_w ws ts 0 x lv nv by rw [c_q,if_pos HEV.out,b_w,HLV.out,HNV.out]);exact J0
   ·have q1:(nv==y)=false:=by simpa using hw
    clear hw
    go_wp2_with fail
    have h0:=N121;with_reducible refine h0.mono ?_
    clear h0;rw [HEV.out];rintro e w3 ⟨a2,n2,c2,a3,n3,c3,rfl,u1,u2,hb3⟩;have HTS:=Lib.hid (show c_q ws ts x nv=b_w ws ts 0 x y z by rw [c_q,if_pos HEV.out,b_w,HLV.out,HNV.out]);exact J0
   ·go_wp2_with fail
    have h0:=N121;with_reducible refine h0.mono ?_
    clear h0;rw [HEV.out];rintro e w3 ⟨a2,n2,c2,a3,n3,c3,rfl,u1,u2,hb3⟩;have HTS:=Lib.hid (show c_q ws ts x nv=b_w ws ts 1 x nv z by rw [c_q,if_pos HEV.out,b_w,HLV.out,HNV.out]);exact J0
   ·subst hw
    go_wp2_with fail
    have h0:=c_E (fun b=>Q b∧b≠w.heap.size∧b≠w.heap.size+1) a a' n c n' c' ws ts x (wrap64 (lv+y)) w1 T1 T2 HQ.out HM.out;with_reducible refine h0.mono ?_
    clear h0;rw [HEV.out];rintro e w3 ⟨a2,n2,c2,a3,n3,c3,rfl,u1,u2,hb3⟩;have HTS:=Lib.hid (show c_q ws ts x (wrap64 (lv+y))=b_w ws ts 2 x y z by rw [c_q,if_pos HEV.out,b_w,HLV.out,HNV.out]);exact J0
  ·have q1:=N127;have HEN:=Lib.hid he;have HZ:=N29;obtain ⟨⟨s0,s1,s2,s3⟩,t0,t1,t2,t3⟩:=R;clear he X hkk
   go_wp2
   refine b_O ⟨w.heap.size+1,0,none⟩ rfl rfl rfl (a_7 _ _ _ _ _ _ HZ.out.1.1 HZ.out.1.2.1 HZ.out.1.2.2.1 HZ.out.1.2.2.2) ?_;rw [HES.out];exact l_X HEN.out (a_U (g:=w.heap.size+1) HB1.out (by omega) _ _ _ _)
 ·have HES:=Lib.hid (show b_v ws ts D bs j k x=9 by rw [HE.out,if_neg hne]);have hm0:0 < m:=by rw [←HPL.out];exact List.length_pos_iff.2 hne
  have HZ:=N29;clear hne X R hkk
  go_wp2
  refine b_O ⟨w.heap.size+1,0,none⟩ rfl rfl rfl (a_7 _ _ _ _ _ _ HZ.out.1.1 HZ.out.1.2.1 HZ.out.1.2.2.1 HZ.out.1.2.2.2) ?_;rw [HES.out];exact l_X (by decide) (a_U (g:=w.heap.size+1) HB.out (by omega) _ _ _ _)
end Go.Proofs.YtogdpojnbgeknaaGreatDoor
namespace Go.Proofs.YtogdpojnbgeknaaGreatDoor
open Go.ChangeShapes Go.WideShapes Go.ChangeAt Go.RowKit
open Gen
theorem d_r {Q:Nat→Prop} {w:World} {fa la:Option Addr} {fn fc ln lc:Nat} {t:Thr} (h:ThQ Q w fa fn fc la ln lc t):ThQ (fun b=>Q b∧b < w.heap.size) w fa fn fc la ln lc t:=⟨h.fcap,c_O h.fs,h.lcap,c_O h.lf⟩
abbrev thV (t:Thr) (a:Option Addr) (n c:Nat) (b:Option Addr) (m d:Nat):Value:=.agg (thC t a n c b m d).toArray
def repTh:Rep Thr:={
 R:=fun Q w cs t=>∃ fa fc la lc,cs=thC t fa t.fs.length fc la t.lf.length lc∧ThQ Q w fa t.fs.length fc la t.lf.length lc t
 k:=13
 pos:=by decide
 len:=fun h=>by obtain ⟨_,_,_,_,h,_⟩:=h;rw [h];rfl
 keep:=fun hk h=>by obtain ⟨fa,fc,la,lc,h,h2⟩:=h;exact ⟨fa,fc,la,lc,h,a_w hk h2⟩
 mono:=fun hQ h=>by obtain ⟨fa,fc,la,lc,h,h2⟩:=h;exact ⟨fa,fc,la,lc,h,b_y hQ h2⟩
 und:=fun h=>by obtain ⟨fa,fc,la,lc,h,h2⟩:=h;exact ⟨fa,fc,la,lc,h,d_r h2⟩ }
def j_j (y:Ev):List Value:=[.int .i64 y.1,.int .i64 y.2.1,.int .i64 y.2.2.1,.int .i64 y.2.2.2.1,.int .i64 y.2.2.2.2.1,.int .i64 y.2.2.2.2.2]
def repEv:Rep Ev:=q_3 6 (by decide) j_j (fun _=>rfl)
structure Sp where
 a:Option Addr
 n:Nat
 c:Nat
abbrev Sp.v (s:Sp):Value:=.slice s.a s.n s.c
def Sp.ok (s:Sp):Prop:=Cap s.a s.n s.c
def zSp:Sp:=⟨none,0,0⟩
structure WoL where
 co:Sp
 ws:Sp
 ts:Sp
 bs:Sp
 th:Sp
 ev:Sp
def u_t:WoL:=⟨zSp,zSp,zSp,zSp,zSp,zSp⟩
abbrev woV (L:WoL) (D:Int):Value:=.agg #[.slice L.co.a L.co.n L.co.c,.slice L.ws.a L.ws.n L.ws.c,.slice L.ts.a L.ts.n L.ts.c,.int .i64 D,.slice L.bs.a L.bs.n L.bs.c,.slice L.th.a L.th.n L.th.c,.slice L.ev.a L.ev.n L.ev.c]
structure RWo (Q:Nat→Prop) (w:World) (L:WoL) (X:Wo):Prop where
 co:Vs repIns Q w L.co.a L.co.n X.code
 ws:SlP Q w L.ws.a L.ws.n X.ws
 ts:SlP Q w L.ts.a L.ts.n X.ts
 bs:BlP Q w L.bs.a L.bs.n X.bs
 th:Vs repTh Q w L.th.a L.th.n X.th
 ev:Vs repEv Q w L.ev.a L.ev.n X.ev
 cco:L.co.ok
 cth:L.th.ok
 cev:L.ev.ok
theorem a_B {Q:Nat→Prop} {w w':World} {L:WoL} {X:Wo} (hk:Kept Q w w') (h:RWo Q w L X):RWo Q w' L X:=
 ⟨a_z hk h.co,a_r hk h.ws,a_r hk h.ts,a_G hk h.bs,a_z hk h.th,a_z hk h.ev,h.cco,h.cth,h.cev⟩
theorem a_D {Q Q':Nat→Prop} {w:World} {L:WoL} {X:Wo} (hQ:∀ b,Q b→Q' b) (h:RWo Q w L X):RWo Q' w L X:=
 ⟨b_e hQ h.co,a_n hQ h.ws,a_n hQ h.ts,a_H hQ h.bs,b_e hQ h.th,b_e hQ h.ev,h.cco,h.cth,h.cev⟩
theorem c_e {Q:Nat→Prop} {w:World} {L:WoL} {X:Wo} (h:RWo Q w L X):RWo (fun b=>Q b∧b < w.heap.size) w L X:=
 ⟨c_O h.co,d_T (fun _ q h=>⟨q,h⟩) h.ws,d_T (fun _ q h=>⟨q,h⟩) h.ts,f_1 (fun _ q h=>⟨q,h⟩) h.bs,c_O h.th,c_O h.ev,h.cco,h.cth,h.cev⟩
theorem b_G {Q:Nat→Prop} {w w':World} {L:WoL} {X:Wo} (hb:Below w.heap.size w w') (h:RWo Q w L X):RWo Q w' L X:=a_B (a_C hb) h
theorem c_J {Q:Nat→Prop} {w:World} {L:WoL} {X:Wo} (h:RWo Q w L X):RWo Any w L X:=a_D (fun _ _=>trivial) h
theorem l_2 {Q:Nat→Prop} {w:World}:RWo Q w u_t zWo:=
 ⟨d_c,c_7 _ _,c_7 _ _,g_V _ _,d_c,d_c,b_T,b_T,b_T⟩
theorem d_b {Q:Nat→Prop} {w:World} {ta:Option Addr} {tn:Nat} {ts:List Thr} (S:Vs repTh Q w ta tn ts) {k:Nat} (hk:k < tn) :
  ∃ b o t fa fc la lc,ta=some ⟨b,o,none⟩∧ts[k]?=some t∧Q b∧ThQ Q w fa t.fs.length fc la t.lf.length lc t∧∀ j v,(thC t fa t.fs.length fc la t.lf.length lc)[j]?=some v→w.cell? ⟨b,o+k*13+j,none⟩=some v:=by
 obtain ⟨b,o,t,e,ht,hq,cs,⟨fa,fc,la,lc,rfl,h2⟩,hc⟩:=j_P S hk;exact ⟨b,o,t,fa,fc,la,lc,e,ht,hq,h2,hc⟩
end Go.Proofs.YtogdpojnbgeknaaGreatDoor
namespace Go.Proofs.YtogdpojnbgeknaaGreatDoor
open Go.ChangeShapes Go.WideShapes Go.ChangeAt Go.RowKit
open Gen
open Lib (hid)
theorem l_I:(Tryz.prog.info? 46).map (fun i=>(i.zero,i.size,i.bytes))=some (some (.agg thN.toArray),13,136):=by kernel_rfl
theorem g_9 (t:Thr) (a:Option Addr) (n c:Nat) (b:Option Addr) (m d:Nat):∀ u∈thC t a n c b m d,u.oneCell'=true:=by
 intro u hu;have h:=a_K t a b n c m d;rw [Array.all_eq_true'] at h;exact h u (by simpa [thC] using hu)
theorem e_F (w:World) (xs:List Value) (t:TypeId):∀ j u,xs[j]?=some u→(w.alloc (.cells xs.toArray t)).cell? ((⟨w.heap.size,0,none⟩:Addr).add j)=some u:=by
 intro j u hu;rw [Gen.add_plain,Nat.zero_add];exact (a_e (w:=w) xs (t:=t) w.heap.size rfl j u hu).1
theorem a_R {g:Nat}:∀ {us:List Value} {w:World} {k:Nat},(d_o w g k us).heap.size=w.heap.size
 | [],_,_=>rfl
 | u::us,w,k=>by
  show (d_o (w.setCell ⟨g,k,none⟩ u) g (k+1) us).heap.size=_
  rw [a_R];simp
def d_l (F:Nat) (Q:Nat→Prop) (w:World) (v:Value) (n:Nat) (ts:List Thr):Prop:=∃ cs,w.ownsRow F 46 13 v n cs∧d_s repTh Q w cs ts
theorem i_N {F:Nat} {Q:Nat→Prop} {w w':World} {v:Value} {n:Nat} {ts:List Thr} (hb:Below w.heap.size w w') (h:d_l F Q w v n ts):d_l F Q w' v n ts:=by
 obtain ⟨cs,h1,h2⟩:=h;exact ⟨cs,a_8 h1 hb,b_m (a_C hb) h2⟩
theorem e_9 {F g:Nat} {Q:Nat→Prop} {w:World} {v:Value} {n k:Nat} {ts:List Thr} {us:List Value} (h:d_l F Q w v n ts) (hg:v.ownBlock≠some g) (hQ:∀ b,Q b→b≠g):d_l F Q (d_o w g k us) v n ts:=by
 obtain ⟨cs,h1,h2⟩:=h;exact ⟨cs,a_Z hg h1,b_m (a_t hQ) h2⟩
theorem i_b {F:Nat} {Q:Nat→Prop} {w:World} {v:Value} {n:Nat} {ts:List Thr} (h:d_l F Q w v n ts) {g:Nat} (hg:w.heap.size≤g∨g < F):v.ownBlock≠some g:=fun e=>by
 obtain ⟨cs,h1,-⟩:=h;have:=h1.lt g e
 omega
theorem i_r {Q:Nat→Prop} {w:World} {cs:List Value} {ts:List Thr} {t:Thr} {fa:Option Addr} {fn fc:Nat} {qa:Option Addr} {qn qc:Nat} (h:d_s repTh Q w cs ts) (hn:t.fs.length=fn∧t.lf.length=qn) (T:ThQ Q w fa fn fc qa qn qc t):d_s repTh Q w (cs++thC t fa fn fc qa qn qc) (ts++[t]):=
 e_J (r:=repTh) (show repTh.R Q w (thC t fa fn fc qa qn qc) t from ⟨fa,fc,qa,qc,by rw [hn.1,hn.2],by rw [hn.1,hn.2];exact T⟩) h
def f_z (ts:List Thr) (j:Nat) (t:Thr) (k:Nat):List Thr:=(ts.set j t).take k
theorem m_8 {ts:List Thr} {j k:Nat} {t x:Thr} (hx:ts[k]?=some x):f_z ts j t (k+1)=f_z ts j t k++[if k=j then t else x]:=by
 obtain ⟨hk,rfl⟩:=List.getElem?_eq_some_iff.1 hx;rw [f_z,f_z,List.take_succ_eq_append_getElem (by rw [List.length_set];exact hk),List.getElem_set]
 by_cases e:j=k
 ·subst e;rw [if_pos rfl]
 ·rw [if_neg e,if_neg (fun h=>e h.symm)]
theorem p_h {ts:List Thr} {j n:Nat} {t:Thr} (hn:ts.length=n):f_z ts j t n=ts.set j t:=List.take_of_length_le (by rw [List.length_set];omega)
theorem r_v (Q:Nat→Prop) (la:Option Addr) (n c:Nat) (ts:List Thr) (j:Nat) (t:Thr) (fa:Option Addr) (fc:Nat) (qa:Option Addr) (qc:Nat) (w:World) (S:Vs repTh Q w la n ts) (T:ThQ Q w fa t.fs.length fc qa t.lf.length qc t) (hQ:∀ b,w.heap.size≤b→Q b) (hn:n≤1000) :
  Calls Tryz.prog 97 #[.slice la n c,.int .i64 j,thV t fa t.fs.length fc qa t.lf.length qc] w (fun e w'=>∃ a d,e=.returned (.slice a n d)∧Cap a n d∧Vs repTh Q w' a n (ts.set j t)∧Below w.heap.size w w'):=by
 unfold thV;obtain ⟨Q0,hQ0⟩:∃ Q0:Nat→Prop,Q0=fun b=>Q b∧b < w.heap.size:=⟨_,rfl⟩
 have HS:=hid (show Vs repTh Q0 w la n ts by rw [hQ0];exact c_O S);have HN:=hid S.1;have T0:ThQ Q0 w fa t.fs.length fc qa t.lf.length qc t:=by rw [hQ0];exact d_r T
 have HQ:=hid (show (∀ b,w.heap.size≤b→Q b)∧(∀ b,Q0 b→b < w.heap.size∧Q b) from ⟨hQ,fun b h=>by rw [hQ0] at h;exact ⟨h.2,h.1⟩⟩);obtain ⟨tn,htn⟩:=mn (t.fs.length);obtain ⟨tm,htm⟩:=mn (t.lf.length);have HTN:=hid (And.intro htn htm);have HT:=hid T0;rw [htn,htm] at HT ⊢;obtain ⟨j0,ki,kz0,kz1,kz2⟩:=info_parts l_I;have HJ:=N72;obtain ⟨W,hW⟩:=nm ((w.alloc (Obj.cells (thC t fa tn fc qa tm qc).toArray 46)).alloc (Obj.cells #[] 46));have HX:=hid (show a_p W w.heap.size (thC t fa tn fc qa tm qc) by rw [hW];exact a_s _ (a_e _ _ rfl));have HB:=N3
 have HO:=hid (show d_l (w.heap.size+1) Q0 W (.slice (some ⟨w.heap.size+1,0,none⟩) 0 0) 0 (f_z ts j t 0) by
  refine ⟨[],?_,rfl⟩;have h:=World.ownsRow_lit (w.alloc (Obj.cells (thC t fa tn fc qa tm qc).toArray 46)) #[] 0 (Nat.le_refl _) (by decide) rfl (e:=46) (size:=13);rw [show (w.alloc (Obj.cells (thC t fa tn fc qa tm qc).toArray 46)).heap.size=w.heap.size+1 by simp] at h;rw [hW];exact h)
 have HW:=hid hW;clear S T hQ htn htm ki kz0 kz1 kz2 hW T0 hQ0
 go_enter Tryz.func97,Tryz.ntmps97
 go_upto_region 2 with fail
 rw [←HW.out]
 go_wp2_with fail
 go_loopw [7,13] (fun v i wr=>∃ (k:Nat) (va:Option Addr) (vc:Nat),k≤n∧i=.int .i64 k∧v=.slice va k vc∧Hid (d_l (w.heap.size+1) Q0 wr (.slice va k vc) k (f_z ts j t k))∧Hid (a_p wr w.heap.size (thC t fa tn fc qa tm qc))∧Below w.heap.size w wr) (fun _ i _=>n - (intOf i).toNat)
 case atStart=>exact ⟨0,_,_,Nat.zero_le _,rfl,rfl,HO.out,HX.out,HB.out⟩
 case round =>
  obtain ⟨k,va,vc,hk,rfl,rfl,ho,hx,hb⟩:=hrel;have HB1:=hid hb
  by_cases hlt:k < n
  ·obtain ⟨b,o,x,xa,xc,ya,yc,rfl,hxx,hqb,X,hr⟩:=d_b HS.out hlt;have i1:(0:Int)≤k:=by omega
   have i2:(k:Int) < n:=by omega
   have HR:=hid (show wr.rangeAt b (o+k*13) (thC x xa x.fs.length xc ya x.lf.length yc) from fun j v hj=>c_o hb (fun b hb=>(HQ.out.2 b hb).1) b _ v hqb (hr j v hj));have HXT:=hid X;have hsz:=hb.size;have HNX:=hid (m_8 (j:=j) (t:=t) hxx);obtain ⟨xn,hxn⟩:=mn (x.fs.length);obtain ⟨xm,hxm⟩:=mn (x.lf.length);have HXN:=hid (And.intro hxn hxm);rw [hxn,hxm] at HR HXT;obtain ⟨wo,hwo⟩:=nm (wr);subst hwo;have hlt0:w.heap.size < wo.heap.size:=a_P hx.out (by simp);clear hxx X hr hxn hxm hb hqb
   go_upto_region 5 with (first | (refine wpList_load_mid rfl 46 _ rfl b (o+k*13) rfl (thC x xa xn xc ya xm yc) _ HR.out Tryz.underlying46 rfl (by kernel_rfl) ?_) | (refine a_c rfl 46 _ _ rfl wo.heap.size (thC x xa xn xc ya xm yc).toArray rfl rfl _ (a_e thN wo.heap.size rfl) rfl (by kernel_rfl) (a_K _ _ _ _ _ _ _) ?_;intro U HU))
   have Y:=N151;have HX5:=hid (show a_p U w.heap.size (thC t fa tn fc qa tm qc) by rw [HU.out];exact a_j (by omega) (a_s _ hx.out))
   have HO5:=hid (show d_l (w.heap.size+1) Q0 U (.slice va k vc) k (f_z ts j t k) by
    rw [HU.out];exact e_9 (i_N ((Below.refl _ _).alloc (Nat.le_refl _) _) ho.out) (i_b ho.out (.inl (Nat.le_refl _))) (fun b hb=>by have:=(HQ.out.2 b hb).1;omega))
   have HB5:=hid (show Below w.heap.size w U by rw [HU.out];exact a_h (by omega) (HB1.out.alloc hsz _));have HZ5:=hid (show U.heap.size=wo.heap.size+1 by rw [HU.out];simp [a_R]);clear HU HR
   by_cases e:k=j
   ·have q1:((k:Int)==(j:Int))=true:=by simp [e]
    have HNX2:=hid (show f_z ts j t (k+1)=f_z ts j t k++[t] by rw [HNX.out,if_pos e]);clear e
    go_upto_region 7 with (first | (refine wpList_load_mid rfl 46 _ rfl w.heap.size 0 rfl (thC t fa tn fc qa tm qc) _ (a_f HX5.out) Tryz.underlying46 rfl (by kernel_rfl) ?_) | (refine a_c rfl 46 _ _ rfl wo.heap.size (thC t fa tn fc qa tm qc).toArray rfl rfl _ Y.out rfl (by kernel_rfl) (a_K _ _ _ _ _ _ _) ?_;intro V HV))
    have Y2:=hid (show a_p V wo.heap.size (thC t fa tn fc qa tm qc) by rw [HV.out];exact a_q Y.out rfl);have HX6:=hid (show a_p V w.heap.size (thC t fa tn fc qa tm qc) by rw [HV.out];exact a_j (by omega) HX5.out)
    have HO6:=hid (show d_l (w.heap.size+1) Q0 V (.slice va k vc) k (f_z ts j t k) by
     rw [HV.out];exact e_9 HO5.out (i_b ho.out (.inl (Nat.le_refl _))) (fun b hb=>by have:=(HQ.out.2 b hb).1;omega))
    have HB6:=hid (show Below w.heap.size w V by rw [HV.out];exact a_h (by omega) HB5.out);have HZ6:=hid (show V.heap.size=wo.heap.size+1 by rw [HV.out];simp [a_R,HZ5.out]);have HF:=hid (show ThQ Q0 V fa tn fc qa tm qc t from a_w (c_o HB6.out (fun b hb=>(HQ.out.2 b hb).1)) HT.out);clear HV;obtain ⟨cs6,own6,fl6⟩:=HO6.out;have ⟨HOW,HFL⟩:=hh2 own6 fl6;clear own6 fl6
    go_wp2_with (first | (refine wpList_load_mid rfl 46 _ rfl wo.heap.size 0 rfl (thC t fa tn fc qa tm qc) _ (a_f Y2.out) Tryz.underlying46 rfl (by kernel_rfl) ?_) | (at_builtin;refine wpList_append_own _ rfl (.tmp 22) (.tmp 24) 24 rfl (w.heap.size+1) 46 j0 (.agg thN.toArray) 13 136 Tryz.underlying24 HJ.out.1 HJ.out.2.1 HJ.out.2.2.1 HJ.out.2.2.2 rfl (by decide) (.slice va k vc) k cs6 rfl (HOW.out.alloc _) ⟨V.heap.size,0,none⟩ 1 1 (thC t fa tn fc qa tm qc) rfl rfl (e_F _ _ _) (g_9 _ _ _ _ _ _ _) (by unfold maxLen;omega) (by omega) (by have:=HZ6.out;simp;omega) ?_))
    intro v4 w4 hown hgrow _;obtain ⟨va4,vc4,rfl⟩:=c_D hown;have hbo:=N176;have HB7:=N112;have HX7:=N143
    have HO7:=hid (show d_l (w.heap.size+1) Q0 w4 (.slice va4 (k+1) vc4) (k+1) (f_z ts j t (k+1)) by
     rw [HNX2.out];have hk:=N152;exact ⟨_,hown,i_r (b_m hk HFL.out) HTN.out (a_w hk HF.out)⟩)
    clear hown hgrow hbo
    go_wp2_with fail
    go_roundw
    case rel=>exact ⟨k+1,va4,vc4,by omega,by go_num,rfl,HO7.out,HX7.out,HB7.out⟩
    case measure=>simp [intOf];omega
   ·have q1:((k:Int)==(j:Int))=false:=by simp;omega
    have HNX2:=hid (show f_z ts j t (k+1)=f_z ts j t k++[x] by rw [HNX.out,if_neg e]);clear e;have HX6:=HX5;have HO6:=HO5;have HB6:=HB5;have Y2:=Y;obtain ⟨V,hV⟩:=nm (U);subst hV;have HZ6:=HZ5;have HF:=hid (show ThQ Q0 V xa xn xc ya xm yc x from a_w (c_o HB6.out (fun b hb=>(HQ.out.2 b hb).1)) HXT.out);obtain ⟨cs6,own6,fl6⟩:=HO6.out;have ⟨HOW,HFL⟩:=hh2 own6 fl6;clear own6 fl6
    go_wp2_with (first | (refine wpList_load_mid rfl 46 _ rfl wo.heap.size 0 rfl (thC x xa xn xc ya xm yc) _ (a_f Y2.out) Tryz.underlying46 rfl (by kernel_rfl) ?_) | (at_builtin;refine wpList_append_own _ rfl (.tmp 22) (.tmp 24) 24 rfl (w.heap.size+1) 46 j0 (.agg thN.toArray) 13 136 Tryz.underlying24 HJ.out.1 HJ.out.2.1 HJ.out.2.2.1 HJ.out.2.2.2 rfl (by decide) (.slice va k vc) k cs6 rfl (HOW.out.alloc _) ⟨V.heap.size,0,none⟩ 1 1 (thC x xa xn xc ya xm yc) rfl rfl (e_F _ _ _) (g_9 _ _ _ _ _ _ _) (by unfold maxLen;omega) (by omega) (by have:=HZ6.out;simp;omega) ?_))
    intro v4 w4 hown hgrow _;obtain ⟨va4,vc4,rfl⟩:=c_D hown;have hbo:=N176;have HB7:=N112;have HX7:=N143
    have HO7:=hid (show d_l (w.heap.size+1) Q0 w4 (.slice va4 (k+1) vc4) (k+1) (f_z ts j t (k+1)) by
     rw [HNX2.out];have hk:=N152;exact ⟨_,hown,i_r (b_m hk HFL.out) HXN.out (a_w hk HF.out)⟩)
    clear hown hgrow hbo
    go_wp2_with fail
    go_roundw
    case rel=>exact ⟨k+1,va4,vc4,by omega,by go_num,rfl,HO7.out,HX7.out,HB7.out⟩
    case measure=>simp [intOf];omega
  ·obtain rfl:k=n:=by omega
   have HSA:=hid (p_h (j:=j) (t:=t) HN.out);obtain ⟨cs,h1,h2⟩:=ho.out;obtain ⟨a2,c2,e2,k1,k2,k3,V⟩:=e_v (r:=repTh) (Q:=Q) h1 (c_l (fun b hb=>(HQ.out.2 b hb).2) h2) (fun b hb _=>HQ.out.1 b (by omega));rw [HSA.out] at V
   cases e2
   have HV:=hid V;clear V h1 h2
   go_wp2
   go_ret
   exact ⟨_,_,rfl,⟨k1,k2,k3⟩,HV.out,HB1.out⟩
end Go.Proofs.YtogdpojnbgeknaaGreatDoor
namespace Go.Proofs.YtogdpojnbgeknaaGreatDoor
open Go.ChangeShapes Go.WideShapes Go.ChangeAt Go.RowKit
section
variable {P:Program} {ops:Array Oper} {Q:Exit→Act→World→Prop}
abbrev b_p:=List (List Nat×(List Value→World→Prop))
def a_S (S:b_p) (k:Nat):List Nat:=(S.getD k ([],fun _ _=>True)).1
def b_x (S:b_p) (k:Nat):List Value→World→Prop:=(S.getD k ([],fun _ _=>True)).2
abbrev e_w:=Value→Value→World→Prop
def InvD (l:List (Option Tmp)) (B:World→Prop) (S:b_p) (pi pj:Nat) (p:e_w) (a0:Act) (_:World) (listed:Array Bool) (a:Act) (w:World):Prop:=
 ∃ vals,a=c_I a0 l vals 0∧B w∧(∀ k,k < l.length→Up listed k→(∀ i∈a_S S k,Up listed i)∧b_x S k ((a_S S k).map vals) w)∧(pi < l.length→pj < l.length→Up listed pi→Up listed pj→p (vals pi) (vals pj) w)
structure CameD (l:List (Option Tmp)) (B:World→Prop) (S:b_p) (pi pj:Nat) (p:e_w) (a0:Act) (ws:List Nat) (a1:Act) (vals:Nat→Value) (w1:World):Prop where
 val:∀ j t,l[j]?=some (some t)→t < a0.tmps.size→a1.eval (.tmp t)=vals j
 old:∀ t,l.contains (some t)=false→a1.eval (.tmp t)=a0.eval (.tmp t)
 base:B w1
 dep:∀ j,j∈ws→b_x S j ((a_S S j).map vals) w1
 both:pi∈ws++ws.flatMap (a_S S)→pj∈ws++ws.flatMap (a_S S)→pi < l.length→pj < l.length→p (vals pi) (vals pj) w1
def g_P (S:b_p) (pi pj:Nat) (p:e_w) (B:World→Prop) (k:Nat) (vals:Nat→Value) (dst:Option Tmp) (a1:Act) (w1:World) (K:Act→World→Prop):Prop:=
 ∀ v w2,b_x S k ((a_S S k).map (fun i=>if i=k then v else vals i)) w2→B w2→(∀ j,j≠k→b_x S j ((a_S S j).map vals) w1→b_x S j ((a_S S j).map vals) w2) →
  (k≠pi→k≠pj→p (vals pi) (vals pj) w1→p (vals pi) (vals pj) w2)→(k=pi→k≠pj→b_x S pj ((a_S S pj).map vals) w1→p v (vals pj) w2)→(k=pj→k≠pi→b_x S pi ((a_S S pi).map vals) w1→p (vals pi) v w2)→(k=pi→k=pj→p v v w2)→K (a1.put dst v) w2
theorem InvD.cons {l:List (Option Tmp)} {B:World→Prop} {S:b_p} {pi pj:Nat} {p:e_w} {a0:Act} {w0:World} {k:Nat} {o:Oper} {rest:List Oper} {ws:List Nat}
  (hw:c_A .any o=ws) (hl:l[k]?=some o.dst) (hn:decide (b_M l).Nodup=true) (hd:ws.all (fun j=>decide (j < l.length))=true)
  (hD:(a_S S k).all (fun i=>(k::(ws++ws.flatMap (a_S S))).contains i)=true)
  (h:∀ a1 vals w1,CameD l B S pi pj p a0 ws a1 vals w1→∀ K:Act→World→Prop,g_P S pi pj p B k vals o.dst a1 w1 K →
   if Region.wanted o (yielded ops a1.tmps)=true then Oper.wp P o a1 w1 K Q else K (a1.put o.dst undef) w1)
  (hs:StepsL P .any ops Q (InvD l B S pi pj p a0 w0) (k+1) rest):StepsL P .any ops Q (InvD l B S pi pj p a0 w0) k (o::rest):=by
 have hn:=of_decide_eq_true hn;refine StepsL.cons hw (fun listed a1 w1 hI hu hu2 K hK=>?_) hs;obtain ⟨vals,rfl,hb,hv,hp⟩:=hI;have hlt:=N51
 have hall:∀ i,i∈ws++ws.flatMap (a_S S)→Up listed i:=fun i hi=>by
  exact J53
 refine h _ vals w1 ⟨fun j t hj ht=>?_,fun t ht=>?_,hb,fun j hj=>(hv j (hlt j hj) (hu2 j hj)).2,fun h1 h2 l1 l2=>hp l1 l2 (hall _ h1) (hall _ h2)⟩ K (fun v w2 h1 h2 h3 h4 h5 h6 h7=>?_)
 ·exact J34
 ·exact J20
 ·refine hK.out _ _ ⟨fun i=>if i=k then v else vals i,e_m hn hl v,h2,fun j hjl hj=>?_,fun l1 l2 u1 u2=>?_⟩
  by_cases e:j=k
  ·subst e;refine ⟨fun i hi=>?_,h1⟩;exact J36
  ·exact J32
  ·exact J18
theorem d_k {id:Nat} {ol:List Oper} {a:Act} {w:World} (l:List (Option Tmp)) (B:World→Prop) (S:b_p) (pi pj:Nat) (p:e_w) (hm:P.follows .mixedOrders=true) (hb:i_l .any ol.toArray=true) (hn:decide (b_M l).Nodup=true) (hlen:l.length=ol.length)
  (h0:B w.drew) (hs:StepsL P .any ol.toArray Q (InvD l B S pi pj p a w) 0 ol)
  (hend:∀ vals w',B w'→(∀ k,k < l.length→b_x S k ((a_S S k).map vals) w')→(pi < l.length→pj < l.length→p (vals pi) (vals pj) w')→Q .normal (c_I a l vals 0) w'):(Code.region id ol.toArray true).wp P Q a w:=by
 refine b_s (InvD l B S pi pj p) hm hb (fun listed hl=>⟨e_D a l,(putL_first (of_decide_eq_true hn)).symm,h0,fun k hkl hk=>absurd hk (hl k (by omega)),fun l1 _ u1 _=>absurd u1 (hl _ (by omega))⟩) hs (fun listed a' w' hI hu=>?_);obtain ⟨vals,rfl,h1,h2,h3⟩:=hI;exact hend vals w' h1 (fun k hk=>(h2 k hk (hu k)).2) (fun l1 l2=>h3 l1 l2 (hu _) (hu _))
def isV (k:Nat) (x:Value):List Nat×(List Value→World→Prop):=([k],fun l _=>l=[x])
def c_j (S:b_p):Prop:=∀ j args w w',Below w.heap.size w w'→b_x S j args w→b_x S j args w'
theorem b_u:c_j []:=fun _ _ _ _ _ h=>h
theorem a_v {d:List Nat} {f:List Value→World→Prop} {S:b_p} (h:∀ args w w',Below w.heap.size w w'→f args w→f args w') (hs:c_j S):c_j ((d,f)::S):=fun j args w w' hb h1=>by
 cases j with
 | zero=>exact h args w w' hb h1
 | succ j=>exact hs j args w w' hb h1
theorem a_d {k:Nat} {x:Value} {S:b_p} (hs:c_j S):c_j (isV k x::S):=a_v (fun _ _ _ _ h=>h) hs
section
variable {l:List (Option Tmp)} {B:World→Prop} {S:b_p} {pi pj:Nat} {p:e_w} {a0 a1:Act} {ws:List Nat} {vals:Nat→Value} {w1 w2:World} {k:Nat} {K:Act→World→Prop} {dst:Option Tmp}
theorem CameD.v (C:CameD l B S pi pj p a0 ws a1 vals w1) (j t:Nat) (hj:l[j]?=some (some t)) (hs:Nat.blt t a0.tmps.size=true):a1.eval (.tmp t)=vals j:=C.val j t hj (by simpa [Nat.blt_eq] using hs)
theorem CameD.t (C:CameD l B S pi pj p a0 ws a1 vals w1) (j t:Nat) (hj:l[j]?=some (some t)) (hs:Nat.blt t a0.tmps.size=true):a1.tmps[t]?.getD undef=vals j:=(a_M a1 t).trans (C.v j t hj hs)
theorem CameD.says (C:CameD l B S pi pj p a0 ws a1 vals w1) (j:Nat) (hm:ws.contains j=true):b_x S j ((a_S S j).map vals) w1:=C.dep j (List.contains_iff_mem.1 hm)
theorem CameD.two (C:CameD l B S pi pj p a0 ws a1 vals w1) (h1:(ws++ws.flatMap (a_S S)).contains pi=true) (h2:(ws++ws.flatMap (a_S S)).contains pj=true) (l1:Nat.blt pi l.length=true) (l2:Nat.blt pj l.length=true):p (vals pi) (vals pj) w1:=
 C.both (List.contains_iff_mem.1 h1) (List.contains_iff_mem.1 h2) (by simpa [Nat.blt_eq] using l1) (by simpa [Nat.blt_eq] using l2)
theorem CameD.is (C:CameD l B S pi pj p a0 ws a1 vals w1) (j t:Nat) (x:Value) (hj:l[j]?=some (some t)) (hs:Nat.blt t a0.tmps.size=true) (hm:ws.contains j=true) (he:S[j]?=some (isV j x)):a1.tmps[t]?.getD undef=x:=by
 have h:=C.says j hm;rw [b_x,a_S,List.getD_eq_getElem?_getD,he] at h;rw [C.t j t hj hs]
 simpa [isV] using h
theorem o_9 (hK:g_P S pi pj p B k vals dst a1 w1 K) (hG:c_j S) (hGp:∀ x y w w',Below w.heap.size w w'→p x y w→p x y w') (hb:Below w1.heap.size w1 w2) (hne:((k==pi)||(k==pj))=false) {v:Value} (hv:b_x S k ((a_S S k).map (fun i=>if i=k then v else vals i)) w2) (hB:B w2):K (a1.put dst v) w2:=by
 simp only [Bool.or_eq_false_iff,beq_eq_false_iff_ne] at hne;exact hK v w2 hv hB (fun j _ h=>hG j _ w1 w2 hb h) (fun _ _ h=>hGp _ _ w1 w2 hb h) (fun e=>absurd e hne.1) (fun e=>absurd e hne.2) (fun e=>absurd e hne.1)
theorem c_Q (hK:g_P S pi pj p B k vals dst a1 w1 K) (C:CameD l B S pi pj p a0 ws a1 vals w1) (hne:((k==pi)||(k==pj))=false) {v:Value} (hv:b_x S k ((a_S S k).map (fun i=>if i=k then v else vals i)) w1):K (a1.put dst v) w1:=by
 simp only [Bool.or_eq_false_iff,beq_eq_false_iff_ne] at hne;exact hK v w1 hv C.base (fun _ _ h=>h) (fun _ _ h=>h) (fun e=>absurd e hne.1) (fun e=>absurd e hne.2) (fun e=>absurd e hne.1)
end
end
theorem InvD.c {l:List (Option Tmp)} {B:World→Prop} {S:b_p} {pi pj:Nat} {p:e_w} {a0:Act} {w0:World} {k:Nat} {o:Oper} {rest:List Oper} {P:Program} {ops:Array Oper} {Q:Exit→Act→World→Prop}
  (h:∀ a1 vals w1,CameD l B S pi pj p a0 (c_A .any o) a1 vals w1→∀ K:Act→World→Prop,g_P S pi pj p B k vals o.dst a1 w1 K→if Region.wanted o (yielded ops a1.tmps)=true then Oper.wp P o a1 w1 K Q else K (a1.put o.dst undef) w1)
  (hs:StepsL P .any ops Q (InvD l B S pi pj p a0 w0) (k+1) rest) (hl:l[k]?=some o.dst:=by exact rfl) (hn:decide (b_M l).Nodup=true:=by exact rfl) (hd:(c_A .any o).all (fun j=>decide (j < l.length))=true:=by exact rfl)
  (hD:(a_S S k).all (fun i=>(k::(c_A .any o++(c_A .any o).flatMap (a_S S))).contains i)=true:=by exact rfl):StepsL P .any ops Q (InvD l B S pi pj p a0 w0) k (o::rest):=InvD.cons rfl hl hn hd hD h hs
section
variable {l:List (Option Tmp)} {B:World→Prop} {S:b_p} {pi pj:Nat} {p:e_w} {a0 a1:Act} {ws:List Nat} {vals:Nat→Value} {w1:World} {k:Nat} {K:Act→World→Prop} {P:Program} {ops:Array Oper} {Q:Exit→Act→World→Prop} {oq:Oper} {E:Prop}
theorem CameD.o (C:CameD l B S pi pj p a0 ws a1 vals w1) (t:Nat) (x:Value) (h1:l.contains (some t)=false:=by exact rfl) (h2:a0.eval (.tmp t)=x:=by exact rfl):a1.tmps[t]?.getD undef=x:=(a_M a1 t).trans ((C.old t h1).trans h2)
theorem CameD.i (C:CameD l B S pi pj p a0 ws a1 vals w1) (j:Nat) {t:Nat} {x:Value} (hj:l[j]?=some (some t):=by exact rfl) (he:S[j]?=some (isV j x):=by exact rfl) (hs:Nat.blt t a0.tmps.size=true:=by exact rfl) (hm:ws.contains j=true:=by exact rfl):a1.tmps[t]?.getD undef=x:=C.is j t x hj hs hm he
theorem oR {B2:World→Prop} {v:Value} {ds:List Nat} {f:List Value→World→Prop} (C:CameD l B S pi pj p a0 ws a1 vals w1) (hK:g_P S pi pj p B2 k vals oq.dst a1 w1 K) (he:S[k]?=some (k::ds,f):=by exact rfl) (hf:f (v::ds.map (fun i=>if i=k then v else vals i)) w1:=by exact rfl) (h:(execOp a1.eval oq).run P w1=.ok (.value v) w1) (hB:B w1→B2 w1:=by exact id) (hg:oq.guard=none:=by exact rfl) (hne:((k==pi)||(k==pj))=false:=by exact rfl) :
    if Region.wanted oq (yielded ops a1.tmps)=true then Oper.wp P oq a1 w1 K Q else E:=by
  simp only [Bool.or_eq_false_iff,beq_eq_false_iff_ne] at hne;refine a_g hg (a_x h (hK v w1 ?_ (hB C.base) (fun _ _ h=>h) (fun _ _ h=>h) (fun e=>absurd e hne.1) (fun e=>absurd e hne.2) (fun e=>absurd e hne.1)));rw [b_x,a_S,List.getD_eq_getElem?_getD,he]
  simpa using hf
end
end Go.Proofs.YtogdpojnbgeknaaGreatDoor
