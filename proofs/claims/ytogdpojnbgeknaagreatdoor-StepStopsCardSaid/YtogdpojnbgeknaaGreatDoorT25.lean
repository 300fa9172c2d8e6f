import Derived.Test.YtogdpojnbgeknaaGreatDoorT23
import Derived.Test.YtogdpojnbgeknaaGreatDoorT24
import Derived.Test.YtogdpojnbgeknaaGreatDoorT2
import Derived.Test.YtogdpojnbgeknaaGreatDoorT12
import Derived.Test.YtogdpojnbgeknaaGreatDoorT0
set_option maxRecDepth 100000
set_option maxHeartbeats 16000000
namespace Go.Proofs.YtogdpojnbgeknaaGreatDoor
open Go.ChangeShapes Go.WideShapes Go.ChangeAt Go.RowKit
open Gen
open Lib (hid)
abbrev woK:List Value:=[.slice none 0 0,.slice none 0 0,.slice none 0 0,.int .i64 0,.slice none 0 0,.slice none 0 0,.slice none 0 0,.int .i64 0]
structure Wk0 (Q:Nat→Prop) (w:World) (F b:Nat) (L:WoL) (X:Wo):Prop where
 hb:L.th.a=some ⟨b,0,none⟩
 tc:∃ TC,a_p w b TC∧d_s repTh Q w TC X.th
 co:Vs repIns Q w L.co.a L.co.n X.code
 ws:SlP Q w L.ws.a L.ws.n X.ws
 ts:SlP Q w L.ts.a L.ts.n X.ts
 bs:BlP Q w L.bs.a L.bs.n X.bs
 ev:∃ cs,w.ownsRow 0 101 6 (.slice L.ev.a L.ev.n L.ev.c) L.ev.n cs∧d_s repEv Q w cs X.ev
 evo:∀ c,(Value.slice L.ev.a L.ev.n L.ev.c).ownBlock=some c→F≤c∧c≠b∧¬ Q c
 cco:L.co.ok
 cth:L.th.ok
 cev:L.ev.ok
 hn:X.th.length=L.th.n
 hQ:∀ c,Q c→F≤c∧c≠b
 hF:F≤b
 new:∀ c,w.heap.size≤c→Q c
def m_j (X:Wo) (k:Int) (w:World) (e:Ending) (w':World):Prop:=∃ Q L' b,e=.returned (wkV L' X.D k)∧Wk0 Q w' w.heap.size b L' X∧Below w.heap.size w w'
theorem g_c {w:World} {B:Nat} {e:TypeId} {sz n:Nat} {v:Value} {cs:List Value} (h:w.ownsRow B e sz v n cs):w.ownsRow 0 e sz v n cs:=by
 obtain ⟨h1,h2 | ⟨g,cap,cur,a,b,c⟩⟩:=h
 ·exact ⟨h1,.inl h2⟩
 ·exact ⟨h1,.inr ⟨g,cap,cur,a,Nat.zero_le _,c⟩⟩
theorem l_V {w:World} {B:Nat} {e:TypeId} {sz n c:Nat} {a:Option Addr} {cs:List Value} (h:w.ownsRow B e sz (.slice a n c) n cs) (hn:1≤n):∃ g,a=some ⟨g,0,none⟩:=by
 rcases h.2 with ⟨_,h1⟩ | ⟨g,cap,cur,h1,-⟩
 ·omega
 ·cases h1;exact ⟨g,rfl⟩
theorem g_0 {Q:Nat→Prop} {w:World}:∀ {es:List Ev} {cs:List Value},d_s repEv Q w cs es→∀ u∈cs,u.oneCell'=true
 | [],cs,h=>by rw [show cs=[] from h];intro u hu;cases hu
 | i::_,_,⟨c,d,e,h1,h2⟩=>by
  intro u hu;rw [e] at hu
  rcases List.mem_append.1 hu with h3 | h3
  ·rw [show c=j_j i from h1] at h3;simp [j_j] at h3;rcases h3 with rfl | rfl | rfl | rfl | rfl | rfl <;> rfl
  ·exact g_0 h2 u h3
theorem m_M {Qn Qo:Nat→Prop} {w:World} {ts:List Thr} {TC:List Value} (h:d_s repTh Qo w TC ts):n_y 0 Qn Qo w ts TC:=⟨b_f h,fun i t ht=>by
 obtain ⟨c,⟨fa,fc,la,lc,rfl,T⟩,hc⟩:=f_3 h i t ht;exact ⟨fa,fc,la,lc,hc,by rw [if_neg (Nat.not_lt_zero _)];exact T⟩⟩
theorem l_8 {Q:Nat→Prop} {w:World} {a:Option Addr} {n:Nat} {zs:List Int} (h:SlP Q w a n zs) (e:a=none):n=0:=by
 exact J96
theorem p_8 {Q:Nat→Prop} {w:World} {a:Option Addr} {n:Nat} {bs:List (List (Int×Int))} (h:BlP Q w a n bs) (e:a=none):n=0:=by
 exact J96
theorem i_B {S:Nat→Prop} {w w':World} {B n c sz:Nat} {a:Option Addr} {e:TypeId} {cs:List Value} (h:Bel S w w') (ho:w.ownsRow B e sz (.slice a n c) n cs) (hne:∀ q,(Value.slice a n c).ownBlock=some q→¬ S q):w'.ownsRow B e sz (.slice a n c) n cs:=by
 obtain ⟨h1,h2 | ⟨g,cap,cur,a1,b1,c1,d1⟩⟩:=ho
 ·exact ⟨h1,.inl h2⟩
 ·have hg:(Value.slice a n c).ownBlock=some g:=by rw [a1];rfl
  have hlt:g < w.heap.size:=by
   rcases Nat.lt_or_ge g w.heap.size with h | h
   ·exact h
   ·rw [Array.getElem?_eq_none h] at c1;cases c1
  exact ⟨h1,.inr ⟨g,cap,cur,a1,b1,(h.block g hlt (hne g hg)).trans c1,d1⟩⟩
theorem i_S {α:Type} {r:Rep α} {Q:Nat→Prop} {w:World} {g:Nat} {cs:List Value} {ys:List α} (h:a_p w g cs) (hf:d_s r Q w cs ys) (hq:Q g):Vs r Q w (some ⟨g,0,none⟩) ys.length ys:=
 ⟨rfl,.inr ⟨g,0,rfl,hq,fun i y hy=>by
  obtain ⟨c,h1,h2⟩:=f_3 hf i y hy;exact ⟨c,h1,fun j v hj=>by rw [Nat.zero_add];exact (h _ _ (h2 j v hj)).1⟩⟩⟩
theorem o_5 {α:Type} {r:Rep α} {Q:Nat→Prop} {w:World} {B n c sz:Nat} {a:Option Addr} {e:TypeId} {cs:List Value} {ys:List α} (ho:w.ownsRow B e sz (.slice a n c) n cs) (hf:d_s r Q w cs ys) (hn:ys.length=n) (hQ:∀ q,(Value.slice a n c).ownBlock=some q→Q q):Vs r Q w a n ys:=by
 rcases ho.2 with ⟨h1,rfl⟩ | ⟨g,cap,cur,h1,-⟩
 ·cases h1
  have:ys=[]:=List.eq_nil_of_length_eq_zero hn;subst this;exact d_c
 ·cases h1
  have:=i_S (g_H ho) hf (hQ g rfl);rw [hn] at this;exact this
theorem r_P {Q:Nat→Prop} {w:World} {B n c sz:Nat} {a:Option Addr} {e:TypeId} {zs:List Int} (ho:w.ownsRow B e sz (.slice a n c) n (zs.map (Value.int .i64))) (hn:zs.length=n) (hQ:∀ q,(Value.slice a n c).ownBlock=some q→Q q):SlP Q w a n zs:=by
 refine ⟨hn,?_⟩
 rcases ho.2 with ⟨h1,rfl⟩ | ⟨g,cap,cur,h1,-⟩
 ·exact .inl rfl
 ·cases h1
  refine .inr ⟨g,0,rfl,hQ g rfl,fun i hi=>?_⟩;rw [Nat.zero_add];refine (g_H ho i _ ?_).1;rw [List.getElem?_map,List.getElem?_eq_getElem hi,List.getD_eq_getElem?_getD,List.getElem?_eq_getElem hi];rfl
theorem g_Z {α:Type} {k:Nat} {hk:0 < k} {f:α→List Value} {hf:∀ y,(f y).length=k} {Q Q':Nat→Prop} {w w':World}:∀ {ys:List α} {cs:List Value},d_s (q_3 k hk f hf) Q w cs ys→d_s (q_3 k hk f hf) Q' w' cs ys
 | [],_,h=>h
 | _::_,_,⟨c,d,e,h1,h2⟩=>⟨c,d,e,h1,g_Z h2⟩
theorem l_L {S Q:Nat→Prop} {w w':World} (h:Bel S w w') (hQ:∀ b,Q b→¬ S b):Kept Q w w':=fun b o v hq hv=>by
 have hb:=h.block b (b_P hv) (hQ b hq);exact (World.cell?_of_block (a:=⟨b,o,none⟩) hb).trans hv
theorem i_C {Q:Nat→Prop} {w w':World} {a:Option Addr} {n:Nat} {ps:List (Int×Int)} (hk:Kept Q w w') (h:PlQ Q w a n ps):PlQ Q w' a n ps:=⟨h.1,h.2.imp id fun ⟨b,o,e,hq,r⟩=>⟨b,o,e,hq,fun j hj=>⟨hk _ _ _ hq (r j hj).1,hk _ _ _ hq (r j hj).2⟩⟩⟩
theorem q_K {Q Qn Qo:Nat→Prop} {w:World} {ts:List Thr} {TC:List Value} (h:n_y 0 Q Qo w ts TC):n_y 0 Qn Qo w ts TC:=⟨h.1,fun i t ht=>by
 obtain ⟨fa,fc,la,lc,a,b⟩:=h.2 i t ht;rw [if_neg (Nat.not_lt_zero _)] at b;exact ⟨fa,fc,la,lc,a,by rw [if_neg (Nat.not_lt_zero _)];exact b⟩⟩
theorem q_I {Q Qn Qo:Nat→Prop} {w:World} {bs:List (List (Int×Int))} {BC:List Value} (h:p_K 0 Q Qo w bs BC):p_K 0 Qn Qo w bs BC:=⟨h.1,fun i t ht=>by
 obtain ⟨q,c,a,b,d⟩:=h.2 i t ht;rw [if_neg (Nat.not_lt_zero _)] at d;exact ⟨q,c,a,b,by rw [if_neg (Nat.not_lt_zero _)];exact d⟩⟩
def p_X (bt kk hi:Nat) (t:Thr) (fa la:Option Addr) (fc lc:Nat) (TC:List Value):b_p:=[isV 0 (.pointer (some ⟨bt,kk,none⟩)),isV 1 (.pointer (some ⟨bt,kk,none⟩)),isV 2 (.pointer (some ⟨bt,kk,none⟩)),isV 3 (.pointer (some ⟨bt,kk,none⟩)),isV 4 (.pointer (some ⟨bt,kk+9,none⟩)),isV 5 (.slice fa t.fs.length fc),([6],fun vz w=>∃ (a:Option Addr) (c:Nat),vz=[.slice a t.fs.length c]∧Cap a t.fs.length c∧Vs repFr (fun b=>hi≤b) w a t.fs.length t.fs),isV 7 (.pointer (some ⟨bt,kk,none⟩)),isW 8 [7] (.pointer (some ⟨bt,kk,none⟩)),isW 9 [8,7] (.pointer (some ⟨bt,kk+12,none⟩)),isW 10 [9,8,7] (.slice la t.lf.length lc),([11],fun vz w=>∃ (a:Option Addr) (c:Nat),vz=[.slice a t.lf.length c]∧Cap a t.lf.length c∧Vs repInt (fun b=>hi≤b) w a t.lf.length t.lf),isW 12 [] (.pointer (some ⟨bt,kk,none⟩)),isW 13 [12] (.pointer (some ⟨bt,kk+9,none⟩)),([14,6],fun vz w=>∃ x a c,vz=[x,.slice a t.fs.length c]∧a_p w bt (TC.set (kk+9) (.slice a t.fs.length c))),isW 15 [] (.pointer (some ⟨bt,kk,none⟩)),isW 16 [15] (.pointer (some ⟨bt,kk+12,none⟩))]
theorem o_d (bt kk hi:Nat) (t:Thr) (fa la:Option Addr) (fc lc:Nat) (TC:List Value):c_j (p_X bt kk hi  t  fa la  fc lc  TC ):=a_d<|a_d<|a_d<|a_d<|a_d<|a_d<|a_v (fun _ _ _ hb h=>by obtain ⟨a,c,h1,h2,h3⟩:=h;exact ⟨a,c,h1,h2,a_z (a_C hb) h3⟩)<|a_d<|a_3<|a_3<|a_3<|a_v (fun _ _ _ hb h=>by obtain ⟨a,c,h1,h2,h3⟩:=h;exact ⟨a,c,h1,h2,a_z (a_C hb) h3⟩)<|a_3<|a_3<|a_v (fun _ _ _ hb h=>by obtain ⟨x,a,c,h1,h2⟩:=h;exact ⟨x,a,c,h1,a_i hb h2⟩)<|a_3<|a_3<|b_u
theorem q_j (bt kk hi:Nat) (t:Thr) (fa la:Option Addr) (fc lc:Nat) (TC:List Value):∀ jz args wz wz',jz≠6→jz≠11→jz≠14→b_x (p_X bt kk hi  t  fa la  fc lc  TC ) jz args wz→b_x (p_X bt kk hi  t  fa la  fc lc  TC ) jz args wz':=by
 intro jz args wz wz' n0 n1 n2 h
 match jz with
 | 0=>exact h
 | 1=>exact h
 | 2=>exact h
 | 3=>exact h
 | 4=>exact h
 | 5=>exact h
 | 6=>exact absurd rfl n0
 | 7=>exact h
 | 8=>exact h
 | 9=>exact h
 | 10=>exact h
 | 11=>exact absurd rfl n1
 | 12=>exact h
 | 13=>exact h
 | 14=>exact absurd rfl n2
 | 15=>exact h
 | 16=>exact h
 | _+17=>exact trivial
def t_r (g bb k n c5 hi:Nat) (q:Option Addr) (cq:Nat) (b:List (Int×Int)):b_p:=[isV 0 (.pointer (some ⟨g,0,none⟩)),isV 1 (.pointer (some ⟨g,1,none⟩)),isV 2 (.pointer (some ⟨g,4,none⟩)),isV 3 (.slice (some ⟨bb,0,none⟩) n c5),isV 4 (.int .i64 (k:Int)),isV 5 (.pointer (some ⟨g,0,none⟩)),isV 6 (.pointer (some ⟨g,1,none⟩)),isV 7 (.pointer (some ⟨g,4,none⟩)),isV 8 (.slice (some ⟨bb,0,none⟩) n c5),isV 9 (.int .i64 (k:Int)),isV 10 (.pointer (some ⟨bb,k,none⟩)),isV 11 (.slice q b.length cq),([12],fun vz w=>∃ (a:Option Addr) (c:Nat),vz=[.slice a b.length c]∧d_v a b.length c∧PlQ (fun x=>hi≤x) w a b.length b),isW 13 [] (.pointer (some ⟨bb,k,none⟩))]
theorem o_c (g bb k n c5 hi:Nat) (q:Option Addr) (cq:Nat) (b:List (Int×Int)):c_j (t_r g bb k n c5 hi  q  cq  b ):=a_d<|a_d<|a_d<|a_d<|a_d<|a_d<|a_d<|a_d<|a_d<|a_d<|a_d<|a_d<|a_v (fun _ _ _ hb h=>by obtain ⟨a,c,h1,h2,h3⟩:=h;exact ⟨a,c,h1,h2,i_C (a_C hb) h3⟩)<|a_3<|b_u
theorem k_j (L:WoL) (X:Wo) (k:Int) (w:World) (R:RWo Any w L X) (h1n:1≤L.th.n) (h8:L.th.n≤8) (hbn:L.bs.n=L.th.n) (hco:L.co.n≤1000) (hws:L.ws.n≤1000) (hts:L.ts.n≤1000) (hev:L.ev.n≤200000) (hfr:∀ t∈X.th,t.fs.length≤1000∧t.lf.length≤1000) (hbu:∀ b∈X.bs,b.length≤1000) :
  Calls Tryz.prog 43 #[wkV L X.D k] w (m_j X k w):=by
 obtain ⟨D,hD⟩:=mn (X.D);rw [hD];have HD:=hid hD;have R0:=c_e R;obtain ⟨ccs,hc1,hc2⟩:=i_R R0.co;obtain ⟨ecs,he1,he2⟩:=i_R R0.ev;obtain ⟨tcs,ht1,ht2⟩:=i_R R0.th;obtain ⟨bcs,hb1,hb2,hb3,hb4⟩:=s_f R0.bs;obtain ⟨wcs,hw1⟩:=nm (X.ws.map (Value.int .i64));obtain ⟨zcs,hz1⟩:=nm (X.ts.map (Value.int .i64))
 have none_n:∀ {α:Type} {r:Rep α} {Q:Nat→Prop} {a:Option Addr} {n:Nat} {ys:List α},Vs r Q w a n ys→a=none→n=0:=fun h e=>by
  exact J96
 have HLco:=hid (show ccs.length=L.co.n*4 by rw [b_f hc1,R0.co.1];rfl);have HSco:=hid hc2;have HOco:=hid (e_H hc1);have HAco:=hid (show (L.co.a=none→L.co.n=0)∧L.co.n≤1000000 from ⟨none_n R0.co,by omega⟩);have HLev:=hid (show ecs.length=L.ev.n*6 by rw [b_f he1,R0.ev.1];rfl);have HSev:=hid he2;have HOev:=hid (g_0 he1);have HAev:=hid (show (L.ev.a=none→L.ev.n=0)∧L.ev.n≤1000000 from ⟨none_n R0.ev,by omega⟩);have HLth:=hid (show tcs.length=L.th.n*13 by rw [b_f ht1,R0.th.1];rfl);have HSth:=hid ht2;have HOth:=hid (g_3 ht1);have HAth:=hid (show (L.th.a=none→L.th.n=0)∧L.th.n≤1000000 from ⟨none_n R0.th,by omega⟩);have HLws:=hid (show wcs.length=L.ws.n*1 by rw [hw1,List.length_map,R0.ws.1,Nat.mul_one]);have HSws:=hid (show ∀ p,L.ws.a=some p→∀ j u,wcs[j]?=some u→w.cell? (p.add j)=some u by rw [hw1];exact m_a R0.ws.sl);have HOws:=hid (show ∀ u∈wcs,u.oneCell'=true by rw [hw1];exact o_C _);have HAws:=hid (show (L.ws.a=none→L.ws.n=0)∧L.ws.n≤1000000 from ⟨l_8 R0.ws,by omega⟩);have HLts:=hid (show zcs.length=L.ts.n*1 by rw [hz1,List.length_map,R0.ts.1,Nat.mul_one]);have HSts:=hid (show ∀ p,L.ts.a=some p→∀ j u,zcs[j]?=some u→w.cell? (p.add j)=some u by rw [hz1];exact m_a R0.ts.sl);have HOts:=hid (show ∀ u∈zcs,u.oneCell'=true by rw [hz1];exact o_C _);have HAts:=hid (show (L.ts.a=none→L.ts.n=0)∧L.ts.n≤1000000 from ⟨l_8 R0.ts,by omega⟩);have HLbs:=hid (show bcs.length=L.bs.n*1 by rw [hb1,Nat.mul_one]);have ⟨HSbs,HObs⟩:=hh2 hb2 hb4;have HAbs:=hid (show (L.bs.a=none→L.bs.n=0)∧L.bs.n≤1000000 from ⟨p_8 R0.bs,by omega⟩)
 have ⟨HFC,HFE⟩:=hh2 hc1 he1;have HMT0:=hid (show n_y 0 (fun b=>b < 0) (fun b=>b < w.heap.size) w X.th tcs from m_M (c_l (fun _ h=>h.2) ht1))
 have HMB0:=hid (show p_K 0 (fun b=>b < 0) (fun b=>b < w.heap.size) w X.bs bcs from ⟨by rw [hb1,R0.bs.1],fun i b hb=>by
  obtain ⟨q,c,k1,k2,k3⟩:=hb3 i b hb;rw [if_neg (Nat.not_lt_zero _)];exact ⟨q,c,k1,k2,k3.1,k3.2.imp id fun ⟨b,o,e,hq,r⟩=>⟨b,o,e,hq.2,r⟩⟩⟩)
 have HWC:=hid (And.intro hw1 hz1);have ⟨HFR,HBUF,HBN,H1N,HN8⟩:=hh5 hfr hbu hbn h1n h8;have HXL:=hid (show X.th.length=L.th.n∧X.bs.length=L.th.n∧X.code.length=L.co.n∧X.ws.length=L.ws.n∧X.ts.length=L.ts.n from ⟨R0.th.1,R0.bs.1.trans hbn,R0.co.1,R0.ws.1,R0.ts.1⟩);obtain ⟨W,hW⟩:=nm ((w.alloc (Obj.cells (wkC L D k).toArray 80)).alloc (Obj.cells woK.toArray 80));have HX0:=hid (show a_p W w.heap.size [.slice L.co.a L.co.n L.co.c,.slice L.ws.a L.ws.n L.ws.c,.slice L.ts.a L.ts.n L.ts.c,.int .i64 D,.slice L.bs.a L.bs.n L.bs.c,.slice L.th.a L.th.n L.th.c,.slice L.ev.a L.ev.n L.ev.c,.int .i64 k] by rw [hW];exact a_s _ (a_e (wkC L D k) _ rfl));have HZ0:=N235;have HB0:=N3;have HS0:=N43;have HW:=hid hW;clear R R0 hc1 hc2 he1 he2 ht1 ht2 hb1 hb2 hb3 hb4 hw1 hz1 none_n hD hW hfr hbu h1n h8 hbn hco hws hts hev
 go_enter Tryz.func43,Tryz.ntmps43
 go_upto_region 1 with fail
 rw [←HW.out];obtain ⟨x0,-⟩:=HX0.out 0 _ rfl;have HC:=hid (g_r L.co.a L.co.n L.co.c ccs W HLco.out (fun p hp j u hj=>a_u HB0.out (HSco.out p hp j u hj)) HOco.out HAco.out.1 HAco.out.2)
 go_wp2_with fail
 refine HC.out.mono ?_;clear HC x0;rintro e0 v0 ⟨aco,cco,rfl,capco,ownco,hb0⟩;obtain ⟨x0,f0⟩:=a_i hb0 HX0.out 0 _ rfl;obtain ⟨U1,hU1⟩:=nm (v0.setCell ⟨w.heap.size,0,none⟩ (.slice aco L.co.n cco));have HX1:=hid (show a_p U1 w.heap.size [.slice aco L.co.n cco,.slice L.ws.a L.ws.n L.ws.c,.slice L.ts.a L.ts.n L.ts.c,.int .i64 D,.slice L.bs.a L.bs.n L.bs.c,.slice L.th.a L.th.n L.th.c,.slice L.ev.a L.ev.n L.ev.c,.int .i64 k] by rw [hU1];have h:=a_A (a_i hb0 HX0.out) 0 (by simp) (.slice aco L.co.n cco);exact h);have HB1:=hid (show Below w.heap.size w U1 by rw [hU1];exact (a_b HB0.out hb0).setCell (p:=⟨w.heap.size,0,none⟩) (Nat.le_refl _) _);have HZ1:=hid (show a_p U1 (w.heap.size+1) woK by rw [hU1];exact a_m (a_i hb0 HZ0.out) (by omega) _);have HS1:=hid (show W.heap.size≤U1.heap.size by rw [hU1];simp;exact hb0.size);have HNco:=hid (show ∀ q,(Value.slice aco L.co.n cco).ownBlock=some q→W.heap.size≤q∧q < U1.heap.size by intro q hq;rw [hU1];simp;exact a_9 ownco hq);have HCco:=hid capco
 have HWco:=hid (show U1.ownsRow 0 66 4 (.slice aco L.co.n cco) L.co.n ccs by
  rw [hU1];exact a_Z (us:=[.slice aco L.co.n cco]) (k:=0) (g:=w.heap.size) (fun h=>by have:=(a_9 ownco h).1;have:=HS0.out;omega) (g_c ownco))
 clear capco ownco hb0 HX0 HZ0;have HU1:=hid hU1;clear hU1
 go_upto_region 2 with fail
 rw [←HU1.out];clear x0 f0 HU1;obtain ⟨x6,-⟩:=HX1.out 6 _ rfl;have HC:=hid (k_h L.ev.a L.ev.n L.ev.c ecs U1 HLev.out (fun p hp j u hj=>a_u HB1.out (HSev.out p hp j u hj)) HOev.out HAev.out.1 HAev.out.2)
 go_wp2_with fail
 refine HC.out.mono ?_;clear HC x6;rintro e1 v1 ⟨aev,cev,rfl,capev,ownev,hb1⟩;obtain ⟨x6,f6⟩:=a_i hb1 HX1.out 6 _ rfl;obtain ⟨U2,hU2⟩:=nm (v1.setCell ⟨w.heap.size,6,none⟩ (.slice aev L.ev.n cev));have HX2:=hid (show a_p U2 w.heap.size [.slice aco L.co.n cco,.slice L.ws.a L.ws.n L.ws.c,.slice L.ts.a L.ts.n L.ts.c,.int .i64 D,.slice L.bs.a L.bs.n L.bs.c,.slice L.th.a L.th.n L.th.c,.slice aev L.ev.n cev,.int .i64 k] by rw [hU2];have h:=a_A (a_i hb1 HX1.out) 6 (by simp) (.slice aev L.ev.n cev);exact h);have HB2:=hid (show Below w.heap.size w U2 by rw [hU2];exact (a_b HB1.out hb1).setCell (p:=⟨w.heap.size,6,none⟩) (Nat.le_refl _) _);have HZ2:=hid (show a_p U2 (w.heap.size+1) woK by rw [hU2];exact a_m (a_i hb1 HZ1.out) (by omega) _);have HS2:=hid (show U1.heap.size≤U2.heap.size by rw [hU2];simp;exact hb1.size);have HNev:=hid (show ∀ q,(Value.slice aev L.ev.n cev).ownBlock=some q→U1.heap.size≤q∧q < U2.heap.size by intro q hq;rw [hU2];simp;exact a_9 ownev hq);have HCev:=hid capev
 have HWev:=hid (show U2.ownsRow 0 101 6 (.slice aev L.ev.n cev) L.ev.n ecs by
  rw [hU2];exact a_Z (us:=[.slice aev L.ev.n cev]) (k:=6) (g:=w.heap.size) (fun h=>by have:=(a_9 ownev h).1;have:=HS0.out;have:=HS1.out;omega) (g_c ownev))
 replace HWco:=hid (show U2.ownsRow 0 66 4 (.slice aco L.co.n cco) L.co.n ccs by
  rw [hU2];exact a_Z (us:=[.slice aev L.ev.n cev]) (k:=6) (g:=w.heap.size) (fun h=>by have:=(HNco.out _ h).1;have:=HS0.out;have:=HS1.out;omega) (a_8 HWco.out hb1))
 clear capev ownev hb1 HX1 HZ1;have HU2:=hid hU2;clear hU2
 go_upto_region 3 with fail
 rw [←HU2.out];clear x6 f6 HU2;obtain ⟨x1,-⟩:=HX2.out 1 _ rfl;have HC:=hid (g_X L.ws.a L.ws.n L.ws.c wcs U2 HLws.out (fun p hp j u hj=>a_u HB2.out (HSws.out p hp j u hj)) HOws.out HAws.out.1 HAws.out.2)
 go_wp2_with fail
 refine HC.out.mono ?_;clear HC x1;rintro e2 v2 ⟨aws,cws,rfl,capws,ownws,hb2⟩;obtain ⟨x1,f1⟩:=a_i hb2 HX2.out 1 _ rfl;obtain ⟨U3,hU3⟩:=nm (v2.setCell ⟨w.heap.size,1,none⟩ (.slice aws L.ws.n cws));have HX3:=hid (show a_p U3 w.heap.size [.slice aco L.co.n cco,.slice aws L.ws.n cws,.slice L.ts.a L.ts.n L.ts.c,.int .i64 D,.slice L.bs.a L.bs.n L.bs.c,.slice L.th.a L.th.n L.th.c,.slice aev L.ev.n cev,.int .i64 k] by rw [hU3];have h:=a_A (a_i hb2 HX2.out) 1 (by simp) (.slice aws L.ws.n cws);exact h);have HB3:=hid (show Below w.heap.size w U3 by rw [hU3];exact (a_b HB2.out hb2).setCell (p:=⟨w.heap.size,1,none⟩) (Nat.le_refl _) _);have HZ3:=hid (show a_p U3 (w.heap.size+1) woK by rw [hU3];exact a_m (a_i hb2 HZ2.out) (by omega) _);have HS3:=hid (show U2.heap.size≤U3.heap.size by rw [hU3];simp;exact hb2.size);have HNws:=hid (show ∀ q,(Value.slice aws L.ws.n cws).ownBlock=some q→U2.heap.size≤q∧q < U3.heap.size by intro q hq;rw [hU3];simp;exact a_9 ownws hq);have HCws:=hid capws
 have HWws:=hid (show U3.ownsRow 0 3 1 (.slice aws L.ws.n cws) L.ws.n wcs by
  rw [hU3];exact a_Z (us:=[.slice aws L.ws.n cws]) (k:=1) (g:=w.heap.size) (fun h=>by have:=(a_9 ownws h).1;have:=HS0.out;have:=HS1.out;have:=HS2.out;omega) (g_c ownws))
 replace HWco:=hid (show U3.ownsRow 0 66 4 (.slice aco L.co.n cco) L.co.n ccs by
  rw [hU3];exact a_Z (us:=[.slice aws L.ws.n cws]) (k:=1) (g:=w.heap.size) (fun h=>by have:=(HNco.out _ h).1;have:=HS0.out;have:=HS1.out;have:=HS2.out;omega) (a_8 HWco.out hb2))
 replace HWev:=hid (show U3.ownsRow 0 101 6 (.slice aev L.ev.n cev) L.ev.n ecs by
  rw [hU3];exact a_Z (us:=[.slice aws L.ws.n cws]) (k:=1) (g:=w.heap.size) (fun h=>by have:=(HNev.out _ h).1;have:=HS0.out;have:=HS1.out;have:=HS2.out;omega) (a_8 HWev.out hb2))
 clear capws ownws hb2 HX2 HZ2;have HU3:=hid hU3;clear hU3
 go_upto_region 4 with fail
 rw [←HU3.out];clear x1 f1 HU3;obtain ⟨x2,-⟩:=HX3.out 2 _ rfl;have HC:=hid (g_X L.ts.a L.ts.n L.ts.c zcs U3 HLts.out (fun p hp j u hj=>a_u HB3.out (HSts.out p hp j u hj)) HOts.out HAts.out.1 HAts.out.2)
 go_wp2_with fail
 refine HC.out.mono ?_;clear HC x2;rintro e3 v3 ⟨ats,cts,rfl,capts,ownts,hb3⟩;obtain ⟨x2,f2⟩:=a_i hb3 HX3.out 2 _ rfl;obtain ⟨U4,hU4⟩:=nm (v3.setCell ⟨w.heap.size,2,none⟩ (.slice ats L.ts.n cts));have HX4:=hid (show a_p U4 w.heap.size [.slice aco L.co.n cco,.slice aws L.ws.n cws,.slice ats L.ts.n cts,.int .i64 D,.slice L.bs.a L.bs.n L.bs.c,.slice L.th.a L.th.n L.th.c,.slice aev L.ev.n cev,.int .i64 k] by rw [hU4];have h:=a_A (a_i hb3 HX3.out) 2 (by simp) (.slice ats L.ts.n cts);exact h);have HB4:=hid (show Below w.heap.size w U4 by rw [hU4];exact (a_b HB3.out hb3).setCell (p:=⟨w.heap.size,2,none⟩) (Nat.le_refl _) _);have HZ4:=hid (show a_p U4 (w.heap.size+1) woK by rw [hU4];exact a_m (a_i hb3 HZ3.out) (by omega) _);have HS4:=hid (show U3.heap.size≤U4.heap.size by rw [hU4];simp;exact hb3.size);have HNts:=hid (show ∀ q,(Value.slice ats L.ts.n cts).ownBlock=some q→U3.heap.size≤q∧q < U4.heap.size by intro q hq;rw [hU4];simp;exact a_9 ownts hq);have HCts:=hid capts
 have HWts:=hid (show U4.ownsRow 0 3 1 (.slice ats L.ts.n cts) L.ts.n zcs by
  rw [hU4];exact a_Z (us:=[.slice ats L.ts.n cts]) (k:=2) (g:=w.heap.size) (fun h=>by have:=(a_9 ownts h).1;have:=HS0.out;have:=HS1.out;have:=HS2.out;have:=HS3.out;omega) (g_c ownts))
 replace HWco:=hid (show U4.ownsRow 0 66 4 (.slice aco L.co.n cco) L.co.n ccs by
  rw [hU4];exact a_Z (us:=[.slice ats L.ts.n cts]) (k:=2) (g:=w.heap.size) (fun h=>by have:=(HNco.out _ h).1;have:=HS0.out;have:=HS1.out;have:=HS2.out;have:=HS3.out;omega) (a_8 HWco.out hb3))
 replace HWev:=hid (show U4.ownsRow 0 101 6 (.slice aev L.ev.n cev) L.ev.n ecs by
  rw [hU4];exact a_Z (us:=[.slice ats L.ts.n cts]) (k:=2) (g:=w.heap.size) (fun h=>by have:=(HNev.out _ h).1;have:=HS0.out;have:=HS1.out;have:=HS2.out;have:=HS3.out;omega) (a_8 HWev.out hb3))
 replace HWws:=hid (show U4.ownsRow 0 3 1 (.slice aws L.ws.n cws) L.ws.n wcs by
  rw [hU4];exact a_Z (us:=[.slice ats L.ts.n cts]) (k:=2) (g:=w.heap.size) (fun h=>by have:=(HNws.out _ h).1;have:=HS0.out;have:=HS1.out;have:=HS2.out;have:=HS3.out;omega) (a_8 HWws.out hb3))
 clear capts ownts hb3 HX3 HZ3;have HU4:=hid hU4;clear hU4
 go_upto_region 5 with fail
 rw [←HU4.out];clear x2 f2 HU4;obtain ⟨x4,-⟩:=HX4.out 4 _ rfl;have HC:=hid (j_c L.bs.a L.bs.n L.bs.c bcs U4 HLbs.out (fun p hp j u hj=>a_u HB4.out (HSbs.out p hp j u hj)) HObs.out HAbs.out.1 HAbs.out.2)
 go_wp2_with fail
 refine HC.out.mono ?_;clear HC x4;rintro e4 v4 ⟨abs,cbs,rfl,capbs,ownbs,hb4⟩;obtain ⟨x4,f4⟩:=a_i hb4 HX4.out 4 _ rfl;obtain ⟨U5,hU5⟩:=nm (v4.setCell ⟨w.heap.size,4,none⟩ (.slice abs L.bs.n cbs));have HX5:=hid (show a_p U5 w.heap.size [.slice aco L.co.n cco,.slice aws L.ws.n cws,.slice ats L.ts.n cts,.int .i64 D,.slice abs L.bs.n cbs,.slice L.th.a L.th.n L.th.c,.slice aev L.ev.n cev,.int .i64 k] by rw [hU5];have h:=a_A (a_i hb4 HX4.out) 4 (by simp) (.slice abs L.bs.n cbs);exact h);have HB5:=hid (show Below w.heap.size w U5 by rw [hU5];exact (a_b HB4.out hb4).setCell (p:=⟨w.heap.size,4,none⟩) (Nat.le_refl _) _);have HZ5:=hid (show a_p U5 (w.heap.size+1) woK by rw [hU5];exact a_m (a_i hb4 HZ4.out) (by omega) _);have HS5:=hid (show U4.heap.size≤U5.heap.size by rw [hU5];simp;exact hb4.size);have HNbs:=hid (show ∀ q,(Value.slice abs L.bs.n cbs).ownBlock=some q→U4.heap.size≤q∧q < U5.heap.size by intro q hq;rw [hU5];simp;exact a_9 ownbs hq);have HCbs:=hid capbs
 have HWbs:=hid (show U5.ownsRow 0 55 1 (.slice abs L.bs.n cbs) L.bs.n bcs by
  rw [hU5];exact a_Z (us:=[.slice abs L.bs.n cbs]) (k:=4) (g:=w.heap.size) (fun h=>by have:=(a_9 ownbs h).1;have:=HS0.out;have:=HS1.out;have:=HS2.out;have:=HS3.out;have:=HS4.out;omega) (g_c ownbs))
 replace HWco:=hid (show U5.ownsRow 0 66 4 (.slice aco L.co.n cco) L.co.n ccs by
  rw [hU5];exact a_Z (us:=[.slice abs L.bs.n cbs]) (k:=4) (g:=w.heap.size) (fun h=>by have:=(HNco.out _ h).1;have:=HS0.out;have:=HS1.out;have:=HS2.out;have:=HS3.out;have:=HS4.out;omega) (a_8 HWco.out hb4))
 replace HWev:=hid (show U5.ownsRow 0 101 6 (.slice aev L.ev.n cev) L.ev.n ecs by
  rw [hU5];exact a_Z (us:=[.slice abs L.bs.n cbs]) (k:=4) (g:=w.heap.size) (fun h=>by have:=(HNev.out _ h).1;have:=HS0.out;have:=HS1.out;have:=HS2.out;have:=HS3.out;have:=HS4.out;omega) (a_8 HWev.out hb4))
 replace HWws:=hid (show U5.ownsRow 0 3 1 (.slice aws L.ws.n cws) L.ws.n wcs by
  rw [hU5];exact a_Z (us:=[.slice abs L.bs.n cbs]) (k:=4) (g:=w.heap.size) (fun h=>by have:=(HNws.out _ h).1;have:=HS0.out;have:=HS1.out;have:=HS2.out;have:=HS3.out;have:=HS4.out;omega) (a_8 HWws.out hb4))
 replace HWts:=hid (show U5.ownsRow 0 3 1 (.slice ats L.ts.n cts) L.ts.n zcs by
  rw [hU5];exact a_Z (us:=[.slice abs L.bs.n cbs]) (k:=4) (g:=w.heap.size) (fun h=>by have:=(HNts.out _ h).1;have:=HS0.out;have:=HS1.out;have:=HS2.out;have:=HS3.out;have:=HS4.out;omega) (a_8 HWts.out hb4))
 clear capbs ownbs hb4 HX4 HZ4;have HU5:=hid hU5;clear hU5
 go_upto_region 6 with fail
 rw [←HU5.out];clear x4 f4 HU5;obtain ⟨x5,-⟩:=HX5.out 5 _ rfl;have HC:=hid (k_i L.th.a L.th.n L.th.c tcs U5 HLth.out (fun p hp j u hj=>a_u HB5.out (HSth.out p hp j u hj)) HOth.out HAth.out.1 HAth.out.2)
 go_wp2_with fail
 refine HC.out.mono ?_;clear HC x5;rintro e5 v5 ⟨ath,cth,rfl,capth,ownth,hb5⟩;obtain ⟨x5,f5⟩:=a_i hb5 HX5.out 5 _ rfl;obtain ⟨U6,hU6⟩:=nm (v5.setCell ⟨w.heap.size,5,none⟩ (.slice ath L.th.n cth));have HX6:=hid (show a_p U6 w.heap.size [.slice aco L.co.n cco,.slice aws L.ws.n cws,.slice ats L.ts.n cts,.int .i64 D,.slice abs L.bs.n cbs,.slice ath L.th.n cth,.slice aev L.ev.n cev,.int .i64 k] by rw [hU6];have h:=a_A (a_i hb5 HX5.out) 5 (by simp) (.slice ath L.th.n cth);exact h);have HB6:=hid (show Below w.heap.size w U6 by rw [hU6];exact (a_b HB5.out hb5).setCell (p:=⟨w.heap.size,5,none⟩) (Nat.le_refl _) _);have HZ6:=hid (show a_p U6 (w.heap.size+1) woK by rw [hU6];exact a_m (a_i hb5 HZ5.out) (by omega) _);have HS6:=hid (show U5.heap.size≤U6.heap.size by rw [hU6];simp;exact hb5.size);have HNth:=hid (show ∀ q,(Value.slice ath L.th.n cth).ownBlock=some q→U5.heap.size≤q∧q < U6.heap.size by intro q hq;rw [hU6];simp;exact a_9 ownth hq);have HCth:=hid capth
 have HWth:=hid (show U6.ownsRow 0 46 13 (.slice ath L.th.n cth) L.th.n tcs by
  rw [hU6];exact a_Z (us:=[.slice ath L.th.n cth]) (k:=5) (g:=w.heap.size) (fun h=>by have:=(a_9 ownth h).1;have:=HS0.out;have:=HS1.out;have:=HS2.out;have:=HS3.out;have:=HS4.out;have:=HS5.out;omega) (g_c ownth))
 replace HWco:=hid (show U6.ownsRow 0 66 4 (.slice aco L.co.n cco) L.co.n ccs by
  rw [hU6];exact a_Z (us:=[.slice ath L.th.n cth]) (k:=5) (g:=w.heap.size) (fun h=>by have:=(HNco.out _ h).1;have:=HS0.out;have:=HS1.out;have:=HS2.out;have:=HS3.out;have:=HS4.out;have:=HS5.out;omega) (a_8 HWco.out hb5))
 replace HWev:=hid (show U6.ownsRow 0 101 6 (.slice aev L.ev.n cev) L.ev.n ecs by
  rw [hU6];exact a_Z (us:=[.slice ath L.th.n cth]) (k:=5) (g:=w.heap.size) (fun h=>by have:=(HNev.out _ h).1;have:=HS0.out;have:=HS1.out;have:=HS2.out;have:=HS3.out;have:=HS4.out;have:=HS5.out;omega) (a_8 HWev.out hb5))
 replace HWws:=hid (show U6.ownsRow 0 3 1 (.slice aws L.ws.n cws) L.ws.n wcs by
  rw [hU6];exact a_Z (us:=[.slice ath L.th.n cth]) (k:=5) (g:=w.heap.size) (fun h=>by have:=(HNws.out _ h).1;have:=HS0.out;have:=HS1.out;have:=HS2.out;have:=HS3.out;have:=HS4.out;have:=HS5.out;omega) (a_8 HWws.out hb5))
 replace HWts:=hid (show U6.ownsRow 0 3 1 (.slice ats L.ts.n cts) L.ts.n zcs by
  rw [hU6];exact a_Z (us:=[.slice ath L.th.n cth]) (k:=5) (g:=w.heap.size) (fun h=>by have:=(HNts.out _ h).1;have:=HS0.out;have:=HS1.out;have:=HS2.out;have:=HS3.out;have:=HS4.out;have:=HS5.out;omega) (a_8 HWts.out hb5))
 replace HWbs:=hid (show U6.ownsRow 0 55 1 (.slice abs L.bs.n cbs) L.bs.n bcs by
  rw [hU6];exact a_Z (us:=[.slice ath L.th.n cth]) (k:=5) (g:=w.heap.size) (fun h=>by have:=(HNbs.out _ h).1;have:=HS0.out;have:=HS1.out;have:=HS2.out;have:=HS3.out;have:=HS4.out;have:=HS5.out;omega) (a_8 HWbs.out hb5))
 clear capth ownth hb5 HX5 HZ5;have HU6:=hid hU6;clear hU6
 go_upto_region 7 with fail
 rw [←HU6.out];clear x5 f5 HU6;obtain ⟨bt,hbt⟩:=l_V HWth.out H1N.out;obtain ⟨bb,hbb⟩:=l_V HWbs.out (by rw [HBN.out];exact H1N.out);subst hbt hbb;obtain ⟨hi,hhi⟩:=mn (U6.heap.size);obtain ⟨lo,hlo⟩:=mn (w.heap.size);have HBB:=hid (show W.heap.size≤bb∧bb < hi∧bb≠bt by have h1:=HNbs.out bb rfl;have h2:=HNth.out bt rfl;have:=HS1.out;have:=HS2.out;have:=HS3.out;have:=HS4.out;have:=HS5.out;have:=HS6.out;omega);have HBT:=hid (show lo+2≤bt∧bt < hi∧bb≠bt by have h1:=HNbs.out bb rfl;have h2:=HNth.out bt rfl;have:=HS0.out;have:=HS1.out;have:=HS2.out;have:=HS3.out;have:=HS4.out;have:=HS5.out;omega);replace HBB:=hid (show lo+2≤bb∧bb < hi∧bb≠bt by have:=HBB.out;have:=HS0.out;omega);have ⟨HGL,HGH⟩:=hh2 hlo hhi;obtain ⟨x5,-⟩:=HX6.out 5 _ rfl;clear hhi hlo
 go_wp2_with fail
 clear x5
 go_loopw [55] (fun i wr=>∃ (k2:Nat) (TC BC:List Value),k2≤L.th.n∧i=.int .i64 k2∧Hid (a_p wr bt TC)∧Hid (a_p wr bb BC)∧Hid (n_y k2 (fun b=>hi≤b) (fun b=>b < lo) wr X.th TC)∧Hid (p_K k2 (fun b=>hi≤b) (fun b=>b < lo) wr X.bs BC)∧Hid (Bel (fun c=>c=bt∨c=bb) U6 wr)) (fun i _=>L.th.n - (intOf i).toNat)
 case atStart =>
  have hk:Kept (fun b=>b < lo) w U6:=by rw [←HGL.out];exact c_o HB6.out (fun _ h=>h)
  have hk0:Kept (fun b=>b < 0) w U6:=fun b _ _ h=>absurd h (Nat.not_lt_zero _)
  rw [HGL.out] at HMT0 HMB0;exact ⟨0,tcs,bcs,by omega,rfl,g_H HWth.out,g_H HWbs.out,q_K (f_L hk0 hk HMT0.out),q_I (f_K hk0 hk HMB0.out),d_m (Below.refl _ _)⟩
 case round =>
  obtain ⟨k2,TC,BC,hk2,rfl,hvt,hvb,hmt,hmb,hbe⟩:=hrel;have HVT:=hvt;have HVB:=hvb;have HMT:=hmt;have HMB:=hmb;have HBE:=hbe;have HXV:=hid (HBE.out.varN (fun e=>by have:=HBT.out;have:=HBB.out;have:=HGL.out;omega) HX6.out);have HZV:=hid (HBE.out.varN (fun e=>by have:=HBT.out;have:=HBB.out;have:=HGL.out;omega) HZ6.out);clear hvt hvb hmt hmb hbe
  by_cases hlt:k2 < L.th.n
  ·obtain ⟨x5,-⟩:=HXV.out 5 _ rfl;have i1:(0:Int)≤k2:=by omega
   have i2:(k2:Int) < L.th.n:=by omega
   have hkt:k2 < X.th.length:=by have:=HXL.out;omega
   have hkb:k2 < X.bs.length:=by have:=HXL.out;omega
   obtain ⟨t,ht⟩:∃ t,X.th[k2]?=some t:=⟨_,List.getElem?_eq_getElem hkt⟩;obtain ⟨bf,hbf⟩:∃ t,X.bs[k2]?=some t:=⟨_,List.getElem?_eq_getElem hkb⟩;have ⟨HTT,HBX,HBL⟩:=hh3 ht hbf hkb;have HBF:=hid (HBUF.out bf (List.mem_of_getElem? hbf));have HTN:=hid (HFR.out t (List.mem_of_getElem? ht));obtain ⟨fa,fc,la,lc,hc,hq⟩:=HMT.out.2 k2 t ht;rw [if_neg (Nat.lt_irrefl _)] at hq;have HTQ:=hid hq;have HTL:=hid (show k2*13+13≤TC.length by rw [HMT.out.1];omega);obtain ⟨z9,-⟩:=HVT.out _ _ (hc 9 _ rfl);obtain ⟨z12,-⟩:=HVT.out _ _ (hc 12 _ rfl);obtain ⟨V,hV⟩:=nm (wr);subst hV;have HHI:=hid (show hi≤V.heap.size by rw [←HGH.out];exact HBE.out.size);have hG:=o_d bt (k2*13) hi t fa la fc lc TC;clear hkt hkb ht hbf hc hq
   go_upto_region 11 with fail
   clear x5;refine h_J 17 14 [5,6,10,11,4] rfl [some 63,some 64,some 65,some 66,some 67,some 68,some 69,some 70,some 71,some 72,some 73,some 74,some 75,some 76,none,some 77,some 78] (fun bl w'=>(bl=false→Below V.heap.size V w')∧Bel (fun c=>c=bt) V w') (p_X bt (k2*13) hi t fa la fc lc TC) 100 100 (fun _ _ _=>True) (by kernel_rfl) (by kernel_rfl) (by decide) rfl rfl (⟨fun _=>(Below.refl _ _).drew,d_m (Below.refl _ _).drew⟩) ?_
   show StepsL _ _ _ _ _ _ _
   refine InvU.c (fun _ _ w1 _ hbl _ C _ hK=>oR C hK (h:=by simp [execOp,go_sem,C.o 4 (.pointer (some ⟨bt,k2*13,none⟩))])) ?_;refine InvU.c (fun _ _ w1 _ hbl _ C _ hK=>oR C hK (h:=by simp [execOp,go_sem,C.o 4 (.pointer (some ⟨bt,k2*13,none⟩))])) ?_;refine InvU.c (fun _ _ w1 _ hbl _ C _ hK=>oR C hK (h:=by simp [execOp,go_sem,C.o 4 (.pointer (some ⟨bt,k2*13,none⟩))])) ?_;refine InvU.c (fun _ _ w1 _ hbl _ C _ hK=>oR C hK (h:=by simp [execOp,go_sem,C.i 2])) ?_;refine InvU.c (fun _ _ w1 _ hbl _ C _ hK=>oR C hK (h:=by simp [execOp,go_sem,C.i 3])) ?_;refine InvU.c (fun a1 vals w1 bl hbl hdf C K hK=>?_) ?_
   ·have e0:=C.i 4;have kc:=a_u (C.base.1 (hbl rfl)) z9;refine a_g rfl (a_x (v:=.slice fa t.fs.length fc) ?_ (c_Q hK C rfl rfl));simp [execOp,go_sem,e0,kc]
   refine InvU.c (fun a1 vals w1 bl hbl hdf C K hK=>?_) ?_
   ·have e0:=C.i 5;rw [a_M] at e0;have hb1:=C.base.1 (hbl rfl);refine a_g rfl (a_O _ _ _ rfl 88 rfl [.slice fa t.fs.length fc] (by simp only [List.map_cons,List.map_nil,e0]) (by kernel_rfl) ((f_q fa t.fs.length fc t.fs w1 (d_3 (a_z (a_C hb1) HTQ.out.fs)) HTQ.out.fcap HTN.out.1).mono ?_));exact J62
   refine InvU.c (fun _ _ w1 _ hbl _ C _ hK=>oR C hK (h:=by simp [execOp,go_sem,C.o 4 (.pointer (some ⟨bt,k2*13,none⟩))])) ?_;refine InvU.c (fun _ _ w1 _ hbl _ C _ hK=>oR C hK (h:=by simp [execOp,go_sem,C.i 7])) ?_;refine InvU.c (fun a1 vals w1 bl hbl hdf C K hK=>?_) ?_
   ·have e0:=C.isw 8 71 [7] (.pointer (some ⟨bt,k2*13,none⟩)) rfl rfl rfl rfl;exact J104
   refine InvU.c (fun a1 vals w1 bl hbl hdf C K hK=>?_) ?_
   ·have e0:=C.isw 9 72 [8,7] (.pointer (some ⟨bt,k2*13+12,none⟩)) rfl rfl rfl rfl;refine a_g rfl (a_x (v:=.slice la t.lf.length lc) ?_ (c_Q hK C rfl rfl));simp [execOp,go_sem,e0,a_u (C.base.1 (hbl rfl)) z12]
   refine InvU.c (fun a1 vals w1 bl hbl hdf C K hK=>?_) ?_
   ·have e0:=C.isw 10 73 [9,8,7] (.slice la t.lf.length lc) rfl rfl rfl rfl;rw [a_M] at e0;have hb1:=C.base.1 (hbl rfl);refine a_g rfl (a_O _ _ _ rfl 85 rfl [.slice la t.lf.length lc] (by simp only [List.map_cons,List.map_nil,e0]) (by kernel_rfl) ((f_r la t.lf.length lc t.lf w1 (d_3 (a_z (a_C hb1) HTQ.out.lf)) HTQ.out.lcap HTN.out.2).mono ?_));exact J62
   refine InvU.c (fun _ _ w1 _ hbl _ C _ hK=>oR C hK (h:=by simp [execOp,go_sem,C.i 0])) ?_;refine InvU.c (fun a1 vals w1 bl hbl hdf C K hK=>?_) ?_
   ·have e0:=C.isw 12 75 [] (.pointer (some ⟨bt,k2*13,none⟩)) rfl rfl rfl rfl;refine a_g rfl (a_x (v:=.pointer (some ⟨bt,k2*13+9,none⟩)) ?_ (c_Q hK C rfl rfl));simp [execOp,go_sem,e0]
   refine InvU.c (fun a1 vals w1 bl hbl hdf C K hK=>?_) ?_
   ·have e0:=C.isw 13 76 [12] (.pointer (some ⟨bt,k2*13+9,none⟩)) rfl rfl rfl rfl;have e1:=C.t 6 69 rfl rfl;obtain ⟨a,c,h1,h2,h3⟩:=C.says 6 rfl;have h1:vals 6=_:=List.head_eq_of_cons_eq h1;rw [h1] at e1;have hb1:=C.base.1 (hbl rfl);have hv:=a_i hb1 HVT.out;have hl:k2*13+9 < TC.length:=by have:=HTL.out;omega
    obtain ⟨zz,zf⟩:=hv _ _ (List.getElem?_eq_getElem hl);refine a_g rfl (g_m (w':=w1.setCell ⟨bt,k2*13+9,none⟩ (.slice a t.fs.length c)) ?_ (hK undef _ ⟨undef,a,c,?_,a_A hv _ hl _⟩ ⟨fun h=>absurd h (by decide),C.base.2.setCell (p:=⟨bt,k2*13+9,none⟩) rfl _⟩ (fun j hj h=>?_) (fun _ _ h=>h) (fun e=>absurd e (by decide)) (fun e=>absurd e (by decide)) (fun e=>absurd e (by decide))))
    ·simp [execOp,go_sem,e0,e1,zz,zf]
    ·show [undef,vals 6]=_
     rw [h1]
    ·have hkk:∀ x:Nat,hi≤x→x≠bt:=fun x hx e=>by have:=HBT.out;omega
     by_cases j1:j=6
     ·subst j1;obtain ⟨a,c,k1,k2,k3⟩:=h;exact ⟨a,c,k1,k2,a_z (a_T _ _ _ (fun b hb=>hkk b hb)) k3⟩
     ·by_cases j2:j=11
      ·subst j2;obtain ⟨a,c,k1,k2,k3⟩:=h;exact ⟨a,c,k1,k2,a_z (a_T _ _ _ (fun b hb=>hkk b hb)) k3⟩
      ·exact q_j _ _ _ _ _ _ _ _ _ _ _ _ _ j1 j2 hj h
   refine InvU.c (fun _ _ w1 _ hbl _ C _ hK=>oR C hK (h:=by simp [execOp,go_sem,C.i 1])) ?_;refine InvU.c (fun a1 vals w1 bl hbl hdf C K hK=>?_) ?_
   ·have e0:=C.isw 15 77 [] (.pointer (some ⟨bt,k2*13,none⟩)) rfl rfl rfl rfl;exact J104
   refine InvU.last (n:=17) (m:=14) (D:=[5,6,10,11,4]) (by decide) ?_ ?_ ?_ ?_
   ·rfl
   ·kernel_rfl
   ·decide
   ·intro vals w1 aE hae hval hb hv hbo K hK;obtain ⟨x,a,c,h1,hvA⟩:=c_f (k:=14) rfl (hv 14 (by decide));obtain ⟨a2,c2,g1,g2,g3⟩:=c_f (k:=6) rfl (hv 6 (by decide));obtain ⟨d,f,k1,k3,k4⟩:=c_f (k:=11) rfl (hv 11 (by decide));have g1:vals 6=.slice a2 t.fs.length c2:=List.head_eq_of_cons_eq g1;have h1:vals 6=.slice a t.fs.length c:=List.head_eq_of_cons_eq (List.tail_eq_of_cons_eq h1);rw [g1] at h1
    cases h1
    have y74:vals 11=.slice d t.lf.length f:=List.head_eq_of_cons_eq k1;have y78:vals 16=.pointer (some ⟨bt,k2*13+12,none⟩):=e_L rfl (hv 16 (by decide));obtain ⟨bl,-,hbe⟩:=hb;have q1:=(hval 16 78 rfl rfl).trans y78;have q2:=(hval 11 74 rfl rfl).trans y74;have hl:k2*13+12 < (TC.set (k2*13+9) (.slice a t.fs.length c)).length:=by have:=HTL.out;simp;omega
    obtain ⟨zz,zf⟩:=hvA _ _ (List.getElem?_eq_getElem hl);refine a_g rfl (g_m (w':=w1.setCell ⟨bt,k2*13+12,none⟩ (.slice d t.lf.length f)) ?_ (hK _ _ ?_))
    ·rw [←a_M] at q1 q2;simp [execOp,go_sem,q1,q2,zz,zf]
    rw [hae.out];simp only [c_I,Act.put,sA,sB,sC,g1,y74,y78];obtain ⟨Z,hZ⟩:=nm (w1.setCell ⟨bt,k2*13+12,none⟩ (.slice d t.lf.length f));obtain ⟨TZ,hTZ⟩:=nm ((TC.set (k2*13+9) (.slice a t.fs.length c)).set (k2*13+12) (.slice d t.lf.length f));have HBZ:=hid (show Bel (fun c=>c=bt) V Z by rw [hZ];exact hbe.setCell (p:=⟨bt,k2*13+12,none⟩) rfl _);have HVZ:=hid (show a_p Z bt TZ by rw [hZ,hTZ];exact a_A hvA _ hl _);have hkn:Kept (fun b=>hi≤b) w1 Z:=by rw [hZ];exact a_T _ _ _ (fun b hb=>by have:=HBT.out;show b≠bt;omega)
    have hkV:Kept (fun b=>hi≤b) V Z:=l_L HBZ.out (fun b hb=>by have:=HBT.out;show ¬ b=bt;omega);have hkO:Kept (fun b=>b < lo) V Z:=l_L HBZ.out (fun b hb=>by have:=HBT.out;show ¬ b=bt;omega)
    have HMZ:=hid (show n_y (k2+1) (fun b=>hi≤b) (fun b=>b < lo) Z X.th TZ by
     rw [hTZ];exact q_L (f_L hkV hkO HMT.out) HTT.out g2 (a_z hkn g3) k3 (a_z hkn k4))
    have HMB2:=hid (f_K hkV hkO HMB.out);have HVB2:=hid (HBZ.out.varN (fun e=>HBT.out.2.2 e) HVB.out);have HX2:=hid (HBZ.out.varN (fun e=>by have:=HBT.out;have:=HGL.out;omega) HXV.out);have HZ2:=hid (HBZ.out.varN (fun e=>by have:=HBT.out;have:=HGL.out;omega) HZV.out);rw [←hZ];clear hv hbo hbe y74 y78 hval hae q1 q2 zz zf g1 g2 g3 k1 k3 k4 hkn hkV hkO hZ hTZ hvA hl z9 z12 hG;obtain ⟨q,cq,hq1,hq2,hq3⟩:=HMB2.out.2 k2 bf HBX.out;rw [if_neg (Nat.lt_irrefl _)] at hq3;have HPQ:=hid (And.intro hq2 hq3);obtain ⟨zb,-⟩:=HVB2.out _ _ hq1;obtain ⟨x4,-⟩:=HX2.out 4 _ rfl;rw [HBN.out] at x4;have HHZ:=hid (show hi≤Z.heap.size by have:=HBZ.out.size;have:=HHI.out;omega);have hG2:=o_c w.heap.size bb k2 L.th.n cbs hi q cq bf
    go_wp2_with fail
    clear hq1 hq2 hq3;refine c_G 14 [some 79,some 80,some 81,some 82,some 83,some 84,some 85,some 86,some 87,some 88,some 89,some 90,some 91,some 92] (fun w'=>Below Z.heap.size Z w') (t_r w.heap.size bb k2 L.th.n cbs hi q cq bf) 100 100 (fun _ _ _=>True) (by kernel_rfl) (by kernel_rfl) (by decide) rfl rfl ((Below.refl _ _).drew) ?_
    show StepsL _ _ _ _ _ _ _
    refine InvZ.c (fun _ _ w1 _ C _ hK=>oR C hK (h:=by simp [execOp,go_sem,C.o 1 (.pointer (some ⟨w.heap.size,0,none⟩))])) ?_;refine InvZ.c (fun _ _ w1 _ C _ hK=>oR C hK (h:=by simp [execOp,go_sem,C.i 0])) ?_;refine InvZ.c (fun _ _ w1 _ C _ hK=>oR C hK (h:=by simp [execOp,go_sem,C.i 1])) ?_;refine InvZ.c (fun _ _ w1 _ C _ hK=>oR C hK (h:=by simp [execOp,go_sem,C.i 2,a_u C.base x4])) ?_;refine InvZ.c (fun _ _ w1 _ C _ hK=>oR C hK (h:=by simp [execOp,go_sem,C.o 3 (.int .i64 (k2:Int))])) ?_;refine InvZ.c (fun _ _ w1 _ C _ hK=>oR C hK (h:=by simp [execOp,go_sem,C.o 1 (.pointer (some ⟨w.heap.size,0,none⟩))])) ?_;refine InvZ.c (fun _ _ w1 _ C _ hK=>oR C hK (h:=by simp [execOp,go_sem,C.i 5])) ?_;refine InvZ.c (fun _ _ w1 _ C _ hK=>oR C hK (h:=by simp [execOp,go_sem,C.i 6])) ?_;refine InvZ.c (fun _ _ w1 _ C _ hK=>oR C hK (h:=by simp [execOp,go_sem,C.i 7,a_u C.base x4])) ?_;refine InvZ.c (fun _ _ w1 _ C _ hK=>oR C hK (h:=by simp [execOp,go_sem,C.o 3 (.int .i64 (k2:Int))])) ?_;refine InvZ.c (fun _ _ w1 _ C _ hK=>oR C hK (h:=by simp [execOp,go_sem,C.i 8,C.i 9,i1,i2])) ?_;refine InvZ.c (fun _ _ w1 _ C _ hK=>oR C hK (h:=by simp [execOp,go_sem,C.i 10,a_u C.base zb])) ?_;refine InvZ.c (fun a1 vals w1 hdf C K hK=>?_) ?_
    ·have e0:=C.i 11;rw [a_M] at e0;refine a_g rfl (a_O _ _ _ rfl 89 rfl [.slice q bf.length cq] (by simp only [List.map_cons,List.map_nil,e0]) (by kernel_rfl) ((h_T q bf.length cq bf w1 (i_C (a_C C.base) HPQ.out.2).pl HPQ.out.1 HBF.out).mono ?_));rintro e9 w2 ⟨a,c,rfl,hcap,hvs,hb2⟩;have hs1:=C.base.size;have hs2:=HHZ.out;exact ⟨_,rfl,o_9 hK hG2 (fun _ _ _ _ _ _=>trivial) hb2 rfl ⟨a,c,rfl,hcap,o_8 (fun b hb _=>by omega) hvs⟩ (a_b C.base hb2)⟩
    refine InvZ.c (fun _ _ w1 _ C _ hK=>oR C hK (h:=by simp [execOp,go_sem,C.i 3,C.i 4,i1,i2])) ?_;refine InvZ.last (n:=14) ?_ ?_ ?_ ?_
    ·rfl
    ·kernel_rfl
    ·decide
    ·intro vals w1 aE hae hval hb hv hbo K hK;obtain ⟨a,c,h1,h2,h3⟩:=c_f (k:=12) rfl (hv 12 (by decide));have y91:vals 12=.slice a bf.length c:=List.head_eq_of_cons_eq h1;have y92:vals 13=.pointer (some ⟨bb,k2,none⟩):=e_L rfl (hv 13 (by decide));have q1:=(hval 13 92 rfl rfl).trans y92;have q2:=(hval 12 91 rfl rfl).trans y91;have hvB:=a_i hb HVB2.out;have hl:k2 < BC.length:=by rw [HMB.out.1];have:=HBL.out;omega
     obtain ⟨zz,zf⟩:=hvB _ _ (List.getElem?_eq_getElem hl);refine a_g rfl (g_m (w':=w1.setCell ⟨bb,k2,none⟩ (.slice a bf.length c)) ?_ (hK _ _ ?_))
     ·rw [←a_M] at q1 q2;simp [execOp,go_sem,q1,q2,zz,zf]
     rw [hae.out];simp only [c_I,Act.put,sA,sB,sC,y91,y92];obtain ⟨U,hU⟩:=nm (w1.setCell ⟨bb,k2,none⟩ (.slice a bf.length c));obtain ⟨BZ,hBZ⟩:=nm (BC.set k2 (.slice a bf.length c))
     have HBU:=hid (show Bel (fun c=>c=bt∨c=bb) U6 U by
      rw [hU];refine Bel.setCell (p:=⟨bb,k2,none⟩) (Bel.andB (HBE.out.trans ?_) hb) (.inr rfl) _;exact ⟨HBZ.out.os,HBZ.out.tape,HBZ.out.output,HBZ.out.size,fun c hc hs=>HBZ.out.block c hc (fun e=>hs (.inl e))⟩)
     have hkB:∀ Qx:Nat→Prop,(∀ x,Qx x→x≠bb)→Kept Qx Z U:=fun Qx hq=>by rw [hU];exact a_6 (a_C hb) (a_T _ _ _ (fun b hb=>hq b hb))
     have hkn:=hkB (fun b=>hi≤b) (fun x hx e=>by have:=HBB.out;omega);have hko:=hkB (fun b=>b < lo) (fun x hx e=>by have:=HBB.out;omega);have HMU:=hid (f_L hkn hko HMZ.out);have HVU:=hid (show a_p U bt TZ by rw [hU];exact a_m (a_i hb HVZ.out) HBT.out.2.2 _)
     have HNU:=hid (show p_K (k2+1) (fun b=>hi≤b) (fun b=>b < lo) U X.bs BZ by
      rw [hBZ];exact q_J (f_K hkn hko HMB2.out) HBX.out h2 (i_C (show Kept (fun b=>hi≤b) w1 U by rw [hU];exact a_T _ _ _ (fun b hb e=>by have:=HBB.out;have e:b=bb:=e;have hb:hi≤b:=hb;omega)) h3))
     have HWU:=hid (show a_p U bb BZ by rw [hU,hBZ];exact a_A hvB _ hl _);have hwk:wrap64 ((k2:Int)+1)=k2+1:=IntWalk.wrap64_in _ (by have:=HN8.out;omega);rw [←hU];clear hb hv hbo y91 y92 hval hae q1 q2 zz zf h1 h2 h3 hkB hkn hko hU hBZ hvB hl hG2 x4 zb
     go_wp2
     go_roundw
     case rel=>exact ⟨k2+1,TZ,BZ,by omega,by go_num,HVU.out,HWU.out,HMU.out,HNU.out,HBU.out⟩
     case measure=>rw [hwk];simp only [intOf];omega
  ·obtain rfl:k2=L.th.n:=by omega
   have hsz:=And.intro HS0.out (And.intro HS1.out (And.intro HS2.out (And.intro HS3.out (And.intro HS4.out (And.intro HS5.out HS6.out)))));have hne:∀ (q:Nat),(q≠bt∧q≠bb)→¬ (q=bt∨q=bb):=fun q h h2=>h2.elim h.1 h.2
   have hbt6:=HNth.out bt rfl;have hbb6:=HNbs.out bb rfl;have HOCO:=hid (i_B HBE.out HWco.out (fun q hq=>hne q (by have:=HNco.out q hq;omega)));have HOEV:=hid (i_B HBE.out HWev.out (fun q hq=>hne q (by have:=HNev.out q hq;omega)));have HOWS:=hid (i_B HBE.out HWws.out (fun q hq=>hne q (by have:=HNws.out q hq;omega)));have HOTS:=hid (i_B HBE.out HWts.out (fun q hq=>hne q (by have:=HNts.out q hq;omega)));have HBF:=hid (show Below w.heap.size w wr from HB6.out.trans (HBE.out.below (fun c hc=>by rcases hc with h | h <;> (rw [h];omega)) HB6.out.size));have HSF:=hid (show hi≤wr.heap.size by rw [←HGH.out];exact HBE.out.size);have HLO:=hid (show ∀ q,(Value.slice aev L.ev.n cev).ownBlock=some q→lo+2≤q∧q < hi∧q≠bt∧q≠bb by intro q hq;have:=HNev.out q hq;have:=HGL.out;have:=HGH.out;omega);have HLC:=hid (show ∀ q,(Value.slice aco L.co.n cco).ownBlock=some q→lo+2≤q∧q≠bt∧(Value.slice aev L.ev.n cev).ownBlock≠some q by intro q hq;have:=HNco.out q hq;have:=HGL.out;refine ⟨by omega,by omega,fun h=>by have:=HNev.out q h;omega⟩);have HLW:=hid (show ∀ q,(Value.slice aws L.ws.n cws).ownBlock=some q→lo+2≤q∧q≠bt∧(Value.slice aev L.ev.n cev).ownBlock≠some q by intro q hq;have:=HNws.out q hq;have:=HGL.out;refine ⟨by omega,by omega,fun h=>by have:=HNev.out q h;omega⟩);have HLT:=hid (show ∀ q,(Value.slice ats L.ts.n cts).ownBlock=some q→lo+2≤q∧q≠bt∧(Value.slice aev L.ev.n cev).ownBlock≠some q by intro q hq;have:=HNts.out q hq;have:=HGL.out;refine ⟨by omega,by omega,fun h=>by have:=HNev.out q h;omega⟩);have HLB:=hid (show (Value.slice aev L.ev.n cev).ownBlock≠some bb from fun h=>by have:=HNev.out bb h;omega)
   clear hsz hne hbt6 hbb6
   go_wp2_with (first | (refine wpList_load_mid rfl 80 _ rfl w.heap.size 0 rfl [.slice aco L.co.n cco,.slice aws L.ws.n cws,.slice ats L.ts.n cts,.int .i64 D,.slice (some ⟨bb,0,none⟩) L.bs.n cbs,.slice (some ⟨bt,0,none⟩) L.th.n cth,.slice aev L.ev.n cev,.int .i64 k] _ (a_f HXV.out) Tryz.underlying80 rfl (by kernel_rfl) ?_) | (refine a_c rfl 80 _ _ rfl (w.heap.size+1) #[.slice aco L.co.n cco,.slice aws L.ws.n cws,.slice ats L.ts.n cts,.int .i64 D,.slice (some ⟨bb,0,none⟩) L.bs.n cbs,.slice (some ⟨bt,0,none⟩) L.th.n cth,.slice aev L.ev.n cev,.int .i64 k] rfl rfl _ HZV.out rfl (by kernel_rfl) (by simp [Value.oneCell']) ?_;intro U HU))
   have HZU:=hid (show a_p U (w.heap.size+1) [.slice aco L.co.n cco,.slice aws L.ws.n cws,.slice ats L.ts.n cts,.int .i64 D,.slice (some ⟨bb,0,none⟩) L.bs.n cbs,.slice (some ⟨bt,0,none⟩) L.th.n cth,.slice aev L.ev.n cev,.int .i64 k] by rw [HU.out];exact a_q HZV.out rfl);refine a_V ⟨w.heap.size+1,0,none⟩ rfl rfl rfl (a_E HZU.out 80 Tryz.underlying80 rfl (by kernel_rfl)) ?_;have hgl:=HGL.out;have hks:∀ Qx:Nat→Prop,(∀ x,Qx x→x≠w.heap.size+1)→Kept Qx wr U:=fun Qx hq=>by rw [HU.out];exact a_t hq
   have hsu:U.heap.size=wr.heap.size:=by rw [HU.out,a_R]
   refine ⟨fun c=>lo+2≤c∧c≠bt∧(Value.slice aev L.ev.n cev).ownBlock≠some c,⟨⟨aco,L.co.n,cco⟩,⟨aws,L.ws.n,cws⟩,⟨ats,L.ts.n,cts⟩,⟨some ⟨bb,0,none⟩,L.bs.n,cbs⟩,⟨some ⟨bt,0,none⟩,L.th.n,cth⟩,⟨aev,L.ev.n,cev⟩⟩,bt,by rw [HD.out],?_,by rw [HU.out];exact a_h (by omega) HBF.out⟩;have hev:∀ c,hi≤c→(Value.slice aev L.ev.n cev).ownBlock≠some c:=fun c hc h=>by have:=HLO.out c h;omega
   refine ⟨rfl,⟨TC,by rw [HU.out];exact a_j (by have:=HBT.out;omega) HVT.out,?_⟩,?_,?_,?_,?_,⟨ecs,?_,g_Z HFE.out⟩,?_,HCco.out,HCth.out,HCev.out,HXL.out.1,?_,?_,?_⟩
   ·exact o_G (f_L (hks _ (fun x hx=>by have:=HBT.out;omega)) (hks _ (fun x hx=>by omega)) HMT.out) (by have:=HXL.out;omega) (fun b hb=>⟨by have:=HBT.out;omega,by have:=HBT.out;omega,hev b hb⟩)
   ·refine o_5 (by rw [HU.out];exact a_Z (fun h=>by have:=HLC.out _ h;omega) HOCO.out) (g_Z HFC.out) HXL.out.2.2.1 (fun q hq=>HLC.out q hq)
   ·refine r_P (by rw [HU.out,←HWC.out.1];exact a_Z (fun h=>by have:=HLW.out _ h;omega) HOWS.out) HXL.out.2.2.2.1 (fun q hq=>HLW.out q hq)
   ·refine r_P (by rw [HU.out,←HWC.out.2];exact a_Z (fun h=>by have:=HLT.out _ h;omega) HOTS.out) HXL.out.2.2.2.2 (fun q hq=>HLT.out q hq)
   ·have h:=s_G (Q:=fun c=>lo+2≤c∧c≠bt∧(Value.slice aev L.ev.n cev).ownBlock≠some c) (g:=bb) (f_K (hks _ (fun x hx=>by have:=HBT.out;omega)) (hks _ (fun x hx=>by omega)) HMB.out) (by have:=HXL.out;omega) (fun b hb=>⟨by have:=HBT.out;omega,by have:=HBT.out;omega,hev b hb⟩) ⟨HBB.out.1,HBB.out.2.2,HLB.out⟩ (show a_p U bb BC by rw [HU.out];exact a_j (by have:=HBB.out;omega) HVB.out);have hl:X.bs.length=L.bs.n:=by rw [HXL.out.2.1,HBN.out]
    rw [hl] at h;exact h
   ·rw [HU.out];exact a_Z (fun h=>by have:=HLO.out _ h;omega) HOEV.out
   ·exact fun c hc=>⟨by have:=HLO.out c hc;omega,(HLO.out c hc).2.2.1,fun h=>h.2.2 hc⟩
   ·exact fun c hc=>⟨by omega,hc.2.1⟩
   ·have:=HBT.out;omega
   ·exact fun c hc=>⟨by have:=HSF.out;have:=HBT.out;omega,by have:=HSF.out;have:=HBT.out;omega,hev c (by have:=HSF.out;omega)⟩
end Go.Proofs.YtogdpojnbgeknaaGreatDoor
