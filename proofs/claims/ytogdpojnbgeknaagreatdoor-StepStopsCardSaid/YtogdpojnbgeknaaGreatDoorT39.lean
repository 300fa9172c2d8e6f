import Derived.Test.YtogdpojnbgeknaaGreatDoorT8
import Derived.Test.YtogdpojnbgeknaaGreatDoorT38
import Derived.Test.YtogdpojnbgeknaaGreatDoorT7
import Derived.Test.YtogdpojnbgeknaaGreatDoorT15
import Derived.Test.YtogdpojnbgeknaaGreatDoorT16
import Derived.Test.YtogdpojnbgeknaaGreatDoorT0
import Derived.Test.YtogdpojnbgeknaaGreatDoorT21
set_option maxRecDepth 100000
set_option maxHeartbeats 16000000
namespace Go.Proofs.YtogdpojnbgeknaaGreatDoor
open Go.ChangeShapes Go.WideShapes Go.ChangeAt Go.RowKit
open Gen
structure StillT (t x:Thr):Prop where
 pc:x.pc=t.pc
 r:x.r=t.r
 st:x.st≠0
 ft:t.st=2→x.st=2∧x.ft=t.ft
theorem n_b {t:Thr} (h:t.st≠0):StillT t t:=⟨rfl,rfl,h,fun h=>⟨h,rfl⟩⟩
theorem p_q {t x:Thr} {k:Nat} (h:StillT t x):StillT t (i_w k x):=by
 unfold i_w
 split
 ·exact h
 ·exact ⟨h.pc,h.r,h.st,h.ft⟩
theorem k_7 {t x:Thr} {e:Int} (h:StillT t x) (h2:x.st≠2):StillT t (b_t x e):=
 ⟨h.pc,h.r,by show (2:Int)≠0;decide,fun h3=>absurd (h.ft h3).1 h2⟩
theorem n_2 {X:Wo} {k i:Nat} (hi:i < X.th.length):thW (d_t X k) i=i_w k (if k=i then flT X k else thW X i):=by
 have hl:(d_t X k).th=(X.th.set k (flT X k)).map (i_w k):=rfl;unfold thW;rw [hl,List.getD_eq_getElem?_getD,List.getElem?_map,List.getElem?_set]
 by_cases e:k=i
 ·subst e;simp [hi]
 ·simp [e,hi,List.getD_eq_getElem?_getD]
theorem k_8 {X:Wo} {t:Thr} {k i:Nat} (hi:i < X.th.length) (h:StillT t (thW X i)):StillT t (thW (d_t X k) i):=by
 rw [n_2 hi];refine p_q ?_
 split
 ·rename_i e
  subst e;unfold flT
  split
  ·exact h
  ·rename_i hn
   exact k_7 h (fun h2=>hn (.inr h2))
 ·exact h
theorem k_e {X:Wo} {i:Nat} (h:(thW X i).st≠0):h_z X i=false:=by
 unfold h_z n_Q;rw [if_pos h]
theorem r_g {X:Wo} {t:Thr} {i:Nat} {a:Int×Int} (hi:i < X.th.length) (h:StillT t (thW X i)):StillT t (thW (doW X a) i):=by
 unfold doW
 split
 ·rename_i hd
  split
  ·rename_i h0
   have hc:h_z X a.2.toNat=true:=by
    simp only [f_e,h0,if_true,Bool.and_eq_true] at hd;exact hd.2
   have hne:a.2.toNat≠i:=fun e=>by
    rw [e,k_e h.st] at hc;cases hc
   rw [r_f hne];exact h
  ·exact k_8 hi h
 ·exact h
theorem p_r {l:List (Int×Int)}:∀ {X:Wo} {t:Thr} {i:Nat},i < X.th.length→StillT t (thW X i)→StillT t (thW (h_E X l) i)∧(h_E X l).th.length=X.th.length:=by
 induction l with
 | nil=>intro X t i _ h;exact ⟨h,rfl⟩
 | cons a l ih =>
  intro X t i hi h;have h1:=ih (X:=doW X a) (t:=t) (i:=i) (by rw [n_U];exact hi) (r_g hi h);exact ⟨h1.1,h1.2.trans (n_U _ _)⟩
theorem i_z {k n:Nat} (h:k < n):n - ((k:Int)+1).toNat < n - (k:Int).toNat:=by omega
theorem q_6 {l:List (Int×Int)}:∀ {X:Wo},(h_E X l).th.length=X.th.length:=by
 induction l with
 | nil=>intro X;rfl
 | cons a l ih=>intro X;exact (ih (X:=doW X a)).trans (n_U _ _)
theorem g_g {X:Wo} {i:Nat} (hr:b_i X=true) (hi:i < X.th.length):j_0 X i=0:=by
 unfold j_0 l_H;rw [if_pos hr,if_pos (by simp only [decide_eq_true_eq];omega)]
theorem n_c {X:Wo} {i:Nat} (hr:b_i X=true) (hi:i < X.th.length) (h:(thW X i).st≠0):n_f X i=9:=by
 unfold n_f;rw [if_pos (g_g hr hi),Int.toNat_natCast,k_e h]
 rfl
theorem m_5 {code:List Ins} {ws ts starts:List Int} {D:Int} (h1:c_a code=true) (h2:d_g ws ts=true) (h3:1≤starts.length∧starts.length≤8) (h4:0≤D∧D≤8) (h5:∀ s∈starts,0≤s∧s≤code.length):b_i (k_M code starts ws ts D)=true:=by
 have h6:=(d_n h1).1;refine f_Q h1 (mayT_iff.2 ⟨h2,?_,fun b hb=>?_⟩) ?_ ?_
 ·simp only [c_0,k_M,List.length_replicate,decide_eq_true_eq];omega
 ·obtain rfl:=(List.mem_replicate.1 hb).2;simp only [h_x,List.length_nil,List.all_nil,Bool.and_true,decide_eq_true_eq];exact h4.1
 ·simp [k_M]
 ·intro t ht;obtain ⟨s,hs,rfl⟩:=List.mem_map.1 ht;have:=h5 s hs;exact oneW_iff.2 ⟨⟨this.1,by show s≤1000;omega⟩,rfl,rfl,rfl,.inl rfl⟩
def p_M (n:Nat) (s:Int):Int:=((s.tmod (n+1))+n+1).tmod (n+1)
theorem o_m (n:Nat) (s:Int):0≤p_M n s∧p_M n s≤n:=by
 have h0:(0:Int) < (n:Int)+1:=by omega
 have h1:=Int.tmod_lt_of_pos s h0;have h2:-((n:Int)+1) < s.tmod (n+1):=Int.neg_lt_of_neg_lt (by have:=Int.tmod_lt_of_pos (-s) h0;rw [Int.neg_tmod] at this;omega);have h3:0≤s.tmod (n+1)+n+1:=by omega
 have h4:=Int.tmod_nonneg ((n:Int)+1) h3;have h5:=Int.tmod_lt_of_pos (s.tmod (n+1)+n+1) h0;exact ⟨h4,by unfold p_M;omega⟩
theorem t_1 {code:List Ins} {ws ts starts:List Int} {D:Int} (h1:∀ i∈code,W64 i.2.1∧W64 i.2.2.1∧W64 i.2.2.2) (h2:∀ z∈ws,W64 z):WfW (k_M code starts ws ts D):=by
 refine ⟨h1,h2,fun b hb=>?_,fun t ht=>?_⟩
 ·rw [(List.mem_replicate.1 hb).2];intro p hp;exact absurd hp List.not_mem_nil
 ·obtain ⟨s,-,rfl⟩:=List.mem_map.1 ht;exact ⟨fun _=>d_4,fun f hf=>by cases hf⟩
theorem o_T {code:List Ins} {ws ts starts:List Int} {D:Int} (h1:c_a code=true) (h2:d_g ws ts=true) (h3:1≤starts.length∧starts.length≤8) (h4:0≤D∧D≤8) (h5:∀ s∈starts,0≤s∧s≤code.length) (h6:∀ i∈code,W64 i.2.1∧W64 i.2.2.1∧W64 i.2.2.2) (h7:∀ z∈ws,W64 z):OkW (k_M code starts ws ts D) 0:=
 ⟨m_5 h1 h2 h3 h4 h5,t_1 h6 h7,Nat.le_refl _⟩
end Go.Proofs.YtogdpojnbgeknaaGreatDoor
namespace Go.Proofs.YtogdpojnbgeknaaGreatDoor
open Go.ChangeShapes Go.WideShapes Go.ChangeAt Go.RowKit
def r_6 (a a':Option Addr) (n c n' c':Nat) (D:Int) (k:Nat) (bs:List (List (Int×Int))) (w:World) (e:Ending) (w':World):Prop:=
 ∃ q d,e=.returned (.agg #[.slice a n c,.slice a' n' c',.int .i64 D,.slice q k d])∧BlP (fun b=>w.heap.size≤b) w' q k bs∧Below w.heap.size w w'
theorem m_s {Q:Nat→Prop} {w w':World} {vs:List Value} {bs:List (List (Int×Int))} (h:n_s w vs bs) (h0:∀ x∈bs,x=[]):g_n Q w' vs bs:=
 ⟨h.1,fun i hi=>by
  obtain ⟨q,c,h1,h2,_⟩:=h.2 i hi
  have e:bs.getD i []=[]:=by
   rw [List.getD_eq_getElem?_getD,List.getElem?_eq_getElem hi];exact h0 _ (List.getElem_mem hi)
  rw [e] at h1 h2 ⊢;exact ⟨q,c,h1,h2,rfl,.inl rfl⟩⟩
theorem j_y (a a':Option Addr) (n c n' c' k:Nat) (D:Int) (w:World) (hk8:k≤8) :
  Calls Tryz.prog 35 #[.agg #[.slice a n c,.slice a' n' c'],.int .i64 k,.int .i64 D] w (r_6 a a' n c n' c' D k (List.replicate k []) w):=by
 obtain ⟨i0,hi,hz0,hz1,hz2⟩:=info_parts Tryz.info55;have HI:=N44;clear hi hz0 hz1 hz2
 go_enter Tryz.func35,Tryz.ntmps35
 go_upto_region 2 with fail
 obtain ⟨W,hW⟩:=nm (((w.alloc (Obj.cells #[.slice a n c,.slice a' n' c'] 26)).alloc (Obj.cells #[.slice none 0 0,.slice none 0 0,.int .i64 0,.slice none 0 0] 30)).alloc (Obj.cells #[.slice a n c,.slice a' n' c',.int .i64 D,.slice none 0 0] 30));have b0:=N2;have R0:d_6 W (w.heap.size+1) (.slice none 0 0) (.slice none 0 0) (.int .i64 0) (.slice none 0 0):=by rw [hW];exact g_w _ (c_i _ (by simp))
 have X0:d_6 W (w.heap.size+1+1) (.slice a n c) (.slice a' n' c') (.int .i64 D) (.slice none 0 0):=by rw [hW];exact c_i _ (by simp)
 rw [←hW];have hWs:w.heap.size+1+1 < W.heap.size:=c_9 X0;have ⟨HB0,HR0,HX0⟩:=hh3 b0 R0 X0;clear hW b0 R0 X0
 go_wp2_with fail
 go_loopw [8] (fun i wr=>∃ (j:Nat) (v:Value) (vs:List Value),j≤k∧i=.int .i64 j∧Hid (wr.ownsRow (w.heap.size+1+1+1) 55 1 v j vs)∧Hid (n_s w vs (List.replicate j []))∧Hid (d_6 wr (w.heap.size+1+1) (.slice a n c) (.slice a' n' c') (.int .i64 D) v)∧Hid (d_6 wr (w.heap.size+1) (.slice none 0 0) (.slice none 0 0) (.int .i64 0) (.slice none 0 0))∧Below w.heap.size w wr) (fun i _=>k - (intOf i).toNat)
 case atStart=>exact ⟨0,_,[],by omega,rfl,World.ownsRow_nil _ _ _ _,n_O w,HX0.out,HR0.out,HB0.out⟩
 case round =>
  obtain ⟨j,v,vs,hj,rfl,ho,hv,hx,hr,hb⟩:=hrel
  by_cases hlt:j < k
  ·obtain ⟨va,vc,rfl⟩:=g_d ho.out;have HB:=Lib.hid hb;have hsx:=c_9 hx.out;obtain ⟨⟨x0,x1,x2,x3⟩,y0,y1,y2,y3⟩:=id hx.out;clear hb
   go_wp2_with (at_builtin;refine wpList_append_own_at _ rfl _ _ 28 rfl (w.heap.size+1+1+1) 55 i0 (.slice none 0 0) 1 24 Tryz.underlying28 HI.out.1 HI.out.2.1 HI.out.2.2.1 HI.out.2.2.2 rfl (by decide) _ _ _ rfl (ho.out.alloc _) ⟨wr.heap.size,0,none⟩ 1 1 [.slice none 0 0] rfl rfl ?c1 ?c2 ?c3 ?c4 ?c5 ?_)
   case c1=>exact cell_one_new _ _ _
   case c2=>intro x hx;simp at hx;subst hx;rfl
   case c3=>unfold maxLen;omega
   case c4=>omega
   case c5=>simp;omega
   intro v' w1 hown hgrow _ _;obtain ⟨v2,c2,rfl⟩:=g_d hown;have hB:Below (w.heap.size+1+1+1) wr w1:=g_a ((Below.refl _ _).alloc (by omega) _) (by simp;omega) hgrow ho.out;have X1:=i_P hB (Nat.lt_succ_self _) hx.out;obtain ⟨⟨z0,z1,z2,z3⟩,f0,f1,f2,f3⟩:=id X1;have ⟨HX1,HOW,HBB⟩:=hh3 X1 hown hB;clear X1 hown hgrow hB x0 x1 x2 x3 y0 y1 y2 y3
   go_wp2_with fail
   go_roundw
   case rel =>
    refine ⟨j+1,_,_,by omega,by go_num,ownsRow_setCell_below HOW.out (by simp) _,?_,h_q HX1.out _,c_b (i_P HBB.out (by omega) hr.out) (by omega) _,((HB.out.trans (HBB.out.mono (by omega))).setCell (by simp;omega) _)⟩;rw [List.replicate_succ'];exact m_t hv.out d_7 (r_Q w)
   case measure=>simp [intOf];omega
  ·obtain rfl:j=k:=by omega
   obtain ⟨va,vc,rfl⟩:=g_d ho.out;have HB:=Lib.hid hb;have HF:=Lib.hid (b_z hr.out (.slice a n c) (.slice a' n' c') (.int .i64 D) (.slice va j vc));obtain ⟨⟨x0,x1,x2,x3⟩,-⟩:=id hx.out;obtain ⟨⟨r0,r1,r2,r3⟩,f0,f1,f2,f3⟩:=id hr.out;clear hb
   go_wp2
   refine a_V ⟨w.heap.size+1,0,none⟩ rfl rfl rfl (a_7 _ _ _ _ _ _ HF.out.1.1 HF.out.1.2.1 HF.out.1.2.2.1 HF.out.1.2.2.2) ?_;have hbf:=a_U (g:=w.heap.size+1) HB.out (by omega) (.slice a n c) (.slice a' n' c') (.int .i64 D) (.slice va j vc);obtain ⟨z1,z2,e,-,hbl⟩:=h_b (Q:=fun b=>w.heap.size≤b) (ownsRow_setCell_below (ownsRow_setCell_below (ownsRow_setCell_below (ownsRow_setCell_below ho.out (a:=⟨w.heap.size+1,0,none⟩) (by simp) (.slice a n c)) (a:=⟨w.heap.size+1,1,none⟩) (by simp) (.slice a' n' c')) (a:=⟨w.heap.size+1,2,none⟩) (by simp) (.int .i64 D)) (a:=⟨w.heap.size+1,3,none⟩) (by simp) (.slice va j vc)) (m_s hv.out (fun x hx=>(List.mem_replicate.1 hx).2)) (fun b h=>by omega)
   cases e
   exact ⟨_,_,rfl,hbl,hbf⟩
end Go.Proofs.YtogdpojnbgeknaaGreatDoor
namespace Go.Proofs.YtogdpojnbgeknaaGreatDoor
open Go.ChangeShapes Go.WideShapes Go.ChangeAt Go.RowKit
open Gen
open Lib (hid)
def atT (s:Int):Thr:={ d_E with pc:=s }
def r_H (starts:List Int) (k:Nat):List Thr:=(starts.take k).map atT
theorem n_J {starts:List Int} {k:Nat} {s:Int} (h:starts[k]?=some s):r_H starts (k+1)=r_H starts k++[atT s]:=by
 obtain ⟨hk,rfl⟩:=List.getElem?_eq_some_iff.1 h;rw [r_H,List.take_succ_eq_append_getElem hk,List.map_append];rfl
theorem p_5 {starts:List Int} {n:Nat} (h:starts.length=n):r_H starts n=starts.map atT:=by rw [r_H,List.take_of_length_le (by omega)]
theorem r_W {Q:Nat→Prop} {w:World} (s:Int):ThQ Q w none 0 0 none 0 0 (atT s):=⟨b_T,d_c,b_T,d_c⟩
theorem q_N (Q:Nat→Prop) (L:WoL) (code:List Ins) (ws ts starts:List Int) (D:Int) (sa:Option Addr) (sn sc:Nat) (w:World) (C:Vs repIns Q w L.co.a L.co.n code) (W1:SlP Q w L.ws.a L.ws.n ws) (T1:SlP Q w L.ts.a L.ts.n ts) (S:Sl w sa sn starts) (hQ:∀ b,w.heap.size≤b→Q b) (hn:sn≤8) (hc:L.co.ok) :
  Calls Tryz.prog 14 #[.slice L.co.a L.co.n L.co.c,.slice sa sn sc,.agg #[.slice L.ws.a L.ws.n L.ws.c,.slice L.ts.a L.ts.n L.ts.c],.int .i64 D] w (b_B Q (k_M code starts ws ts D) w):=by
 have HSL:=hid (show starts.length=sn from S.1);obtain ⟨Q1,hQ1⟩:∃ Q1:Nat→Prop,Q1=fun b=>Q b∧(b < w.heap.size∨w.heap.size+2≤b):=⟨_,rfl⟩
 have HQ2:=N102;obtain ⟨W,hW⟩:=nm ((w.alloc (Obj.cells #[.slice L.ws.a L.ws.n L.ws.c,.slice L.ts.a L.ts.n L.ts.c] 26)).alloc (Obj.cells woZ.toArray 33));have HM:=N98;have HZ:=N63;have HB:=N3;have HSZ:=N43;have HW:=hid hW;have hkW:Kept (fun b=>Q b∧b < w.heap.size) w W:=c_o HB.out (fun _ h=>h.2);have HCO:=hid (show Vs repIns (fun b=>Q1 b∧b < W.heap.size) W L.co.a L.co.n code from b_e (fun b h=>by rw [hQ1];have:=HSZ.out;exact ⟨⟨h.1,.inl h.2⟩,by omega⟩) (a_z hkW (c_O C)));have HWS:=hid (show SlP (fun b=>Q1 b∧b < W.heap.size) W L.ws.a L.ws.n ws from a_n (fun b h=>by rw [hQ1];have:=HSZ.out;exact ⟨⟨h.1,.inl h.2⟩,by omega⟩) (a_r hkW (d_T (fun _ q h=>⟨q,h⟩) W1)));have HTS:=hid (show SlP (fun b=>Q1 b∧b < W.heap.size) W L.ts.a L.ts.n ts from a_n (fun b h=>by rw [hQ1];have:=HSZ.out;exact ⟨⟨h.1,.inl h.2⟩,by omega⟩) (a_r hkW (d_T (fun _ q h=>⟨q,h⟩) T1)));have ⟨HS,HCC,HN⟩:=hh3 S hc hn;obtain ⟨j0,ki,kz0,kz1,kz2⟩:=info_parts l_I;have HJ:=N72;have h0:=j_y L.ws.a L.ts.a L.ws.n L.ws.c L.ts.n L.ts.c sn D W hn;have HC:=hid h0;clear hW hkW hQ1 hQ C W1 T1 S hc h0 ki kz0 kz1 kz2 hn
 go_enter Tryz.func14,Tryz.ntmps14
 go_upto_region 1 with fail
 rw [←HW.out];obtain ⟨m0,-⟩:=HM.out 0 _ rfl;obtain ⟨m1,-⟩:=HM.out 1 _ rfl
 go_wp2_with fail
 refine HC.out.mono ?_;rintro e1 w1 ⟨q,d,rfl,BL,hb1⟩;clear HC m0 m1;have ⟨HB1,HBL⟩:=hh2 hb1 BL;clear hb1 BL
 go_upto_region 2 with (refine a_c rfl 33 _ _ rfl w1.heap.size (woC { L with bs:=⟨q,sn,d⟩,th:=zSp,ev:=zSp } D).toArray rfl rfl _ (a_e woZ w1.heap.size rfl) rfl (by kernel_rfl) (b_o _ _) ?_;intro V HV)
 obtain ⟨M,hM⟩:∃ M:WoL,M={ L with bs:=⟨q,sn,d⟩,th:=zSp,ev:=zSp }:=⟨_,rfl⟩;have hs1:W.heap.size≤w1.heap.size:=HB1.out.size;have HX:=hid (show a_p V w1.heap.size (woC M D) by rw [HV.out,hM];exact a_q (a_e woZ _ rfl) rfl);have HZ1:=hid (show a_p V (w.heap.size+1) woZ by rw [HV.out];exact a_j (by have:=HSZ.out;omega) (a_s _ (a_i HB1.out HZ.out)));have HB2:=hid (show Below W.heap.size W V by rw [HV.out];exact a_h hs1 (HB1.out.alloc hs1 _));have HS2:=hid (show V.heap.size=w1.heap.size+1 by rw [HV.out,a_R];simp)
 have HBV:=hid (show BlP (fun b=>Q1 b∧b≠w1.heap.size∧b < V.heap.size) V q sn (List.replicate sn []) from by
  have hk:Kept (fun b=>W.heap.size≤b∧b < w1.heap.size) w1 V:=by rw [HV.out];exact a_6 (e_u _ _) (a_t (fun b hb=>by omega))
  exact a_H (fun b h=>⟨HQ2.out.2.2 b (by have:=HSZ.out;omega),by omega,by have:=HS2.out;omega⟩) (a_G hk (f_1 (fun _ q h=>⟨q,h⟩) HBL.out)))
 have HMM:=hid hM;clear hM HV HBL
 go_upto_region 3 with fail
 go_wp2_with fail
 obtain ⟨G,hG⟩:=mn (w1.heap.size);rw [hG] at HX HBV HS2 hs1 ⊢;have HGH:=hid hG;clear hG;have HTT:=hid (show M.th=zSp by rw [HMM.out])
 go_loopw [11,21] (fun _ i wr=>∃ (k:Nat) (v:Value) (cs:List Value),k≤sn∧i=.int .i64 k∧Hid (wr.ownsRow (G+1) 46 13 v k cs)∧Hid (d_s repTh (fun _=>False) wr cs (r_H starts k))∧Hid (a_p wr G ((woC M D).set 5 v))∧Hid (Below G V wr)∧Hid (a_p wr (w.heap.size+1) woZ)) (fun _ i _=>sn - (intOf i).toNat)
 case atStart =>
  refine ⟨0,.slice none 0 0,[],by omega,rfl,World.ownsRow_nil _ _ _ _,rfl,?_,Below.refl _ _,HZ1.out⟩;have e:(woC M D).set 5 (.slice none 0 0)=woC M D:=by simp only [woC,HTT.out];rfl
  rw [e];exact HX.out
 case round =>
  obtain ⟨k,v,cs,hk,rfl,ho,hf,hx,hb,hz⟩:=hrel;obtain ⟨va,vc,rfl⟩:=c_D ho.out;have hsx:=a_P hx.out (by simp);have HBV2:=hid (show Below W.heap.size W wr from HB2.out.trans (hb.out.mono (by omega)))
  by_cases hlt:k < sn
  ·obtain ⟨b,o,rfl,hrow⟩:=HS.out.2.resolve_left (by omega);obtain ⟨s,hs⟩:=mn (starts.getD k 0);have hk2:k < starts.length:=by have:=HSL.out;omega
   have hss:starts[k]?=some s:=by rw [←hs,List.getD_eq_getElem?_getD,List.getElem?_eq_getElem hk2];rfl
   have hc:=a_u HBV2.out (a_u HB.out (hrow k hk2));rw [hs] at hc;have HNX:=hid (n_J hss);have i1:(0:Int)≤k:=by omega
   have i2:(k:Int) < sn:=by omega
   obtain ⟨x5,y5⟩:=hx.out 5 _ rfl;have hwk:=N215;obtain ⟨wo,hwo⟩:=nm (wr);subst hwo;clear hrow hs hss
   go_wp2_with (at_builtin;refine wpList_append_own _ rfl _ _ 24 rfl (G+1) 46 j0 (.agg thN.toArray) 13 136 Tryz.underlying24 HJ.out.1 HJ.out.2.1 HJ.out.2.2.1 HJ.out.2.2.2 rfl (by decide) (.slice va k vc) k cs rfl (ho.out.alloc _) ⟨wo.heap.size,0,none⟩ 1 1 (thC (atT s) none 0 0 none 0 0) rfl rfl (e_F _ _ _) (g_9 _ _ _ _ _ _ _) (by have:=HN.out;unfold maxLen;omega) (by have:=HN.out;omega) (by simp;omega) ?_)
   intro v4 w4 hown hgrow _;obtain ⟨va4,vc4,rfl⟩:=c_D hown;have hbo:∀ g,(Value.slice va k vc).ownBlock=some g→G+1≤g:=fun g hg=>(ho.out.lt g hg).1
   have hbw:Below (G+1) wo w4:=((Below.refl _ _).alloc (by omega) _).grown hgrow (by simp;omega) (fun g hr=>by have:=hbo g hr;omega);have HX4:=hid (show a_p w4 G ((woC M D).set 5 (.slice va k vc)) from i_Q hbw (by omega) hx.out);have HZ4:=hid (show a_p w4 (w.heap.size+1) woZ from i_Q hbw (by have:=HSZ.out;omega) hz.out);have HB4:=hid (show Below G V w4 from hb.out.trans (hbw.mono (by omega)))
   have HF4:=hid (show d_s repTh (fun _=>False) w4 (cs++thC (atT s) none 0 0 none 0 0) (r_H starts (k+1)) by
    rw [HNX.out];exact i_r (b_m (fun b _ _ h=>h.elim) hf.out) ⟨rfl,rfl⟩ (r_W s))
   have HO4:=hid hown;obtain ⟨z5,f5⟩:=HX4.out 5 _ rfl;clear hown hgrow hbo hbw x5 y5 hc;obtain ⟨V4,hV4⟩:=nm (w4.setCell ⟨G,5,none⟩ (.slice va4 (k+1) vc4));have HX5:=hid (show a_p V4 G ((woC M D).set 5 (.slice va4 (k+1) vc4)) by rw [hV4];have h:=a_A HX4.out 5 (by simp) (.slice va4 (k+1) vc4);exact h);have HZ5:=hid (show a_p V4 (w.heap.size+1) woZ by rw [hV4];exact a_m HZ4.out (by have:=HSZ.out;omega) _);have HB5:=hid (show Below G V V4 by rw [hV4];exact HB4.out.setCell (p:=⟨G,5,none⟩) (Nat.le_refl _) _);have HO5:=hid (show V4.ownsRow (G+1) 46 13 (.slice va4 (k+1) vc4) (k+1) (cs++thC (atT s) none 0 0 none 0 0) by rw [hV4];exact ownsRow_setCell_below HO4.out (by simp) _);have HF5:=hid (show d_s repTh (fun _=>False) V4 (cs++thC (atT s) none 0 0 none 0 0) (r_H starts (k+1)) from b_m (fun b _ _ h=>h.elim) HF4.out);have HV4:=hid hV4;clear hV4
   go_wp2_with fail
   rw [←HV4.out]
   go_roundw
   case rel=>exact ⟨k+1,_,_,by omega,by go_num,HO5.out,HF5.out,HX5.out,HB5.out,HZ5.out⟩
   case measure=>rw [hwk];simp only [intOf];omega
  ·obtain rfl:k=sn:=by omega
   have HTA:=hid (p_5 HSL.out);obtain ⟨a2,c2,e2,k1,k2,k3,VT⟩:=e_v (r:=repTh) (Q:=Q1) ho.out (c_l (fun b hb=>hb.elim) hf.out) (fun b hb _=>HQ2.out.2.2 b (by have:=HSZ.out;omega));rw [HTA.out] at VT
   cases e2
   have HXE:=hid (show a_p wr G (woC (M.setTh va k vc) D) from hx.out);have hk:Kept (fun b=>Q1 b∧b < G) V wr:=c_o hb.out (fun _ h=>h.2);have hk2:Kept (fun b=>Q1 b∧b < W.heap.size) W wr:=c_o HBV2.out (fun _ h=>h.2)
   have HRE:=hid (show RWo Q1 wr (M.setTh va k vc) (k_M code starts ws ts D) from by
    rw [HMM.out];refine ⟨b_e (fun _ h=>h.1) (a_z hk2 HCO.out),a_n (fun _ h=>h.1) (a_r hk2 HWS.out),a_n (fun _ h=>h.1) (a_r hk2 HTS.out),?_,VT,d_c,HCC.out,⟨k1,k2,k3⟩,b_T⟩;have h:=a_G hk (a_H (fun b h=>⟨h.1,by have:=h.2;have:=HS2.out;omega⟩) HBV.out)
    show BlP Q1 wr q k (List.replicate starts.length [])
    rw [HSL.out];exact a_H (fun _ h=>h.1) h)
   have HZE:=hid hz.out;have HBE:=hid (show Below w.heap.size w wr from a_b HB.out HBV2.out);clear hk hk2 VT k1 k2 k3 hf ho hx hz
   go_wp2_with (first | (refine wpList_load_mid rfl 33 _ rfl G 0 rfl (woC (M.setTh va k vc) D) _ (a_f HXE.out) Tryz.underlying33 rfl (by kernel_rfl) ?_) | (refine a_c rfl 33 _ _ rfl (w.heap.size+1) (woC (M.setTh va k vc) D).toArray rfl rfl _ HZE.out rfl (by kernel_rfl) (b_o _ _) ?_;intro U HU))
   have HZU:=hid (show a_p U (w.heap.size+1) (woC (M.setTh va k vc) D) by rw [HU.out];exact a_q HZE.out rfl);refine a_V ⟨w.heap.size+1,0,none⟩ rfl rfl rfl (a_E HZU.out 33 Tryz.underlying33 rfl (by kernel_rfl)) ?_;have hkU:Kept Q1 wr U:=by rw [HU.out];exact a_t (fun b hb=>by have:=HQ2.out.2.1 b hb;omega)
   exact a_Y (L:=M.setTh va k vc) rfl (a_D HQ2.out.1 (a_B hkU HRE.out)) (by rw [HU.out];exact a_h (by omega) HBE.out)
end Go.Proofs.YtogdpojnbgeknaaGreatDoor
