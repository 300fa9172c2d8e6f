import Derived.Test.YtolabfafgbmdbaaGreatDoorR15
import Derived.Test.YtolabfafgbmdbaaGreatDoorR0
import Derived.Test.YtolabfafgbmdbaaGreatDoorR18
import Derived.Test.YtolabfafgbmdbaaGreatDoorR33
set_option maxRecDepth 100000
set_option maxHeartbeats 16000000
namespace Go.Proofs.YtolabfafgbmdbaaGreatDoor
open Go.ChangeShapes Go.WideShapes Go.ChangeAt Go.RowKit
def o_U (a a':Option Addr) (n c n' c':Nat) (D:Int) (k:Nat) (bs:List (List (Int×Int))) (w:World) (e:Ending) (w':World):Prop:=
 ∃ q d,e=.returned (.agg #[.slice a n c,.slice a' n' c',.int .i64 D,.slice q k d])∧BlP (fun b=>w.heap.size≤b) w' q k bs∧Below w.heap.size w w'
theorem k_l {Q:Nat→Prop} {w w':World} {vs:List Value} {bs:List (List (Int×Int))} (h:k_6 w vs bs) (h0:∀ x∈bs,x=[]):o_q Q w' vs bs:=
 ⟨h.1,fun i hi=>by
  obtain ⟨q,c,h1,h2,_⟩:=h.2 i hi
  have e:bs.getD i []=[]:=by
   rw [List.getD_eq_getElem?_getD,List.getElem?_eq_getElem hi];exact h0 _ (List.getElem_mem hi)
  rw [e] at h1 h2 ⊢;exact ⟨q,c,h1,h2,rfl,.inl rfl⟩⟩
theorem h_1 (a a':Option Addr) (n c n' c' k:Nat) (D:Int) (w:World) (hk8:k≤8) :
  Calls Tryz.prog 35 #[.agg #[.slice a n c,.slice a' n' c'],.int .i64 k,.int .i64 D] w (o_U a a' n c n' c' D k (List.replicate k []) w):=by
 obtain ⟨i0,hi,hz0,hz1,hz2⟩:=info_parts Tryz.info55;have HI:=N46;clear hi hz0 hz1 hz2
 go_enter Tryz.func35,Tryz.ntmps35
 go_upto_region 2 with fail
 obtain ⟨W,hW⟩:=nm (((w.alloc (Obj.cells #[.slice a n c,.slice a' n' c'] 26)).alloc (Obj.cells #[.slice none 0 0,.slice none 0 0,.int .i64 0,.slice none 0 0] 30)).alloc (Obj.cells #[.slice a n c,.slice a' n' c',.int .i64 D,.slice none 0 0] 30));have b0:=N2;have R0:e_L W (w.heap.size+1) (.slice none 0 0) (.slice none 0 0) (.int .i64 0) (.slice none 0 0):=by rw [hW];exact i_j _ (c_v _ (by simp))
 have X0:e_L W (w.heap.size+1+1) (.slice a n c) (.slice a' n' c') (.int .i64 D) (.slice none 0 0):=by rw [hW];exact c_v _ (by simp)
 rw [←hW];have hWs:w.heap.size+1+1 < W.heap.size:=c_M X0;have ⟨HB0,HR0,HX0⟩:=hh3 b0 R0 X0;clear hW b0 R0 X0
 go_wp2_with fail
 go_loopw [8] (fun i wr=>∃ (j:Nat) (v:Value) (vs:List Value),j≤k∧i=.int .i64 j∧Hid (wr.ownsRow (w.heap.size+1+1+1) 55 1 v j vs)∧Hid (k_6 w vs (List.replicate j []))∧Hid (e_L wr (w.heap.size+1+1) (.slice a n c) (.slice a' n' c') (.int .i64 D) v)∧Hid (e_L wr (w.heap.size+1) (.slice none 0 0) (.slice none 0 0) (.int .i64 0) (.slice none 0 0))∧Below w.heap.size w wr) (fun i _=>k - (intOf i).toNat)
 case atStart=>exact ⟨0,_,[],by omega,rfl,World.ownsRow_nil _ _ _ _,l_r w,HX0.out,HR0.out,HB0.out⟩
 case round =>
  obtain ⟨j,v,vs,hj,rfl,ho,hv,hx,hr,hb⟩:=hrel
  by_cases hlt:j < k
  ·obtain ⟨va,vc,rfl⟩:=e_2 ho.out;have HB:=Lib.hid hb;have hsx:=c_M hx.out;obtain ⟨⟨x0,x1,x2,x3⟩,y0,y1,y2,y3⟩:=id hx.out;clear hb
   go_wp2_with (at_builtin;refine wpList_append_own_at _ rfl _ _ 28 rfl (w.heap.size+1+1+1) 55 i0 (.slice none 0 0) 1 24 Tryz.underlying28 HI.out.1 HI.out.2.1 HI.out.2.2.1 HI.out.2.2.2 rfl (by decide) _ _ _ rfl (ho.out.alloc _) ⟨wr.heap.size,0,none⟩ 1 1 [.slice none 0 0] rfl rfl ?c1 ?c2 ?c3 ?c4 ?c5 ?_)
   case c1=>exact cell_one_new _ _ _
   case c2=>intro x hx;simp at hx;subst hx;rfl
   case c3=>unfold maxLen;omega
   case c4=>omega
   case c5=>simp;omega
   intro v' w1 hown hgrow _ _;obtain ⟨v2,c2,rfl⟩:=e_2 hown;have hB:Below (w.heap.size+1+1+1) wr w1:=k_B ((Below.refl _ _).alloc (by omega) _) (by simp;omega) hgrow ho.out;have X1:=h_k hB (Nat.lt_succ_self _) hx.out;obtain ⟨⟨z0,z1,z2,z3⟩,f0,f1,f2,f3⟩:=id X1;have ⟨HX1,HOW,HBB⟩:=hh3 X1 hown hB;clear X1 hown hgrow hB x0 x1 x2 x3 y0 y1 y2 y3
   go_wp2_with fail
   go_roundw
   case rel =>
    refine ⟨j+1,_,_,by omega,by go_num,ownsRow_setCell_below HOW.out (by simp) _,?_,m_V HX1.out _,k_0 (h_k HBB.out (by omega) hr.out) (by omega) _,((HB.out.trans (HBB.out.mono (by omega))).setCell (by simp;omega) _)⟩;rw [List.replicate_succ'];exact k_m hv.out c_3 (o_I w)
   case measure=>simp [intOf];omega
  ·obtain rfl:j=k:=by omega
   obtain ⟨va,vc,rfl⟩:=e_2 ho.out;have HB:=Lib.hid hb;have HF:=Lib.hid (b_Z hr.out (.slice a n c) (.slice a' n' c') (.int .i64 D) (.slice va j vc));obtain ⟨⟨x0,x1,x2,x3⟩,-⟩:=id hx.out;obtain ⟨⟨r0,r1,r2,r3⟩,f0,f1,f2,f3⟩:=id hr.out;clear hb
   go_wp2
   refine b_0 ⟨w.heap.size+1,0,none⟩ rfl rfl rfl (b_b _ _ _ _ _ _ HF.out.1.1 HF.out.1.2.1 HF.out.1.2.2.1 HF.out.1.2.2.2) ?_;have hbf:=a_Y (g:=w.heap.size+1) HB.out (by omega) (.slice a n c) (.slice a' n' c') (.int .i64 D) (.slice va j vc);obtain ⟨z1,z2,e,-,hbl⟩:=j_a (Q:=fun b=>w.heap.size≤b) (ownsRow_setCell_below (ownsRow_setCell_below (ownsRow_setCell_below (ownsRow_setCell_below ho.out (a:=⟨w.heap.size+1,0,none⟩) (by simp) (.slice a n c)) (a:=⟨w.heap.size+1,1,none⟩) (by simp) (.slice a' n' c')) (a:=⟨w.heap.size+1,2,none⟩) (by simp) (.int .i64 D)) (a:=⟨w.heap.size+1,3,none⟩) (by simp) (.slice va j vc)) (k_l hv.out (fun x hx=>(List.mem_replicate.1 hx).2)) (fun b h=>by omega)
   cases e
   exact ⟨_,_,rfl,hbl,hbf⟩
end Go.Proofs.YtolabfafgbmdbaaGreatDoor
namespace Go.Proofs.YtolabfafgbmdbaaGreatDoor
open Go.ChangeShapes Go.WideShapes Go.ChangeAt Go.RowKit
open Gen
open Lib (hid)
def atT (s:Int):Thr:={ d_d with pc:=s }
def o_z (starts:List Int) (k:Nat):List Thr:=(starts.take k).map atT
theorem l_o {starts:List Int} {k:Nat} {s:Int} (h:starts[k]?=some s):o_z starts (k+1)=o_z starts k++[atT s]:=by
 obtain ⟨hk,rfl⟩:=List.getElem?_eq_some_iff.1 h;rw [o_z,List.take_succ_eq_append_getElem hk,List.map_append];rfl
theorem n_p {starts:List Int} {n:Nat} (h:starts.length=n):o_z starts n=starts.map atT:=by rw [o_z,List.take_of_length_le (by omega)]
theorem o_L {Q:Nat→Prop} {w:World} (s:Int):ThQ Q w none 0 0 none 0 0 (atT s):=⟨b_C,c_Z,b_C,c_Z⟩
theorem n_3 (Q:Nat→Prop) (L:WoL) (code:List Ins) (ws ts starts:List Int) (D:Int) (sa:Option Addr) (sn sc:Nat) (w:World) (C:Vs repIns Q w L.co.a L.co.n code) (W1:SlP Q w L.ws.a L.ws.n ws) (T1:SlP Q w L.ts.a L.ts.n ts) (S:Sl w sa sn starts) (hQ:∀ b,w.heap.size≤b→Q b) (hn:sn≤8) (hc:L.co.ok) :
  Calls Tryz.prog 14 #[.slice L.co.a L.co.n L.co.c,.slice sa sn sc,.agg #[.slice L.ws.a L.ws.n L.ws.c,.slice L.ts.a L.ts.n L.ts.c],.int .i64 D] w (l_k Q (j_W code starts ws ts D) w):=by
 have HSL:=hid (show starts.length=sn from S.1);obtain ⟨Q1,hQ1⟩:∃ Q1:Nat→Prop,Q1=fun b=>Q b∧(b < w.heap.size∨w.heap.size+2≤b):=⟨_,rfl⟩
 have HQ2:=hid (show (∀ b,Q1 b→Q b)∧(∀ b,Q1 b→b < w.heap.size∨w.heap.size+2≤b)∧(∀ b,w.heap.size+2≤b→Q1 b) by rw [hQ1];exact ⟨fun b h=>h.1,fun b h=>h.2,fun b h=>⟨hQ b (by omega),.inr h⟩⟩);obtain ⟨W,hW⟩:=nm ((w.alloc (Obj.cells #[.slice L.ws.a L.ws.n L.ws.c,.slice L.ts.a L.ts.n L.ts.c] 26)).alloc (Obj.cells woZ.toArray 33));have HM:=N39;have HZ:=hid (show a_p W (w.heap.size+1) woZ by rw [hW];exact a_i _ _ (by simp));have HB:=N1;have HSZ:=N42;have HW:=hid hW;have hkW:c_n (fun b=>Q b∧b < w.heap.size) w W:=b_L HB.out (fun _ h=>h.2);have HCO:=hid (show Vs repIns (fun b=>Q1 b∧b < W.heap.size) W L.co.a L.co.n code from a_P (fun b h=>by rw [hQ1];have:=HSZ.out;exact ⟨⟨h.1,.inl h.2⟩,by omega⟩) (a_w hkW (d_b C)));have HWS:=hid (show SlP (fun b=>Q1 b∧b < W.heap.size) W L.ws.a L.ws.n ws from a_k (fun b h=>by rw [hQ1];have:=HSZ.out;exact ⟨⟨h.1,.inl h.2⟩,by omega⟩) (a_q hkW (d_k (fun _ q h=>⟨q,h⟩) W1)));have HTS:=hid (show SlP (fun b=>Q1 b∧b < W.heap.size) W L.ts.a L.ts.n ts from a_k (fun b h=>by rw [hQ1];have:=HSZ.out;exact ⟨⟨h.1,.inl h.2⟩,by omega⟩) (a_q hkW (d_k (fun _ q h=>⟨q,h⟩) T1)));have ⟨HS,HCC,HN⟩:=hh3 S hc hn;obtain ⟨j0,ki,kz0,kz1,kz2⟩:=info_parts l_U;have HJ:=N87;have h0:=h_1 L.ws.a L.ts.a L.ws.n L.ws.c L.ts.n L.ts.c sn D W hn;have HC:=hid h0;clear hW hkW hQ1 hQ C W1 T1 S hc h0 ki kz0 kz1 kz2 hn
 go_enter Tryz.func14,Tryz.ntmps14
 go_upto_region 1 with fail
 rw [←HW.out];obtain ⟨m0,-⟩:=HM.out 0 _ rfl;obtain ⟨m1,-⟩:=HM.out 1 _ rfl
 go_wp2_with fail
 refine HC.out.mono ?_;rintro e1 w1 ⟨q,d,rfl,BL,hb1⟩;clear HC m0 m1;have ⟨HB1,HBL⟩:=hh2 hb1 BL;clear hb1 BL
 go_upto_region 2 with (refine a_h rfl 33 _ _ rfl w1.heap.size (woC { L with bs:=⟨q,sn,d⟩,th:=zSp,ev:=zSp } D).toArray rfl rfl _ (a_i woZ w1.heap.size rfl) rfl (by kernel_rfl) (g_D _ _) ?_;intro V HV)
 obtain ⟨M,hM⟩:∃ M:WoL,M={ L with bs:=⟨q,sn,d⟩,th:=zSp,ev:=zSp }:=⟨_,rfl⟩;have hs1:W.heap.size≤w1.heap.size:=HB1.out.size;have HX:=hid (show a_p V w1.heap.size (woC M D) by rw [HV.out,hM];exact a_r (a_i woZ _ rfl) rfl);have HZ1:=hid (show a_p V (w.heap.size+1) woZ by rw [HV.out];exact a_y (by have:=HSZ.out;omega) (a_O _ (a_f HB1.out HZ.out)));have HB2:=hid (show Below W.heap.size W V by rw [HV.out];exact a_m hs1 (HB1.out.alloc hs1 _));have HS2:=hid (show V.heap.size=w1.heap.size+1 by rw [HV.out,b_t];simp)
 have HBV:=hid (show BlP (fun b=>Q1 b∧b≠w1.heap.size∧b < V.heap.size) V q sn (List.replicate sn []) from by
  have hk:c_n (fun b=>W.heap.size≤b∧b < w1.heap.size) w1 V:=by rw [HV.out];exact b_M (h_N _ _) (a_E (fun b hb=>by omega))
  exact a_A (fun b h=>⟨HQ2.out.2.2 b (by have:=HSZ.out;omega),by omega,by have:=HS2.out;omega⟩) (a_H hk (f_A (fun _ q h=>⟨q,h⟩) HBL.out)))
 have HMM:=hid hM;clear hM HV HBL
 go_upto_region 3 with fail
 go_wp2_with fail
 obtain ⟨G,hG⟩:=mn (w1.heap.size);rw [hG] at HX HBV HS2 hs1 ⊢;have HGH:=hid hG;clear hG;have HTT:=hid (show M.th=zSp by rw [HMM.out])
 go_loopw [11,21] (fun _ i wr=>∃ (k:Nat) (v:Value) (cs:List Value),k≤sn∧i=.int .i64 k∧Hid (wr.ownsRow (G+1) 46 13 v k cs)∧Hid (c_m repTh (fun _=>False) wr cs (o_z starts k))∧Hid (a_p wr G ((woC M D).set 5 v))∧Hid (Below G V wr)∧Hid (a_p wr (w.heap.size+1) woZ)) (fun _ i _=>sn - (intOf i).toNat)
 case atStart =>
  refine ⟨0,.slice none 0 0,[],by omega,rfl,World.ownsRow_nil _ _ _ _,rfl,?_,Below.refl _ _,HZ1.out⟩;have e:(woC M D).set 5 (.slice none 0 0)=woC M D:=by simp only [woC,HTT.out];rfl
  rw [e];exact HX.out
 case round =>
  obtain ⟨k,v,cs,hk,rfl,ho,hf,hx,hb,hz⟩:=hrel;obtain ⟨va,vc,rfl⟩:=c_U ho.out;have hsx:=a_z hx.out (by simp);have HBV2:=hid (show Below W.heap.size W wr from HB2.out.trans (hb.out.mono (by omega)))
  by_cases hlt:k < sn
  ·obtain ⟨b,o,rfl,hrow⟩:=HS.out.2.resolve_left (by omega);obtain ⟨s,hs⟩:=mn (starts.getD k 0);have hk2:k < starts.length:=by have:=HSL.out;omega
   have hss:starts[k]?=some s:=by rw [←hs,List.getD_eq_getElem?_getD,List.getElem?_eq_getElem hk2];rfl
   have hc:=a_n HBV2.out (a_n HB.out (hrow k hk2));rw [hs] at hc;have HNX:=hid (l_o hss);have i1:(0:Int)≤k:=by omega
   have i2:(k:Int) < sn:=by omega
   obtain ⟨x5,y5⟩:=hx.out 5 _ rfl;have hwk:=N102;obtain ⟨wo,hwo⟩:=nm (wr);subst hwo;clear hrow hs hss
   go_wp2_with (at_builtin;refine wpList_append_own _ rfl _ _ 24 rfl (G+1) 46 j0 (.agg thN.toArray) 13 136 Tryz.underlying24 HJ.out.1 HJ.out.2.1 HJ.out.2.2.1 HJ.out.2.2.2 rfl (by decide) (.slice va k vc) k cs rfl (ho.out.alloc _) ⟨wo.heap.size,0,none⟩ 1 1 (thC (atT s) none 0 0 none 0 0) rfl rfl (h_F _ _ _) (i_7 _ _ _ _ _ _ _) (by have:=HN.out;unfold maxLen;omega) (by have:=HN.out;omega) (by simp;omega) ?_)
   intro v4 w4 hown hgrow _;obtain ⟨va4,vc4,rfl⟩:=c_U hown;have hbo:∀ g,(Value.slice va k vc).ownBlock=some g→G+1≤g:=fun g hg=>(ho.out.lt g hg).1
   have hbw:Below (G+1) wo w4:=((Below.refl _ _).alloc (by omega) _).grown hgrow (by simp;omega) (fun g hr=>by have:=hbo g hr;omega);have HX4:=hid (show a_p w4 G ((woC M D).set 5 (.slice va k vc)) from e_G hbw (by omega) hx.out);have HZ4:=hid (show a_p w4 (w.heap.size+1) woZ from e_G hbw (by have:=HSZ.out;omega) hz.out);have HB4:=hid (show Below G V w4 from hb.out.trans (hbw.mono (by omega)))
   have HF4:=hid (show c_m repTh (fun _=>False) w4 (cs++thC (atT s) none 0 0 none 0 0) (o_z starts (k+1)) by
    rw [HNX.out];exact l_F (a_1 (fun b _ _ h=>h.elim) hf.out) ⟨rfl,rfl⟩ (o_L s))
   have HO4:=hid hown;obtain ⟨z5,f5⟩:=HX4.out 5 _ rfl;clear hown hgrow hbo hbw x5 y5 hc;obtain ⟨V4,hV4⟩:=nm (w4.setCell ⟨G,5,none⟩ (.slice va4 (k+1) vc4));have HX5:=hid (show a_p V4 G ((woC M D).set 5 (.slice va4 (k+1) vc4)) by rw [hV4];have h:=a_N HX4.out 5 (by simp) (.slice va4 (k+1) vc4);exact h);have HZ5:=hid (show a_p V4 (w.heap.size+1) woZ by rw [hV4];exact a_D HZ4.out (by have:=HSZ.out;omega) _);have HB5:=hid (show Below G V V4 by rw [hV4];exact HB4.out.setCell (p:=⟨G,5,none⟩) (Nat.le_refl _) _);have HO5:=hid (show V4.ownsRow (G+1) 46 13 (.slice va4 (k+1) vc4) (k+1) (cs++thC (atT s) none 0 0 none 0 0) by rw [hV4];exact ownsRow_setCell_below HO4.out (by simp) _);have HF5:=hid (show c_m repTh (fun _=>False) V4 (cs++thC (atT s) none 0 0 none 0 0) (o_z starts (k+1)) from a_1 (fun b _ _ h=>h.elim) HF4.out);have HV4:=hid hV4;clear hV4
   go_wp2_with fail
   rw [←HV4.out]
   go_roundw
   case rel=>exact ⟨k+1,_,_,by omega,by go_num,HO5.out,HF5.out,HX5.out,HB5.out,HZ5.out⟩
   case measure=>rw [hwk];simp only [intOf];omega
  ·obtain rfl:k=sn:=by omega
   have HTA:=hid (n_p HSL.out);obtain ⟨a2,c2,e2,k1,k2,k3,VT⟩:=i_k (r:=repTh) (Q:=Q1) ho.out (b_7 (fun b hb=>hb.elim) hf.out) (fun b hb _=>HQ2.out.2.2 b (by have:=HSZ.out;omega));rw [HTA.out] at VT
   cases e2
   have HXE:=hid (show a_p wr G (woC (M.setTh va k vc) D) from hx.out);have hk:c_n (fun b=>Q1 b∧b < G) V wr:=b_L hb.out (fun _ h=>h.2);have hk2:c_n (fun b=>Q1 b∧b < W.heap.size) W wr:=b_L HBV2.out (fun _ h=>h.2)
   have HRE:=hid (show RWo Q1 wr (M.setTh va k vc) (j_W code starts ws ts D) from by
    rw [HMM.out];refine ⟨a_P (fun _ h=>h.1) (a_w hk2 HCO.out),a_k (fun _ h=>h.1) (a_q hk2 HWS.out),a_k (fun _ h=>h.1) (a_q hk2 HTS.out),?_,VT,c_Z,HCC.out,⟨k1,k2,k3⟩,b_C⟩;have h:=a_H hk (a_A (fun b h=>⟨h.1,by have:=h.2;have:=HS2.out;omega⟩) HBV.out)
    show BlP Q1 wr q k (List.replicate starts.length [])
    rw [HSL.out];exact a_A (fun _ h=>h.1) h)
   have HZE:=hid hz.out;have HBE:=hid (show Below w.heap.size w wr from a_b HB.out HBV2.out);clear hk hk2 VT k1 k2 k3 hf ho hx hz
   go_wp2_with (first | (refine wpList_load_mid rfl 33 _ rfl G 0 rfl (woC (M.setTh va k vc) D) _ (a_l HXE.out) Tryz.underlying33 rfl (by kernel_rfl) ?_) | (refine a_h rfl 33 _ _ rfl (w.heap.size+1) (woC (M.setTh va k vc) D).toArray rfl rfl _ HZE.out rfl (by kernel_rfl) (g_D _ _) ?_;intro U HU))
   have HZU:=hid (show a_p U (w.heap.size+1) (woC (M.setTh va k vc) D) by rw [HU.out];exact a_r HZE.out rfl);refine b_0 ⟨w.heap.size+1,0,none⟩ rfl rfl rfl (a_4 HZU.out 33 Tryz.underlying33 rfl (by kernel_rfl)) ?_;have hkU:c_n Q1 wr U:=by rw [HU.out];exact a_E (fun b hb=>by have:=HQ2.out.2.1 b hb;omega)
   exact m_5 (L:=M.setTh va k vc) rfl (e_y HQ2.out.1 (e_x hkU HRE.out)) (by rw [HU.out];exact a_m (by omega) HBE.out)
abbrev thZ (t:Thr):List Value:=thC t none 0 0 none 0 0
def Ths (n k:Nat) (starts:List Int) (TC:List Value):Prop:=TC.length=n*13∧∀ i,i < n→∀ j v,(thZ (if i < k then atT (starts.getD i 0) else d_d))[j]?=some v→TC[i*13+j]?=some v
theorem n_W (n:Nat) (h:n≤1000) (w:World):(Instr.makeSlice 24 (.int .i64 n) (.int .i64 n)).run Tryz.prog w=.ok (.slice (some ⟨w.heap.size,0,none⟩) n n) (w.alloc (.cells (madeCells (thZ d_d).toArray (n*13)) 46)):=by
 obtain ⟨i0,hi,hz0,hz1,hz2⟩:=info_parts l_U;have:=run_make (P:=Tryz.prog) w 24 46 i0 _ Tryz.underlying24 hi hz0 .i64 .i64 n n (by omega) (by omega) (by rw [hz2];omega) (by omega);rw [this,hz1,Int.toNat_natCast]
 rfl
theorem p_I (n:Nat) (starts:List Int):Ths n 0 starts (madeCells (thZ d_d).toArray (n*13)).toList:=by
 refine ⟨by simp [madeCells],fun i hi j v hv=>?_⟩;rw [if_neg (Nat.not_lt_zero _)] at hv;have hj:j < 13:=(List.getElem?_eq_some_iff.1 hv).1;have e:(i*13+j) % 13=j:=by omega
 simp only [madeCells,Array.toList_map,Array.toList_range,List.getElem?_map,List.getElem?_range (show i*13+j < n*13 by omega),Option.map_some];rw [show ((thZ d_d).toArray).size=13 from rfl,e,getElem!_def,List.getElem?_toArray,hv]
theorem p_J {n k:Nat} {starts:List Int} {TC:List Value} {s:Int} (h:Ths n k starts TC) (hk:k < n) (hs:starts.getD k 0=s):Ths n (k+1) starts (TC.set (k*13) (.int .i64 s)):=by
 refine ⟨by rw [List.length_set];exact h.1,fun i hi j v hv=>?_⟩;have hj:j < 13:=(List.getElem?_eq_some_iff.1 hv).1
 by_cases hik:i=k
 ·subst hik;rw [if_pos (Nat.lt_succ_self _),hs] at hv
  cases j with
  | zero =>
   rw [Nat.add_zero,List.getElem?_set_self (by have:=h.1;omega)];exact hv
  | succ j =>
   rw [List.getElem?_set_ne (by omega)];refine h.2 i hi (j+1) v ?_;rw [if_neg (Nat.lt_irrefl _)];exact hv
 ·rw [List.getElem?_set_ne (by omega)];refine h.2 i hi j v ?_
  by_cases h1:i < k
  ·rw [if_pos h1];rwa [if_pos (by omega)] at hv
  ·rw [if_neg h1];rwa [if_neg (by omega)] at hv
theorem p_H {Q:Nat→Prop} {w:World} {n:Nat} {starts:List Int} {TC:List Value} (h:Ths n n starts TC) (hl:starts.length=n):c_m repTh Q w TC (starts.map atT):=by
 refine e_R (by rw [h.1,List.length_map,hl];rfl) (fun i y hy=>?_);rw [List.getElem?_map] at hy;obtain ⟨s,hs,rfl⟩:=Option.map_eq_some_iff.1 hy;have hi:i < n:=by have:=(List.getElem?_eq_some_iff.1 hs).1;omega
 refine ⟨_,⟨none,0,none,0,rfl,o_L s⟩,fun j v hv=>h.2 i hi j v ?_⟩;rw [if_pos hi,List.getD_eq_getElem?_getD,hs];exact hv
def c_2 (code:List Ins) (starts ws ts:List Int) (D:Int):Int:=if b_q code=true then (if c_r ws ts starts.length D=0 then (if starts.all (fun s=>decide (0≤s∧s≤code.length))=true then 0 else 3) else c_r ws ts starts.length D) else 1
def d_8 (code:List Ins) (starts ws ts:List Int) (D:Int):Wo:=if c_2 code starts ws ts D=0 then j_W code starts ws ts D else zWo
theorem d_m {code:List Ins} {starts ws ts:List Int} {D E:Int} {w w':World} {v:Value} (hE:c_2 code starts ws ts D=E) (h0:E≠0) (hv:v=.tuple #[.agg woZ.toArray,.int .i64 E]) (hb:Below w.heap.size w w'):g_R (d_8 code starts ws ts D) E w (.returned v) w':=by
 subst hv;rw [d_8,if_neg (by rw [hE];exact h0)];exact ⟨n_c,rfl,c_u,hb⟩
theorem k_E {ws ts:List Int} {k D:Int} (h:c_r ws ts k D=0):c_E ws ts=true∧b_r k D=true:=by
 unfold c_r at h
 split at h
 ·rename_i h1
  split at h
  ·rename_i h2;exact ⟨h1,h2⟩
  ·omega
 ·omega
theorem f_c {Q Q':Nat→Prop} {w w':World}:∀ {is:List Ins} {cs:List Value},c_m repIns Q w cs is→c_m repIns Q' w' cs is
 | [],_,h=>h
 | _::_,_,⟨c,d,e,h1,h2⟩=>⟨c,d,e,h1,f_c h2⟩
theorem j_D {S:Nat→Prop} {w w1:World} {p:Addr} {v:Value} (h:Bel S w w1) (hv:w.cell? p=some v) (hn:¬ S p.block):w1.cell? p=some v:=(World.cell?_of_block (h.block p.block (b_g hv) hn)).trans hv
theorem m_v {w:World} {A B:Nat} {e:TypeId} {sz n:Nat} {v:Value} {cs:List Value} (hAB:A≤B) (h:w.ownsRow B e sz v n cs):w.ownsRow A e sz v n cs:=by
 obtain ⟨h1,h2 | ⟨g,cap,cur,a,b,c⟩⟩:=h
 ·exact ⟨h1,.inl h2⟩
 ·exact ⟨h1,.inr ⟨g,cap,cur,a,Nat.le_trans hAB b,c⟩⟩
def n_k (h lo T k:Nat) (L M:WoL) (D:Int) (ccs:List Value):a_6:=[isV 0 (.slice L.co.a L.co.n L.co.c),([1],fun vz w=>∃ x c,vz=[.slice x L.co.n c]∧Cap x L.co.n c∧w.ownsRow lo 66 4 (.slice x L.co.n c) L.co.n ccs),isV 2 (.agg #[.slice M.ws.a M.ws.n M.ws.c,.slice M.ts.a M.ts.n M.ts.c,.int .i64 D,.slice M.bs.a M.bs.n M.bs.c]),isV 3 (.slice (some ⟨T,0,none⟩) k k),([1,4],fun vz _=>∃ x c,vz=[.slice x L.co.n c,.agg #[.slice x L.co.n c,.slice M.ws.a M.ws.n M.ws.c,.slice M.ts.a M.ts.n M.ts.c,.int .i64 D,.slice M.bs.a M.bs.n M.bs.c,.slice (some ⟨T,0,none⟩) k k,.slice none 0 0]]),([4],fun vz w=>∃ x c,vz=[.agg #[.slice x L.co.n c,.slice M.ws.a M.ws.n M.ws.c,.slice M.ts.a M.ts.n M.ts.c,.int .i64 D,.slice M.bs.a M.bs.n M.bs.c,.slice (some ⟨T,0,none⟩) k k,.slice none 0 0]]∧a_p w (h+1) [.slice x L.co.n c,.slice M.ws.a M.ws.n M.ws.c,.slice M.ts.a M.ts.n M.ts.c,.int .i64 D,.slice M.bs.a M.bs.n M.bs.c,.slice (some ⟨T,0,none⟩) k k,.slice none 0 0]),isV 6 (.int .i64 0)]
theorem l_R (h lo T k:Nat) (L M:WoL) (D:Int) (ccs:List Value):b_E (n_k h lo T k  L M  D  ccs ):=a_c<|a_u (fun _ _ _ hb h=>by obtain ⟨x,c,h1,h2,h3⟩:=h;exact ⟨x,c,h1,h2,a_K h3 hb⟩)<|a_c<|a_c<|a_u (fun _ _ _ _ h=>h)<|a_u (fun _ _ _ hb h=>by obtain ⟨x,c,h1,h2⟩:=h;exact ⟨x,c,h1,a_f hb h2⟩)<|a_c<|a_2
theorem n_J (h lo T k:Nat) (L M:WoL) (D:Int) (ccs:List Value):∀ jz args wz wz',jz≠1→jz≠5→b_w (n_k h lo T k  L M  D  ccs ) jz args wz→b_w (n_k h lo T k  L M  D  ccs ) jz args wz':=by
 intro jz args wz wz' n0 n1 h
 match jz with
 | 0=>exact h
 | 1=>exact absurd rfl n0
 | 2=>exact h
 | 3=>exact h
 | 4=>exact h
 | 5=>exact absurd rfl n1
 | 6=>exact h
 | _+7=>exact trivial
theorem f_0 (L:WoL) (code:List Ins) (ws ts starts:List Int) (D:Int) (sa:Option Addr) (sn sc:Nat) (w:World) (C:Vs repIns Any w L.co.a L.co.n code) (hc:L.co.ok) (W1:SlP Any w L.ws.a L.ws.n ws) (T1:SlP Any w L.ts.a L.ts.n ts) (S:Sl w sa sn starts) (G:Glob w) :
  Calls Tryz.prog 9 #[.slice L.co.a L.co.n L.co.c,.slice sa sn sc,.agg #[.slice L.ws.a L.ws.n L.ws.c,.slice L.ts.a L.ts.n L.ts.c],.int .i64 D] w (g_R (d_8 code starts ws ts D) (c_2 code starts ws ts D) w):=by
 have HSL:=hid (show starts.length=sn from S.1);have HCL:=hid (show code.length=L.co.n from C.1);obtain ⟨W,hW⟩:=nm ((w.alloc (Obj.cells #[.slice L.ws.a L.ws.n L.ws.c,.slice L.ts.a L.ts.n L.ts.c] 26)).alloc (Obj.cells woZ.toArray 33));have HM:=N39;have HZ:=hid (show a_p W (w.heap.size+1) woZ by rw [hW];exact a_i _ _ (by simp));have HB:=N1;have HSZ:=N42;have ⟨HW,HCO,HWS,HTS,HS,HG,HCC⟩:=hh7 hW C W1 T1 S G hc;obtain ⟨E',hE'⟩:∃ E,c_2 code starts ws ts D=E:=⟨_,rfl⟩;rw [hE'];have HE':=hid hE';obtain ⟨Y,hY⟩:=mn (d_8 code starts ws ts D);rw [hY];have HY:=hid hY;have h0:=e_9 L.co.a L.co.n L.co.c code W (a_w (a_G HB.out) C) (by have h:=hc;unfold Sp.ok Cap at h;omega) (G.B HB.out);clear hW C W1 T1 S hc G hE' hY
 go_enter Tryz.func9,Tryz.ntmps9
 go_upto_region 1 with fail
 rw [←HW.out]
 cases hrc:b_q code with
 | false =>
  rw [hrc] at h0;have HC:=hid h0;have HEV:=hid (show E'=1 by rw [←HE'.out,c_2,hrc,if_neg (by decide)]);clear h0 hrc
  go_wp2_with fail
  refine HC.out.mono ?_;clear HC;rintro e1 w1 ⟨rfl,hb1⟩;have HB1:=hid (a_b HB.out hb1);have HZ1:=hid (a_f hb1 HZ.out);clear hb1
  go_wp2_with (refine a_h rfl 33 _ _ rfl (w.heap.size+1) woZ.toArray rfl rfl _ HZ1.out rfl (by kernel_rfl) (by simp [Value.oneCell']) ?_;intro V HV)
  refine a_j ⟨w.heap.size+1,0,none⟩ rfl rfl rfl (a_4 (show a_p V (w.heap.size+1) woZ by rw [HV.out];exact a_r HZ1.out rfl) 33 Tryz.underlying33 rfl (by kernel_rfl)) ?_;rw [←HY.out];exact d_m HE'.out (by rw [HEV.out];decide) (by rw [HEV.out];rfl) (by rw [HV.out];exact a_m (by omega) HB1.out)
 | true =>
  rw [hrc] at h0;have ⟨HC,HRC⟩:=hh2 h0 hrc;clear h0 hrc
  go_upto_region 3 with fail
  refine HC.out.mono ?_;clear HC;rintro e1 w1 ⟨rfl,hb1⟩;have HB1:=hid (a_b HB.out hb1);have HZ1:=hid (a_f hb1 HZ.out);have HM1:=hid (a_f hb1 HM.out);have HS1:=hid (show w.heap.size+2≤w1.heap.size by have:=hb1.size;have:=HSZ.out;omega);clear hb1;have h0:=k_Z L.ws.a L.ts.a L.ws.n L.ws.c L.ts.n L.ts.c ws ts sn D w1 (slB HB1.out HWS.out.sl) (slB HB1.out HTS.out.sl);have HC:=hid h0;clear h0;obtain ⟨m0,-⟩:=HM1.out 0 _ rfl;obtain ⟨m1,-⟩:=HM1.out 1 _ rfl
  go_wp2_with fail
  refine HC.out.mono ?_;clear HC m0 m1;rintro e2 w2 ⟨a,na,ca,a',na',ca',q,ql,qd,rfl,F1,F2,F3,hb2⟩;have HB2:=hid (a_b HB1.out hb2);have HZ2:=hid (a_f hb2 HZ1.out);have HS2:=hid (show w.heap.size+2≤w2.heap.size by have:=hb2.size;have:=HS1.out;omega);have HF:=hid (And.intro F1 (And.intro F2 F3));clear hb2 F1 F2 F3;obtain ⟨E2,hE2⟩:=mn (c_r ws ts sn D);obtain ⟨D2,hD2⟩:=mn (k_D ws ts sn D);rw [hE2,hD2];have ⟨HE2,HD2⟩:=hh2 hE2 hD2;clear hE2 hD2
  go_upto_region 4 with (refine a_h rfl 30 _ _ rfl w2.heap.size #[.slice a na ca,.slice a' na' ca',.int .i64 D2,.slice q ql qd] rfl rfl _ (a_i [.slice none 0 0,.slice none 0 0,.int .i64 0,.slice none 0 0] w2.heap.size rfl) rfl (by kernel_rfl) (by simp [Value.oneCell']) ?_;intro U HU)
  have HTU:=hid (show a_p U w2.heap.size [.slice a na ca,.slice a' na' ca',.int .i64 D2,.slice q ql qd] by rw [HU.out];exact a_r (a_i [.slice none 0 0,.slice none 0 0,.int .i64 0,.slice none 0 0] _ rfl) rfl);have HBU:=hid (show Below w.heap.size w U by rw [HU.out];exact a_m HB2.out.size (HB2.out.alloc HB2.out.size _));have HZU:=hid (show a_p U (w.heap.size+1) woZ by rw [HU.out];exact a_y (by have:=HS2.out;omega) (a_O _ HZ2.out));have HSU:=hid (show U.heap.size=w2.heap.size+1 by rw [HU.out,b_t];simp);have HKU:=hid (show c_n (fun b=>w1.heap.size≤b∧b < w2.heap.size) w2 U by rw [HU.out];exact b_M (h_N _ _) (a_E (fun b hb=>by omega)));clear HU
  by_cases h0:E2=0
  ·obtain ⟨hm,hs⟩:=k_E (HE2.out.trans h0);simp only [b_r,decide_eq_true_eq] at hs;have HN:=hid (show sn≤8 by omega);have HT:=hid (m_i hm (by simp only [b_r,decide_eq_true_eq];exact hs));clear hm hs;subst h0;have hmk:∀ w':World,(Instr.makeSlice 24 (.int .i64 sn) (.int .i64 sn)).run Tryz.prog w'=.ok (.slice (some ⟨w'.heap.size,0,none⟩) sn sn) (w'.alloc (.cells (madeCells (thZ d_d).toArray (sn*13)) 46)):=fun w'=>n_W sn (by have:=HN.out;omega) w'
   obtain ⟨V,hV⟩:=nm (U.alloc (.cells (madeCells (thZ d_d).toArray (sn*13)) 46));have HVV:=hid (show a_p V U.heap.size (madeCells (thZ d_d).toArray (sn*13)).toList by rw [hV];exact a_i (madeCells (thZ d_d).toArray (sn*13)).toList _ rfl);have HBV:=hid (show Below U.heap.size U V by rw [hV];go_grown);have HSV:=hid (show V.heap.size=U.heap.size+1 by rw [hV];simp);have HV:=hid hV;clear hV
   go_upto_region 7 with fail
   rw [←HV.out];obtain ⟨T,hT⟩:=mn (U.heap.size);have HTT:=hid hT;rw [hT] at HVV ⊢;clear hT hmk
   go_wp2_with fail
   go_loopw [36] (fun i wr=>∃ (k:Nat) (TC:List Value),k≤sn∧i=.int .i64 k∧Hid (a_p wr T TC)∧Hid (Ths sn k starts TC)∧Hid (∀ i,i < k→0≤starts.getD i 0∧starts.getD i 0≤L.co.n)∧Hid (Bel (fun c=>c=T) V wr)) (fun i _=>sn - (intOf i).toNat)
   case atStart=>exact ⟨0,_,Nat.zero_le _,rfl,HVV.out,p_I _ _,fun i hi=>absurd hi (Nat.not_lt_zero _),c_c (Below.refl _ _)⟩
   case round =>
    obtain ⟨k,TC,hk,rfl,hvt,hth,hin,hbe⟩:=hrel;have HBX:=hid (show Below w.heap.size w V from HBU.out.trans (HBV.out.mono HBU.out.size));have HBR:=hid (show Below w.heap.size w wr from HBX.out.trans (hbe.out.below (fun c hc=>by have:=HTT.out;have:=HBU.out.size;omega) HBX.out.size));have HZR:=hid (hbe.out.varN (fun e=>by have:=HTT.out;have:=HSU.out;have:=HS2.out;omega) (a_f HBV.out HZU.out));have HTR:=hid (hbe.out.varN (fun e=>by have:=HTT.out;have:=HSU.out;omega) (a_f HBV.out HTU.out))
    by_cases hlt:k < sn
    ·obtain ⟨b,o,rfl,hrow⟩:=HS.out.2.resolve_left (by omega);obtain ⟨s,hs⟩:=mn (starts.getD k 0);have hk2:k < starts.length:=by have:=HSL.out;omega
     have hc:=a_n HBR.out (hrow k hk2);rw [hs] at hc;have HSS:=hid hs;have i1:(0:Int)≤k:=by omega
     have i2:(k:Int) < sn:=by omega
     have hwk:=N102;have hl:k*13 < TC.length:=by rw [hth.out.1];omega
     obtain ⟨zz,zf⟩:=hvt.out (k*13) _ (List.getElem?_eq_getElem hl);clear hrow hs
     by_cases h1:0≤s
     ·by_cases h2:s≤L.co.n
      ·have n1:¬ s < 0:=by omega
       have n2:¬ (L.co.n:Int) < s:=by omega
       go_wp2_with fail
       go_roundw
       case rel=>exact ⟨k+1,_,by omega,by go_num,a_N hvt.out (k*13) hl (.int .i64 s),p_J hth.out hlt HSS.out,fun i hi=>by
        rcases Nat.lt_succ_iff_lt_or_eq.1 hi with h | rfl
        ·exact hin.out i h
        ·rw [HSS.out];exact ⟨h1,h2⟩,hbe.out.setCell (p:=⟨T,k*13,none⟩) rfl _⟩
       case measure=>rw [hwk];simp only [intOf];omega
      ·have n1:¬ s < 0:=by omega
       have n2:(L.co.n:Int) < s:=by omega
       exact J26
     ·have n1:s < 0:=by omega
      exact J26
    ·obtain rfl:k=sn:=by omega
     obtain ⟨M,hM⟩:∃ M:WoL,M=⟨zSp,⟨a,na,ca⟩,⟨a',na',ca'⟩,⟨q,ql,qd⟩,⟨some ⟨T,0,none⟩,k,k⟩,zSp⟩:=⟨_,rfl⟩;have HMM:=hid hM;obtain ⟨ccs,hc1,hc2⟩:=h_l (d_b HCO.out);have HTL:=hid (show w.heap.size+2≤T by have:=HTT.out;have:=HSU.out;have:=HS2.out;omega);have HVR:=hid hvt.out;have HFT:=hid (show ∀ w',c_m repTh (fun b=>w.heap.size≤b) w' TC (starts.map atT) from fun w'=>p_H hth.out HSL.out);have HDD:=hid (show D2=D from HD2.out.symm.trans HT.out.2.2.2.1)
     have HFW:=hid (show SlP (fun b=>w.heap.size+2≤b) wr M.ws.a M.ws.n ws∧SlP (fun b=>w.heap.size+2≤b) wr M.ts.a M.ts.n ts∧BlP (fun b=>w.heap.size+2≤b) wr M.bs.a M.bs.n (List.replicate starts.length []) from by
      obtain ⟨f1,f2,f3⟩:=HF.out;obtain ⟨-,t1,t2,-,t4⟩:=HT.out;rw [t1] at f1;rw [t2] at f2;rw [t4,Int.toNat_natCast] at f3;have hs1:=HS1.out;have k1:c_n (fun b=>w1.heap.size≤b∧b < w2.heap.size) w2 wr:=b_M HKU.out (b_M (b_L HBV.out (fun b h=>by have:=HSU.out;have:=h.2;omega)) (b_L (F:=T) (hbe.out.below (fun c hc=>by omega) (by have:=HTT.out;have:=HBV.out.size;omega)) (fun b h=>by have:=HTT.out;have:=HSU.out;have:=h.2;omega)));rw [hM,HSL.out];exact ⟨a_k (fun b h=>by have:=h.1;omega) (a_q k1 (d_k (fun b q h=>⟨q,h⟩) (c_o (fun b h=>h) f1))),a_k (fun b h=>by have:=h.1;omega) (a_q k1 (d_k (fun b q h=>⟨q,h⟩) (c_o (fun b h=>h) f2))),a_A (fun b h=>by have:=h.1;omega) (a_H k1 (f_A (fun b q h=>⟨q,h⟩) f3))⟩)
     have HEV:=hid (show E'=0 by
      have e2:=HE2.out;rw [←HSL.out] at e2;rw [←HE'.out,c_2,if_pos HRC.out,if_pos e2,if_pos];refine List.all_eq_true.2 (fun s hs=>?_);obtain ⟨i,hi,rfl⟩:=List.getElem_of_mem hs;have h:=hin.out i (by have:=HSL.out;omega);rw [List.getD_eq_getElem?_getD,List.getElem?_eq_getElem hi] at h;exact decide_eq_true (by rw [HCL.out];exact h))
     have HFC:=hid (a_1 (b_L HBR.out (fun _ h=>h.2)) hc1);have HCLN:=hid (show ∀ w',Bel (fun c=>c=w.heap.size+1) wr w'→Calls Tryz.prog 32 #[.slice L.co.a L.co.n L.co.c] w' (f_y 66 4 L.co.n ccs w') from fun w' hw'=>f_a L.co.a L.co.n L.co.c ccs w' (by rw [a_M hc1,HCL.out];rfl) (fun p hp j u hu=>j_D hw' (a_n HBR.out (hc2 p hp j u hu)) (by have h:=b_g (hc2 p hp j u hu);show ¬ (p.add j).block=w.heap.size+1;omega)) (d_y hc1) (fun e=>by have h:=HCC.out;unfold Sp.ok Cap at h;have:=h.2.2 e;omega) (by have:=(c_Y HRC.out).1;have:=HCL.out;omega));have HTE:=hid (show a_p wr w2.heap.size [.slice M.ws.a M.ws.n M.ws.c,.slice M.ts.a M.ts.n M.ts.c,.int .i64 D2,.slice M.bs.a M.bs.n M.bs.c] by rw [hM];exact HTR.out);have HGN:=hid (show ¬ (w2.heap.size=w.heap.size+1) by have:=HS2.out;omega);have HLO:=hid (show w.heap.size+1 < wr.heap.size by have:=a_z HZR.out (by simp);omega);have hG:=l_R w.heap.size wr.heap.size T k L M D2 ccs;clear hvt hc1 hc2 hlt hbe hM hth hin
     go_upto_region 14 with fail
     refine e_I [some 56,some 57,some 58,some 59,some 60,none,some 9] (fun w'=>Bel (fun c=>c=w.heap.size+1) wr w'∧∃ cs,cs.length=7∧a_p w' (w.heap.size+1) cs) (n_k w.heap.size wr.heap.size T k L M D2 ccs) 100 100 (fun _ _ _=>True) (by kernel_rfl) (by kernel_rfl) (by decide) rfl (⟨c_c ((Below.refl _ _).drew),_,rfl,a_f ((Below.refl _ _).drew) HZR.out⟩) ?_ ?_
     ·show StepsL _ _ _ _ _ _ _
      refine InvD.c (fun _ _ w1 C _ hK=>oR C hK (h:=by simp [execOp,go_sem,C.o 0 (.slice L.co.a L.co.n L.co.c)])) ?_;refine InvD.c (fun a1 vals w1 C K hK=>?_) ?_
      ·have e0:=C.i 0;rw [a_s] at e0;refine a_d rfl (a_x _ _ _ rfl 32 rfl [.slice L.co.a L.co.n L.co.c] (by simp only [List.map_cons,List.map_nil,e0]) (by kernel_rfl) ((HCLN.out w1 C.base.1).mono ?_));rintro e9 w2x ⟨x,c,rfl,hcap,how,hb2⟩;refine ⟨_,rfl,hK _ w2x ⟨x,c,rfl,hcap,m_v C.base.1.size how⟩ ⟨C.base.1.andB hb2,C.base.2.elim fun cs h=>⟨cs,h.1,a_f hb2 h.2⟩⟩ (fun j _ h=>hG j _ _ _ hb2 h) (fun _ _ _=>trivial) (fun _ _ _=>trivial) (fun _ _ _=>trivial) (fun _ _=>trivial)⟩
      refine InvD.c (fun a1 vals w1 C K hK=>?_) ?_
      ·have e0:=C.o 10 (.pointer (some ⟨w2.heap.size,0,none⟩));exact a_d rfl (wp_load_mid 30 _ rfl (w2.heap.size) (0) ((a_s a1 _).symm.trans e0) [.slice M.ws.a M.ws.n M.ws.c,.slice M.ts.a M.ts.n M.ts.c,.int .i64 D2,.slice M.bs.a M.bs.n M.bs.c] _ (a_l (C.base.1.varN HGN.out HTE.out)) Tryz.underlying30 rfl (by kernel_rfl) (b_k hK C rfl rfl))
      refine InvD.c (fun _ _ w1 C _ hK=>oR C hK (h:=by simp [execOp,go_sem,C.o 12 (.slice (some ⟨T,0,none⟩) k k)])) ?_;refine InvD.c (fun a1 vals w1 C K hK=>?_) ?_
      ·have e1:=C.t 1 57 rfl rfl;have e2:=C.i 2;have e3:=C.i 3;obtain ⟨x,c,h1,-⟩:=C.says 1 rfl;have h1:vals 1=.slice x L.co.n c:=List.head_eq_of_cons_eq h1;rw [h1] at e1;refine a_d rfl (a_o (v:=.agg #[.slice x L.co.n c,.slice M.ws.a M.ws.n M.ws.c,.slice M.ts.a M.ts.n M.ts.c,.int .i64 D2,.slice M.bs.a M.bs.n M.bs.c,.slice (some ⟨T,0,none⟩) k k,.slice none 0 0]) ?_ (b_k hK C rfl ⟨x,c,by show [vals 1,_]=_;rw [h1];rfl⟩));simp [execOp,go_sem,e1,e2,e3]
      refine InvD.c (fun a1 vals w1 C K hK=>?_) ?_
      ·have e0:a1.eval (.tmp 8)=.pointer (some ⟨w.heap.size+1,0,none⟩):=C.old 8 rfl;have e1:=C.v 4 60 rfl rfl;obtain ⟨x,c,h1⟩:=C.says 4 rfl;have h2:vals 4=.agg #[.slice x L.co.n c,.slice M.ws.a M.ws.n M.ws.c,.slice M.ts.a M.ts.n M.ts.c,.int .i64 D2,.slice M.bs.a M.bs.n M.bs.c,.slice (some ⟨T,0,none⟩) k k,.slice none 0 0]:=List.head_eq_of_cons_eq (List.tail_eq_of_cons_eq h1);rw [h2] at e1;obtain ⟨xs,hx1,hx2⟩:=C.base.2;refine a_d rfl (a_I 33 _ _ rfl (w.heap.size+1) #[.slice x L.co.n c,.slice M.ws.a M.ws.n M.ws.c,.slice M.ts.a M.ts.n M.ts.c,.int .i64 D2,.slice M.bs.a M.bs.n M.bs.c,.slice (some ⟨T,0,none⟩) k k,.slice none 0 0] e0 e1 xs hx2 (by rw [hx1];rfl) (by kernel_rfl) (by simp [Value.oneCell']) ?_);intro U HU;have hUx:a_p U (w.heap.size+1) [.slice x L.co.n c,.slice M.ws.a M.ws.n M.ws.c,.slice M.ts.a M.ts.n M.ts.c,.int .i64 D2,.slice M.bs.a M.bs.n M.bs.c,.slice (some ⟨T,0,none⟩) k k,.slice none 0 0]:=by rw [HU.out];exact a_r hx2 (by rw [hx1];rfl)
       refine hK _ U ⟨x,c,by show [vals 4]=_;rw [h2],hUx⟩ ⟨by rw [HU.out];exact d_e (S:=fun c=>c=w.heap.size+1) rfl C.base.1,_,rfl,hUx⟩ (fun jz hj h=>?_) (fun _ _ _=>trivial) (fun _ _ _=>trivial) (fun _ _ _=>trivial) (fun _ _=>trivial)
       by_cases j1:jz=1
       ·subst j1;obtain ⟨x,c,q1,q2,q3⟩:=h;exact ⟨x,c,q1,q2,by rw [HU.out];exact a_F (fun e=>by have:=(a_R q3 e).1;have:=HLO.out;omega) q3⟩
       ·exact n_J _ _ _ _ _ _ _ _ _ _ _ _ j1 hj h
      refine InvD.c (fun a1 vals w1 C K hK=>?_) ?_
      ·refine a_d rfl (a_o (v:=.int .i64 0) ?_ (b_k hK C rfl rfl));simp [execOp,go_sem,]
      exact StepsL.nil
     ·intro vals w1 hb hv hbo;obtain ⟨x,c,a1,a2,a3⟩:=b_x rfl (hv 1 (by decide));obtain ⟨x2,c2,b1⟩:=b_x rfl (hv 4 (by decide));obtain ⟨x3,c3,d1,d2⟩:=b_x rfl (hv 5 (by decide));have y6:vals 6=.int .i64 0:=List.head_eq_of_cons_eq (hv 6 (by decide));have a1:vals 1=.slice x L.co.n c:=List.head_eq_of_cons_eq a1;have b2:vals 4=_:=List.head_eq_of_cons_eq (List.tail_eq_of_cons_eq b1);have b1:vals 1=_:=List.head_eq_of_cons_eq b1;have d1:vals 4=_:=List.head_eq_of_cons_eq d1;rw [a1] at b1;rw [b2] at d1
      cases b1
      simp only [Value.agg.injEq,Array.mk.injEq,List.cons.injEq,Value.slice.injEq] at d1;obtain ⟨⟨rfl,-,rfl⟩,-⟩:=d1;simp only [b_Y,Act.put,sA,sB,sC,y6];have HX:=hid d2;have HB9:=hid (show Below w.heap.size w w1 from HBR.out.trans (hb.1.below (fun c hc=>by omega) HBR.out.size));have HK9:=hid (show c_n (fun b=>w.heap.size+2≤b) wr w1 from fun b o v hq hv=>j_D hb.1 hv (by show ¬ b=w.heap.size+1;omega));have HVT:=hid (show a_p w1 T TC from hb.1.varN (by have:=HTL.out;omega) HVR.out)
      have HRW:=hid (show RWo (fun b=>w.heap.size≤b) w1 ⟨⟨x,L.co.n,c⟩,M.ws,M.ts,M.bs,⟨some ⟨T,0,none⟩,k,k⟩,zSp⟩ (j_W code starts ws ts D) from by
       have T1:=h_m (Q:=fun b=>w.heap.size≤b) HVT.out (HFT.out w1) (by have:=HTL.out;omega);rw [List.length_map,HSL.out] at T1;exact ⟨m_w a3 (f_c HFC.out) HCL.out (fun q h=>by have:=(a_R a3 h).1;have:=HLO.out;omega),a_k (fun b h=>by omega) (a_q HK9.out HFW.out.1),a_k (fun b h=>by omega) (a_q HK9.out HFW.out.2.1),a_A (fun b h=>by omega) (a_H HK9.out HFW.out.2.2),T1,c_Z,a2,⟨Nat.le_refl _,by have:=HN.out;show k≤_;omega,fun e=>by cases e⟩,b_C⟩)
      clear hb hv hbo y6 d2 a1 a2 a3 b2 b1 hG
      go_wp2_with fail
      refine a_j ⟨w.heap.size+1,0,none⟩ rfl rfl rfl (a_4 HX.out 33 Tryz.underlying33 rfl (by kernel_rfl)) ?_;have HYN:=HY.out;rw [d_8,if_pos (HE'.out.trans HEV.out)] at HYN;subst HYN;exact ⟨_,by rw [HEV.out,HDD.out];rfl,HRW.out,HB9.out⟩
  ·have hb:(E2 != 0)=true:=by simpa using h0
   have HEV:=hid (show E'=E2 by
    have e2:=HE2.out;rw [←HSL.out] at e2;rw [←HE'.out,c_2,if_pos HRC.out,if_neg (by rw [e2];exact h0)];exact e2)
   have H0:=hid h0;clear h0
   go_wp2_with (refine a_h rfl 33 _ _ rfl (w.heap.size+1) woZ.toArray rfl rfl _ HZU.out rfl (by kernel_rfl) (by simp [Value.oneCell']) ?_;intro Z HZZ)
   refine a_j ⟨w.heap.size+1,0,none⟩ rfl rfl rfl (a_4 (show a_p Z (w.heap.size+1) woZ by rw [HZZ.out];exact a_r HZU.out rfl) 33 Tryz.underlying33 rfl (by kernel_rfl)) ?_;rw [←HY.out];exact d_m HE'.out (by rw [HEV.out];exact H0.out) (by rw [HEV.out];rfl) (by rw [HZZ.out];exact a_m (by omega) HBU.out)
end Go.Proofs.YtolabfafgbmdbaaGreatDoor
