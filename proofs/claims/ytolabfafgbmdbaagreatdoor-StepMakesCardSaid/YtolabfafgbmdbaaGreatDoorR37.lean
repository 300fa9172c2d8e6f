import Derived.Test.YtolabfafgbmdbaaGreatDoorR36
import Derived.BigRegion
import Derived.Test.YtolabfafgbmdbaaGreatDoorR0
set_option maxRecDepth 100000
set_option maxHeartbeats 16000000
namespace Go.Proofs.YtolabfafgbmdbaaGreatDoor
open Go.ChangeShapes Go.WideShapes Go.ChangeAt Go.RowKit
open Gen
open Lib (hid)
structure MArgs (w:World) (ca sa wa ta ha:Option Addr) (cn cc sn sc wn wk tn tc hn hz c6 s1 m1 m2 k1:Nat) (code:List Ins) (starts ws ts:List Int) (ths:List Thr):Prop where
 C:Vs repIns Any w ca c6 code
 S:Sl w sa s1 starts
 W:Sl w wa m1 ws
 T:Sl w ta m2 ts
 H:Vs repTh Any w ha k1 ths
 kc:cn≤cc∧cc≤9223372036854775807∧min cn 60=c6
 ks:sn≤sc∧sc≤9223372036854775807∧min sn 10=s1
 kw:wn≤wk∧wk≤9223372036854775807∧min wn 170=m1
 kt:tn≤tc∧tc≤9223372036854775807∧min tn 170=m2
 kh:hn≤hz∧hz≤9223372036854775807∧min hn 10=k1
 kn:ca=none→cc=0
 hwf:∀ t∈ths,∀ i,i < 8→(Lit.int .i64 (t.r i)).wf=true
 G:Glob w
def q_A (nV:Nat) (ca sa wa ta:Option Addr) (cn cc sn sc wn wk tn tc c6 s1 m1 m2:Nat):a_6:=[isV 0 (.slice ca cn cc),isV 1 (.slice ca cn cc),isV 2 (.int .i64 cn),isV 3 (.int .i64 c6),isV 4 (.slice ca c6 cc),isV 5 (.slice sa sn sc),isV 6 (.slice sa sn sc),isV 7 (.int .i64 sn),isV 8 (.int .i64 s1),isV 9 (.slice sa s1 sc),isV 10 (.slice wa wn wk),isV 11 (.slice ta tn tc),isV 12 (.agg #[.slice wa m1 wk,.slice ta m2 tc]),([13],fun vz w=>∃ g,vz=[.pointer (some ⟨g,0,none⟩)]∧nV≤g∧∃ xs,a_p w g xs∧xs.length=2),([14,0,1],fun vz _=>∃ u v,vz=[.slice ca c6 cc,u,v]),([15,5,6],fun vz _=>∃ u v,vz=[.slice sa s1 sc,u,v]),([13],fun vz w=>∃ g,vz=[.pointer (some ⟨g,0,none⟩)]∧nV≤g∧a_p w g [.slice wa m1 wk,.slice ta m2 tc])]
theorem n_L (nV:Nat) (ca sa wa ta:Option Addr) (cn cc sn sc wn wk tn tc c6 s1 m1 m2:Nat):b_E (q_A nV  ca sa wa ta  cn cc sn sc wn wk tn tc c6 s1 m1 m2 ):=a_c<|a_c<|a_c<|a_c<|a_c<|a_c<|a_c<|a_c<|a_c<|a_c<|a_c<|a_c<|a_c<|a_u (fun _ _ _ hb h=>by obtain ⟨g,h1,h2,xs,h3,h4⟩:=h;exact ⟨g,h1,h2,xs,a_f hb h3,h4⟩)<|a_u (fun _ _ _ _ h=>h)<|a_u (fun _ _ _ _ h=>h)<|a_u (fun _ _ _ hb h=>by obtain ⟨g,h1,h2,h3⟩:=h;exact ⟨g,h1,h2,a_f hb h3⟩)<|a_2
theorem o_9 (nV:Nat) (ca sa wa ta:Option Addr) (cn cc sn sc wn wk tn tc c6 s1 m1 m2:Nat):∀ jz args wz wz',jz≠13→jz≠16→b_w (q_A nV  ca sa wa ta  cn cc sn sc wn wk tn tc c6 s1 m1 m2 ) jz args wz→b_w (q_A nV  ca sa wa ta  cn cc sn sc wn wk tn tc c6 s1 m1 m2 ) jz args wz':=by
 intro jz args wz wz' n0 n1 h
 match jz with
 | 0=>exact h
 | 1=>exact h
 | 2=>exact h
 | 3=>exact h
 | 4=>exact h
 | 5=>exact h
 | 6=>exact h
 | 7=>exact h
 | 8=>exact h
 | 9=>exact h
 | 10=>exact h
 | 11=>exact h
 | 12=>exact h
 | 13=>exact absurd rfl n0
 | 14=>exact h
 | 15=>exact h
 | 16=>exact absurd rfl n1
 | _+17=>exact trivial
def q_O (L:WoL) (Y:Wo) (d:Int) (ca sa wa ta:Option Addr) (cc sc wk tc c6 s1 m1 m2:Nat):a_6:=[isV 0 (.int .i64 0),isV 1 (.bool false),isV 2 (.bool false),isV 3 (woV L Y.D),isV 4 (.slice ca c6 cc),isV 5 (.slice sa s1 sc),isV 6 (.agg #[.slice wa m1 wk,.slice ta m2 tc]),isV 7 (.int .i64 d),([8],fun vz w=>∃ L2,vz=[woV L2 Y.D]∧RWo Any w L2 Y),isV 9 (.bool true),isV 10 (.bool false),isV 11 (.bool false),isV 12 (.bool false),isV 13 (woV L Y.D),isV 14 (.bool true),isV 15 (.bool false),isV 16 (.bool false)]
theorem n_M (L:WoL) (Y:Wo) (d:Int) (ca sa wa ta:Option Addr) (cc sc wk tc c6 s1 m1 m2:Nat):b_E (q_O L  Y  d  ca sa wa ta  cc sc wk tc c6 s1 m1 m2 ):=a_c<|a_c<|a_c<|a_c<|a_c<|a_c<|a_c<|a_c<|a_u (fun _ _ _ hb h=>by obtain ⟨L2,h1,h2⟩:=h;exact ⟨L2,h1,b_O hb h2⟩)<|a_c<|a_c<|a_c<|a_c<|a_c<|a_c<|a_c<|a_c<|a_2
def q_P (M:WoL) (X2:Wo) (E2:Int) (r:Bool):a_6:=[isV 0 (woV M X2.D),isV 1 (.bool r),isV 2 (woV M X2.D),isV 3 (.bool r),isV 4 (.bool true),isV 5 (.bool true),isV 6 (.int .i64 E2),isV 7 (.bool (!r)),isV 8 (woV M X2.D),isV 9 (.bool r),isV 10 (.bool (!r)),isV 11 (.bool true),isV 12 (.bool true),isV 13 (.bool true)]
theorem n_O (M:WoL) (X2:Wo) (E2:Int) (r:Bool):b_E (q_P M  X2  E2  r ):=a_c<|a_c<|a_c<|a_c<|a_c<|a_c<|a_c<|a_c<|a_c<|a_c<|a_c<|a_c<|a_c<|a_c<|a_2
def q_B (h p u:Nat) (t:Thr) (fa la:Option Addr) (fn fc ln lc:Nat):a_6:=[isV 0 (.pointer (some ⟨h,9,none⟩)),isV 1 (.slice fa fn fc),isV 2 (.pointer (some ⟨h,9,none⟩)),isV 3 (.slice fa fn fc),isV 4 (.int .i64 fn),isV 5 (.int .i64 p),isV 6 (.slice fa p fc),isV 7 (.pointer (some ⟨h,12,none⟩)),isV 8 (.slice la ln lc),isV 9 (.pointer (some ⟨h,12,none⟩)),isV 10 (.slice la ln lc),isV 11 (.int .i64 ln),isV 12 (.int .i64 u),isV 13 (.slice la u lc),isV 14 (.pointer (some ⟨h,9,none⟩)),([15],fun vz w=>∃ x,vz=[x]∧a_p w h ((thC t fa fn fc la ln lc).set 9 (.slice fa p fc))),isV 16 (.pointer (some ⟨h,12,none⟩))]
theorem n_N (h p u:Nat) (t:Thr) (fa la:Option Addr) (fn fc ln lc:Nat):b_E (q_B h p u  t  fa la  fn fc ln lc ):=a_c<|a_c<|a_c<|a_c<|a_c<|a_c<|a_c<|a_c<|a_c<|a_c<|a_c<|a_c<|a_c<|a_c<|a_c<|a_u (fun _ _ _ hb h=>by obtain ⟨x,h1,h2⟩:=h;exact ⟨x,h1,a_f hb h2⟩)<|a_c<|a_2
theorem p_a (h p u:Nat) (t:Thr) (fa la:Option Addr) (fn fc ln lc:Nat):∀ jz args wz wz',jz≠15→b_w (q_B h p u  t  fa la  fn fc ln lc ) jz args wz→b_w (q_B h p u  t  fa la  fn fc ln lc ) jz args wz':=by
 intro jz args wz wz' n0 h
 match jz with
 | 0=>exact h
 | 1=>exact h
 | 2=>exact h
 | 3=>exact h
 | 4=>exact h
 | 5=>exact h
 | 6=>exact h
 | 7=>exact h
 | 8=>exact h
 | 9=>exact h
 | 10=>exact h
 | 11=>exact h
 | 12=>exact h
 | 13=>exact h
 | 14=>exact h
 | 15=>exact absurd rfl n0
 | 16=>exact h
 | _+17=>exact trivial
theorem g_b (ca sa wa ta ha:Option Addr) (cn cc sn sc wn wk tn tc hn hz c6 s1 m1 m2 k1:Nat) (code:List Ins) (starts ws ts:List Int) (ths:List Thr) (d:Int) (w:World) (H:MArgs w ca sa wa ta ha cn cc sn sc wn wk tn tc hn hz c6 s1 m1 m2 k1 code starts ws ts ths) :
  Calls Tryz.prog 3 #[.slice ca cn cc,.slice sa sn sc,.slice wa wn wk,.slice ta tn tc,.int .i64 d,.slice ha hn hz] w fun e w'=>e=.returned (.bool true)∧Below w.heap.size w w':=by
 have HG:=hid H.G
 have HM:=hid (fun w1=>show Calls Tryz.prog 8 #[.slice wa wn wk,.slice ta tn tc] w1 (fun e w'=>e=.returned (.agg #[.slice wa m1 wk,.slice ta m2 tc])∧Below w1.heap.size w1 w') by
  have h:=n_X wa ta wn tn wk tc w1 ⟨H.kw.1,H.kw.2.1⟩ ⟨H.kt.1,H.kt.2.1⟩;rw [H.kw.2.2,H.kt.2.2] at h;exact h)
 have HCC:=hid (show (if (60:Int) < (cn:Int) then (60:Int) else (cn:Int))=(c6:Int) by have:=H.kc;split <;> omega);have HSS:=hid (show (if (10:Int) < (sn:Int) then (10:Int) else (sn:Int))=(s1:Int) by have:=H.ks;split <;> omega);have i1:c6≤cc:=by have:=H.kc;omega
 have i2:s1≤sc:=by have:=H.ks;omega
 have HA:=hid H;clear H
 go_enter Tryz.func3,Tryz.ntmps3
 go_upto_region 1 with fail
 have hG:=n_L w.heap.size ca sa wa ta cn cc sn sc wn wk tn tc c6 s1 m1 m2;refine f_9 [some 23,some 24,some 25,some 26,some 27,some 28,some 29,some 30,some 31,some 32,some 33,some 34,some 35,some 13,some 0,some 1,none] (fun w'=>Below w.heap.size w w') (q_A w.heap.size ca sa wa ta cn cc sn sc wn wk tn tc c6 s1 m1 m2) 100 100 (fun _ _ _=>True) (by kernel_rfl) (by kernel_rfl) (by decide) rfl ((Below.refl _ _).drew) ?_ ?_
 ·show StepsL _ _ _ _ _ _ _
  refine InvF.cons rfl rfl rfl rfl rfl (fun a1 vals w1 C hf K hK=>?_) ?_
  ·exact J75
  refine InvF.cons rfl rfl rfl rfl rfl (fun a1 vals w1 C hf K hK=>?_) ?_
  ·exact J75
  refine InvF.cons rfl rfl rfl rfl rfl (fun a1 vals w1 C hf K hK=>?_) ?_
  ·have e0:=C.i 1;refine a_d rfl (a_o (v:=.int .i64 cn) ?_ (b_k hK C rfl rfl));simp [go_sem,e0]
  refine InvF.cons rfl rfl rfl rfl rfl (fun a1 vals w1 C hf K hK=>?_) ?_
  ·have e0:=C.i 2;refine a_d rfl (a_o (v:=.int .i64 c6) ?_ (b_k hK C rfl rfl));simp [go_sem,e0,HCC.out]
  refine InvF.cons rfl rfl rfl rfl rfl (fun a1 vals w1 C hf K hK=>?_) ?_
  ·have e0:=C.i 0;have e1:=C.i 3;refine a_d rfl (a_o (v:=.slice ca c6 cc) ?_ (b_k hK C rfl rfl));simp [execOp,go_sem,e0,e1,i1]
  refine InvF.cons rfl rfl rfl rfl rfl (fun a1 vals w1 C hf K hK=>?_) ?_
  ·exact J74
  refine InvF.cons rfl rfl rfl rfl rfl (fun a1 vals w1 C hf K hK=>?_) ?_
  ·exact J74
  refine InvF.cons rfl rfl rfl rfl rfl (fun a1 vals w1 C hf K hK=>?_) ?_
  ·have e0:=C.i 6;refine a_d rfl (a_o (v:=.int .i64 sn) ?_ (b_k hK C rfl rfl));simp [go_sem,e0]
  refine InvF.cons rfl rfl rfl rfl rfl (fun a1 vals w1 C hf K hK=>?_) ?_
  ·have e0:=C.i 7;refine a_d rfl (a_o (v:=.int .i64 s1) ?_ (b_k hK C rfl rfl));simp [go_sem,e0,HSS.out]
  refine InvF.cons rfl rfl rfl rfl rfl (fun a1 vals w1 C hf K hK=>?_) ?_
  ·have e0:=C.i 5;have e1:=C.i 8;refine a_d rfl (a_o (v:=.slice sa s1 sc) ?_ (b_k hK C rfl rfl));simp [execOp,go_sem,e0,e1,i2]
  refine InvF.cons rfl rfl rfl rfl rfl (fun a1 vals w1 C hf K hK=>?_) ?_
  ·have e0:=C.o 2 (.slice wa wn wk);refine a_d rfl (a_o (v:=.slice wa wn wk) ?_ (b_k hK C rfl rfl));simp [execOp,go_sem,e0]
  refine InvF.cons rfl rfl rfl rfl rfl (fun a1 vals w1 C hf K hK=>?_) ?_
  ·have e0:=C.o 3 (.slice ta tn tc);refine a_d rfl (a_o (v:=.slice ta tn tc) ?_ (b_k hK C rfl rfl));simp [execOp,go_sem,e0]
  refine InvF.cons rfl rfl rfl rfl rfl (fun a1 vals w1 C hf K hK=>?_) ?_
  ·have e0:=C.i 10;have e1:=C.i 11;rw [a_s] at e0 e1;refine a_d rfl (a_x _ _ _ rfl 8 rfl [.slice wa wn wk,.slice ta tn tc] (by simp only [List.map_cons,List.map_nil,e0,e1]) (by kernel_rfl) ((HM.out w1).mono ?_));rintro e9 w2' ⟨rfl,hb2⟩;exact J33
  refine InvF.cons rfl rfl rfl rfl rfl (fun a1 vals w1 C hf K hK=>?_) ?_
  ·have hbs:=C.base.size;have hA:Below w1.heap.size w1 (w1.alloc (Obj.cells #[.slice none 0 0,.slice none 0 0] 26)):=(Below.refl _ _).alloc (Nat.le_refl _) _;refine a_d rfl (a_o (v:=.pointer (some ⟨w1.heap.size,0,none⟩)) (w':=w1.alloc (Obj.cells #[.slice none 0 0,.slice none 0 0] 26)) ?_ (h_c hK hG (fun _ _ _ _ _ _=>trivial) hA rfl ⟨w1.heap.size,rfl,hbs,[.slice none 0 0,.slice none 0 0],a_i [.slice none 0 0,.slice none 0 0] _ rfl,rfl⟩ (C.base.alloc hbs _)));simp [execOp,go_sem]
  refine InvF.cons rfl rfl rfl rfl rfl (fun a1 vals w1 C hf K hK=>?_) ?_
  ·have e0:=C.i 4;refine a_d rfl (a_o (v:=.slice ca c6 cc) ?_ (b_k hK C rfl ⟨vals 0,vals 1,rfl⟩));simp [execOp,go_sem,e0]
  refine InvF.cons rfl rfl rfl rfl rfl (fun a1 vals w1 C hf K hK=>?_) ?_
  ·have e0:=C.i 9;refine a_d rfl (a_o (v:=.slice sa s1 sc) ?_ (b_k hK C rfl ⟨vals 5,vals 6,rfl⟩));simp [execOp,go_sem,e0]
  refine InvF.cons rfl rfl rfl rfl rfl (fun a1 vals w1 C hf K hK=>?_) ?_
  ·have e0:=C.v 13 13 rfl rfl;have e1:=C.i 12;rw [a_s] at e1;obtain ⟨g,g1,g2,xs,hx,hx2⟩:=C.says 13 rfl;have y0:=N117;rw [y0] at e0;refine a_d rfl (a_I 26 _ _ rfl g #[.slice wa m1 wk,.slice ta m2 tc] e0 e1 xs hx (by rw [hx2];rfl) (by kernel_rfl) (by simp [Value.oneCell']) ?_);intro U HU;have hUx:a_p U g [.slice wa m1 wk,.slice ta m2 tc]:=by rw [HU.out];exact a_r hx (by rw [hx2];rfl)
   refine hK _ U ⟨g,by show [vals 13]=_;rw [y0],g2,hUx⟩ (by rw [HU.out];exact a_m g2 C.base) (fun jz hj h=>?_) (fun _ _ _=>trivial) (fun _ _ _=>trivial) (fun _ _ _=>trivial) (fun _ _=>trivial)
   by_cases j13:jz=13
   ·subst j13;exact ⟨g,by show [vals 13]=_;rw [y0],g2,_,hUx,rfl⟩
   ·exact o_9 _ _ _ _ _ _ _ _ _ _ _ _ _ _ _ _ _ _ _ _ _ j13 hj h
  exact StepsL.nil
 ·intro vals w1 hb hv hbo;obtain ⟨g,g1,g2,hx⟩:=hv 16 (by decide);have y13:=N117;obtain ⟨_,_,q0⟩:=hv 14 (by decide);obtain ⟨_,_,q1⟩:=hv 15 (by decide);have y0:vals 14=.slice ca c6 cc:=List.head_eq_of_cons_eq q0;have y1:vals 15=.slice sa s1 sc:=List.head_eq_of_cons_eq q1;have ⟨HB1,HXM,HG2⟩:=hh3 hb hx g2;clear hb hv hbo g1 q0 q1 hG HM hx g2 HCC HSS;simp only [b_Y,Act.put,sA,sB,sC,y13,y0,y1];clear y13 y0 y1;have HMA:=hid (And.intro HA.out.kc (And.intro HA.out.ks HA.out.kn));obtain ⟨q0,-⟩:=HXM.out 0 _ rfl;obtain ⟨q1,-⟩:=HXM.out 1 _ rfl;have h0:=f_0 ⟨⟨ca,c6,cc⟩,⟨wa,m1,wk⟩,⟨ta,m2,tc⟩,zSp,zSp,zSp⟩ code ws ts starts d sa s1 sc w1 (e_h HB1.out HA.out.C) ⟨i1,HMA.out.1.2.1,HMA.out.2.2⟩ (n_b HB1.out (g_J HA.out.W)) (n_b HB1.out (g_J HA.out.T)) (slB HB1.out HA.out.S) (HG.out.B HB1.out);obtain ⟨E,hE⟩:=mn (c_2 code starts ws ts d);obtain ⟨Y,hY⟩:=mn (d_8 code starts ws ts d);rw [hE,hY] at h0;have ⟨HC,HE,HY⟩:=hh3 h0 hE hY;clear h0 hE hY
  go_wp2_with fail
  refine HC.out.mono ?_;clear HC q0 q1;rintro e2 w2 ⟨L,rfl,R2,hb2⟩;have HB2:=hid (a_b HB1.out hb2);have ⟨HBM2,HR2⟩:=hh2 hb2 R2;clear R2 hb2
  go_upto_region 3 with (refine a_h rfl 33 _ _ rfl w2.heap.size (woC L Y.D).toArray rfl rfl _ (a_i woZ w2.heap.size rfl) rfl (by kernel_rfl) (g_D _ _) ?_;intro V HV)
  have HX:=hid (show a_p V w2.heap.size (woC L Y.D) by rw [HV.out];exact a_r (a_i woZ _ rfl) rfl);have HBV0:=hid (show Below w2.heap.size w2 V by rw [HV.out];exact a_m (Nat.le_refl _) ((Below.refl _ _).alloc (Nat.le_refl _) _));have HBV:=hid (a_b HB2.out HBV0.out);have HSV:=hid (show V.heap.size=w2.heap.size+1 by rw [HV.out,b_t];simp);have HXMV:=hid (a_f (HBM2.out.trans (HBV0.out.mono HBM2.out.size)) HXM.out);have HRV:=hid (e_y (Q':=fun b=>w1.heap.size≤b∧b < w2.heap.size) (fun b h=>⟨h.1,h.2⟩) (b_O HBV0.out (m_E HR2.out)));clear HV HR2 HXM
  go_upto_region 5 with fail
  go_wp2_with fail
  have HSL:=hid (show starts.length=s1 from HA.out.S.1);have HN10:=hid (show s1≤10 by have:=HMA.out.2.1;omega);have HC60:=hid (show c6≤60 by have:=HMA.out.1;omega)
  go_loopw [16,18,46] (fun b _ i wr=>∃ k:Nat,k≤s1∧i=.int .i64 k∧b=.bool (i_9 c6 starts k)∧Hid (Below V.heap.size V wr)) (fun _ _ i _=>s1 - (intOf i).toNat)
  case atStart=>exact ⟨0,by omega,rfl,rfl,Below.refl _ _⟩
  case round =>
   obtain ⟨k,hk,rfl,rfl,hb⟩:=hrel
   by_cases hlt:k < s1
   ·have hbw:=a_b HBV.out hb.out;obtain ⟨b0,o0,rfl,hrow⟩:=HA.out.S.2.resolve_left (by omega);obtain ⟨s,hs⟩:=mn (starts.getD k 0);have hss:starts[k]?=some s:=by rw [←hs,List.getD_eq_getElem?_getD,List.getElem?_eq_getElem (by have:=HSL.out;omega)];rfl
    have hc:=a_n hbw (hrow k (by have:=HSL.out;omega));rw [hs] at hc;have HNX:=hid (k_O (n:=c6) hss);have i3:(0:Int)≤k:=by omega
    have i4:(k:Int) < s1:=by omega
    have hwk:wrap64 ((k:Int)+1)=k+1:=IntWalk.wrap64_in _ (by have:=HN10.out;omega);obtain ⟨b,hbb⟩:=mn (i_9 c6 starts k);rw [hbb] at HNX ⊢;clear hrow hs hss hbw hbb
    cases b with
    | true =>
     go_wp2_with fail
     go_roundw
     case rel=>exact ⟨k+1,by omega,by go_num,by rw [HNX.out];simp,hb⟩
     case measure=>rw [hwk];simp only [intOf];omega
    | false =>
     by_cases hs0:s < 0
     ·have e0:decide (s < 0)=true:=decide_eq_true hs0;exact J79
     ·have e0:decide (s < 0)=false:=decide_eq_false hs0;exact J79
   ·obtain rfl:s1=k:=by omega
    rw [m_u HSL.out];obtain ⟨rg,hrg⟩:=mn (starts.any (m_s c6));rw [hrg];have HRG:=hid hrg;have HBW:=hid (a_b HBV.out hb.out);have HBZ:=hid hb.out;clear hrg hb hk hlt;have HC:=hid (k_i wr (HG.out.B HBW.out))
    go_wp2_with fail
    refine HC.out.mono ?_;clear HC;rintro e3 w3 ⟨rfl,hb3⟩;have HBW3:=hid (a_b HBW.out hb3);have HBZ3:=hid (a_b HBZ.out hb3);clear hb3 HBW HBZ;obtain ⟨r1,hr1⟩:=mn (b_q code);have h0:=e_u ca c6 cc code w3 (e_h HBW3.out HA.out.C) (by have:=HC60.out;omega);rw [hr1] at h0;have ⟨HR1,HC⟩:=hh2 hr1 h0;clear h0 hr1
    go_wp2_with fail
    refine HC.out.mono ?_;clear HC;rintro e4 w4 ⟨rfl,hb4⟩;have HBW4:=hid (a_b HBW3.out hb4);have HBZ4:=hid (a_b HBZ3.out hb4);clear hb4 HBW3 HBZ3
    cases r1 with
    | false =>
     obtain rfl:E=1:=by rw [←HE.out];exact p_q HR1.out
     obtain rfl:Y=zWo:=by rw [←HY.out,d_8,if_neg (by rw [HE.out];decide)]
     have HRE:=hid (b_D (b_O HBZ4.out HRV.out));have HC:=hid (c_l L n_c zWo w4 HRE.out c_u (by have:=HRE.out.th.1;rw [←this];decide) (fun t h=>by cases h) (by decide) (by decide) (by decide) (by decide) (by have:=HRE.out.ev.1;rw [←this];decide));obtain ⟨y0,-⟩:=a_f HBZ4.out HX.out 0 _ rfl;obtain ⟨y1,-⟩:=a_f HBZ4.out HX.out 1 _ rfl;obtain ⟨y2,-⟩:=a_f HBZ4.out HX.out 2 _ rfl;obtain ⟨y3,-⟩:=a_f HBZ4.out HX.out 3 _ rfl;obtain ⟨y4,-⟩:=a_f HBZ4.out HX.out 4 _ rfl;obtain ⟨y5,-⟩:=a_f HBZ4.out HX.out 5 _ rfl;obtain ⟨y6,-⟩:=a_f HBZ4.out HX.out 6 _ rfl
     go_wp2_with fail
     refine HC.out.mono ?_;clear HC y0 y1 y2 y3 y4 y5 y6;rintro e9 w9 ⟨rfl,hb9⟩;have HBW9:=hid (a_b HBW4.out hb9);clear hb9
     go_wp2_with fail
     go_ret
     exact ⟨rfl,HBW9.out⟩
    | true =>
     obtain ⟨r2,hr2⟩:=mn (c_E ws ts);have h0:=c_X wa ta m1 wk m2 tc ws ts w4 (slB HBW4.out HA.out.W) (slB HBW4.out HA.out.T);rw [hr2] at h0;have ⟨HR2,HC⟩:=hh2 hr2 h0;obtain ⟨q0,-⟩:=a_f HBZ4.out HXMV.out 0 _ rfl;obtain ⟨q1,-⟩:=a_f HBZ4.out HXMV.out 1 _ rfl;clear h0 hr2
     go_wp2_with fail
     refine HC.out.mono ?_;clear HC q0 q1;rintro e5 w5 ⟨rfl,hb5⟩;have HBW5:=hid (a_b HBW4.out hb5);have HBZ5:=hid (a_b HBZ4.out hb5);clear hb5 HBW4 HBZ4
     cases r2 with
     | false =>
      obtain rfl:E=1:=by rw [←HE.out];exact p_r HR1.out HR2.out
      exact J1
     | true =>
      by_cases z1:(s1:Int) < 1
      ·have d1:decide ((s1:Int) < 1)=true:=decide_eq_true z1;obtain rfl:E=2:=by rw [←HE.out];exact g_8 HR1.out HR2.out (by have:=HSL.out;omega)
       exact J1
      ·have d1:decide ((s1:Int) < 1)=false:=decide_eq_false z1
       by_cases z2:(8:Int) < s1
       ·have d2:decide ((8:Int) < s1)=true:=decide_eq_true z2;obtain rfl:E=2:=by rw [←HE.out];exact g_8 HR1.out HR2.out (by have:=HSL.out;omega)
        exact J1
       ·have d2:decide ((8:Int) < s1)=false:=decide_eq_false z2
        by_cases z3:d < 0
        ·have d3:decide (d < 0)=true:=decide_eq_true z3;obtain rfl:E=2:=by rw [←HE.out];exact g_8 HR1.out HR2.out (by have:=HSL.out;omega)
         exact J1
        ·have d3:decide (d < 0)=false:=decide_eq_false z3
         by_cases z4:8 < d
         ·have d4:decide (8 < d)=true:=decide_eq_true z4;obtain rfl:E=2:=by rw [←HE.out];exact g_8 HR1.out HR2.out (by have:=HSL.out;omega)
          exact J1
         ·have d4:decide (8 < d)=false:=decide_eq_false z4;have HSZ:=hid (show 1≤starts.length∧starts.length≤8∧0≤d∧d≤8 by have:=HSL.out;omega);have HCN:=hid (show code.length=c6 from HA.out.C.1)
          cases rg with
          | true =>
           obtain rfl:E=3:=by rw [←HE.out];exact p_t HR1.out HR2.out HSZ.out (by rw [HCN.out];exact HRG.out)
           exact J1
          | false =>
           obtain rfl:E=0:=by rw [←HE.out];exact p_s HR1.out HR2.out HSZ.out (by rw [HCN.out];exact HRG.out)
           have HYN:=hid (show Y=j_W code starts ws ts d by rw [←HY.out,d_8,if_pos HE.out]);have HRY:=hid (show a_5 Y=true by rw [HYN.out];exact k_S HR1.out HR2.out ⟨HSZ.out.1,HSZ.out.2.1⟩ ⟨HSZ.out.2.2.1,HSZ.out.2.2.2⟩ (m_t (by rw [HCN.out];exact HRG.out)));have HX5:=hid (a_f HBZ5.out HX.out);have HXM5:=hid (a_f HBZ5.out HXMV.out);have HRW5:=hid (b_O HBZ5.out HRV.out)
           have HNEW:=hid (fun (w1:World) (hb:Below w5.heap.size w5 w1)=>show Calls Tryz.prog 14 #[.slice ca c6 cc,.slice sa s1 sc,.agg #[.slice wa m1 wk,.slice ta m2 tc],.int .i64 d] w1 (l_k Any Y w1) by
            rw [HYN.out];exact n_3 Any ⟨⟨ca,c6,cc⟩,⟨wa,m1,wk⟩,⟨ta,m2,tc⟩,zSp,zSp,zSp⟩ code ws ts starts d sa s1 sc w1 (e_h (a_b HBW5.out hb) HA.out.C) (n_b (a_b HBW5.out hb) (g_J HA.out.W)) (n_b (a_b HBW5.out hb) (g_J HA.out.T)) (slB (a_b HBW5.out hb) HA.out.S) (fun _ _=>trivial) (by have:=HSL.out;have:=HSZ.out;omega) ⟨i1,HMA.out.1.2.1,HMA.out.2.2⟩)
           have HL8:=hid (show L.th.n≤8∧L.ev.n=0 by have h1:=HRV.out.th.1;have h2:=HRV.out.ev.1;rw [HYN.out] at h1 h2;simp only [j_W,List.length_map,List.length_nil] at h1 h2;have:=HSZ.out;omega)
           have HYS:=hid (show (∀ t∈Y.th,t.fs.length≤1000000)∧Y.code.length≤50001∧Y.ws.length≤1000∧Y.ts.length≤1000∧Y.bs.length≤1000 by
            rw [HYN.out];have a1:=HA.out.W.1;have a2:=HA.out.T.1;have a3:=HA.out.kw;have a4:=HA.out.kt;have a5:=HC60.out;have a6:=HCN.out;refine ⟨fun t ht=>?_,by show code.length≤_;omega,by show ws.length≤_;omega,by show ts.length≤_;omega,by simp only [j_W,List.length_replicate];have:=HSZ.out;omega⟩;obtain ⟨s,-,rfl⟩:=List.mem_map.1 ht;exact Nat.zero_le _)
           have HSAME:=hid (fun (w1:World) (L2:WoL) (hb:Below w5.heap.size w5 w1) (hr:RWo Any w1 L2 Y)=>c_l L L2 Y w1 (b_D (b_O hb HRW5.out)) hr HL8.out.1 HYS.out.1 HYS.out.2.1 HYS.out.2.2.1 HYS.out.2.2.2.1 HYS.out.2.2.2.2 (by have:=HL8.out.2;omega))
           have HRIGHT:=hid (fun (w1:World) (hb:Below w5.heap.size w5 w1)=>show Calls Tryz.prog 15 #[woV L Y.D] w1 (a_B true w1) by
            have h:=d_l L Y w1 (b_D (b_O hb HRW5.out)) (HG.out.B (a_b HBW5.out hb));rw [HRY.out] at h;exact h)
           go_upto_region 17 with fail
           have hG:=n_M L Y d ca sa wa ta cc sc wk tc c6 s1 m1 m2;refine f_9 [some 113,some 114,some 115,some 116,some 117,some 118,some 119,some 120,some 121,some 122,some 123,some 124,some 125,some 126,some 127,some 128,some 129] (fun w'=>Below w5.heap.size w5 w') (q_O L Y d ca sa wa ta cc sc wk tc c6 s1 m1 m2) 100 100 (fun _ _ _=>True) (by kernel_rfl) (by kernel_rfl) (by decide) rfl ((Below.refl _ _).drew) ?_ ?_
           ·show StepsL _ _ _ _ _ _ _
            refine InvF.cons rfl rfl rfl rfl rfl (fun a1 vals w1 C hf K hK=>?_) ?_
            ·have e0:=C.o 15 (.int .i64 0);refine a_d rfl (a_o (v:=.int .i64 0) ?_ (b_k hK C rfl rfl));simp [execOp,go_sem,e0]
            refine InvF.cons rfl rfl rfl rfl rfl (fun a1 vals w1 C hf K hK=>?_) ?_
            ·have e0:=C.i 0;exact J76
            refine InvF.cons rfl rfl rfl rfl rfl (fun a1 vals w1 C hf K hK=>?_) ?_
            ·have e0:=C.i 1;exact J76
            refine InvF.cons rfl rfl rfl rfl rfl (fun a1 vals w1 C hf K hK=>?_) ?_
            ·have e0:=N110;exact b_o (a_Z rfl (C.is 2 115 (.bool false) rfl rfl rfl rfl) rfl) (wp_load_mid 33 _ rfl w2.heap.size 0 ((a_s a1 _).symm.trans e0) (woC L Y.D) _ (a_l (a_f C.base HX5.out)) Tryz.underlying33 rfl (by kernel_rfl) (b_k hK C rfl rfl))
            refine InvF.cons rfl rfl rfl rfl rfl (fun a1 vals w1 C hf K hK=>?_) ?_
            ·have e0:=C.o 0 (.slice ca c6 cc);refine b_o (a_Z rfl (C.is 2 115 (.bool false) rfl rfl rfl rfl) rfl) (a_o (v:=.slice ca c6 cc) ?_ (b_k hK C rfl rfl));simp [execOp,go_sem,e0]
            refine InvF.cons rfl rfl rfl rfl rfl (fun a1 vals w1 C hf K hK=>?_) ?_
            ·have e0:=C.o 1 (.slice sa s1 sc);refine b_o (a_Z rfl (C.is 2 115 (.bool false) rfl rfl rfl rfl) rfl) (a_o (v:=.slice sa s1 sc) ?_ (b_k hK C rfl rfl));simp [execOp,go_sem,e0]
            refine InvF.cons rfl rfl rfl rfl rfl (fun a1 vals w1 C hf K hK=>?_) ?_
            ·have e0:=C.o 13 (.pointer (some ⟨g,0,none⟩));exact b_o (a_Z rfl (C.is 2 115 (.bool false) rfl rfl rfl rfl) rfl) (wp_load_mid 26 _ rfl g 0 ((a_s a1 _).symm.trans e0) [.slice wa m1 wk,.slice ta m2 tc] _ (a_l (a_f C.base HXM5.out)) Tryz.underlying26 rfl (by kernel_rfl) (b_k hK C rfl rfl))
            refine InvF.cons rfl rfl rfl rfl rfl (fun a1 vals w1 C hf K hK=>?_) ?_
            ·have e0:=C.o 4 (.int .i64 d);refine b_o (a_Z rfl (C.is 2 115 (.bool false) rfl rfl rfl rfl) rfl) (a_o (v:=.int .i64 d) ?_ (b_k hK C rfl rfl));simp [execOp,go_sem,e0]
            refine InvF.cons rfl rfl rfl rfl rfl (fun a1 vals w1 C hf K hK=>?_) ?_
            ·have e0:=C.i 4;have e1:=C.i 5;have e2:=C.i 6;have e3:=C.i 7;rw [a_s] at e0 e1 e2 e3;refine b_o (a_Z rfl (C.is 2 115 (.bool false) rfl rfl rfl rfl) rfl) (a_x _ _ _ rfl 14 rfl [.slice ca c6 cc,.slice sa s1 sc,.agg #[.slice wa m1 wk,.slice ta m2 tc],.int .i64 d] (by simp only [List.map_cons,List.map_nil,e0,e1,e2,e3]) (by kernel_rfl) ((HNEW.out w1 C.base).mono ?_));rintro e9 w2' ⟨L2,rfl,hR,hb2⟩;exact ⟨_,rfl,h_c hK hG (fun _ _ _ _ _ _=>trivial) hb2 rfl ⟨L2,rfl,hR⟩ (a_b C.base hb2)⟩
            refine InvF.cons rfl rfl rfl rfl rfl (fun a1 vals w1 C hf K hK=>?_) ?_
            ·have e0:=C.i 3;have e1:=C.t 8 121 rfl rfl;obtain ⟨L2,n1,n2⟩:=C.says 8 rfl;have n1:vals 8=woV L2 Y.D:=List.head_eq_of_cons_eq n1;rw [n1] at e1;rw [a_s] at e0 e1;refine b_o (a_Z rfl (C.is 2 115 (.bool false) rfl rfl rfl rfl) rfl) (a_x _ _ _ rfl 13 rfl [woV L Y.D,woV L2 Y.D] (by simp only [List.map_cons,List.map_nil,e0,e1]) (by kernel_rfl) ((HSAME.out w1 L2 C.base n2).mono ?_));rintro e9 w2' ⟨rfl,hb2⟩;exact J33
            refine InvF.cons rfl rfl rfl rfl rfl (fun a1 vals w1 C hf K hK=>?_) ?_
            ·have e0:=C.i 9;refine b_o (a_Z rfl (C.is 2 115 (.bool false) rfl rfl rfl rfl) rfl) (a_o (v:=.bool false) ?_ (b_k hK C rfl rfl));simp [execOp,go_sem,e0]
            refine InvF.cons rfl rfl rfl rfl rfl (fun a1 vals w1 C hf K hK=>?_) ?_
            ·have e0:=C.i 2;have e1:=C.i 10;refine a_d rfl (a_o (v:=.bool false) ?_ (b_k hK C rfl rfl));simp [execOp,go_sem,e0,e1]
            refine InvF.cons rfl rfl rfl rfl rfl (fun a1 vals w1 C hf K hK=>?_) ?_
            ·have e0:=C.i 11;exact J76
            refine InvF.cons rfl rfl rfl rfl rfl (fun a1 vals w1 C hf K hK=>?_) ?_
            ·have e0:=N110;exact b_o (a_Z rfl (C.is 12 125 (.bool false) rfl rfl rfl rfl) rfl) (wp_load_mid 33 _ rfl w2.heap.size 0 ((a_s a1 _).symm.trans e0) (woC L Y.D) _ (a_l (a_f C.base HX5.out)) Tryz.underlying33 rfl (by kernel_rfl) (b_k hK C rfl rfl))
            refine InvF.cons rfl rfl rfl rfl rfl (fun a1 vals w1 C hf K hK=>?_) ?_
            ·have e0:=C.i 13;rw [a_s] at e0;refine b_o (a_Z rfl (C.is 12 125 (.bool false) rfl rfl rfl rfl) rfl) (a_x _ _ _ rfl 15 rfl [woV L Y.D] (by simp [e0]) (by kernel_rfl) ((HRIGHT.out w1 C.base).mono ?_));rintro e9 w2' ⟨rfl,hb2⟩;exact J33
            refine InvF.cons rfl rfl rfl rfl rfl (fun a1 vals w1 C hf K hK=>?_) ?_
            ·have e0:=C.i 14;refine b_o (a_Z rfl (C.is 12 125 (.bool false) rfl rfl rfl rfl) rfl) (a_o (v:=.bool false) ?_ (b_k hK C rfl rfl));simp [execOp,go_sem,e0]
            refine InvF.cons rfl rfl rfl rfl rfl (fun a1 vals w1 C hf K hK=>?_) ?_
            ·have e0:=C.i 12;have e1:=C.i 15;refine a_d rfl (a_o (v:=.bool false) ?_ (b_k hK C rfl rfl));simp [execOp,go_sem,e0,e1]
            exact StepsL.nil
           ·intro vals w1 hb hv hbo;have y0:vals 0=.int .i64 0:=List.head_eq_of_cons_eq (hv 0 (by decide));have y1:vals 1=.bool false:=List.head_eq_of_cons_eq (hv 1 (by decide));have y2:vals 2=.bool false:=List.head_eq_of_cons_eq (hv 2 (by decide));have y3:vals 3=woV L Y.D:=List.head_eq_of_cons_eq (hv 3 (by decide));have y4:vals 4=.slice ca c6 cc:=List.head_eq_of_cons_eq (hv 4 (by decide));have y5:vals 5=.slice sa s1 sc:=List.head_eq_of_cons_eq (hv 5 (by decide));have y6:vals 6=.agg #[.slice wa m1 wk,.slice ta m2 tc]:=List.head_eq_of_cons_eq (hv 6 (by decide));have y7:vals 7=.int .i64 d:=List.head_eq_of_cons_eq (hv 7 (by decide));have y9:vals 9=.bool true:=List.head_eq_of_cons_eq (hv 9 (by decide));have y10:vals 10=.bool false:=List.head_eq_of_cons_eq (hv 10 (by decide));have y11:=N107;have y12:vals 12=.bool false:=List.head_eq_of_cons_eq (hv 12 (by decide));have y13:vals 13=woV L Y.D:=List.head_eq_of_cons_eq (hv 13 (by decide));have y14:vals 14=.bool true:=List.head_eq_of_cons_eq (hv 14 (by decide));have y15:vals 15=.bool false:=List.head_eq_of_cons_eq (hv 15 (by decide));have y16:vals 16=.bool false:=List.head_eq_of_cons_eq (hv 16 (by decide));simp only [b_Y,Act.put,sA,sB,sC,Nat.reduceAdd,y0,y1,y2,y3,y4,y5,y6,y7,y9,y10,y11,y12,y13,y14,y15,y16];have HB6:=hid hb;clear hb hv hbo y0 y1 y2 y3 y4 y5 y6 y7 y9 y10 y11 y12 y13 y14 y15 y16 hG HNEW HSAME HRIGHT;have HBW6:=hid (a_b HBW5.out HB6.out);have HBZ6:=hid (a_b HBZ5.out HB6.out);clear HB6 HX5 HXM5 HRW5 HBW5 HBZ5;have HBV6:=hid (show Below w2.heap.size V w1 from HBZ6.out.mono (by have:=HSV.out;omega))
            have HX6:=hid (a_f HBZ6.out HX.out);obtain ⟨z5,f5⟩:=HX6.out 5 _ rfl;obtain ⟨Z,hZ⟩:=nm (w1.setCell ⟨w2.heap.size,5,none⟩ (.slice none 0 0));have HXZ:=hid (show a_p Z w2.heap.size ((woC L Y.D).set 5 (.slice none 0 0)) by rw [hZ];exact a_N HX6.out 5 (by simp) _);have HBZ:=hid (show Below w2.heap.size V Z by rw [hZ];exact HBV6.out.setCell (p:=⟨w2.heap.size,5,none⟩) (Nat.le_refl _) _);have HSV2:=hid (show V.heap.size≤Z.heap.size by have:=HBZ.out.size;exact this);have HZ:=hid hZ;have HKK:=hid (show (if (10:Int) < (hn:Int) then (10:Int) else (hn:Int))=(k1:Int) by have:=HA.out.kh;split <;> omega);have i5:k1≤hz:=by have:=HA.out.kh;omega
            have HK10:=hid (show k1≤10 by have:=HA.out.kh;omega);have HTH:=hid (show Vs repTh (fun b=>b < w.heap.size) w ha k1 ths from a_P (fun b h=>h.2) (d_b HA.out.H));have HTL:=hid (show ths.length=k1 from HA.out.H.1);obtain ⟨jx,ki,kz0,kz1,kz2⟩:=info_parts l_U;have HJ:=N87;clear hZ HX6 HBV6 ki kz0 kz1 kz2
            go_upto_region 20 with fail
            have e5:=HKK.out
            go_wp2_with fail
            rw [←HZ.out];clear e5 z5 f5
            go_loopw [20,137] (fun _ i wr=>∃ (k:Nat) (v:Value) (cs:List Value),k≤k1∧i=.int .i64 k∧Hid (wr.ownsRow (w2.heap.size+1) 46 13 v k cs)∧Hid (c_m repTh (fun b=>b < w.heap.size) wr cs (g_Z ths k))∧Hid (a_p wr w2.heap.size ((woC L Y.D).set 5 v))∧Hid (Below w2.heap.size V wr)) (fun _ i _=>k1 - (intOf i).toNat)
            case atStart=>exact ⟨0,.slice none 0 0,[],by omega,rfl,World.ownsRow_nil _ _ _ _,rfl,HXZ.out,HBZ.out⟩
            case round =>
             obtain ⟨k,v,cs,hk,rfl,ho,hf,hx,hb⟩:=hrel;obtain ⟨va,vc,rfl⟩:=c_U ho.out;have hsx:=a_z hx.out (by simp);have HBW7:=hid (show Below w.heap.size w wr from HBV.out.trans (hb.out.mono (by have:=HB2.out.size;omega)));obtain ⟨wo,hwo⟩:=nm (wr);subst hwo
             by_cases hlt:k < k1
             ·obtain ⟨b,o,t,fa,fc,la,lc,rfl,htt,hbl,TQ,hr⟩:=d_1 HTH.out hlt;obtain ⟨fn,hfn⟩:=mn (t.fs.length);obtain ⟨ln,hln⟩:=mn (t.lf.length);rw [hfn,hln] at TQ hr;obtain ⟨p,hp⟩:=mn (min fn 8);obtain ⟨u,hu⟩:=mn (min ln 10);have HF8:=hid (show (if (8:Int) < (fn:Int) then (8:Int) else (fn:Int))=(p:Int) by split <;> omega);have HL10:=hid (show (if (10:Int) < (ln:Int) then (10:Int) else (ln:Int))=(u:Int) by split <;> omega);have i6:p≤fc:=by have:=TQ.fcap.1;omega
              have i7:u≤lc:=by have:=TQ.lcap.1;omega
              have HTC:=hid (show ThQ (fun b=>b < w.heap.size) w fa p fc la u lc (j_J t) from ⟨⟨i6,TQ.fcap.2⟩,by rw [j_J,←i_f (k:=8) hfn,hp];exact f_7 TQ.fs p (by omega),⟨i7,TQ.lcap.2⟩,by rw [j_J,←i_f (k:=10) hln,hu];exact f_7 TQ.lf u (by omega)⟩);have HTCn:=hid (show (j_J t).fs.length=p∧(j_J t).lf.length=u by simp only [j_J,List.length_take];omega);have HRA:=hid (show wo.rangeAt b (o+k*13) (thC t fa fn fc la ln lc) from fun x v hx=>a_n HBW7.out (hr x v hx));have HNX:=hid (k_r htt);have i3:(0:Int)≤k:=by omega
              have i4:(k:Int) < k1:=by omega
              have hwk:wrap64 ((k:Int)+1)=k+1:=IntWalk.wrap64_in _ (by have:=HK10.out;omega);clear hfn hln hp hu TQ hr htt
              go_upto_region 23 with (first | (refine wpList_load_mid rfl 46 _ rfl b (o+k*13) rfl (thC t fa fn fc la ln lc) _ HRA.out Tryz.underlying46 rfl (by kernel_rfl) ?_) | (refine a_h rfl 46 _ _ rfl wo.heap.size (thC t fa fn fc la ln lc).toArray rfl rfl _ (a_i thN wo.heap.size rfl) rfl (by kernel_rfl) (a_V _ _ _ _ _ _ _) ?_;intro U HU))
              have HXU:=hid (show a_p U wo.heap.size (thC t fa fn fc la ln lc) by rw [HU.out];exact a_r (a_i thN _ rfl) rfl);have HBU:=hid (show Below wo.heap.size wo U by rw [HU.out];exact a_m (Nat.le_refl _) ((Below.refl _ _).alloc (Nat.le_refl _) _));have HOU:=hid (show U.ownsRow (w2.heap.size+1) 46 13 (.slice va k vc) k cs by rw [HU.out];exact a_F (fun h=>by have:=(ho.out.lt _ h).2;omega) (ho.out.alloc _));clear HU HRA;obtain ⟨x9,g9⟩:=HXU.out 9 _ rfl;obtain ⟨x12,g12⟩:=HXU.out 12 _ rfl;clear x9 g9 x12 g12;have hG:=n_N wo.heap.size p u t fa la fn fc ln lc
              go_upto_region 23 with fail
              have hb'':=hb;refine d_3 17 15 [1,3,8,10] rfl [some 141,some 142,some 143,some 144,some 145,some 146,some 147,some 148,some 149,some 150,some 151,some 152,some 153,some 154,some 155,none,some 156] (fun bl w'=>(bl=false→a_p w' wo.heap.size (thC t fa fn fc la ln lc))∧Bel (fun c=>c=wo.heap.size) U w') (q_B wo.heap.size p u t fa la fn fc ln lc) 100 100 (fun _ _ _=>True) (by kernel_rfl) (by kernel_rfl) (by decide) rfl rfl (⟨fun _=>a_f ((Below.refl _ _).drew) HXU.out,c_c ((Below.refl _ _).drew)⟩) ?_
              show StepsL _ _ _ _ _ _ _
              refine InvU.c (fun _ _ w1 _ hbl _ C _ hK=>oR C hK (h:=by simp [execOp,go_sem,C.o 20 (.pointer (some ⟨wo.heap.size,0,none⟩))])) ?_;refine InvU.c (fun a1 vals w1 bl hbl hdf C K hK=>?_) ?_
              ·have e0:=C.i 0;exact J89
              refine InvU.c (fun _ _ w1 _ hbl _ C _ hK=>oR C hK (h:=by simp [execOp,go_sem,C.o 20 (.pointer (some ⟨wo.heap.size,0,none⟩))])) ?_;refine InvU.c (fun a1 vals w1 bl hbl hdf C K hK=>?_) ?_
              ·have e0:=C.i 2;exact J89
              refine InvU.c (fun a1 vals w1 bl hbl hdf C K hK=>?_) ?_
              ·have e0:=C.i 3;refine a_d rfl (a_o (v:=.int .i64 fn) ?_ (b_k hK C rfl rfl));simp [go_sem,e0]
              refine InvU.c (fun a1 vals w1 bl hbl hdf C K hK=>?_) ?_
              ·have e0:=C.i 4;refine a_d rfl (a_o (v:=.int .i64 p) ?_ (b_k hK C rfl rfl));simp [go_sem,e0,HF8.out]
              refine InvU.c (fun _ _ w1 _ hbl _ C _ hK=>oR C hK (h:=by simp [execOp,go_sem,C.i 1,C.i 5,i6])) ?_;refine InvU.c (fun _ _ w1 _ hbl _ C _ hK=>oR C hK (h:=by simp [execOp,go_sem,C.o 20 (.pointer (some ⟨wo.heap.size,0,none⟩))])) ?_;refine InvU.c (fun a1 vals w1 bl hbl hdf C K hK=>?_) ?_
              ·have e0:=C.i 7;exact J87
              refine InvU.c (fun _ _ w1 _ hbl _ C _ hK=>oR C hK (h:=by simp [execOp,go_sem,C.o 20 (.pointer (some ⟨wo.heap.size,0,none⟩))])) ?_;refine InvU.c (fun a1 vals w1 bl hbl hdf C K hK=>?_) ?_
              ·have e0:=C.i 9;exact J87
              refine InvU.c (fun a1 vals w1 bl hbl hdf C K hK=>?_) ?_
              ·have e0:=C.i 10;refine a_d rfl (a_o (v:=.int .i64 ln) ?_ (b_k hK C rfl rfl));simp [go_sem,e0]
              refine InvU.c (fun a1 vals w1 bl hbl hdf C K hK=>?_) ?_
              ·have e0:=C.i 11;refine a_d rfl (a_o (v:=.int .i64 u) ?_ (b_k hK C rfl rfl));simp [go_sem,e0,HL10.out]
              refine InvU.c (fun _ _ w1 _ hbl _ C _ hK=>oR C hK (h:=by simp [execOp,go_sem,C.i 8,C.i 12,i7])) ?_;refine InvU.c (fun _ _ w1 _ hbl _ C _ hK=>oR C hK (h:=by simp [execOp,go_sem,C.o 20 (.pointer (some ⟨wo.heap.size,0,none⟩))])) ?_;refine InvU.c (fun a1 vals w1 bl hbl hdf C K hK=>?_) ?_
              ·have e0:=C.i 14;have e1:=C.i 6;have hv:=C.base.1 (hbl rfl);obtain ⟨zz,zf⟩:=hv 9 _ rfl;refine a_d rfl (d_K (w':=w1.setCell ⟨wo.heap.size,9,none⟩ (.slice fa p fc)) ?_ (hK undef _ ⟨undef,rfl,a_N hv 9 (by simp) _⟩ ⟨fun h=>absurd h (by decide),C.base.2.setCell (p:=⟨wo.heap.size,9,none⟩) rfl _⟩ (fun j hj h=>p_a _ _ _ _ _ _ _ _ _ _ _ _ _ _ hj h) (fun _ _ h=>h) (fun e=>absurd e (by decide)) (fun e=>absurd e (by decide)) (fun e=>absurd e (by decide))));simp [execOp,go_sem,e0,e1,zz,zf]
              refine InvU.c (fun _ _ w1 _ hbl _ C _ hK=>oR C hK (h:=by simp [execOp,go_sem,C.o 20 (.pointer (some ⟨wo.heap.size,0,none⟩))])) ?_;refine InvU.last (n:=17) (m:=15) (D:=[1,3,8,10]) (by decide) ?_ ?_ ?_ ?_
              ·rfl
              ·kernel_rfl
              ·decide
              ·intro vals w1 aE hae hval hb hv hbo K hK;obtain ⟨x,h1,hvA⟩:=b_x (k:=15) rfl (hv 15 (by decide));have y0:vals 0=.pointer (some ⟨wo.heap.size,9,none⟩):=List.head_eq_of_cons_eq (hv 0 (by decide));have y1:vals 1=.slice fa fn fc:=List.head_eq_of_cons_eq (hv 1 (by decide));have y2:vals 2=.pointer (some ⟨wo.heap.size,9,none⟩):=List.head_eq_of_cons_eq (hv 2 (by decide));have y3:vals 3=.slice fa fn fc:=List.head_eq_of_cons_eq (hv 3 (by decide));have y4:vals 4=.int .i64 fn:=List.head_eq_of_cons_eq (hv 4 (by decide));have y5:vals 5=.int .i64 p:=List.head_eq_of_cons_eq (hv 5 (by decide));have y6:vals 6=.slice fa p fc:=List.head_eq_of_cons_eq (hv 6 (by decide));have y7:vals 7=.pointer (some ⟨wo.heap.size,12,none⟩):=List.head_eq_of_cons_eq (hv 7 (by decide));have y8:vals 8=.slice la ln lc:=List.head_eq_of_cons_eq (hv 8 (by decide));have y9:vals 9=.pointer (some ⟨wo.heap.size,12,none⟩):=List.head_eq_of_cons_eq (hv 9 (by decide));have y10:vals 10=.slice la ln lc:=List.head_eq_of_cons_eq (hv 10 (by decide));have y11:vals 11=.int .i64 ln:=List.head_eq_of_cons_eq (hv 11 (by decide));have y12:vals 12=.int .i64 u:=List.head_eq_of_cons_eq (hv 12 (by decide));have y13:vals 13=.slice la u lc:=List.head_eq_of_cons_eq (hv 13 (by decide));have y14:vals 14=.pointer (some ⟨wo.heap.size,9,none⟩):=List.head_eq_of_cons_eq (hv 14 (by decide));have y16:vals 16=.pointer (some ⟨wo.heap.size,12,none⟩):=List.head_eq_of_cons_eq (hv 16 (by decide));have hb':=hb'';obtain ⟨bl,-,hbe⟩:=hb;have q1:=(hval 16 156 rfl rfl).trans y16
               have q2:=(hval 13 154 rfl rfl).trans y13;obtain ⟨zz,zf⟩:=hvA 12 _ rfl;refine a_d rfl (d_K (w':=w1.setCell ⟨wo.heap.size,12,none⟩ (.slice la u lc)) ?_ (hK _ _ ?_))
               ·rw [←a_s] at q1 q2;simp [execOp,go_sem,q1,q2,zz,zf]
               rw [hae.out];simp only [b_Y,Act.put,sA,sB,sC,y0,y1,y2,y3,y4,y5,y6,y7,y8,y9,y10,y11,y12,y13,y14,y16];obtain ⟨Z2,hZ2⟩:=nm (w1.setCell ⟨wo.heap.size,12,none⟩ (.slice la u lc));have HXZ2:=hid (show a_p Z2 wo.heap.size (thC (j_J t) fa p fc la u lc) by rw [hZ2];exact a_N hvA 12 (by simp) _);have hbz:Bel (fun c=>c=wo.heap.size) U Z2:=by rw [hZ2];exact hbe.setCell (p:=⟨wo.heap.size,12,none⟩) rfl _
               have HBZ2:=hid (show Below wo.heap.size wo Z2 from HBU.out.trans (hbz.below (fun c hc=>by omega) HBU.out.size));have HOZ2:=hid (f_M hbz HOU.out (fun q hq e=>by have:=(ho.out.lt q hq).2;omega));have HX2:=hid (e_G HBZ2.out (a_z hx.out (by simp)) hx.out);have HSZ2:=hid (show wo.heap.size+1≤Z2.heap.size from a_z HXZ2.out (by simp));have HBK2:=hid (show Below w2.heap.size V Z2 from hb'.out.trans (HBZ2.out.mono (by omega)));have HFZ2:=hid (show c_m repTh (fun b=>b < w.heap.size) Z2 cs (g_Z ths k) from a_1 (b_L HBZ2.out (fun b hb=>by have:=HBW7.out.size;omega)) hf.out);rw [←hZ2];clear hv hbo hbe hbz hval hae q1 q2 zz zf hZ2 hvA y0 y1 y2 y3 y4 y5 y6 y7 y8 y9 y10 y11 y12 y13 y14 y16 h1 hG HBU HOU HXU ho;obtain ⟨x5,f5⟩:=HX2.out 5 _ rfl
               go_wp2_with (first | (refine wpList_load_mid rfl 46 _ rfl wo.heap.size 0 rfl (thC (j_J t) fa p fc la u lc) _ (a_l HXZ2.out) Tryz.underlying46 rfl (by kernel_rfl) ?_) | (at_builtin;refine wpList_append_own _ rfl _ _ 24 rfl (w2.heap.size+1) 46 jx (.agg thN.toArray) 13 136 Tryz.underlying24 HJ.out.1 HJ.out.2.1 HJ.out.2.2.1 HJ.out.2.2.2 rfl (by decide) (.slice va k vc) k cs rfl (HOZ2.out.alloc _) ⟨Z2.heap.size,0,none⟩ 1 1 (thC (j_J t) fa p fc la u lc) rfl rfl (h_F _ _ _) (i_7 _ _ _ _ _ _ _) (by unfold maxLen;exact Nat.le_trans hlt (Nat.le_trans HK10.out (by decide))) (by exact Nat.le_trans (Nat.mul_le_mul_right 136 (Nat.le_trans hlt HK10.out)) (by decide)) (by have h9:=HSZ2.out;simp;clear hbl;omega) ?_))
               intro v4 w4 hown hgrow _;obtain ⟨va4,vc4,rfl⟩:=c_U hown;have hbo:∀ g,(Value.slice va k vc).ownBlock=some g→w2.heap.size+1≤g:=fun g hg=>(HOZ2.out.lt g hg).1
               have hsx2:=HBK2.out.size;have hsz2:w2.heap.size+1≤Z2.heap.size:=by have h9:=HSZ2.out;clear hbl;omega
               have hbw:Below (w2.heap.size+1) Z2 w4:=((Below.refl _ _).alloc (by omega) _).grown hgrow (by simp;omega) (fun g hr=>by have:=hbo g hr;omega);have HX4:=hid (show a_p w4 w2.heap.size ((woC L Y.D).set 5 (.slice va k vc)) from e_G hbw (by omega) HX2.out);have HB4:=hid (show Below w2.heap.size V w4 from HBK2.out.trans (hbw.mono (by omega)))
               have HF4:=hid (show c_m repTh (fun b=>b < w.heap.size) w4 (cs++thC (j_J t) fa p fc la u lc) (g_Z ths (k+1)) by
                have hlw:w.heap.size≤w2.heap.size+1:=by have:=HB2.out.size;omega
                rw [HNX.out];refine l_F (a_1 (b_L hbw (fun b hb=>by omega)) HFZ2.out) HTCn.out (a_9 (b_L hbw (fun b hb=>by omega)) (a_9 (b_L HBZ2.out (fun b hb=>by have:=HBW7.out.size;omega)) (a_9 (b_L HBW7.out (fun b hb=>hb)) HTC.out))))
               have HO4:=hid hown;obtain ⟨z5,g5⟩:=HX4.out 5 _ rfl;clear hown hgrow hbo hbw x5 f5;obtain ⟨V4,hV4⟩:=nm (w4.setCell ⟨w2.heap.size,5,none⟩ (.slice va4 (k+1) vc4));have HX5:=hid (show a_p V4 w2.heap.size ((woC L Y.D).set 5 (.slice va4 (k+1) vc4)) by rw [hV4];have h:=a_N HX4.out 5 (by simp) (.slice va4 (k+1) vc4);exact h);have HB5:=hid (show Below w2.heap.size V V4 by rw [hV4];exact HB4.out.setCell (p:=⟨w2.heap.size,5,none⟩) (Nat.le_refl _) _);have HO5:=hid (show V4.ownsRow (w2.heap.size+1) 46 13 (.slice va4 (k+1) vc4) (k+1) (cs++thC (j_J t) fa p fc la u lc) by rw [hV4];exact ownsRow_setCell_below HO4.out (by simp) _);have HF5:=hid (show c_m repTh (fun b=>b < w.heap.size) V4 (cs++thC (j_J t) fa p fc la u lc) (g_Z ths (k+1)) by rw [hV4];exact a_1 (b_e _ _ _ (fun b hb=>by have:=HB2.out.size;show b≠w2.heap.size;omega)) HF4.out);have HV4:=hid hV4;clear hV4
               go_wp2_with fail
               rw [←HV4.out]
               go_roundw
               case rel=>exact ⟨k+1,_,_,hlt,by go_num,HO5.out,HF5.out,HX5.out,HB5.out⟩
               case measure=>rw [hwk];exact p_n hlt
             ·obtain rfl:k1=k:=by omega
              obtain ⟨a2,c2,e2,h1,h2,h3,VT⟩:=i_k (r:=repTh) (Q:=Any) ho.out (b_7 (fun _ _=>trivial) hf.out) (fun _ _ _=>trivial)
              cases e2
              obtain ⟨M,hM⟩:∃ M:WoL,M=L.setTh va k1 vc:=⟨_,rfl⟩;obtain ⟨X2,hX2⟩:∃ X:Wo,X={ Y with th:=g_Z ths k1 }:=⟨_,rfl⟩;have HXM:=hid (show a_p wo w2.heap.size (woC M X2.D) by rw [hM,hX2];exact hx.out);have hkL:c_n (fun b=>b < w2.heap.size) V wo:=b_L hb.out (fun _ h=>h)
              have HRM:=hid (show RWo Any wo M X2 by
               have h:=e_x hkL (e_y (Q':=fun b=>b < w2.heap.size) (fun b h=>h.2) HRV.out);rw [hM,hX2];exact ⟨a_P (fun _ _=>trivial) h.co,a_k (fun _ _=>trivial) h.ws,a_k (fun _ _=>trivial) h.ts,a_A (fun _ _=>trivial) h.bs,VT,a_P (fun _ _=>trivial) h.ev,h.cco,⟨h1,h2,h3⟩,h.cev⟩)
              have HWF2:=hid (show ∀ j i,i < 8→(Lit.int .i64 ((thW X2 j).r i)).wf=true by rw [hX2];exact q_o (n_z HA.out.hwf));have h0:=j_m M X2 0 wo HRM.out (HG.out.B HBW7.out) HWF2.out;obtain ⟨E2,hE2⟩:=mn (h_p X2 0);obtain ⟨bc,hbc⟩:∃ b,(if h_p X2 0=0 then k_o X2 (0:Int).toNat else false)=b:=⟨_,rfl⟩;obtain ⟨r,hr⟩:=mn (a_5 X2);have he1:(E2==1)=!r:=by rw [←hE2,←hr];exact n_s
              rw [hbc,hE2] at h0;have ⟨HC,HRX,HE1⟩:=hh3 h0 hr he1;clear hM hX2 hkL VT h1 h2 h3 hE2 hbc hr he1 h0 ho hf hx hb
              go_wp2_with (refine wpList_load_mid rfl 33 _ rfl w2.heap.size 0 rfl (woC M X2.D) _ (a_l HXM.out) Tryz.underlying33 rfl (by kernel_rfl) ?_)
              refine HC.out.mono ?_;clear HC;rintro e8 w8 ⟨rfl,hb8⟩;have HBW8:=hid (a_b HBW7.out hb8);have HX8:=hid (a_f hb8 HXM.out);have HR8:=hid (b_O hb8 HRM.out);clear hb8
              have HSR:=hid (fun (w1:World) (hb:Below w8.heap.size w8 w1)=>show Calls Tryz.prog 15 #[woV M X2.D] w1 (a_B r w1) by
               have h:=d_l M X2 w1 (b_O hb HR8.out) (HG.out.B (a_b HBW8.out hb));rw [HRX.out] at h;exact h)
              have HRR:=hid (fun (w1:World) (hb:Below w8.heap.size w8 w1)=>show Calls Tryz.prog 17 #[woV M X2.D] w1 (a_B r w1) by
               have h:=k_R M X2 w1 (b_O hb HR8.out);rw [HRX.out] at h;exact h)
              go_upto_region 27 with fail
              have hG:=n_O M X2 E2 r;have he1:=HE1.out;refine f_9 [some 169,some 170,some 171,some 172,some 173,some 174,some 175,some 176,some 177,some 178,some 179,some 180,some 181,some 12] (fun w'=>Below w8.heap.size w8 w') (q_P M X2 E2 r) 100 100 (fun _ _ _=>True) (by kernel_rfl) (by kernel_rfl) (by decide) rfl ((Below.refl _ _).drew) ?_ ?_
              ·show StepsL _ _ _ _ _ _ _
               refine InvF.cons rfl rfl rfl rfl rfl (fun a1 vals w1 C hf K hK=>?_) ?_
               ·exact J61
               refine InvF.cons rfl rfl rfl rfl rfl (fun a1 vals w1 C hf K hK=>?_) ?_
               ·have e0:=C.i 0;rw [a_s] at e0;refine a_d rfl (a_x _ _ _ rfl 15 rfl [woV M X2.D] (by simp [e0]) (by kernel_rfl) ((HSR.out w1 C.base).mono ?_));rintro e9 w2' ⟨rfl,hb2⟩;exact J33
               refine InvF.cons rfl rfl rfl rfl rfl (fun a1 vals w1 C hf K hK=>?_) ?_
               ·exact J61
               refine InvF.cons rfl rfl rfl rfl rfl (fun a1 vals w1 C hf K hK=>?_) ?_
               ·have e0:=C.i 2;rw [a_s] at e0;refine a_d rfl (a_x _ _ _ rfl 17 rfl [woV M X2.D] (by simp [e0]) (by kernel_rfl) ((HRR.out w1 C.base).mono ?_));rintro e9 w2' ⟨rfl,hb2⟩;exact J33
               refine InvF.cons rfl rfl rfl rfl rfl (fun a1 vals w1 C hf K hK=>?_) ?_
               ·have e0:=C.i 1;have e1:=C.i 3;refine a_d rfl (a_o (v:=.bool true) ?_ (b_k hK C rfl rfl));simp [execOp,go_sem,e0,e1]
               refine InvF.cons rfl rfl rfl rfl rfl (fun a1 vals w1 C hf K hK=>?_) ?_
               ·have e0:=C.i 4;refine a_d rfl (a_o (v:=.bool true) ?_ (b_k hK C rfl rfl));simp [execOp,go_sem,e0]
               refine InvF.cons rfl rfl rfl rfl rfl (fun a1 vals w1 C hf K hK=>?_) ?_
               ·have e0:=C.o 22 (.int .i64 E2);refine b_o (a_Z rfl (C.is 5 174 (.bool true) rfl rfl rfl rfl) rfl) (a_o (v:=.int .i64 E2) ?_ (b_k hK C rfl rfl));simp [execOp,go_sem,e0]
               refine InvF.cons rfl rfl rfl rfl rfl (fun a1 vals w1 C hf K hK=>?_) ?_
               ·have e0:=C.i 6;refine b_o (a_Z rfl (C.is 5 174 (.bool true) rfl rfl rfl rfl) rfl) (a_o (v:=.bool (!r)) ?_ (b_k hK C rfl rfl));simp [execOp,go_sem,e0,he1]
               refine InvF.cons rfl rfl rfl rfl rfl (fun a1 vals w1 C hf K hK=>?_) ?_
               ·have e0:=N110;exact b_o (a_Z rfl (C.is 5 174 (.bool true) rfl rfl rfl rfl) rfl) (wp_load_mid 33 _ rfl w2.heap.size 0 ((a_s a1 _).symm.trans e0) (woC M X2.D) _ (a_l (a_f C.base HX8.out)) Tryz.underlying33 rfl (by kernel_rfl) (b_k hK C rfl rfl))
               refine InvF.cons rfl rfl rfl rfl rfl (fun a1 vals w1 C hf K hK=>?_) ?_
               ·have e0:=C.i 8;rw [a_s] at e0;refine b_o (a_Z rfl (C.is 5 174 (.bool true) rfl rfl rfl rfl) rfl) (a_x _ _ _ rfl 17 rfl [woV M X2.D] (by simp [e0]) (by kernel_rfl) ((HRR.out w1 C.base).mono ?_));rintro e9 w2' ⟨rfl,hb2⟩;exact J33
               refine InvF.cons rfl rfl rfl rfl rfl (fun a1 vals w1 C hf K hK=>?_) ?_
               ·have e0:=C.i 9;refine b_o (a_Z rfl (C.is 5 174 (.bool true) rfl rfl rfl rfl) rfl) (a_o (v:=.bool (!r)) ?_ (b_k hK C rfl rfl));simp [execOp,go_sem,e0]
               refine InvF.cons rfl rfl rfl rfl rfl (fun a1 vals w1 C hf K hK=>?_) ?_
               ·have e0:=C.i 7;have e1:=C.i 10;refine b_o (a_Z rfl (C.is 5 174 (.bool true) rfl rfl rfl rfl) rfl) (a_o (v:=.bool true) ?_ (b_k hK C rfl rfl));simp [execOp,go_sem,e0,e1]
               refine InvF.cons rfl rfl rfl rfl rfl (fun a1 vals w1 C hf K hK=>?_) ?_
               ·have e0:=C.i 5;have e1:=C.i 11;refine a_d rfl (a_o (v:=.bool true) ?_ (b_k hK C rfl rfl));simp [execOp,go_sem,e0,e1]
               refine InvF.cons rfl rfl rfl rfl rfl (fun a1 vals w1 C hf K hK=>?_) ?_
               ·have e0:=C.i 12;refine a_d rfl (a_o (v:=.bool true) ?_ (b_k hK C rfl rfl));simp [execOp,go_sem,e0]
               exact StepsL.nil
              ·intro vals w1 hb hv hbo;have y12:vals 13=.bool true:=List.head_eq_of_cons_eq (hv 13 (by decide));simp only [b_Y,Act.put,sA,sB,sC,y12];have HB9:=hid (a_b HBW8.out hb);clear hb hv hbo y12 hG he1 HSR HRR
               go_wp2
               go_ret
               exact ⟨rfl,HB9.out⟩
end Go.Proofs.YtolabfafgbmdbaaGreatDoor
