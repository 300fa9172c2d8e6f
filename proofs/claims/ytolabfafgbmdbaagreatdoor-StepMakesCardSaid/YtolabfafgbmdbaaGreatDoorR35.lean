import Derived.Test.YtolabfafgbmdbaaGreatDoorR34
import Derived.Test.YtolabfafgbmdbaaGreatDoorR0
import Derived.Test.YtolabfafgbmdbaaGreatDoorR19
import Derived.Test.YtolabfafgbmdbaaGreatDoorR20
import Derived.Test.YtolabfafgbmdbaaGreatDoorR5
import Derived.Deep.QuietTactic
import Derived.Test.YtolabfafgbmdbaaGreatDoorR7
import Derived.Test.YtolabfafgbmdbaaGreatDoorR26
import Derived.StillTailTactics
set_option maxRecDepth 100000
set_option maxHeartbeats 16000000
namespace Go.Proofs.YtolabfafgbmdbaaGreatDoor
open Go.ChangeShapes Go.WideShapes Go.ChangeAt Go.RowKit
open Gen
open Lib (hid)
def o_V (h:Nat) (a a':Option Addr) (n n' c c' m m':Nat):a_6:=[isV 0 (.slice a n c),isV 1 (.slice a n c),isV 2 (.int .i64 n),isV 3 (.int .i64 m),isV 4 (.slice a m c),isV 5 (.slice a' n' c'),isV 6 (.slice a' n' c'),isV 7 (.int .i64 n'),isV 8 (.int .i64 m'),isV 9 (.slice a' m' c'),isV 10 (.agg #[.slice a m c,.slice a' m' c']),([],fun _ w=>a_p w h [.slice a m c,.slice a' m' c'])]
theorem n_I (h:Nat) (a a':Option Addr) (n n' c c' m m':Nat):∀ jz args wz wz',jz≠11→b_w (o_V h  a a'  n n' c c' m m' ) jz args wz→b_w (o_V h  a a'  n n' c c' m m' ) jz args wz':=by
 intro jz args wz wz' n0 h
 match jz with
 | 0=>exact h
 | 1=>exact h
 | 2=>exact h
 | 3=>exact h
 | 4=>exact h
 | 5=>exact h
 | 6=>exact h
 | 7=>exact h
 | 8=>exact h
 | 9=>exact h
 | 10=>exact h
 | 11=>exact absurd rfl n0
 | _+12=>exact trivial
theorem n_X (a a':Option Addr) (n n' c c':Nat) (w:World) (h1:n≤c∧c≤9223372036854775807) (h2:n'≤c'∧c'≤9223372036854775807) :
  Calls Tryz.prog 8 #[.slice a n c,.slice a' n' c'] w (fun e w'=>e=.returned (.agg #[.slice a (min n 170) c,.slice a' (min n' 170) c'])∧Below w.heap.size w w'):=by
 obtain ⟨W,hW⟩:=nm (w.alloc (Obj.cells #[.slice none 0 0,.slice none 0 0] 26));have HZ:=hid (show a_p W w.heap.size [.slice none 0 0,.slice none 0 0] by rw [hW];exact a_i [.slice none 0 0,.slice none 0 0] _ rfl);have HB:=N1;have HW:=hid hW;obtain ⟨m,hm⟩:=mn (min n 170);obtain ⟨m',hm'⟩:∃ m,min n' 170=m:=⟨_,rfl⟩;rw [hm,hm'];have HM1:=hid (show (if (170:Int) < (n:Int) then (170:Int) else (n:Int))=(m:Int) by split <;> omega);have HM2:=hid (show (if (170:Int) < (n':Int) then (170:Int) else (n':Int))=(m':Int) by split <;> omega);have i1:m≤c:=by omega
 have i2:m'≤c':=by omega
 clear hW hm hm' h1 h2
 go_enter Tryz.func8,Tryz.ntmps8
 go_upto_region 1 with fail
 rw [←HW.out];refine e_I [some 5,some 6,some 7,some 8,some 9,some 10,some 11,some 12,some 13,some 14,some 15,none] (fun w'=>Bel (fun c=>c=w.heap.size) W w'∧∃ cs,cs.length=2∧a_p w' w.heap.size cs) (o_V w.heap.size a a' n n' c c' m m') 100 100 (fun _ _ _=>True) (by kernel_rfl) (by kernel_rfl) (by decide) rfl (⟨c_c ((Below.refl _ _).drew),_,rfl,a_f ((Below.refl _ _).drew) HZ.out⟩) ?_ ?_
 ·show StepsL _ _ _ _ _ _ _
  refine InvD.c (fun _ _ w1 C _ hK=>oR C hK (h:=by simp [execOp,go_sem,C.o 0 (.slice a n c)])) ?_;refine InvD.c (fun _ _ w1 C _ hK=>oR C hK (h:=by simp [execOp,go_sem,C.o 0 (.slice a n c)])) ?_;refine InvD.c (fun a1 vals w1 C K hK=>?_) ?_
  ·have e0:=C.i 1;refine a_d rfl (a_o (v:=.int .i64 n) ?_ (b_k hK C rfl rfl));simp [go_sem,e0]
  refine InvD.c (fun a1 vals w1 C K hK=>?_) ?_
  ·have e0:=C.i 2;refine a_d rfl (a_o (v:=.int .i64 m) ?_ (b_k hK C rfl rfl));simp [go_sem,e0,HM1.out]
  refine InvD.c (fun _ _ w1 C _ hK=>oR C hK (h:=by simp [execOp,go_sem,C.i 0,C.i 3,i1])) ?_;refine InvD.c (fun _ _ w1 C _ hK=>oR C hK (h:=by simp [execOp,go_sem,C.o 1 (.slice a' n' c')])) ?_;refine InvD.c (fun _ _ w1 C _ hK=>oR C hK (h:=by simp [execOp,go_sem,C.o 1 (.slice a' n' c')])) ?_;refine InvD.c (fun a1 vals w1 C K hK=>?_) ?_
  ·have e0:=C.i 6;refine a_d rfl (a_o (v:=.int .i64 n') ?_ (b_k hK C rfl rfl));simp [go_sem,e0]
  refine InvD.c (fun a1 vals w1 C K hK=>?_) ?_
  ·have e0:=C.i 7;refine a_d rfl (a_o (v:=.int .i64 m') ?_ (b_k hK C rfl rfl));simp [go_sem,e0,HM2.out]
  refine InvD.c (fun _ _ w1 C _ hK=>oR C hK (h:=by simp [execOp,go_sem,C.i 5,C.i 8,i2])) ?_;refine InvD.c (fun _ _ w1 C _ hK=>oR C hK (h:=by simp [execOp,go_sem,C.i 4,C.i 9])) ?_;refine InvD.c (fun a1 vals w1 C K hK=>?_) ?_
  ·have e0:a1.eval (.tmp 4)=.pointer (some ⟨w.heap.size,0,none⟩):=C.old 4 rfl;have e1:=C.i 10;rw [a_s] at e1;obtain ⟨xs,hx1,hx2⟩:=C.base.2;refine a_d rfl (a_I 26 _ _ rfl w.heap.size #[.slice a m c,.slice a' m' c'] e0 e1 xs hx2 (by rw [hx1];rfl) (by kernel_rfl) (by simp [Value.oneCell']) ?_);intro U HU;have hUx:a_p U w.heap.size [.slice a m c,.slice a' m' c']:=by rw [HU.out];exact a_r hx2 (by rw [hx1];rfl)
   exact hK _ U hUx ⟨by rw [HU.out];exact d_e (S:=fun c=>c=w.heap.size) rfl C.base.1,_,rfl,hUx⟩ (fun jz hj h=>n_I _ _ _ _ _ _ _ _ _ _ _ _ _ hj h) (fun _ _ _=>trivial) (fun _ _ _=>trivial) (fun _ _ _=>trivial) (fun _ _=>trivial)
  exact StepsL.nil
 ·intro vals w1 hb hv hbo;have d:=b_x rfl (hv 11 (by decide));have HX:=hid (show a_p w1 w.heap.size [.slice a m c,.slice a' m' c'] from d);have HB9:=hid (show Below w.heap.size w w1 from HB.out.trans (hb.1.below (fun c hc=>by omega) HB.out.size));clear hb hv hbo d i1 i2;simp only [b_Y,Act.put,sA,sB,sC]
  go_wp2_with fail
  refine b_0 ⟨w.heap.size,0,none⟩ rfl rfl rfl (a_4 HX.out 26 Tryz.underlying26 rfl (by kernel_rfl)) ?_;exact ⟨rfl,HB9.out⟩
abbrev al0:Wo:=j_W [(1,1,7,0),(0,0,0,0)] [0] [0] [1] 0
theorem o_u:c_2 [(1,1,7,0),(0,0,0,0)] [0] [0] [1] 0=0:=by decide
theorem o_v:m_O al0 0=0:=by decide
theorem p_5:m_O (i_e al0 0) 0=0:=by decide
theorem al_end:(i_e (i_e al0 0) 0).th.length=1∧(thW (i_e (i_e al0 0) 0) 0).st=1∧(thW (i_e (i_e al0 0) 0) 0).r 1=7∧(i_e al0 0).ev.length=0:=by decide
theorem o_w:WfW al0:=by
 refine ⟨fun i hi=>?_,fun z hz=>?_,fun b hb=>?_,fun t ht=>?_⟩
 ·simp only [al0,j_W,List.mem_cons,List.not_mem_nil,or_false] at hi
  rcases hi with rfl | rfl
  ·exact ⟨i_l (by decide) (by decide),i_l (by decide) (by decide),d_u⟩
  ·exact ⟨d_u,d_u,d_u⟩
 ·simp only [al0,j_W,List.mem_cons,List.not_mem_nil,or_false] at hz;rw [hz];exact d_u
 ·have e:b=[]:=List.mem_singleton.1 hb;rw [e];intro p hp;exact absurd hp List.not_mem_nil
 ·have e:t={ d_d with pc:=0 }:=List.mem_singleton.1 ht;rw [e];exact ⟨fun _=>d_u,fun f hf=>by cases hf⟩
theorem p_6:WfW (i_e al0 0):=by rw [i_e,if_pos o_v];exact p_M o_w (by decide)
theorem m_M {w:World} {g:Nat} {z:Int} (h:a_p w g [.int .i64 z]):Sl w (some ⟨g,0,none⟩) 1 [z]:=⟨rfl,.inr ⟨g,0,rfl,fun i hi=>by
 obtain rfl:i=0:=by simpa using hi
 exact (h 0 _ rfl).1⟩⟩
theorem k_i (w:World) (G:Glob w):Calls Tryz.prog 10 #[] w (a_B true w):=by
 obtain ⟨W,hW⟩:=nm ((((w.alloc (Obj.cells #[.int .i64 1,.int .i64 1,.int .i64 7,.int .i64 0,.int .i64 0,.int .i64 0,.int .i64 0,.int .i64 0] 66)).alloc (Obj.cells #[.int .i64 0] 3)).alloc (Obj.cells #[.int .i64 0] 3)).alloc (Obj.cells #[.int .i64 1] 3));have HB:=N1;have ⟨HW,HG⟩:=hh2 hW G;clear hW G
 go_enter Tryz.func10,Tryz.ntmps10
 go_upto_region 1 with fail
 go_wp2_with fail
 rw [←HW.out];have v0:a_p W w.heap.size [.int .i64 1,.int .i64 1,.int .i64 7,.int .i64 0,.int .i64 0,.int .i64 0,.int .i64 0,.int .i64 0]:=by rw [HW.out];exact a_O _ (a_O _ (a_O _ (a_i [.int .i64 1,.int .i64 1,.int .i64 7,.int .i64 0,.int .i64 0,.int .i64 0,.int .i64 0,.int .i64 0] _ rfl)))
 have v1:a_p W (w.heap.size+1) [.int .i64 0]:=by rw [HW.out];exact a_O _ (a_O _ (a_i [.int .i64 0] _ (by simp)))
 have v2:a_p W (w.heap.size+1+1) [.int .i64 0]:=by rw [HW.out];exact a_O _ (a_i [.int .i64 0] _ (by simp))
 have v3:a_p W (w.heap.size+1+1+1) [.int .i64 1]:=by rw [HW.out];exact a_i [.int .i64 1] _ (by simp)
 have h0:=f_0 ⟨⟨some ⟨w.heap.size,0,none⟩,2,2⟩,⟨some ⟨w.heap.size+1+1,0,none⟩,1,1⟩,⟨some ⟨w.heap.size+1+1+1,0,none⟩,1,1⟩,zSp,zSp,zSp⟩ [(1,1,7,0),(0,0,0,0)] [0] [1] [0] 0 (some ⟨w.heap.size+1,0,none⟩) 1 1 W (h_m v0 ⟨i_Q (1,1,7,0),i_Q (0,0,0,0),rfl,rfl,i_Q (0,0,0,0),[],rfl,rfl,rfl⟩ trivial) ⟨Nat.le_refl _,(by show 2≤9223372036854775807;omega),fun e=>by cases e⟩ (g_J (m_M v2)) (g_J (m_M v3)) (m_M v1) (HG.out.B HB.out);rw [o_u,d_8,if_pos o_u] at h0;with_reducible refine h0.mono ?_
 clear h0 v0 v1 v2 v3;rintro e1 w1 ⟨L1,rfl,R1,hb1⟩;obtain ⟨X0,hX0⟩:=nm (j_W [(1,1,7,0),(0,0,0,0)] [0] [0] [1] 0);rw [←hX0] at R1 ⊢;have HX0:=hid (show X0=al0 from hX0);have HB1:=hid (a_b HB.out hb1);have HR1:=hid R1;clear hX0 R1 hb1
 go_upto_region 2 with (refine a_h rfl 33 _ _ rfl w1.heap.size (woC L1 X0.D).toArray rfl rfl _ (a_i woZ w1.heap.size rfl) rfl (by kernel_rfl) (g_D _ _) ?_;intro U HU)
 have HXU:=hid (show a_p U w1.heap.size (woC L1 X0.D) by rw [HU.out];exact a_r (a_i woZ _ rfl) rfl);have HBU0:=hid (show Below w1.heap.size w1 U by rw [HU.out];exact a_m (Nat.le_refl _) ((Below.refl _ _).alloc (Nat.le_refl _) _));have HBU:=hid (a_b HB1.out HBU0.out);have HSU:=hid (show U.heap.size=w1.heap.size+1 by rw [HU.out,b_t];simp);have hR:=b_D (b_O HBU0.out HR1.out);have he:X0.ev.length=0:=by rw [HX0.out];rfl
 have h0:=f_f L1 X0 0 U hR (HG.out.B HBU.out) (by have:=hR.ev.1;omega) (by rw [HX0.out];exact m_1 o_w);rw [show m_O X0 0=0 by rw [HX0.out];exact o_v] at h0;have HC:=hid h0;obtain ⟨X1,hX1⟩:=nm (i_e X0 0);rw [←hX1] at HC;have HX1:=hid hX1;clear HU hR h0 hX1 he
 go_wp2_with (refine wpList_load_mid rfl 33 _ rfl w1.heap.size 0 rfl (woC L1 X0.D) _ (a_l HXU.out) Tryz.underlying33 rfl (by kernel_rfl) ?_)
 refine HC.out.mono ?_;clear HC;rintro e2 w2 ⟨L2,rfl,R2,hb2⟩;have HB2:=hid (a_b HBU.out hb2);have HX2:=hid (a_f hb2 HXU.out);have HR2:=hid R2;have HS2:=N104;clear R2 hb2
 go_upto_region 3 with (refine a_h rfl 33 _ _ rfl w1.heap.size (woC L2 X1.D).toArray rfl rfl _ HX2.out rfl (by kernel_rfl) (g_D _ _) ?_;intro V HV)
 have HXV:=hid (show a_p V w1.heap.size (woC L2 X1.D) by rw [HV.out];exact a_r HX2.out rfl);have HBV:=hid (show Below w.heap.size w V by rw [HV.out];exact a_m HB1.out.size HB2.out);have hR:RWo Any V L2 X1:=b_D (e_x (by rw [HV.out];exact a_E (fun b hb=>by have:=HSU.out;omega)) HR2.out);have he:X1.ev.length=0:=by rw [HX1.out,HX0.out];exact al_end.2.2.2
 have h0:=f_f L2 X1 0 V hR (HG.out.B HBV.out) (by have:=hR.ev.1;omega) (by rw [HX1.out,HX0.out];exact m_1 p_6);rw [show m_O X1 0=0 by rw [HX1.out,HX0.out];exact p_5] at h0;have HC:=hid h0;obtain ⟨X2,hX2⟩:=nm (i_e X1 0);rw [←hX2] at HC;have HX2':=hid hX2;have HSV:=hid (show w1.heap.size+1≤V.heap.size by rw [HV.out,b_t];exact HS2.out);clear HV hR h0 hX2 he
 go_wp2_with (refine wpList_load_mid rfl 33 _ rfl w1.heap.size 0 rfl (woC L2 X1.D) _ (a_l HXV.out) Tryz.underlying33 rfl (by kernel_rfl) ?_)
 refine HC.out.mono ?_;clear HC;rintro e3 w3 ⟨L3,rfl,R3,hb3⟩;have HB3:=hid (a_b HBV.out hb3);have HX3:=hid (a_f hb3 HXV.out);have HR3:=hid R3;clear R3 hb3
 go_upto_region 4 with (refine a_h rfl 33 _ _ rfl w1.heap.size (woC L3 X2.D).toArray rfl rfl _ HX3.out rfl (by kernel_rfl) (g_D _ _) ?_;intro Y HY)
 have HXY:=hid (show a_p Y w1.heap.size (woC L3 X2.D) by rw [HY.out];exact a_r HX3.out rfl);have HBY:=hid (show Below w.heap.size w Y by rw [HY.out];exact a_m HB1.out.size HB3.out);have hR:RWo Any Y L3 X2:=b_D (e_x (by rw [HY.out];exact a_E (fun b hb=>by have:=HSV.out;omega)) HR3.out);have HE:=al_end;rw [←HX0.out,←HX1.out,←HX2'.out] at HE;obtain ⟨z1,z2,z3,-⟩:=HE;have hn:L3.th.n=1:=by have:=hR.th.1;omega
 obtain ⟨tb,tq,t,ta,tc,qa,qc,htl,htt,-,TQ,hr⟩:=d_1 hR.th (k:=0) (by omega);have htw:thW X2 0=t:=by rw [thW,List.getD_eq_getElem?_getD,htt];rfl
 rw [htw] at z2 z3;obtain ⟨x5,-⟩:=HXY.out 5 _ rfl;have c10:=hr 10 _ rfl;have c2:=hr 2 _ rfl;rw [z2] at c10;rw [z3] at c2;rw [htl,hn] at x5;clear HY hR htw htt TQ hr z1 z2 z3
 go_wp2_with fail
 go_ret
 exact ⟨rfl,HBY.out⟩
end Go.Proofs.YtolabfafgbmdbaaGreatDoor
namespace Go.Proofs.YtolabfafgbmdbaaGreatDoor
open Go.ChangeShapes Go.WideShapes Go.ChangeAt Go.RowKit
open Gen
theorem k_S {code:List Ins} {ws ts starts:List Int} {D:Int} (h1:b_q code=true) (h2:c_E ws ts=true) (h3:1≤starts.length∧starts.length≤8) (h4:0≤D∧D≤8) (h5:∀ s∈starts,0≤s∧s≤code.length):a_5 (j_W code starts ws ts D)=true:=by
 have h6:=(c_Y h1).1;refine m_C h1 (mayT_iff.2 ⟨h2,?_,fun b hb=>?_⟩) ?_ ?_
 ·simp only [b_r,j_W,List.length_replicate,decide_eq_true_eq];omega
 ·obtain rfl:=(List.mem_replicate.1 hb).2;simp only [h_q,List.length_nil,List.all_nil,Bool.and_true,decide_eq_true_eq];exact h4.1
 ·simp [j_W]
 ·intro t ht;obtain ⟨s,hs,rfl⟩:=List.mem_map.1 ht;have:=h5 s hs;exact oneW_iff.2 ⟨⟨this.1,by show s≤1000;omega⟩,rfl,rfl,rfl,.inl rfl⟩
end Go.Proofs.YtolabfafgbmdbaaGreatDoor
namespace Go.Proofs.YtolabfafgbmdbaaGreatDoor
open Go.ChangeShapes Go.WideShapes Go.ChangeAt Go.RowKit
open Gen
open Lib (hid)
theorem q_d {Q:Nat→Prop} {w:World} {b o:Nat} {i:Ev} (h:At repEv Q w b o i):w.cell? ⟨b,o,none⟩=some (.int .i64 i.1)∧w.cell? ⟨b,o+1,none⟩=some (.int .i64 i.2.1)∧w.cell? ⟨b,o+2,none⟩=some (.int .i64 i.2.2.1)∧w.cell? ⟨b,o+3,none⟩=some (.int .i64 i.2.2.2.1)∧w.cell? ⟨b,o+4,none⟩=some (.int .i64 i.2.2.2.2.1)∧w.cell? ⟨b,o+5,none⟩=some (.int .i64 i.2.2.2.2.2):=by
 obtain ⟨cs,h1,h2⟩:=h;have h1:cs=p_h i:=h1;subst h1;exact ⟨h2 0 _ rfl,h2 1 _ rfl,h2 2 _ rfl,h2 3 _ rfl,h2 4 _ rfl,h2 5 _ rfl⟩
theorem n_B (x y:Ev) (w:World):(Op.equalIn 10000 101 (.agg #[.int .i64 x.1,.int .i64 x.2.1,.int .i64 x.2.2.1,.int .i64 x.2.2.2.1,.int .i64 x.2.2.2.2.1,.int .i64 x.2.2.2.2.2]) (.agg #[.int .i64 y.1,.int .i64 y.2.1,.int .i64 y.2.2.1,.int .i64 y.2.2.2.1,.int .i64 y.2.2.2.2.1,.int .i64 y.2.2.2.2.2])).run Tryz.prog w=.ok (decide (x=y)) w:=by
 obtain ⟨x0,x5,x1,x2,x3,x4⟩:=x;obtain ⟨y0,y5,y1,y2,y3,y4⟩:=y;simp only;have e1:=l_E x1 x2 x3 x4 y1 y2 y3 y4 w
 by_cases h0:x0=y0
 ·subst h0
  by_cases h5:x5=y5
  ·subst h5;obtain ⟨b,hb⟩:∃ b,decide ((x1,x2,x3,x4)=(y1,y2,y3,y4))=b:=⟨_,rfl⟩;rw [hb] at e1;have h2:decide ((x0,x5,x1,x2,x3,x4)=(x0,x5,y1,y2,y3,y4))=b:=by rw [←hb,Bool.eq_iff_iff];simp
   rw [h2]
   cases b <;> simp [go_sem,e1]
  ·have hb:(x5==y5)=false:=by simpa using h5
   simp [go_sem,hb,h5]
 ·have hb:(x0==y0)=false:=by simpa using h0
  simp [go_sem,hb,h0]
theorem i_J (a b:Option Addr) (n m c d:Nat) (xs ys:List Ev) (w:World) (V:Vs repEv Any w a n xs) (U:Vs repEv Any w b m ys) (hn:n≤1000000) :
  Calls Tryz.prog 26 #[.slice a n c,.slice b m d] w (a_B (decide (xs=ys)) w):=by
 have hl:=V.1;have hl2:=U.1
 by_cases h:n=m
 ·subst h
  go_enter Tryz.func26,Tryz.ntmps26
  go_wp2
  go_loopw [5,13] (fun _ i wr=>∃ k:Nat,k≤n∧i=.int .i64 k∧Hid (xs.take k=ys.take k)∧Hid (Below w.heap.size w wr)) (fun _ i _=>n - (intOf i).toNat)
  case atStart=>exact ⟨0,by omega,rfl,(show xs.take 0=ys.take 0 by simp),Below.refl _ _⟩
  case round =>
   obtain ⟨k,hk,rfl,ht,hb⟩:=hrel
   by_cases hlt:k < n
   ·obtain ⟨b1,o1,y1,rfl,hy1,-,hA1⟩:=g_k (e_h hb.out V) hlt;obtain ⟨b2,o2,y2,rfl,hy2,-,hA2⟩:=g_k (e_h hb.out U) hlt;obtain ⟨z0,z1,z2,z3,z4,z5⟩:=q_d hA1;obtain ⟨u0,u1,u2,u3,u4,u5⟩:=q_d hA2;rw [show repEv.k=6 from rfl] at z0 z1 z2 z3 z4 z5 u0 u1 u2 u3 u4 u5;have j1:(0:Int)≤k:=by omega
    have j2:(k:Int) < n:=by omega
    have qe:=fun w=>n_B y1 y2 w
    obtain ⟨eb,heb⟩:=mn (decide (y1=y2));rw [heb] at qe;have ⟨HEB,HY1,HY2⟩:=hh3 heb hy1 hy2;clear heb hy1 hy2 hA1 hA2
    cases eb with
    | true =>
     have HT:=hid (show xs.take (k+1)=ys.take (k+1) by rw [List.take_add_one,List.take_add_one,ht.out,HY1.out,HY2.out,of_decide_eq_true HEB.out]);exact J82
    | false =>
     have HE:=hid (show decide (xs=ys)=false by
      rw [decide_eq_false_iff_not];intro e;have h1:=HY1.out;rw [e,HY2.out] at h1;exact of_decide_eq_false HEB.out (Option.some.inj h1).symm)
     go_wp2
     go_quiet (fail)
     go_wp2
     go_ret
     exact a_e HE.out (below_drewN hb.out nq)
   ·obtain rfl:k=n:=by omega
    have HE:=hid (show decide (xs=ys)=true by
     rw [decide_eq_true_iff];have:=ht.out;rw [List.take_of_length_le (by omega),List.take_of_length_le (by omega)] at this;exact this)
    go_wp2
    go_ret
    exact a_e HE.out hb.out
 ·have h1:=N60;have HE:=hid (show decide (xs=ys)=false by rw [decide_eq_false_iff_not];intro e;rw [e] at hl;omega)
  go_enter Tryz.func26,Tryz.ntmps26
  go_wp2
  go_ret
  exact a_e HE.out (Below.refl _ _)
end Go.Proofs.YtolabfafgbmdbaaGreatDoor
namespace Go.Proofs.YtolabfafgbmdbaaGreatDoor
open Go.ChangeShapes Go.WideShapes Go.ChangeAt Go.RowKit
open Gen
theorem j_e (a b:Option Addr) (n m c d:Nat) (xs ys:List Ins) (w:World) (V:Vs repIns Any w a n xs) (U:Vs repIns Any w b m ys) (hn:n≤50001) (hm:m≤50001) :
  Calls Tryz.prog 27 #[.slice a n c,.slice b m d] w (a_B (decide (xs=ys)) w):=by
 have hl:=V.1;have hl2:=U.1
 by_cases h:n=m
 ·subst h
  go_enter Tryz.func27,Tryz.ntmps27
  go_wp2
  go_loopw [5,13] (fun _ i wr=>∃ k:Nat,k≤n∧i=.int .i64 k∧Hid (xs.take k=ys.take k)∧Hid (Below w.heap.size w wr)) (fun _ i _=>n - (intOf i).toNat)
  case atStart=>exact ⟨0,by omega,rfl,(show xs.take 0=ys.take 0 by simp),Below.refl _ _⟩
  case round =>
   obtain ⟨k,hk,rfl,ht,hb⟩:=hrel
   by_cases hlt:k < n
   ·obtain ⟨b1,o1,y1,rfl,hy1,-,hA1⟩:=g_k (e_h hb.out V) hlt;obtain ⟨b2,o2,y2,rfl,hy2,-,hA2⟩:=g_k (e_h hb.out U) hlt;obtain ⟨i0,i1,i2,i3⟩:=y1;obtain ⟨e0,e1,e2,e3⟩:=y2;obtain ⟨z0,z1,z2,z3⟩:=l_V hA1;obtain ⟨u0,u1,u2,u3⟩:=l_V hA2;dsimp only at z0 z1 z2 z3 u0 u1 u2 u3;rw [show repIns.k=4 from rfl] at z0 z1 z2 z3 u0 u1 u2 u3;have j1:(0:Int)≤k:=by omega
    have j2:(k:Int) < n:=by omega
    by_cases he:i0=e0∧i1=e1∧i2=e2∧i3=e3
    ·obtain ⟨rfl,rfl,rfl,rfl⟩:=he;have HT:=Lib.hid (show xs.take (k+1)=ys.take (k+1) by rw [List.take_add_one,List.take_add_one,ht.out,hy1,hy2]);clear hy1 hy2 hA1 hA2;exact J82
    ·have HE:=Lib.hid (show decide (xs=ys)=false by
      rw [decide_eq_false_iff_not];intro e;rw [e,hy2] at hy1;apply he;simpa using hy1.symm)
     have hc:¬ i0=e0∨(i0=e0∧¬ i1=e1)∨(i0=e0∧i1=e1∧¬ i2=e2)∨(i0=e0∧i1=e1∧i2=e2∧¬ i3=e3):=by omega
     clear hy1 hy2 hA1 hA2 he
     rcases hc with q | ⟨rfl,q⟩ | ⟨rfl,rfl,q⟩ | ⟨rfl,rfl,rfl,q⟩
     all_goals
      go_wp2
      go_quiet (fail)
      go_wp2
      go_ret
      exact a_e HE.out (below_drewN hb.out nq)
   ·obtain rfl:k=n:=by omega
    have HE:=Lib.hid (show decide (xs=ys)=true by
     rw [decide_eq_true_iff];have:=ht.out;rw [List.take_of_length_le (by omega),List.take_of_length_le (by omega)] at this;exact this)
    go_wp2
    go_ret
    exact a_e HE.out hb.out
 ·have h1:=N60;have HE:=Lib.hid (show decide (xs=ys)=false by rw [decide_eq_false_iff_not];intro e;rw [e] at hl;omega)
  go_enter Tryz.func27,Tryz.ntmps27
  go_wp2
  go_ret
  exact a_e HE.out (Below.refl _ _)
end Go.Proofs.YtolabfafgbmdbaaGreatDoor
namespace Go.Proofs.YtolabfafgbmdbaaGreatDoor
open Go.ChangeShapes Go.WideShapes Go.ChangeAt Go.RowKit
open Gen
open Lib (hid)
def o_t (h:Nat) (L M:WoL) (b1 o1 b2 o2 n k:Nat) (t:Thr) (ta qa sa ra:Option Addr) (tn tc tm qc sc rc:Nat):a_6:=[isV 0 (.pointer (some ⟨h,5,none⟩)),isV 1 (.slice (some ⟨b1,o1,none⟩) n L.th.c),isV 2 (.int .i64 k),isV 3 (.pointer (some ⟨b1,o1+k*13,none⟩)),isV 4 (.agg (thC t ta tn tc qa tm qc).toArray),isV 5 (.pointer (some ⟨h+1,5,none⟩)),isV 6 (.slice (some ⟨b2,o2,none⟩) n M.th.c),isV 7 (.int .i64 k),isV 8 (.pointer (some ⟨b2,o2+k*13,none⟩)),isV 9 (.agg (thC t sa tn sc ra tm rc).toArray),isV 10 (.bool true),isV 11 (.bool false)]
theorem k_t (h:Nat) (L M:WoL) (b1 o1 b2 o2 n k:Nat) (t:Thr) (ta qa sa ra:Option Addr) (tn tc tm qc sc rc:Nat):b_E (o_t h  L M  b1 o1 b2 o2 n k  t  ta qa sa ra  tn tc tm qc sc rc ):=a_c<|a_c<|a_c<|a_c<|a_c<|a_c<|a_c<|a_c<|a_c<|a_c<|a_c<|a_c<|a_2
theorem o_J {w0 w:World} {g o:Nat} {cs:List Value} (hb:Below w0.heap.size w0 w) (h:w0.rangeAt g o cs):w.rangeAt g o cs:=fun j v hj=>a_n hb (h j v hj)
theorem k_W (t:Thr):j_j t t=true:=sameT_iff.2 ⟨rfl,by simp [eqR],rfl,rfl,rfl,rfl⟩
theorem c_l (L M:WoL) (X:Wo) (w:World) (R:RWo Any w L X) (S:RWo Any w M X) (hn8:L.th.n≤8) (hfs:∀ t∈X.th,t.fs.length≤1000000) (hcn:X.code.length≤50001) (hws:X.ws.length≤1000) (hts:X.ts.length≤1000) (hbs:X.bs.length≤1000) (hen:L.ev.n≤1000000) :
  Calls Tryz.prog 13 #[woV L X.D,woV M X.D] w (a_B true w):=by
 obtain ⟨D,hD⟩:=mn (X.D);rw [hD];obtain ⟨W,hW⟩:=nm ((w.alloc (Obj.cells (woC L D).toArray 33)).alloc (Obj.cells (woC M D).toArray 33));have HX:=N59;have HM:=hid (show a_p W (w.heap.size+1) (woC M D) by rw [hW];exact a_i _ _ (by simp));have HB:=N1;have ⟨HW,HR,HS,HN⟩:=hh4 hW R S hn8;have HNN:=hid (show M.th.n=L.th.n from S.th.1.symm.trans R.th.1);have ⟨HEN,HFS,HCN⟩:=hh3 hen hfs hcn;have HWN:=hid (And.intro hws (And.intro hts hbs));clear hD R S hW hen hn8 hfs hcn hws hts hbs;unfold woV
 go_enter Tryz.func13,Tryz.ntmps13
 go_upto_region 1 with fail
 rw [←HW.out];obtain ⟨n,hn⟩:=mn (L.th.n);obtain ⟨x5,-⟩:=HX.out 5 _ rfl;obtain ⟨m5,-⟩:=HM.out 5 _ rfl;rw [HNN.out] at m5;rw [hn] at x5 m5;have HNL:=hid hn;clear hn
 go_wp2_with fail
 clear x5 m5
 go_loopw [5,16] (fun _ i wr=>∃ k:Nat,k≤n∧i=.int .i64 k∧Hid (Below W.heap.size W wr)) (fun _ i _=>n - (intOf i).toNat)
 case atStart=>exact ⟨0,by omega,rfl,Below.refl _ _⟩
 case round =>
  obtain ⟨k,hk,rfl,hb⟩:=hrel;have HX1:=hid (a_f hb.out HX.out);have HM1:=hid (a_f hb.out HM.out);have HB1:=hid (a_b HB.out hb.out);have HR1:=hid (b_O HB1.out HR.out);have HS1:=hid (b_O HB1.out HS.out)
  by_cases hlt:k < n
  ·obtain ⟨b1,o1,t,ta,tc,qa,qc,h1,ht1,-,T1,r1⟩:=d_1 HR1.out.th (k:=k) (by have:=HNL.out;omega);obtain ⟨b2,o2,s,sa,sc,ra,rc,h2,ht2,-,T2,r2⟩:=d_1 HS1.out.th (k:=k) (by have:=HNN.out;have:=HNL.out;omega);obtain rfl:t=s:=by rw [ht1] at ht2;exact Option.some.inj ht2
   obtain ⟨x5,-⟩:=HX1.out 5 _ rfl;obtain ⟨m5,-⟩:=HM1.out 5 _ rfl;rw [HNN.out,h2] at m5;rw [h1] at x5;rw [HNL.out] at x5 m5;have HFN:=hid (HFS.out t (List.mem_of_getElem? ht1));obtain ⟨tn,htn⟩:=mn (t.fs.length);obtain ⟨tm,htm⟩:=mn (t.lf.length);rw [htn] at HFN;rw [htn,htm] at T1 T2;have HA1:=hid (show wr.rangeAt b1 (o1+k*13) (thC t ta tn tc qa tm qc) from fun x v hx=>r1 x v (by rw [htn,htm];exact hx));have HA2:=hid (show wr.rangeAt b2 (o2+k*13) (thC t sa tn sc ra tm rc) from fun x v hx=>r2 x v (by rw [htn,htm];exact hx));have HB0:=hid hb.out;have i1:(0:Int)≤k:=by omega
   have i2:(k:Int) < n:=by omega
   have HC:=hid (show ∀ u,Below wr.heap.size wr u→Calls Tryz.prog 25 #[thV t ta tn tc qa tm qc,thV t sa tn sc ra tm rc] u (a_B true u) from fun u hu=>by
    have h:=h_3 t t ta qa tn tc tm qc sa ra tn sc tm rc u (a_9 (a_G hu) T1).f (a_9 (a_G hu) T2).f HFN.out;rw [k_W] at h;exact h)
   clear h1 h2 ht1 ht2 T1 T2 r1 r2 htn htm;obtain ⟨V,hV⟩:=nm (wr);subst hV;have hG:=k_t w.heap.size L M b1 o1 b2 o2 n k t ta qa sa ra tn tc tm qc sc rc
   go_upto_region 6 with fail
   refine e_I [some 19,some 20,some 21,some 22,some 23,some 24,some 25,some 26,some 27,some 28,some 29,some 30] (fun w'=>Below V.heap.size V w') (o_t w.heap.size L M b1 o1 b2 o2 n k t ta qa sa ra tn tc tm qc sc rc) 100 100 (fun _ _ _=>True) (by kernel_rfl) (by kernel_rfl) (by decide) rfl ((Below.refl _ _).drew) ?_ ?_
   ·show StepsL _ _ _ _ _ _ _
    refine InvD.c (fun _ _ w1 C _ hK=>oR C hK (h:=by simp [execOp,go_sem,C.o 2 (.pointer (some ⟨w.heap.size,0,none⟩))])) ?_;refine InvD.c (fun _ _ w1 C _ hK=>oR C hK (h:=by simp [execOp,go_sem,C.i 0,a_n C.base x5])) ?_;refine InvD.c (fun _ _ w1 C _ hK=>oR C hK (h:=by simp [execOp,go_sem,C.o 5 (.int .i64 (k:Int))])) ?_;refine InvD.c (fun _ _ w1 C _ hK=>oR C hK (h:=by simp [execOp,go_sem,C.i 1,C.i 2,i1,i2])) ?_;refine InvD.c (fun a1 vals w1 C K hK=>?_) ?_
    ·have e0:=C.i 3;exact a_d rfl (wp_load_mid 46 _ rfl (b1) (o1+k*13) ((a_s a1 _).symm.trans e0) (thC t ta tn tc qa tm qc) _ (o_J C.base HA1.out) Tryz.underlying46 rfl (by kernel_rfl) (b_k hK C rfl rfl))
    refine InvD.c (fun _ _ w1 C _ hK=>oR C hK (h:=by simp [execOp,go_sem,C.o 3 (.pointer (some ⟨w.heap.size+1,0,none⟩))])) ?_;refine InvD.c (fun _ _ w1 C _ hK=>oR C hK (h:=by simp [execOp,go_sem,C.i 5,a_n C.base m5])) ?_;refine InvD.c (fun _ _ w1 C _ hK=>oR C hK (h:=by simp [execOp,go_sem,C.o 5 (.int .i64 (k:Int))])) ?_;refine InvD.c (fun _ _ w1 C _ hK=>oR C hK (h:=by simp [execOp,go_sem,C.i 6,C.i 7,i1,i2])) ?_;refine InvD.c (fun a1 vals w1 C K hK=>?_) ?_
    ·have e0:=C.i 8;exact a_d rfl (wp_load_mid 46 _ rfl (b2) (o2+k*13) ((a_s a1 _).symm.trans e0) (thC t sa tn sc ra tm rc) _ (o_J C.base HA2.out) Tryz.underlying46 rfl (by kernel_rfl) (b_k hK C rfl rfl))
    refine InvD.c (fun a1 vals w1 C K hK=>?_) ?_
    ·have e0:=C.i 4;have e1:=C.i 9;rw [a_s] at e0 e1;refine a_d rfl (a_x _ _ _ rfl 25 rfl [.agg (thC t ta tn tc qa tm qc).toArray,.agg (thC t sa tn sc ra tm rc).toArray] (by simp only [List.map_cons,List.map_nil,e0,e1]) (by kernel_rfl) ((HC.out w1 C.base).mono ?_));rintro e9 w2 ⟨rfl,hb2⟩;exact J33
    refine InvD.c (fun _ _ w1 C _ hK=>oR C hK (h:=by simp [execOp,go_sem,C.i 10])) ?_;exact StepsL.nil
   ·intro vals w1 hb hv hbo;have y30:=N107;simp only [b_Y,Act.put,sA,sB,sC,y30];have HB2:=hid (show Below W.heap.size W w1 from a_b HB0.out hb);have hn8:=HN.out;have hnl:=HNL.out;have hwk:wrap64 ((k:Int)+1)=k+1:=IntWalk.wrap64_in _ (by omega);clear hb hv hbo y30 hn8 hnl x5 m5 HC HA1 HA2 hG
    go_wp2
    go_roundw
    case rel=>exact ⟨k+1,by omega,by go_num,HB2.out⟩
    case measure=>rw [hwk];simp only [intOf];omega
  ·obtain rfl:k=n:=by omega
   obtain ⟨x0,-⟩:=HX1.out 0 _ rfl;obtain ⟨m0,-⟩:=HM1.out 0 _ rfl;have h0:=j_e L.co.a M.co.a L.co.n M.co.n L.co.c M.co.c X.code X.code wr HR1.out.co HS1.out.co (by have:=HR1.out.co.1;have:=HCN.out;omega) (by have:=HS1.out.co.1;have:=HCN.out;omega);rw [decide_eq_true rfl] at h0;have HC:=hid h0;clear h0
   go_wp2_with fail
   refine HC.out.mono ?_;clear HC x0 m0;rintro e2 w2 ⟨rfl,hb2⟩;have HX2:=hid (a_f hb2 HX1.out);have HM2:=hid (a_f hb2 HM1.out);have HB2:=hid (a_b HB1.out hb2);have HR2:=hid (b_O HB2.out HR.out);have HS2:=hid (b_O HB2.out HS.out);have hz:=HWN.out;have h0:=h_5 L.ws.a L.ts.a L.bs.a M.ws.a M.ts.a M.bs.a L.ws.n L.ws.c L.ts.n L.ts.c L.bs.n L.bs.c M.ws.n M.ws.c M.ts.n M.ts.c M.bs.n M.bs.c X.ws X.ts D X.bs w2 HR2.out.ws.sl HR2.out.ts.sl HR2.out.bs.bl HS2.out.ws.sl HS2.out.ts.sl HS2.out.bs.bl (by have:=HR2.out.ws.1;omega) (by have:=HR2.out.ts.1;omega) (by have:=HR2.out.bs.1;omega);have HC:=hid h0;clear h0 hz hb2;obtain ⟨x1,-⟩:=HX2.out 1 _ rfl;obtain ⟨x2,-⟩:=HX2.out 2 _ rfl;obtain ⟨x3,-⟩:=HX2.out 3 _ rfl;obtain ⟨x4,-⟩:=HX2.out 4 _ rfl;obtain ⟨m1,-⟩:=HM2.out 1 _ rfl;obtain ⟨m2,-⟩:=HM2.out 2 _ rfl;obtain ⟨m3,-⟩:=HM2.out 3 _ rfl;obtain ⟨m4,-⟩:=HM2.out 4 _ rfl
   go_wp2_with fail
   refine HC.out.mono ?_;clear HC x1 x2 x3 x4 m1 m2 m3 m4;rintro e3 w3 ⟨rfl,hb3⟩;have HB3:=hid (a_b HB2.out hb3);have HR3:=hid (b_O HB3.out HR.out);have HS3:=hid (b_O HB3.out HS.out);obtain ⟨x6,-⟩:=a_f hb3 HX2.out 6 _ rfl;obtain ⟨m6,-⟩:=a_f hb3 HM2.out 6 _ rfl;have h0:=i_J L.ev.a M.ev.a L.ev.n M.ev.n L.ev.c M.ev.c X.ev X.ev w3 HR3.out.ev HS3.out.ev HEN.out;rw [decide_eq_true rfl] at h0;have HC:=hid h0;clear h0 hb3
   go_wp2_with fail
   refine HC.out.mono ?_;clear HC x6 m6;rintro e4 w4 ⟨rfl,hb4⟩;have HB4:=hid (a_b HB3.out hb4);clear hb4
   go_wp2
   go_ret
   exact a_e rfl HB4.out
end Go.Proofs.YtolabfafgbmdbaaGreatDoor
