import Derived.Test.YtolabfafgbmdbaaGreatDoorQ38
import Derived.Test.YtolabfafgbmdbaaGreatDoorQ0
import Derived.Test.YtolabfafgbmdbaaGreatDoorQ28
import Derived.Maps.AppendAt
set_option maxRecDepth 100000
set_option maxHeartbeats 16000000
namespace Go.Proofs.YtolabfafgbmdbaaGreatDoor
open Go.ChangeShapes Go.WideShapes Go.ChangeAt Go.RowKit
open Gen
open Lib (hid)
def s_q (h:Nat) (a a':Option Addr) (n n' c c' m m':Nat):b_n:=[isV 0 (.slice a n c),isV 1 (.slice a n c),isV 2 (.int .i64 n),isV 3 (.int .i64 m),isV 4 (.slice a m c),isV 5 (.slice a' n' c'),isV 6 (.slice a' n' c'),isV 7 (.int .i64 n'),isV 8 (.int .i64 m'),isV 9 (.slice a' m' c'),isV 10 (.agg #[.slice a m c,.slice a' m' c']),([],fun _ w=>a_p w h [.slice a m c,.slice a' m' c'])]
theorem q_E (h:Nat) (a a':Option Addr) (n n' c c' m m':Nat):∀ jz args wz wz',jz≠11→b_E (s_q h  a a'  n n' c c' m m' ) jz args wz→b_E (s_q h  a a'  n n' c c' m m' ) jz args wz':=by
 intro jz args wz wz' n0 h
 match jz with
 | 0=>exact h
 | 1=>exact h
 | 2=>exact h
 | 3=>exact h
 | 4=>exact h
 | 5=>exact h
 | 6=>exact h
 | 7=>exact h
 | 8=>exact h
 | 9=>exact h
 | 10=>exact h
 | 11=>exact absurd rfl n0
 | _+12=>exact trivial
theorem q_0 (a a':Option Addr) (n n' c c':Nat) (w:World) (h1:n≤c∧c≤9223372036854775807) (h2:n'≤c'∧c'≤9223372036854775807) :
  Calls Tryz.prog 8 #[.slice a n c,.slice a' n' c'] w (fun e w'=>e=.returned (.agg #[.slice a (min n 170) c,.slice a' (min n' 170) c'])∧Below w.heap.size w w'):=by
 obtain ⟨W,hW⟩:=nm (w.alloc (Obj.cells #[.slice none 0 0,.slice none 0 0] 26));have HZ:=hid (show a_p W w.heap.size [.slice none 0 0,.slice none 0 0] by rw [hW];exact a_e [.slice none 0 0,.slice none 0 0] _ rfl);have HB:=N3;have HW:=hid hW;obtain ⟨m,hm⟩:=mn (min n 170);obtain ⟨m',hm'⟩:∃ m,min n' 170=m:=⟨_,rfl⟩;rw [hm,hm'];have HM1:=hid (show (if (170:Int) < (n:Int) then (170:Int) else (n:Int))=(m:Int) by split <;> omega);have HM2:=hid (show (if (170:Int) < (n':Int) then (170:Int) else (n':Int))=(m':Int) by split <;> omega);have i1:m≤c:=by omega
 have i2:m'≤c':=by omega
 clear hW hm hm' h1 h2
 go_enter Tryz.func8,Tryz.ntmps8
 go_upto_region 1 with fail
 rw [←HW.out];refine d_f [some 5,some 6,some 7,some 8,some 9,some 10,some 11,some 12,some 13,some 14,some 15,none] (fun w'=>Bel (fun c=>c=w.heap.size) W w'∧∃ cs,cs.length=2∧a_p w' w.heap.size cs) (s_q w.heap.size a a' n n' c c' m m') 100 100 (fun _ _ _=>True) (by kernel_rfl) (by kernel_rfl) (by decide) rfl (⟨d_s ((Below.refl _ _).drew),_,rfl,a_h ((Below.refl _ _).drew) HZ.out⟩) ?_ ?_
 ·show StepsL _ _ _ _ _ _ _
  refine InvD.c (fun _ _ w1 C _ hK=>oR C hK (h:=by simp [execOp,go_sem,C.o 0 (.slice a n c)])) ?_;refine InvD.c (fun _ _ w1 C _ hK=>oR C hK (h:=by simp [execOp,go_sem,C.o 0 (.slice a n c)])) ?_;refine InvD.c (fun a1 vals w1 C K hK=>?_) ?_
  ·have e0:=C.i 1;refine a_f rfl (a_v (v:=.int .i64 n) ?_ (b_P hK C rfl rfl));simp [go_sem,e0]
  refine InvD.c (fun a1 vals w1 C K hK=>?_) ?_
  ·have e0:=C.i 2;refine a_f rfl (a_v (v:=.int .i64 m) ?_ (b_P hK C rfl rfl));simp [go_sem,e0,HM1.out]
  refine InvD.c (fun _ _ w1 C _ hK=>oR C hK (h:=by simp [execOp,go_sem,C.i 0,C.i 3,i1])) ?_;refine InvD.c (fun _ _ w1 C _ hK=>oR C hK (h:=by simp [execOp,go_sem,C.o 1 (.slice a' n' c')])) ?_;refine InvD.c (fun _ _ w1 C _ hK=>oR C hK (h:=by simp [execOp,go_sem,C.o 1 (.slice a' n' c')])) ?_;refine InvD.c (fun a1 vals w1 C K hK=>?_) ?_
  ·have e0:=C.i 6;refine a_f rfl (a_v (v:=.int .i64 n') ?_ (b_P hK C rfl rfl));simp [go_sem,e0]
  refine InvD.c (fun a1 vals w1 C K hK=>?_) ?_
  ·have e0:=C.i 7;refine a_f rfl (a_v (v:=.int .i64 m') ?_ (b_P hK C rfl rfl));simp [go_sem,e0,HM2.out]
  refine InvD.c (fun _ _ w1 C _ hK=>oR C hK (h:=by simp [execOp,go_sem,C.i 5,C.i 8,i2])) ?_;refine InvD.c (fun _ _ w1 C _ hK=>oR C hK (h:=by simp [execOp,go_sem,C.i 4,C.i 9])) ?_;refine InvD.c (fun a1 vals w1 C K hK=>?_) ?_
  ·have e0:a1.eval (.tmp 4)=.pointer (some ⟨w.heap.size,0,none⟩):=C.old 4 rfl;have e1:=C.i 10;rw [a_K] at e1;obtain ⟨xs,hx1,hx2⟩:=C.base.2;refine a_f rfl (a_7 26 _ _ rfl w.heap.size #[.slice a m c,.slice a' m' c'] e0 e1 xs hx2 (by rw [hx1];rfl) (by kernel_rfl) (by simp [Value.oneCell']) ?_);intro U HU;have hUx:a_p U w.heap.size [.slice a m c,.slice a' m' c']:=by rw [HU.out];exact a_q hx2 (by rw [hx1];rfl)
   exact hK _ U hUx ⟨by rw [HU.out];exact e_m (S:=fun c=>c=w.heap.size) rfl C.base.1,_,rfl,hUx⟩ (fun jz hj h=>q_E _ _ _ _ _ _ _ _ _ _ _ _ _ hj h) (fun _ _ _=>trivial) (fun _ _ _=>trivial) (fun _ _ _=>trivial) (fun _ _=>trivial)
  exact StepsL.nil
 ·intro vals w1 hb hv hbo;have d:=c_j rfl (hv 11 (by decide));have HX:=hid (show a_p w1 w.heap.size [.slice a m c,.slice a' m' c'] from d);have HB9:=hid (show Below w.heap.size w w1 from HB.out.trans (hb.1.below (fun c hc=>by omega) HB.out.size));clear hb hv hbo d i1 i2;simp only [c_L,Act.put,sA,sB,sC]
  go_wp2_with fail
  refine a_X ⟨w.heap.size,0,none⟩ rfl rfl rfl (a_E HX.out 26 Tryz.underlying26 rfl (by kernel_rfl)) ?_;exact ⟨rfl,HB9.out⟩
abbrev al0:Wo:=k_5 [(1,1,7,0),(0,0,0,0)] [0] [0] [1] 0
theorem r_S:h_K [(1,1,7,0),(0,0,0,0)] [0] [0] [1] 0=0:=by decide
theorem r_T:l_o al0 0=0:=by decide
theorem t_L:l_o (i_p al0 0) 0=0:=by decide
theorem al_end:(i_p (i_p al0 0) 0).th.length=1∧(thW (i_p (i_p al0 0) 0) 0).st=1∧(thW (i_p (i_p al0 0) 0) 0).r 1=7∧(i_p al0 0).ev.length=0:=by decide
theorem r_U:WfW al0:=by
 refine ⟨fun i hi=>?_,fun z hz=>?_,fun b hb=>?_,fun t ht=>?_⟩
 ·simp only [al0,k_5,List.mem_cons,List.not_mem_nil,or_false] at hi
  rcases hi with rfl | rfl
  ·exact ⟨k_a (by decide) (by decide),k_a (by decide) (by decide),d_9⟩
  ·exact ⟨d_9,d_9,d_9⟩
 ·simp only [al0,k_5,List.mem_cons,List.not_mem_nil,or_false] at hz;rw [hz];exact d_9
 ·have e:b=[]:=List.mem_singleton.1 hb;rw [e];intro p hp;exact absurd hp List.not_mem_nil
 ·have e:t={ d_J with pc:=0 }:=List.mem_singleton.1 ht;rw [e];exact ⟨fun _=>d_9,fun f hf=>by cases hf⟩
theorem t_M:WfW (i_p al0 0):=by rw [i_p,if_pos r_T];exact p_P r_U (by decide)
theorem p_z {w:World} {g:Nat} {z:Int} (h:a_p w g [.int .i64 z]):Sl w (some ⟨g,0,none⟩) 1 [z]:=⟨rfl,.inr ⟨g,0,rfl,fun i hi=>by
 obtain rfl:i=0:=by simpa using hi
 exact (h 0 _ rfl).1⟩⟩
theorem h_Y (w:World) (G:Glob w):Calls Tryz.prog 10 #[] w (a_1 true w):=by
 obtain ⟨W,hW⟩:=nm ((((w.alloc (Obj.cells #[.int .i64 1,.int .i64 1,.int .i64 7,.int .i64 0,.int .i64 0,.int .i64 0,.int .i64 0,.int .i64 0] 66)).alloc (Obj.cells #[.int .i64 0] 3)).alloc (Obj.cells #[.int .i64 0] 3)).alloc (Obj.cells #[.int .i64 1] 3));have HB:=N3;have ⟨HW,HG⟩:=hh2 hW G;clear hW G
 go_enter Tryz.func10,Tryz.ntmps10
 go_upto_region 1 with fail
 go_wp2_with fail
 rw [←HW.out];have v0:a_p W w.heap.size [.int .i64 1,.int .i64 1,.int .i64 7,.int .i64 0,.int .i64 0,.int .i64 0,.int .i64 0,.int .i64 0]:=by rw [HW.out];exact a_s _ (a_s _ (a_s _ (a_e [.int .i64 1,.int .i64 1,.int .i64 7,.int .i64 0,.int .i64 0,.int .i64 0,.int .i64 0,.int .i64 0] _ rfl)))
 have v1:a_p W (w.heap.size+1) [.int .i64 0]:=by rw [HW.out];exact a_s _ (a_s _ (a_e [.int .i64 0] _ (by simp)))
 have v2:a_p W (w.heap.size+1+1) [.int .i64 0]:=by rw [HW.out];exact a_s _ (a_e [.int .i64 0] _ (by simp))
 have v3:a_p W (w.heap.size+1+1+1) [.int .i64 1]:=by rw [HW.out];exact a_e [.int .i64 1] _ (by simp)
 have h0:=l_n ⟨⟨some ⟨w.heap.size,0,none⟩,2,2⟩,⟨some ⟨w.heap.size+1+1,0,none⟩,1,1⟩,⟨some ⟨w.heap.size+1+1+1,0,none⟩,1,1⟩,zSp,zSp,zSp⟩ [(1,1,7,0),(0,0,0,0)] [0] [1] [0] 0 (some ⟨w.heap.size+1,0,none⟩) 1 1 W (i_8 v0 ⟨g_G (1,1,7,0),g_G (0,0,0,0),rfl,rfl,g_G (0,0,0,0),[],rfl,rfl,rfl⟩ trivial) ⟨Nat.le_refl _,(by show 2≤9223372036854775807;omega),fun e=>by cases e⟩ (s_c (p_z v2)) (s_c (p_z v3)) (p_z v1) (HG.out.B HB.out);rw [r_S,m_3,if_pos r_S] at h0;with_reducible refine h0.mono ?_
 clear h0 v0 v1 v2 v3;rintro e1 w1 ⟨L1,rfl,R1,hb1⟩;obtain ⟨X0,hX0⟩:=nm (k_5 [(1,1,7,0),(0,0,0,0)] [0] [0] [1] 0);rw [←hX0] at R1 ⊢;have HX0:=hid (show X0=al0 from hX0);have HB1:=hid (a_a HB.out hb1);have HR1:=hid R1;clear hX0 R1 hb1
 go_upto_region 2 with (refine a_d rfl 33 _ _ rfl w1.heap.size (woC L1 X0.D).toArray rfl rfl _ (a_e woZ w1.heap.size rfl) rfl (by kernel_rfl) (b_u _ _) ?_;intro U HU)
 have HXU:=hid (show a_p U w1.heap.size (woC L1 X0.D) by rw [HU.out];exact a_q (a_e woZ _ rfl) rfl);have HBU0:=N144;have HBU:=hid (a_a HB1.out HBU0.out);have HSU:=N183;have hR:=d_n (b_H HBU0.out HR1.out);have he:X0.ev.length=0:=by rw [HX0.out];rfl
 have h0:=e_2 L1 X0 0 U hR (HG.out.B HBU.out) (by have:=hR.ev.1;omega) (by rw [HX0.out];exact j_b r_U);rw [show l_o X0 0=0 by rw [HX0.out];exact r_T] at h0;have HC:=hid h0;obtain ⟨X1,hX1⟩:=nm (i_p X0 0);rw [←hX1] at HC;have HX1:=hid hX1;clear HU hR h0 hX1 he
 go_wp2_with (refine wpList_load_mid rfl 33 _ rfl w1.heap.size 0 rfl (woC L1 X0.D) _ (a_g HXU.out) Tryz.underlying33 rfl (by kernel_rfl) ?_)
 refine HC.out.mono ?_;clear HC;rintro e2 w2 ⟨L2,rfl,R2,hb2⟩;have HB2:=hid (a_a HBU.out hb2);have HX2:=hid (a_h hb2 HXU.out);have HR2:=hid R2;have HS2:=N142;clear R2 hb2
 go_upto_region 3 with (refine a_d rfl 33 _ _ rfl w1.heap.size (woC L2 X1.D).toArray rfl rfl _ HX2.out rfl (by kernel_rfl) (b_u _ _) ?_;intro V HV)
 have HXV:=hid (show a_p V w1.heap.size (woC L2 X1.D) by rw [HV.out];exact a_q HX2.out rfl);have HBV:=hid (show Below w.heap.size w V by rw [HV.out];exact a_j HB1.out.size HB2.out);have hR:RWo Any V L2 X1:=d_n (a_C (by rw [HV.out];exact a_u (fun b hb=>by have:=HSU.out;omega)) HR2.out);have he:X1.ev.length=0:=by rw [HX1.out,HX0.out];exact al_end.2.2.2
 have h0:=e_2 L2 X1 0 V hR (HG.out.B HBV.out) (by have:=hR.ev.1;omega) (by rw [HX1.out,HX0.out];exact j_b t_M);rw [show l_o X1 0=0 by rw [HX1.out,HX0.out];exact t_L] at h0;have HC:=hid h0;obtain ⟨X2,hX2⟩:=nm (i_p X1 0);rw [←hX2] at HC;have HX2':=hid hX2;have HSV:=hid (show w1.heap.size+1≤V.heap.size by rw [HV.out,a_S];exact HS2.out);clear HV hR h0 hX2 he
 go_wp2_with (refine wpList_load_mid rfl 33 _ rfl w1.heap.size 0 rfl (woC L2 X1.D) _ (a_g HXV.out) Tryz.underlying33 rfl (by kernel_rfl) ?_)
 refine HC.out.mono ?_;clear HC;rintro e3 w3 ⟨L3,rfl,R3,hb3⟩;have HB3:=hid (a_a HBV.out hb3);have HX3:=hid (a_h hb3 HXV.out);have HR3:=hid R3;clear R3 hb3
 go_upto_region 4 with (refine a_d rfl 33 _ _ rfl w1.heap.size (woC L3 X2.D).toArray rfl rfl _ HX3.out rfl (by kernel_rfl) (b_u _ _) ?_;intro Y HY)
 have HXY:=hid (show a_p Y w1.heap.size (woC L3 X2.D) by rw [HY.out];exact a_q HX3.out rfl);have HBY:=hid (show Below w.heap.size w Y by rw [HY.out];exact a_j HB1.out.size HB3.out);have hR:RWo Any Y L3 X2:=d_n (a_C (by rw [HY.out];exact a_u (fun b hb=>by have:=HSV.out;omega)) HR3.out);have HE:=al_end;rw [←HX0.out,←HX1.out,←HX2'.out] at HE;obtain ⟨z1,z2,z3,-⟩:=HE;have hn:L3.th.n=1:=by have:=hR.th.1;omega
 obtain ⟨tb,tq,t,ta,tc,qa,qc,htl,htt,-,TQ,hr⟩:=d_d hR.th (k:=0) (by omega);have htw:thW X2 0=t:=by rw [thW,List.getD_eq_getElem?_getD,htt];rfl
 rw [htw] at z2 z3;obtain ⟨x5,-⟩:=HXY.out 5 _ rfl;have c10:=hr 10 _ rfl;have c2:=hr 2 _ rfl;rw [z2] at c10;rw [z3] at c2;rw [htl,hn] at x5;clear HY hR htw htt TQ hr z1 z2 z3
 go_wp2_with fail
 go_ret
 exact ⟨rfl,HBY.out⟩
end Go.Proofs.YtolabfafgbmdbaaGreatDoor
namespace Go.Proofs.YtolabfafgbmdbaaGreatDoor
open Go.ChangeShapes Go.WideShapes Go.ChangeAt Go.RowKit
def Zs (j:Nat):List Value:=(List.replicate j (0:Int)).map (Value.int .i64)
theorem n_S (j:Nat):Zs (j+1)=Zs j++[.int .i64 0]:=by simp [Zs,List.replicate_succ']
structure KeptE (B:Nat) (w w':World):Prop where
 os:w'.os=w.os
 tape:w'.tape=w.tape
 output:w'.output=w.output
 size:w.heap.size≤w'.heap.size
 block:∀ k,k < B→k < w.heap.size→w'.heap[k]?=w.heap[k]?
theorem KeptE.cell {B:Nat} {w w':World} (h:KeptE B w w') {p:Addr} {v:Value} (hp:p.block < B) (hc:w.cell? p=some v):w'.cell? p=some v:=by
 rw [World.cell?_of_block (w:=w) (h.block _ hp (b_d hc))];exact hc
theorem KeptE.free {B:Nat} {w w':World} (h:KeptE B w w') {p:Addr} {v:Value} (hp:p.block < B) (hc:w.cell? p=some v) (hf:w.frozen? p=false):w'.frozen? p=false:=by
 rw [World.frozen?_of_block (w:=w) (h.block _ hp (b_d hc))];exact hf
theorem KeptE.below {B:Nat} {w0 w w':World} (h:KeptE B w w') (hb:Below w0.heap.size w0 w) (hB:w0.heap.size≤B):Below w0.heap.size w0 w':=
 hb.trans ⟨h.os,h.tape,h.output,h.size,fun k hk=>h.block k (by omega) (by have:=hb.size;omega)⟩
theorem i_K {B:Nat} {w w':World} {o:Obj} {v:Value} {n:Nat} {e:TypeId} {xs:List Value} (hv:w.ownsRow B e 1 v n xs) (hg:(w.alloc o).grownBy w' v.ownBlock):KeptE B w w':=
 ⟨hg.os,hg.tape,hg.output,by have:=hg.size;simp at this;omega,fun k hk hkw=>by
  rw [hg.block k (by simp;omega) (fun e=>by have:=(hv.lt k e.symm).1;omega)];exact b_q w o k hkw⟩
theorem m_i {F F':Nat} {w:World} {a:Option Addr} {n:Nat} {zs:List Int} (hF:F'≤F) (h:SlF F w a n zs):SlF F' w a n zs:=
 ⟨h.1,h.2.imp id fun ⟨b,o,e,hb,r⟩=>⟨b,o,e,by omega,r⟩⟩
def p_4 (v u:Value):Prop:=v.ownBlock=none∧u.ownBlock=none∨v.ownBlock≠u.ownBlock
theorem h_0 {B:Nat} {w0:World} {u v v':Value} {n:Nat} {e:TypeId} {xs:List Value} (ha:p_4 v u) (hu:w0.ownsRow B e 1 u n xs)
  (hat:v'.ownBlock=v.ownBlock∨v'.ownBlock=some (w0.heap.size+1)) (hnil:v'.ownBlock=none→False):v'.ownBlock≠u.ownBlock:=by
 rcases hat with h | h
 ·rcases ha with ⟨h1,h2⟩ | h1
  ·exact fun _=>hnil (h.trans h1)
  ·rw [h];exact h1
 ·rw [h];intro e;have:=(hu.lt _ e.symm).2
  omega
theorem f_T {w:World} {B:Nat} {e:TypeId} {v:Value} {n:Nat} {xs:List Value} (h:w.ownsRow B e 1 v n xs):∃ a c,v=.slice a n c:=by
 exact J71
theorem l_7 {w:World} {B:Nat} {e:TypeId} {v:Value} {n:Nat} {xs:List Value} (h:w.ownsRow B e 1 v (n+1) xs):v.ownBlock=none→False:=by
 rcases h.2 with ⟨_,h0⟩ | ⟨g,cap,cur,rfl,_⟩
 ·omega
 ·intro h;simp [Value.ownBlock] at h
theorem j_M {w w':World} {B:Nat} {e:TypeId} {u v:Value} {n:Nat} {xs:List Value} {o:Obj} (hu:w.ownsRow B e 1 u n xs) (ha:p_4 v u) (hg:(w.alloc o).grownBy w' v.ownBlock):w'.ownsRow B e 1 u n xs:=
 (hu.alloc o).kept hg (by
  rcases ha with ⟨_,h⟩ | h
  ·exact .inl h
  ·exact .inr (fun e=>h e.symm))
structure NewRel (B S:Nat) (w:World) (j k:Nat) (wr:World) (v u:Value):Prop where
 hv:wr.ownsRow B 3 1 v j (Zs j)
 hu:wr.ownsRow B 3 1 u k (Zs k)
 apart:p_4 v u
 c0:wr.cell? ⟨S,0,none⟩=some (.slice none 0 0)
 c1:wr.cell? ⟨S,1,none⟩=some (.slice none 0 0)
 d0:wr.cell? ⟨S+1,0,none⟩=some v
 d1:wr.cell? ⟨S+1,1,none⟩=some u
 f0:wr.frozen? ⟨S,0,none⟩=false
 f1:wr.frozen? ⟨S,1,none⟩=false
 g0:wr.frozen? ⟨S+1,0,none⟩=false
 g1:wr.frozen? ⟨S+1,1,none⟩=false
 below:Below w.heap.size w wr
theorem j_t {w:World} {a:Addr} {x:Value} (v:Value) (h:w.cell? a=some x):(w.setCell a v).cell? a=some v:=World.cell?_setCell_same _ _ _ h
theorem u_y {S:Nat} {w wr w1:World} {j k:Nat} {v u v':Value} {o:Obj} (hS:w.heap.size=S) (h:NewRel (S+2) S w j k wr v u) (hown:w1.ownsRow (S+2) 3 1 v' (j+1) (Zs j++[.int .i64 0])) (hg:(wr.alloc o).grownBy w1 v.ownBlock)
  (hat:v'.ownBlock=v.ownBlock∨v'.ownBlock=some (wr.heap.size+1)):NewRel (S+2) S w (j+1) k (w1.setCell ⟨S+1,0,none⟩ v') v' u:=by
 have hk:=i_K h.hv hg;have e0:w1.cell? ⟨S+1,0,none⟩=some v:=hk.cell (by simp) h.d0;have e1:w1.cell? ⟨S+1,1,none⟩=some u:=hk.cell (by simp) h.d1;refine ⟨?_,?_,.inr (h_0 h.apart h.hu hat (l_7 hown)),?_,?_,j_t _ e0,?_,?_,?_,?_,?_,?_⟩
 ·rw [←n_S] at hown;exact ownsRow_setCell_below hown (by simp) _
 ·exact ownsRow_setCell_below (j_M h.hu h.apart hg) (by simp) _
 ·rw [World.cell?_setCell_other _ _ _ _ (by simp)];exact hk.cell (by simp) h.c0
 ·rw [World.cell?_setCell_other _ _ _ _ (by simp)];exact hk.cell (by simp) h.c1
 ·rw [World.cell?_setCell_other _ _ _ _ (by simp)];exact e1
 ·rw [World.frozen?_setCell];exact hk.free (by simp) h.c0 h.f0
 ·rw [World.frozen?_setCell];exact hk.free (by simp) h.c1 h.f1
 ·rw [World.frozen?_setCell];exact hk.free (by simp) h.d0 h.g0
 ·rw [World.frozen?_setCell];exact hk.free (by simp) h.d1 h.g1
 ·exact (hk.below h.below (by omega)).setCell (by simp;omega) _
theorem u_x {S:Nat} {w wr w1:World} {j k:Nat} {v u u':Value} {o:Obj} (hS:w.heap.size=S) (h:NewRel (S+2) S w j k wr v u) (hown:w1.ownsRow (S+2) 3 1 u' (k+1) (Zs k++[.int .i64 0])) (hg:(wr.alloc o).grownBy w1 u.ownBlock)
  (hat:u'.ownBlock=u.ownBlock∨u'.ownBlock=some (wr.heap.size+1)):NewRel (S+2) S w j (k+1) (w1.setCell ⟨S+1,1,none⟩ u') v u':=by
 have hk:=i_K h.hu hg;have ha:p_4 u v:=h.apart.imp (fun x=>⟨x.2,x.1⟩) (fun x e=>x e.symm);have e0:w1.cell? ⟨S+1,0,none⟩=some v:=hk.cell (by simp) h.d0;have e1:w1.cell? ⟨S+1,1,none⟩=some u:=hk.cell (by simp) h.d1;refine ⟨?_,?_,.inr (fun e=>h_0 ha h.hv hat (l_7 hown) e.symm),?_,?_,?_,j_t _ e1,?_,?_,?_,?_,?_⟩
 ·exact ownsRow_setCell_below (j_M h.hv ha hg) (by simp) _
 ·rw [←n_S] at hown;exact ownsRow_setCell_below hown (by simp) _
 ·rw [World.cell?_setCell_other _ _ _ _ (by simp)];exact hk.cell (by simp) h.c0
 ·rw [World.cell?_setCell_other _ _ _ _ (by simp)];exact hk.cell (by simp) h.c1
 ·rw [World.cell?_setCell_other _ _ _ _ (by simp)];exact e0
 ·rw [World.frozen?_setCell];exact hk.free (by simp) h.c0 h.f0
 ·rw [World.frozen?_setCell];exact hk.free (by simp) h.c1 h.f1
 ·rw [World.frozen?_setCell];exact hk.free (by simp) h.d0 h.g0
 ·rw [World.frozen?_setCell];exact hk.free (by simp) h.d1 h.g1
 ·exact (hk.below h.below (by omega)).setCell (by simp;omega) _
theorem n_f (n:Nat) (w:World) (h160:n≤160) :
  Calls Tryz.prog 42 #[.int .i64 n] w fun e w'=>∃ a c a' c',e=.returned (.agg #[.slice a n c,.slice a' n c'])∧SlF w.heap.size w' a n (List.replicate n 0)∧SlF w.heap.size w' a' n (List.replicate n 0)∧Below w.heap.size w w':=by
 obtain ⟨i0,hi,hz0,hz1,hz2⟩:=N179;have HI:=N45;clear hi hz0 hz1 hz2
 go_enter Tryz.func42,Tryz.ntmps42
 go_wp2
 obtain ⟨W,hW⟩:=nm ((w.alloc (Obj.cells #[.slice none 0 0,.slice none 0 0] 26)).alloc (Obj.cells #[.slice none 0 0,.slice none 0 0] 26))
 have HR:NewRel (w.heap.size+2) w.heap.size w 0 0 W (.slice none 0 0) (.slice none 0 0):=by
  rw [hW]
  exact ⟨World.ownsRow_nil _ _ _ _,World.ownsRow_nil _ _ _ _,.inl ⟨rfl,rfl⟩,b_b _ (by simp),b_b _ (by simp),by simp,by simp,
   b_G ((b_q _ _ _ (by simp)).trans (a_5 _ _ _ (by simp))),b_G ((b_q _ _ _ (by simp)).trans (a_5 _ _ _ (by simp))),b_G (a_5 _ _ _ (by simp)),b_G (a_5 _ _ _ (by simp)),by go_grown⟩
 have hWs:w.heap.size+2≤W.heap.size:=by rw [hW];simp
 rw [←hW];have HR':=Lib.hid HR;clear hW HR
 go_loopw [4] (fun s wr=>∃ j:Nat,j≤n∧s=.int .i64 j∧w.heap.size+2≤wr.heap.size∧∃ v u,Hid (NewRel (w.heap.size+2) w.heap.size w j j wr v u)) (fun s _=>n - (intOf s).toNat)
 case atStart=>exact ⟨0,by omega,rfl,hWs,_,_,HR'.out⟩
 case round =>
  obtain ⟨j,hj,rfl,hws,v,u,hr⟩:=hrel;clear HR' hWs
  by_cases hlt:j < n
  ·have d0:=hr.out.d0;have d1:=hr.out.d1;have g0:=hr.out.g0
   go_wp2_with (at_builtin;refine wpList_append_own_at _ rfl _ _ 23 rfl (w.heap.size+2) 3 i0 (.int .i64 0) 1 8 Tryz.underlying23 HI.out.1 HI.out.2.1 HI.out.2.2.1 HI.out.2.2.2 rfl (by decide) _ _ _ rfl (hr.out.hv.alloc _) ⟨wr.heap.size,0,none⟩ 1 1 [.int .i64 0] rfl rfl ?c1 ?c2 ?c3 ?c4 ?c5 ?_)
   case c1=>exact e_n _ _ _
   case c2=>intro x hx;simp at hx;subst hx;rfl
   case c3=>unfold maxLen;omega
   case c4=>omega
   case c5=>simp;omega
   intro v' w1 hown' hgrow _ hat;obtain ⟨va,vc,rfl⟩:=f_T hown';have hn:=Lib.hid (u_y rfl hr.out hown' hgrow hat);have hk:=i_K hr.out.hv hgrow;have e0:w1.cell? ⟨w.heap.size+1,0,none⟩=some v:=hk.cell (by simp) d0;have e1:w1.frozen? ⟨w.heap.size+1,0,none⟩=false:=hk.free (by simp) d0 g0;have hws1:=hk.size;clear hown' hgrow hat d0 d1 g0 hk;have hd1:=hn.out.d1;have hg1:=hn.out.g1
   go_wp2_with (at_builtin;refine wpList_append_own_at _ rfl _ _ 23 rfl (w.heap.size+2) 3 i0 (.int .i64 0) 1 8 Tryz.underlying23 HI.out.1 HI.out.2.1 HI.out.2.2.1 HI.out.2.2.2 rfl (by decide) _ _ _ rfl (hn.out.hu.alloc _) ⟨w1.heap.size,0,none⟩ 1 1 [.int .i64 0] rfl rfl ?k1 ?k2 ?k3 ?k4 ?k5 ?_)
   case k1 =>
    have:=e_n (w1.setCell ⟨w.heap.size+1,0,none⟩ (.slice va (j+1) vc)) (.int .i64 0) 3;rw [World.size_setCell] at this;exact this
   case k2=>intro x hx;simp at hx;subst hx;rfl
   case k3=>unfold maxLen;omega
   case k4=>omega
   case k5=>simp;omega
   intro u' w2 hown2 hgrow2 _ hat2;obtain ⟨ua,uc,rfl⟩:=f_T hown2;have hn2:=Lib.hid (u_x rfl hn.out hown2 hgrow2 (by simpa using hat2));have hk2:=i_K hn.out.hu hgrow2;have x0:w2.cell? ⟨w.heap.size+1,1,none⟩=some u:=hk2.cell (by simp) hd1;have x1:w2.frozen? ⟨w.heap.size+1,1,none⟩=false:=hk2.free (by simp) hd1 hg1;have hws2:=hk2.size;rw [World.size_setCell] at hws2;clear hown2 hgrow2 hat2 hd1 hg1 hk2 e0 e1
   go_wp2
   go_roundw
   case rel=>exact ⟨j+1,by omega,by go_num,by simp;omega,_,_,hn2.out⟩
   case measure=>simp [intOf];omega
  ·obtain rfl:j=n:=by omega
   obtain ⟨va,vc,rfl⟩:=f_T hr.out.hv;obtain ⟨ua,uc,rfl⟩:=f_T hr.out.hu;have d0:=hr.out.d0;have d1:=hr.out.d1;have c0:=hr.out.c0;have c1:=hr.out.c1;have f0:=hr.out.f0;have f1:=hr.out.f1;have hb:=hr.out.below
   go_wp2
   refine a_X ⟨w.heap.size,0,none⟩ rfl rfl rfl (c_F _ _ _ _ (by go_cell_look) (by go_cell_look)) ?_;have hF:Below w.heap.size w ((wr.setCell ⟨w.heap.size,0,none⟩ (.slice va j vc)).setCell ⟨w.heap.size,1,none⟩ (.slice ua j uc)):=(hb.setCell (by simp) _).setCell (by simp) _;obtain ⟨va',vc',e1,s1⟩:=d_T (ownsRow_setCell_below (ownsRow_setCell_below hr.out.hv (a:=⟨w.heap.size,0,none⟩) (by simp) (.slice va j vc)) (a:=⟨w.heap.size,1,none⟩) (by simp) (.slice ua j uc));obtain ⟨ua',uc',e2,s2⟩:=d_T (ownsRow_setCell_below (ownsRow_setCell_below hr.out.hu (a:=⟨w.heap.size,0,none⟩) (by simp) (.slice va j vc)) (a:=⟨w.heap.size,1,none⟩) (by simp) (.slice ua j uc))
   injection e1 with p1 p2 p3
   injection e2 with q1 q2 q3
   subst p1 p3 q1 q3;exact ⟨_,_,_,_,rfl,m_i (by omega) s1,m_i (by omega) s2,hF⟩
end Go.Proofs.YtolabfafgbmdbaaGreatDoor
