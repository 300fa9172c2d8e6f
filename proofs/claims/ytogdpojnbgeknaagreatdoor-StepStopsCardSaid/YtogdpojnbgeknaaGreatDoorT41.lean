import Derived.Test.YtogdpojnbgeknaaGreatDoorT40
import Derived.Test.YtogdpojnbgeknaaGreatDoorT0
import Derived.Test.YtogdpojnbgeknaaGreatDoorT29
import Derived.Maps.AppendAt
import Derived.Test.YtogdpojnbgeknaaGreatDoorT24
set_option maxRecDepth 100000
set_option maxHeartbeats 16000000
namespace Go.Proofs.YtogdpojnbgeknaaGreatDoor
open Go.ChangeShapes Go.WideShapes Go.ChangeAt Go.RowKit
open Gen
open Lib (hid)
abbrev al0:Wo:=k_M [(1,1,7,0),(0,0,0,0)] [0] [0] [1] 0
theorem r_B:h_B [(1,1,7,0),(0,0,0,0)] [0] [0] [1] 0=0:=by decide
theorem r_C:n_f al0 0=0:=by decide
theorem t_z:n_f (i_X al0 0) 0=0:=by decide
theorem al_end:(i_X (i_X al0 0) 0).th.length=1∧(thW (i_X (i_X al0 0) 0) 0).st=1∧(thW (i_X (i_X al0 0) 0) 0).r 1=7∧(i_X al0 0).ev.length=0:=by decide
theorem r_D:WfW al0:=by
 refine ⟨fun i hi=>?_,fun z hz=>?_,fun b hb=>?_,fun t ht=>?_⟩
 ·simp only [al0,k_M,List.mem_cons,List.not_mem_nil,or_false] at hi
  rcases hi with rfl | rfl
  ·exact ⟨j_S (by decide) (by decide),j_S (by decide) (by decide),d_4⟩
  ·exact ⟨d_4,d_4,d_4⟩
 ·simp only [al0,k_M,List.mem_cons,List.not_mem_nil,or_false] at hz;rw [hz];exact d_4
 ·have e:b=[]:=List.mem_singleton.1 hb;rw [e];intro p hp;exact absurd hp List.not_mem_nil
 ·have e:t={ d_E with pc:=0 }:=List.mem_singleton.1 ht;rw [e];exact ⟨fun _=>d_4,fun f hf=>by cases hf⟩
theorem t_A:WfW (i_X al0 0):=by rw [i_X,if_pos r_C];exact p_D r_D (by decide)
theorem p_n {w:World} {g:Nat} {z:Int} (h:a_p w g [.int .i64 z]):Sl w (some ⟨g,0,none⟩) 1 [z]:=⟨rfl,.inr ⟨g,0,rfl,fun i hi=>by
 obtain rfl:i=0:=by simpa using hi
 exact (h 0 _ rfl).1⟩⟩
theorem m_m (w:World) (G:Glob w):Calls Tryz.prog 10 #[] w (b_l true w):=by
 obtain ⟨W,hW⟩:=nm ((((w.alloc (Obj.cells #[.int .i64 1,.int .i64 1,.int .i64 7,.int .i64 0,.int .i64 0,.int .i64 0,.int .i64 0,.int .i64 0] 66)).alloc (Obj.cells #[.int .i64 0] 3)).alloc (Obj.cells #[.int .i64 0] 3)).alloc (Obj.cells #[.int .i64 1] 3));have HB:=N3;have ⟨HW,HG⟩:=hh2 hW G;clear hW G
 go_enter Tryz.func10,Tryz.ntmps10
 go_upto_region 1 with fail
 go_wp2_with fail
 rw [←HW.out];have v0:a_p W w.heap.size [.int .i64 1,.int .i64 1,.int .i64 7,.int .i64 0,.int .i64 0,.int .i64 0,.int .i64 0,.int .i64 0]:=by rw [HW.out];exact a_s _ (a_s _ (a_s _ (a_e [.int .i64 1,.int .i64 1,.int .i64 7,.int .i64 0,.int .i64 0,.int .i64 0,.int .i64 0,.int .i64 0] _ rfl)))
 have v1:a_p W (w.heap.size+1) [.int .i64 0]:=by rw [HW.out];exact a_s _ (a_s _ (a_e [.int .i64 0] _ (by simp)))
 have v2:a_p W (w.heap.size+1+1) [.int .i64 0]:=by rw [HW.out];exact a_s _ (a_e [.int .i64 0] _ (by simp))
 have v3:a_p W (w.heap.size+1+1+1) [.int .i64 1]:=by rw [HW.out];exact a_e [.int .i64 1] _ (by simp)
 have h0:=k_6 ⟨⟨some ⟨w.heap.size,0,none⟩,2,2⟩,⟨some ⟨w.heap.size+1+1,0,none⟩,1,1⟩,⟨some ⟨w.heap.size+1+1+1,0,none⟩,1,1⟩,zSp,zSp,zSp⟩ [(1,1,7,0),(0,0,0,0)] [0] [1] [0] 0 (some ⟨w.heap.size+1,0,none⟩) 1 1 W (i_S v0 ⟨g_z (1,1,7,0),g_z (0,0,0,0),rfl,rfl,g_z (0,0,0,0),[],rfl,rfl,rfl⟩ trivial) ⟨Nat.le_refl _,(by show 2≤9223372036854775807;omega),fun e=>by cases e⟩ (r_U (p_n v2)) (r_U (p_n v3)) (p_n v1) (HG.out.B HB.out);rw [r_B,m_O,if_pos r_B] at h0;with_reducible refine h0.mono ?_
 clear h0 v0 v1 v2 v3;rintro e1 w1 ⟨L1,rfl,R1,hb1⟩;obtain ⟨X0,hX0⟩:=nm (k_M [(1,1,7,0),(0,0,0,0)] [0] [0] [1] 0);rw [←hX0] at R1 ⊢;have HX0:=hid (show X0=al0 from hX0);have HB1:=hid (a_b HB.out hb1);have HR1:=hid R1;clear hX0 R1 hb1
 go_upto_region 2 with (refine a_c rfl 33 _ _ rfl w1.heap.size (woC L1 X0.D).toArray rfl rfl _ (a_e woZ w1.heap.size rfl) rfl (by kernel_rfl) (b_o _ _) ?_;intro U HU)
 have HXU:=hid (show a_p U w1.heap.size (woC L1 X0.D) by rw [HU.out];exact a_q (a_e woZ _ rfl) rfl);have HBU0:=hid (show Below w1.heap.size w1 U by rw [HU.out];exact a_h (Nat.le_refl _) ((Below.refl _ _).alloc (Nat.le_refl _) _));have HBU:=hid (a_b HB1.out HBU0.out);have HSU:=hid (show U.heap.size=w1.heap.size+1 by rw [HU.out,a_R];simp);have hR:=c_J (b_G HBU0.out HR1.out);have he:X0.ev.length=0:=by rw [HX0.out];rfl
 have h0:=e_W L1 X0 0 U hR (HG.out.B HBU.out) (by have:=hR.ev.1;omega) (by rw [HX0.out];exact h_s r_D);rw [show n_f X0 0=0 by rw [HX0.out];exact r_C] at h0;have HC:=hid h0;obtain ⟨X1,hX1⟩:=nm (i_X X0 0);rw [←hX1] at HC;have HX1:=hid hX1;clear HU hR h0 hX1 he
 go_wp2_with (refine wpList_load_mid rfl 33 _ rfl w1.heap.size 0 rfl (woC L1 X0.D) _ (a_f HXU.out) Tryz.underlying33 rfl (by kernel_rfl) ?_)
 refine HC.out.mono ?_;clear HC;rintro e2 w2 ⟨L2,rfl,R2,hb2⟩;have HB2:=hid (a_b HBU.out hb2);have HX2:=hid (a_i hb2 HXU.out);have HR2:=hid R2;have HS2:=N223;clear R2 hb2
 go_upto_region 3 with (refine a_c rfl 33 _ _ rfl w1.heap.size (woC L2 X1.D).toArray rfl rfl _ HX2.out rfl (by kernel_rfl) (b_o _ _) ?_;intro V HV)
 have HXV:=hid (show a_p V w1.heap.size (woC L2 X1.D) by rw [HV.out];exact a_q HX2.out rfl);have HBV:=hid (show Below w.heap.size w V by rw [HV.out];exact a_h HB1.out.size HB2.out);have hR:RWo Any V L2 X1:=c_J (a_B (by rw [HV.out];exact a_t (fun b hb=>by have:=HSU.out;omega)) HR2.out);have he:X1.ev.length=0:=by rw [HX1.out,HX0.out];exact al_end.2.2.2
 have h0:=e_W L2 X1 0 V hR (HG.out.B HBV.out) (by have:=hR.ev.1;omega) (by rw [HX1.out,HX0.out];exact h_s t_A);rw [show n_f X1 0=0 by rw [HX1.out,HX0.out];exact t_z] at h0;have HC:=hid h0;obtain ⟨X2,hX2⟩:=nm (i_X X1 0);rw [←hX2] at HC;have HX2':=hid hX2;have HSV:=hid (show w1.heap.size+1≤V.heap.size by rw [HV.out,a_R];exact HS2.out);clear HV hR h0 hX2 he
 go_wp2_with (refine wpList_load_mid rfl 33 _ rfl w1.heap.size 0 rfl (woC L2 X1.D) _ (a_f HXV.out) Tryz.underlying33 rfl (by kernel_rfl) ?_)
 refine HC.out.mono ?_;clear HC;rintro e3 w3 ⟨L3,rfl,R3,hb3⟩;have HB3:=hid (a_b HBV.out hb3);have HX3:=hid (a_i hb3 HXV.out);have HR3:=hid R3;clear R3 hb3
 go_upto_region 4 with (refine a_c rfl 33 _ _ rfl w1.heap.size (woC L3 X2.D).toArray rfl rfl _ HX3.out rfl (by kernel_rfl) (b_o _ _) ?_;intro Y HY)
 have HXY:=hid (show a_p Y w1.heap.size (woC L3 X2.D) by rw [HY.out];exact a_q HX3.out rfl);have HBY:=hid (show Below w.heap.size w Y by rw [HY.out];exact a_h HB1.out.size HB3.out);have hR:RWo Any Y L3 X2:=c_J (a_B (by rw [HY.out];exact a_t (fun b hb=>by have:=HSV.out;omega)) HR3.out);have HE:=al_end;rw [←HX0.out,←HX1.out,←HX2'.out] at HE;obtain ⟨z1,z2,z3,-⟩:=HE;have hn:L3.th.n=1:=by have:=hR.th.1;omega
 obtain ⟨tb,tq,t,ta,tc,qa,qc,htl,htt,-,TQ,hr⟩:=d_b hR.th (k:=0) (by omega);have htw:thW X2 0=t:=by rw [thW,List.getD_eq_getElem?_getD,htt];rfl
 rw [htw] at z2 z3;obtain ⟨x5,-⟩:=HXY.out 5 _ rfl;have c10:=hr 10 _ rfl;have c2:=hr 2 _ rfl;rw [z2] at c10;rw [z3] at c2;rw [htl,hn] at x5;clear HY hR htw htt TQ hr z1 z2 z3
 go_wp2_with fail
 go_ret
 exact ⟨rfl,HBY.out⟩
end Go.Proofs.YtogdpojnbgeknaaGreatDoor
namespace Go.Proofs.YtogdpojnbgeknaaGreatDoor
open Go.ChangeShapes Go.WideShapes Go.ChangeAt Go.RowKit
def Zs (j:Nat):List Value:=(List.replicate j (0:Int)).map (Value.int .i64)
theorem n_G (j:Nat):Zs (j+1)=Zs j++[.int .i64 0]:=by simp [Zs,List.replicate_succ']
structure KeptE (B:Nat) (w w':World):Prop where
 os:w'.os=w.os
 tape:w'.tape=w.tape
 output:w'.output=w.output
 size:w.heap.size≤w'.heap.size
 block:∀ k,k < B→k < w.heap.size→w'.heap[k]?=w.heap[k]?
theorem KeptE.cell {B:Nat} {w w':World} (h:KeptE B w w') {p:Addr} {v:Value} (hp:p.block < B) (hc:w.cell? p=some v):w'.cell? p=some v:=by
 rw [World.cell?_of_block (w:=w) (h.block _ hp (b_c hc))];exact hc
theorem KeptE.free {B:Nat} {w w':World} (h:KeptE B w w') {p:Addr} {v:Value} (hp:p.block < B) (hc:w.cell? p=some v) (hf:w.frozen? p=false):w'.frozen? p=false:=by
 rw [World.frozen?_of_block (w:=w) (h.block _ hp (b_c hc))];exact hf
theorem KeptE.below {B:Nat} {w0 w w':World} (h:KeptE B w w') (hb:Below w0.heap.size w0 w) (hB:w0.heap.size≤B):Below w0.heap.size w0 w':=
 hb.trans ⟨h.os,h.tape,h.output,h.size,fun k hk=>h.block k (by omega) (by have:=hb.size;omega)⟩
theorem i_t {B:Nat} {w w':World} {o:Obj} {v:Value} {n:Nat} {e:TypeId} {xs:List Value} (hv:w.ownsRow B e 1 v n xs) (hg:(w.alloc o).grownBy w' v.ownBlock):KeptE B w w':=
 ⟨hg.os,hg.tape,hg.output,by have:=hg.size;simp at this;omega,fun k hk hkw=>by
  rw [hg.block k (by simp;omega) (fun e=>by have:=(hv.lt k e.symm).1;omega)];exact b_q w o k hkw⟩
theorem l_6 {F F':Nat} {w:World} {a:Option Addr} {n:Nat} {zs:List Int} (hF:F'≤F) (h:SlF F w a n zs):SlF F' w a n zs:=
 ⟨h.1,h.2.imp id fun ⟨b,o,e,hb,r⟩=>⟨b,o,e,by omega,r⟩⟩
def p_Q (v u:Value):Prop:=v.ownBlock=none∧u.ownBlock=none∨v.ownBlock≠u.ownBlock
theorem h_O {B:Nat} {w0:World} {u v v':Value} {n:Nat} {e:TypeId} {xs:List Value} (ha:p_Q v u) (hu:w0.ownsRow B e 1 u n xs)
  (hat:v'.ownBlock=v.ownBlock∨v'.ownBlock=some (w0.heap.size+1)) (hnil:v'.ownBlock=none→False):v'.ownBlock≠u.ownBlock:=by
 rcases hat with h | h
 ·rcases ha with ⟨h1,h2⟩ | h1
  ·exact fun _=>hnil (h.trans h1)
  ·rw [h];exact h1
 ·rw [h];intro e;have:=(hu.lt _ e.symm).2
  omega
theorem f_N {w:World} {B:Nat} {e:TypeId} {v:Value} {n:Nat} {xs:List Value} (h:w.ownsRow B e 1 v n xs):∃ a c,v=.slice a n c:=by
 exact J67
theorem l_W {w:World} {B:Nat} {e:TypeId} {v:Value} {n:Nat} {xs:List Value} (h:w.ownsRow B e 1 v (n+1) xs):v.ownBlock=none→False:=by
 rcases h.2 with ⟨_,h0⟩ | ⟨g,cap,cur,rfl,_⟩
 ·omega
 ·intro h;simp [Value.ownBlock] at h
theorem j_t {w w':World} {B:Nat} {e:TypeId} {u v:Value} {n:Nat} {xs:List Value} {o:Obj} (hu:w.ownsRow B e 1 u n xs) (ha:p_Q v u) (hg:(w.alloc o).grownBy w' v.ownBlock):w'.ownsRow B e 1 u n xs:=
 (hu.alloc o).kept hg (by
  rcases ha with ⟨_,h⟩ | h
  ·exact .inl h
  ·exact .inr (fun e=>h e.symm))
structure NewRel (B S:Nat) (w:World) (j k:Nat) (wr:World) (v u:Value):Prop where
 hv:wr.ownsRow B 3 1 v j (Zs j)
 hu:wr.ownsRow B 3 1 u k (Zs k)
 apart:p_Q v u
 c0:wr.cell? ⟨S,0,none⟩=some (.slice none 0 0)
 c1:wr.cell? ⟨S,1,none⟩=some (.slice none 0 0)
 d0:wr.cell? ⟨S+1,0,none⟩=some v
 d1:wr.cell? ⟨S+1,1,none⟩=some u
 f0:wr.frozen? ⟨S,0,none⟩=false
 f1:wr.frozen? ⟨S,1,none⟩=false
 g0:wr.frozen? ⟨S+1,0,none⟩=false
 g1:wr.frozen? ⟨S+1,1,none⟩=false
 below:Below w.heap.size w wr
theorem j_b {w:World} {a:Addr} {x:Value} (v:Value) (h:w.cell? a=some x):(w.setCell a v).cell? a=some v:=World.cell?_setCell_same _ _ _ h
theorem u_m {S:Nat} {w wr w1:World} {j k:Nat} {v u v':Value} {o:Obj} (hS:w.heap.size=S) (h:NewRel (S+2) S w j k wr v u) (hown:w1.ownsRow (S+2) 3 1 v' (j+1) (Zs j++[.int .i64 0])) (hg:(wr.alloc o).grownBy w1 v.ownBlock)
  (hat:v'.ownBlock=v.ownBlock∨v'.ownBlock=some (wr.heap.size+1)):NewRel (S+2) S w (j+1) k (w1.setCell ⟨S+1,0,none⟩ v') v' u:=by
 have hk:=i_t h.hv hg;have e0:w1.cell? ⟨S+1,0,none⟩=some v:=hk.cell (by simp) h.d0;have e1:w1.cell? ⟨S+1,1,none⟩=some u:=hk.cell (by simp) h.d1;refine ⟨?_,?_,.inr (h_O h.apart h.hu hat (l_W hown)),?_,?_,j_b _ e0,?_,?_,?_,?_,?_,?_⟩
 ·rw [←n_G] at hown;exact ownsRow_setCell_below hown (by simp) _
 ·exact ownsRow_setCell_below (j_t h.hu h.apart hg) (by simp) _
 ·rw [World.cell?_setCell_other _ _ _ _ (by simp)];exact hk.cell (by simp) h.c0
 ·rw [World.cell?_setCell_other _ _ _ _ (by simp)];exact hk.cell (by simp) h.c1
 ·rw [World.cell?_setCell_other _ _ _ _ (by simp)];exact e1
 ·rw [World.frozen?_setCell];exact hk.free (by simp) h.c0 h.f0
 ·rw [World.frozen?_setCell];exact hk.free (by simp) h.c1 h.f1
 ·rw [World.frozen?_setCell];exact hk.free (by simp) h.d0 h.g0
 ·rw [World.frozen?_setCell];exact hk.free (by simp) h.d1 h.g1
 ·exact (hk.below h.below (by omega)).setCell (by simp;omega) _
theorem u_l {S:Nat} {w wr w1:World} {j k:Nat} {v u u':Value} {o:Obj} (hS:w.heap.size=S) (h:NewRel (S+2) S w j k wr v u) (hown:w1.ownsRow (S+2) 3 1 u' (k+1) (Zs k++[.int .i64 0])) (hg:(wr.alloc o).grownBy w1 u.ownBlock)
  (hat:u'.ownBlock=u.ownBlock∨u'.ownBlock=some (wr.heap.size+1)):NewRel (S+2) S w j (k+1) (w1.setCell ⟨S+1,1,none⟩ u') v u':=by
 have hk:=i_t h.hu hg;have ha:p_Q u v:=h.apart.imp (fun x=>⟨x.2,x.1⟩) (fun x e=>x e.symm);have e0:w1.cell? ⟨S+1,0,none⟩=some v:=hk.cell (by simp) h.d0;have e1:w1.cell? ⟨S+1,1,none⟩=some u:=hk.cell (by simp) h.d1;refine ⟨?_,?_,.inr (fun e=>h_O ha h.hv hat (l_W hown) e.symm),?_,?_,?_,j_b _ e1,?_,?_,?_,?_,?_⟩
 ·exact ownsRow_setCell_below (j_t h.hv ha hg) (by simp) _
 ·rw [←n_G] at hown;exact ownsRow_setCell_below hown (by simp) _
 ·rw [World.cell?_setCell_other _ _ _ _ (by simp)];exact hk.cell (by simp) h.c0
 ·rw [World.cell?_setCell_other _ _ _ _ (by simp)];exact hk.cell (by simp) h.c1
 ·rw [World.cell?_setCell_other _ _ _ _ (by simp)];exact e0
 ·rw [World.frozen?_setCell];exact hk.free (by simp) h.c0 h.f0
 ·rw [World.frozen?_setCell];exact hk.free (by simp) h.c1 h.f1
 ·rw [World.frozen?_setCell];exact hk.free (by simp) h.d0 h.g0
 ·rw [World.frozen?_setCell];exact hk.free (by simp) h.d1 h.g1
 ·exact (hk.below h.below (by omega)).setCell (by simp;omega) _
theorem m_0 (n:Nat) (w:World) (h160:n≤160) :
  Calls Tryz.prog 42 #[.int .i64 n] w fun e w'=>∃ a c a' c',e=.returned (.agg #[.slice a n c,.slice a' n c'])∧SlF w.heap.size w' a n (List.replicate n 0)∧SlF w.heap.size w' a' n (List.replicate n 0)∧Below w.heap.size w w':=by
 obtain ⟨i0,hi,hz0,hz1,hz2⟩:=N174;have HI:=N44;clear hi hz0 hz1 hz2
 go_enter Tryz.func42,Tryz.ntmps42
 go_wp2
 obtain ⟨W,hW⟩:=nm ((w.alloc (Obj.cells #[.slice none 0 0,.slice none 0 0] 26)).alloc (Obj.cells #[.slice none 0 0,.slice none 0 0] 26))
 have HR:NewRel (w.heap.size+2) w.heap.size w 0 0 W (.slice none 0 0) (.slice none 0 0):=by
  rw [hW]
  exact ⟨World.ownsRow_nil _ _ _ _,World.ownsRow_nil _ _ _ _,.inl ⟨rfl,rfl⟩,b_a _ (by simp),b_a _ (by simp),by simp,by simp,
   b_C ((b_q _ _ _ (by simp)).trans (a_4 _ _ _ (by simp))),b_C ((b_q _ _ _ (by simp)).trans (a_4 _ _ _ (by simp))),b_C (a_4 _ _ _ (by simp)),b_C (a_4 _ _ _ (by simp)),by go_grown⟩
 have hWs:w.heap.size+2≤W.heap.size:=by rw [hW];simp
 rw [←hW];have HR':=Lib.hid HR;clear hW HR
 go_loopw [4] (fun s wr=>∃ j:Nat,j≤n∧s=.int .i64 j∧w.heap.size+2≤wr.heap.size∧∃ v u,Hid (NewRel (w.heap.size+2) w.heap.size w j j wr v u)) (fun s _=>n - (intOf s).toNat)
 case atStart=>exact ⟨0,by omega,rfl,hWs,_,_,HR'.out⟩
 case round =>
  obtain ⟨j,hj,rfl,hws,v,u,hr⟩:=hrel;clear HR' hWs
  by_cases hlt:j < n
  ·have d0:=hr.out.d0;have d1:=hr.out.d1;have g0:=hr.out.g0
   go_wp2_with (at_builtin;refine wpList_append_own_at _ rfl _ _ 23 rfl (w.heap.size+2) 3 i0 (.int .i64 0) 1 8 Tryz.underlying23 HI.out.1 HI.out.2.1 HI.out.2.2.1 HI.out.2.2.2 rfl (by decide) _ _ _ rfl (hr.out.hv.alloc _) ⟨wr.heap.size,0,none⟩ 1 1 [.int .i64 0] rfl rfl ?c1 ?c2 ?c3 ?c4 ?c5 ?_)
   case c1=>exact e_i _ _ _
   case c2=>intro x hx;simp at hx;subst hx;rfl
   case c3=>unfold maxLen;omega
   case c4=>omega
   case c5=>simp;omega
   intro v' w1 hown' hgrow _ hat;obtain ⟨va,vc,rfl⟩:=f_N hown';have hn:=Lib.hid (u_m rfl hr.out hown' hgrow hat);have hk:=i_t hr.out.hv hgrow;have e0:w1.cell? ⟨w.heap.size+1,0,none⟩=some v:=hk.cell (by simp) d0;have e1:w1.frozen? ⟨w.heap.size+1,0,none⟩=false:=hk.free (by simp) d0 g0;have hws1:=hk.size;clear hown' hgrow hat d0 d1 g0 hk;have hd1:=hn.out.d1;have hg1:=hn.out.g1
   go_wp2_with (at_builtin;refine wpList_append_own_at _ rfl _ _ 23 rfl (w.heap.size+2) 3 i0 (.int .i64 0) 1 8 Tryz.underlying23 HI.out.1 HI.out.2.1 HI.out.2.2.1 HI.out.2.2.2 rfl (by decide) _ _ _ rfl (hn.out.hu.alloc _) ⟨w1.heap.size,0,none⟩ 1 1 [.int .i64 0] rfl rfl ?k1 ?k2 ?k3 ?k4 ?k5 ?_)
   case k1 =>
    have:=e_i (w1.setCell ⟨w.heap.size+1,0,none⟩ (.slice va (j+1) vc)) (.int .i64 0) 3;rw [World.size_setCell] at this;exact this
   case k2=>intro x hx;simp at hx;subst hx;rfl
   case k3=>unfold maxLen;omega
   case k4=>omega
   case k5=>simp;omega
   intro u' w2 hown2 hgrow2 _ hat2;obtain ⟨ua,uc,rfl⟩:=f_N hown2;have hn2:=Lib.hid (u_l rfl hn.out hown2 hgrow2 (by simpa using hat2));have hk2:=i_t hn.out.hu hgrow2;have x0:w2.cell? ⟨w.heap.size+1,1,none⟩=some u:=hk2.cell (by simp) hd1;have x1:w2.frozen? ⟨w.heap.size+1,1,none⟩=false:=hk2.free (by simp) hd1 hg1;have hws2:=hk2.size;rw [World.size_setCell] at hws2;clear hown2 hgrow2 hat2 hd1 hg1 hk2 e0 e1
   go_wp2
   go_roundw
   case rel=>exact ⟨j+1,by omega,by go_num,by simp;omega,_,_,hn2.out⟩
   case measure=>simp [intOf];omega
  ·obtain rfl:j=n:=by omega
   obtain ⟨va,vc,rfl⟩:=f_N hr.out.hv;obtain ⟨ua,uc,rfl⟩:=f_N hr.out.hu;have d0:=hr.out.d0;have d1:=hr.out.d1;have c0:=hr.out.c0;have c1:=hr.out.c1;have f0:=hr.out.f0;have f1:=hr.out.f1;have hb:=hr.out.below
   go_wp2
   refine a_V ⟨w.heap.size,0,none⟩ rfl rfl rfl (c_B _ _ _ _ (by go_cell_look) (by go_cell_look)) ?_;have hF:Below w.heap.size w ((wr.setCell ⟨w.heap.size,0,none⟩ (.slice va j vc)).setCell ⟨w.heap.size,1,none⟩ (.slice ua j uc)):=(hb.setCell (by simp) _).setCell (by simp) _;obtain ⟨va',vc',e1,s1⟩:=d_Q (ownsRow_setCell_below (ownsRow_setCell_below hr.out.hv (a:=⟨w.heap.size,0,none⟩) (by simp) (.slice va j vc)) (a:=⟨w.heap.size,1,none⟩) (by simp) (.slice ua j uc));obtain ⟨ua',uc',e2,s2⟩:=d_Q (ownsRow_setCell_below (ownsRow_setCell_below hr.out.hu (a:=⟨w.heap.size,0,none⟩) (by simp) (.slice va j vc)) (a:=⟨w.heap.size,1,none⟩) (by simp) (.slice ua j uc))
   injection e1 with p1 p2 p3
   injection e2 with q1 q2 q3
   subst p1 p3 q1 q3;exact ⟨_,_,_,_,rfl,l_6 (by omega) s1,l_6 (by omega) s2,hF⟩
end Go.Proofs.YtogdpojnbgeknaaGreatDoor
namespace Go.Proofs.YtogdpojnbgeknaaGreatDoor
open Go.ChangeShapes Go.WideShapes Go.ChangeAt Go.RowKit
section
variable {P:Program} {ops:Array Oper} {Q:Exit→Act→World→Prop}
theorem q_f {S S':b_p} (h:S.map Prod.fst=S'.map Prod.fst) (j:Nat):a_S S j=a_S S' j:=by
 have e:∀ T:b_p,a_S T j=(T.map Prod.fst).getD j []:=fun T=>by
  simp only [a_S,List.getD_eq_getElem?_getD,List.getElem?_map]
  cases T[j]? <;> rfl
 rw [e,e,h]
def InvT (m:Nat) (D:List Nat) (l:List (Option Tmp)) (B:Bool→World→Prop) (S:Bool→b_p) (pi pj:Nat) (p:e_w) (a0:Act) (w0:World) (listed:Array Bool) (a:Act) (w:World):Prop:=
 (Up listed m→∀ i∈D,Up listed i)∧InvD l (B (listed.getD m true)) (S (listed.getD m true)) pi pj p a0 w0 listed a w
def u_c (S1 S2:b_p) (pi pj:Nat) (p:e_w) (B:World→Prop) (k:Nat) (vals:Nat→Value) (dst:Option Tmp) (a1:Act) (w1:World) (K:Act→World→Prop):Prop:=
 ∀ v w2,b_x S2 k ((a_S S2 k).map (fun i=>if i=k then v else vals i)) w2→B w2→(∀ j,j≠k→b_x S1 j ((a_S S1 j).map vals) w1→b_x S2 j ((a_S S1 j).map vals) w2) →
  (k≠pi→k≠pj→p (vals pi) (vals pj) w1→p (vals pi) (vals pj) w2)→(k=pi→k≠pj→b_x S1 pj ((a_S S1 pj).map vals) w1→p v (vals pj) w2)→(k=pj→k≠pi→b_x S1 pi ((a_S S1 pi).map vals) w1→p (vals pi) v w2)→(k=pi→k=pj→p v v w2)→K (a1.put dst v) w2
theorem InvT.cons {l:List (Option Tmp)} {B:Bool→World→Prop} {S:Bool→b_p} {pi pj:Nat} {p:e_w} {a0:Act} {w0:World} {k:Nat} {o:Oper} {rest:List Oper} {ws:List Nat}
  {m:Nat} {D:List Nat} (hS:∀ b j,a_S (S b) j=a_S (S false) j) (hw:c_A .any o=ws) (hl:l[k]?=some o.dst) (hn:decide (b_M l).Nodup=true) (hd:ws.all (fun j=>decide (j < l.length))=true)
  (hD:(a_S (S false) k).all (fun i=>(k::(ws++ws.flatMap (a_S (S false)))).contains i)=true)
  (hkm:(k != m||D.all (fun i=>ws.contains i||ws.any (fun j=>(a_S (S false) j).contains i)))=true)
  (h:∀ a1 vals w1 bl,((k==m||D.contains k)=true→bl=false)→CameD l (B bl) (S bl) pi pj p a0 ws a1 vals w1→∀ K:Act→World→Prop,u_c (S bl) (S (cond (k==m) true bl)) pi pj p (B (cond (k==m) true bl)) k vals o.dst a1 w1 K →
   if Region.wanted o (yielded ops a1.tmps)=true then Oper.wp P o a1 w1 K Q else K (a1.put o.dst undef) w1)
  (hs:StepsL P .any ops Q (InvT m D l B S pi pj p a0 w0) (k+1) rest):StepsL P .any ops Q (InvT m D l B S pi pj p a0 w0) k (o::rest):=by
 have hn:=of_decide_eq_true hn;refine StepsL.cons hw (fun listed a1 w1 hI hu hu2 K hK=>?_) hs;obtain ⟨hI1,vals,rfl,hb,hv,hp⟩:=hI;have hlt:=N51;obtain ⟨bl,hbl⟩:=mn (listed.getD m true);rw [hbl] at hb hv
 have hall:∀ i,i∈ws++ws.flatMap (a_S (S false))→Up listed i:=fun i hi=>by
  rcases List.mem_append.1 hi with h5 | h5
  ·exact hu2 i h5
  ·obtain ⟨q,hq,hq2⟩:=List.mem_flatMap.1 h5;exact (hv q (hlt q hq) (hu2 q hq)).1 i (by rw [hS];exact hq2)
 have hallb:∀ i,i∈ws++ws.flatMap (a_S (S bl))→Up listed i:=fun i hi=>by
  refine hall i ?_;rw [show a_S (S bl)=a_S (S false) from funext (hS bl)] at hi;exact hi
 have hmn:Up (listed.setIfInBounds k true) m→∀ i∈D,Up (listed.setIfInBounds k true) i:=fun hum i hi=>by
  exact J56
 refine h _ vals w1 bl (fun e=>by
  cases hx:bl with
  | false=>rfl
  | true =>
   rw [hx] at hbl
   rcases Bool.or_eq_true_iff.1 e with h1 | h1
   ·have h1:k=m:=by simpa using h1
    subst h1;exact absurd hbl hu
   ·exact absurd (hI1 hbl k (List.contains_iff_mem.1 h1)) hu) ⟨fun j t hj ht=>?_,fun t ht=>?_,hb,fun j hj=>(hv j (hlt j hj) (hu2 j hj)).2,fun h1 h2 l1 l2=>hp l1 l2 (hallb _ h1) (hallb _ h2)⟩ K (fun v w2 h1 h2 h3 h4 h5 h6 h7=>?_)
 ·exact J34
 ·exact J20
 ·have hb2:(listed.setIfInBounds k true).getD m true=cond (k==m) true bl:=by
   rw [g_L,hbl]
   cases (k==m) <;> cases bl <;> rfl
  refine hK.out _ _ ⟨hmn,fun i=>if i=k then v else vals i,e_m hn hl v,by rw [hb2];exact h2,fun j hjl hj=>?_,fun l1 l2 u1 u2=>?_⟩
  ·rw [hb2]
   by_cases e:j=k
   ·subst e;refine ⟨fun i hi=>?_,h1⟩;rw [hS] at hi;exact J36
   ·exact J59
  ·exact J18
def InvT2 (m:Nat) (D:List Nat) (l:List (Option Tmp)) (B:Bool→World→Prop) (S:Bool→b_p) (qi pi pj:Nat) (q p:e_w) (a0:Act) (listed:Array Bool) (a:Act) (w:World):Prop:=
 (Up listed m→∀ i∈D,Up listed i)∧∃ vals,a=c_I a0 l vals 0∧B (listed.getD m true) w∧(∀ k,k < l.length→Up listed k→(∀ i∈a_S (S (listed.getD m true)) k,Up listed i)∧b_x (S (listed.getD m true)) k ((a_S (S (listed.getD m true)) k).map vals) w) ∧
  (pi < l.length→pj < l.length→Up listed pi→Up listed pj→p (vals pi) (vals pj) w)∧(qi < l.length→pj < l.length→Up listed qi→Up listed pj→q (vals qi) (vals pj) w)
def t_k (S1 S2:b_p) (qi pi pj:Nat) (q p:e_w) (B:World→Prop) (k:Nat) (vals:Nat→Value) (dst:Option Tmp) (a1:Act) (w1:World) (K:Act→World→Prop):Prop:=
 ∀ v w2,b_x S2 k ((a_S S2 k).map (fun i=>if i=k then v else vals i)) w2→B w2→(∀ j,j≠k→b_x S1 j ((a_S S1 j).map vals) w1→b_x S2 j ((a_S S1 j).map vals) w2) →
  (k≠pi→k≠pj→p (vals pi) (vals pj) w1→p (vals pi) (vals pj) w2)→(k≠qi→k≠pj→q (vals qi) (vals pj) w1→q (vals qi) (vals pj) w2) →
  (k=pi→b_x S1 pj ((a_S S1 pj).map vals) w1→q (vals qi) (vals pj) w1→p v (vals pj) w2)→(k=qi→b_x S1 pj ((a_S S1 pj).map vals) w1→q v (vals pj) w2) →
  (k=pj→b_x S1 pi ((a_S S1 pi).map vals) w1→p (vals pi) v w2)→(k=pj→b_x S1 qi ((a_S S1 qi).map vals) w1→q (vals qi) v w2)→K (a1.put dst v) w2
theorem InvT2.cons {l:List (Option Tmp)} {B:Bool→World→Prop} {S:Bool→b_p} {qi pi pj:Nat} {q p:e_w} {a0:Act} {k:Nat} {o:Oper} {rest:List Oper} {ws:List Nat}
  {m:Nat} {D:List Nat} (hne:pi≠pj∧qi≠pj∧pi≠qi) (hqp:k=pi→qi∈ws) (hql:qi < l.length) (hS:∀ b j,a_S (S b) j=a_S (S false) j) (hw:c_A .any o=ws) (hl:l[k]?=some o.dst) (hn:decide (b_M l).Nodup=true) (hd:ws.all (fun j=>decide (j < l.length))=true)
  (hD:(a_S (S false) k).all (fun i=>(k::(ws++ws.flatMap (a_S (S false)))).contains i)=true)
  (hkm:(k != m||D.all (fun i=>ws.contains i||ws.any (fun j=>(a_S (S false) j).contains i)))=true)
  (h:∀ a1 vals w1 bl,((k==m||D.contains k)=true→bl=false)→CameD l (B bl) (S bl) pi pj p a0 ws a1 vals w1→∀ K:Act→World→Prop,t_k (S bl) (S (cond (k==m) true bl)) qi pi pj q p (B (cond (k==m) true bl)) k vals o.dst a1 w1 K →
   if Region.wanted o (yielded ops a1.tmps)=true then Oper.wp P o a1 w1 K Q else K (a1.put o.dst undef) w1)
  (hs:StepsL P .any ops Q (InvT2 m D l B S qi pi pj q p a0) (k+1) rest):StepsL P .any ops Q (InvT2 m D l B S qi pi pj q p a0) k (o::rest):=by
 have hn:=of_decide_eq_true hn;refine StepsL.cons hw (fun listed a1 w1 hI hu hu2 K hK=>?_) hs;obtain ⟨hI1,vals,rfl,hb,hv,hp,hq⟩:=hI;have hlt:=N51;obtain ⟨bl,hbl⟩:=mn (listed.getD m true);rw [hbl] at hb hv
 have hall:∀ i,i∈ws++ws.flatMap (a_S (S false))→Up listed i:=fun i hi=>by
  rcases List.mem_append.1 hi with h5 | h5
  ·exact hu2 i h5
  ·obtain ⟨x,hx,hx2⟩:=List.mem_flatMap.1 h5;exact (hv x (hlt x hx) (hu2 x hx)).1 i (by rw [hS];exact hx2)
 have hallb:∀ i,i∈ws++ws.flatMap (a_S (S bl))→Up listed i:=fun i hi=>by
  refine hall i ?_;rw [show a_S (S bl)=a_S (S false) from funext (hS bl)] at hi;exact hi
 have hmn:Up (listed.setIfInBounds k true) m→∀ i∈D,Up (listed.setIfInBounds k true) i:=fun hum i hi=>by
  exact J56
 refine h _ vals w1 bl (fun e=>by
  cases hx:bl with
  | false=>rfl
  | true =>
   rw [hx] at hbl
   rcases Bool.or_eq_true_iff.1 e with h1 | h1
   ·have h1:k=m:=by simpa using h1
    subst h1;exact absurd hbl hu
   ·exact absurd (hI1 hbl k (List.contains_iff_mem.1 h1)) hu) ⟨fun j t hj ht=>?_,fun t ht=>?_,hb,fun j hj=>(hv j (hlt j hj) (hu2 j hj)).2,fun h1 h2 l1 l2=>hp l1 l2 (hallb _ h1) (hallb _ h2)⟩ K (fun v w2 h1 h2 h3 h4 h5 h6 h7 h8 h9=>?_)
 ·exact J34
 ·exact J20
 ·have hb2:(listed.setIfInBounds k true).getD m true=cond (k==m) true bl:=by
   rw [g_L,hbl]
   cases (k==m) <;> cases bl <;> rfl
  refine hK.out _ _ ⟨hmn,fun i=>if i=k then v else vals i,e_m hn hl v,by rw [hb2];exact h2,fun j hjl hj=>?_,fun l1 l2 u1 u2=>?_,fun l1 l2 u1 u2=>?_⟩
  ·rw [hb2]
   by_cases e:j=k
   ·subst e;refine ⟨fun i hi=>?_,h1⟩;rw [hS] at hi;exact J36
   ·exact J59
  ·show p (if pi=k then v else vals pi) (if pj=k then v else vals pj) w2
   by_cases e1:pi=k
   ·rw [if_pos e1,if_neg (fun e2=>hne.1 (e1.trans e2.symm))];have u3:Up listed pj:=a_a u2 (fun e2=>hne.1 (e1.trans e2.symm));exact h6 e1.symm (hv _ l2 u3).2 (hq hql l2 (hu2 _ (hqp e1.symm)) u3)
   ·by_cases e2:pj=k
    ·rw [if_neg e1,if_pos e2];exact h8 e2.symm (hv _ l1 (a_a u1 e1)).2
    ·rw [if_neg e1,if_neg e2];exact h4 (fun h=>e1 h.symm) (fun h=>e2 h.symm) (hp l1 l2 (a_a u1 e1) (a_a u2 e2))
  ·show q (if qi=k then v else vals qi) (if pj=k then v else vals pj) w2
   by_cases e1:qi=k
   ·rw [if_pos e1,if_neg (fun e2=>hne.2.1 (e1.trans e2.symm))];exact h7 e1.symm (hv _ l2 (a_a u2 (fun e2=>hne.2.1 (e1.trans e2.symm)))).2
   ·by_cases e2:pj=k
    ·rw [if_neg e1,if_pos e2];exact h9 e2.symm (hv _ l1 (a_a u1 e1)).2
    ·rw [if_neg e1,if_neg e2];exact h5 (fun h=>e1 h.symm) (fun h=>e2 h.symm) (hq l1 l2 (a_a u1 e1) (a_a u2 e2))
theorem f_g {l:List (Option Tmp)} {B:World→Prop} {S:b_p} {qi pi pj:Nat} {q p:e_w} {a0 a1:Act} {ws:List Nat} {vals:Nat→Value} {w1:World} {k:Nat} {K:Act→World→Prop} {dst:Option Tmp}
  (hK:t_k S S qi pi pj q p B k vals dst a1 w1 K) (C:CameD l B S pi pj p a0 ws a1 vals w1) (hne:((k==pi)||(k==pj)||(k==qi))=false) {v:Value} (hv:b_x S k ((a_S S k).map (fun i=>if i=k then v else vals i)) w1):K (a1.put dst v) w1:=by
 simp only [Bool.or_eq_false_iff,beq_eq_false_iff_ne] at hne;obtain ⟨⟨n1,n2⟩,n3⟩:=hne;exact hK v w1 hv C.base (fun _ _ h=>h) (fun _ _ h=>h) (fun _ _ h=>h) (fun e=>absurd e n1) (fun e=>absurd e n3) (fun e=>absurd e n2) (fun e=>absurd e n2)
theorem l_j {id:Nat} {ol:List Oper} {a:Act} {w:World} (m:Nat) (D:List Nat) (hmn:Nat.blt m ol.length=true) (l:List (Option Tmp)) (B:Bool→World→Prop) (S:Bool→b_p) (qi pi pj:Nat) (q p:e_w) (hm:P.follows .mixedOrders=true) (hb:i_l .any ol.toArray=true) (hn:decide (b_M l).Nodup=true) (hlen:l.length=ol.length)
  (h0:B false w.drew) (hs:StepsL P .any ol.toArray Q (InvT2 m D l B S qi pi pj q p a) 0 ol)
  (hend:∀ vals w',B true w'→(∀ k,k < l.length→b_x (S true) k ((a_S (S true) k).map vals) w')→(pi < l.length→pj < l.length→p (vals pi) (vals pj) w')→Q .normal (c_I a l vals 0) w'):(Code.region id ol.toArray true).wp P Q a w:=by
 have hmn:m < ol.length:=by simpa [Nat.blt_eq] using hmn
 refine b_s (fun a0 _=>InvT2 m D l B S qi pi pj q p a0) hm hb (fun listed hl=>⟨fun hu=>absurd hu (hl m (by omega)),e_D a l,(putL_first (of_decide_eq_true hn)).symm,(by
  cases hx:listed.getD m true with
  | false=>exact h0
  | true=>exact absurd hx (hl m (by omega))),fun k hkl hk=>absurd hk (hl k (by omega)),fun l1 _ u1 _=>absurd u1 (hl _ (by omega)),fun l1 _ u1 _=>absurd u1 (hl _ (by omega))⟩) hs (fun listed a' w' hI hu=>?_)
 obtain ⟨-,vals,rfl,h1,h2,h3,-⟩:=hI;have hx:listed.getD m true=true:=hu m;rw [hx] at h1 h2;exact hend vals w' h1 (fun k hk=>(h2 k hk (hu k)).2) (fun l1 l2=>h3 l1 l2 (hu _) (hu _))
end
end Go.Proofs.YtogdpojnbgeknaaGreatDoor
