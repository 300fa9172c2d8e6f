import Derived.Test.YtogdpojnbgeknaaGreatDoorT28
import Derived.Test.YtogdpojnbgeknaaGreatDoorT6
import Derived.Test.YtogdpojnbgeknaaGreatDoorT16
import Derived.Test.YtogdpojnbgeknaaGreatDoorT0
import Derived.Test.YtogdpojnbgeknaaGreatDoorT21
import Derived.Deep.CutBlock
import Derived.Test.YtogdpojnbgeknaaGreatDoorT15
import Derived.Test.YtogdpojnbgeknaaGreatDoorT26
set_option maxRecDepth 100000
set_option maxHeartbeats 16000000
namespace Go.Proofs.YtogdpojnbgeknaaGreatDoor
open Go.ChangeShapes Go.WideShapes Go.ChangeAt Go.RowKit
attribute [local go_sem] e_7
attribute [local go_sem ↓] Go.wp_at_zero Go.wp_at_succ
theorem t_R {w:World} {go:Nat} {k:Int} (hk:k_y k=true) (Y:j_6 w go (.func (.func 169) #[] #[]) (.func (.func 170) #[] #[]) (.func (.func 171) #[] #[])) :
  ∃ j F:Nat,k=(j:Int)∧j < 3∧w.cell? ⟨go,j,none⟩=some (.func (.func F) #[] #[])∧(F=169∨F=170∨F=171)∧∀ (word a b:Int) (w:World),Calls Tryz.prog F #[.int .i64 word,.int .i64 a,.int .i64 b] w (f_Z (d_y k word a b) w):=by
 have hk2:0≤k∧k≤2:=by simpa [k_y] using hk
 obtain ⟨⟨y0,y1,y2⟩,-⟩:=Y
 rcases (show k=0∨k=1∨k=2 by omega) with rfl | rfl | rfl
 ·exact ⟨0,_,rfl,by omega,y0,.inl rfl,o_Z⟩
 ·exact ⟨1,_,rfl,by omega,y1,.inr (.inl rfl),m_U⟩
 ·exact ⟨2,_,rfl,by omega,y2,.inr (.inr rfl),o_Y⟩
def r_3 (ws ts:List Int) (D:Int) (bs:List (List (Int×Int))) (v x:Int) (w:World) (e:Ending) (w':World):Prop:=
 ∃ a n c a' n' c' q l d,e=.returned (.tuple #[.agg #[.slice a n c,.slice a' n' c',.int .i64 D,.slice q l d],.int .i64 v,.int .i64 x])∧SlP (fun b=>w.heap.size≤b) w' a n ws∧SlP (fun b=>w.heap.size≤b) w' a' n' ts∧BlP (fun b=>w.heap.size≤b) w' q l bs∧Below w.heap.size w w'
theorem i_v {A B:List Int} {z u E:Int} {C:List (List (Int×Int))} (he:E≠0) {w w':World} (hb:Below w.heap.size w w'):r_3 (okL E A) (okL E B) (okZ E z) (okL E C) (okZ E u) E w (.returned (.tuple #[.agg #[.slice none 0 0,.slice none 0 0,.int .i64 0,.slice none 0 0],.int .i64 0,.int .i64 E])) w':=by
 rw [d_p he,d_p he,g_b he,d_p he,g_b he];exact J100
theorem o_y {A B:List Int} {z u E:Int} {C:List (List (Int×Int))} (he:E=0) {w w':World} {a a' q:Option Addr} {n c n' c' l d:Nat} (s1:SlP (fun b=>w.heap.size≤b) w' a n A) (s2:SlP (fun b=>w.heap.size≤b) w' a' n' B) (s3:BlP (fun b=>w.heap.size≤b) w' q l C) (hb:Below w.heap.size w w') :
  r_3 (okL E A) (okL E B) (okZ E z) (okL E C) (okZ E u) E w (.returned (.tuple #[.agg #[.slice a n c,.slice a' n' c',.int .i64 z,.slice q l d],.int .i64 u,.int .i64 0])) w':=by
 subst he;exact ⟨_,_,_,_,_,_,_,_,_,rfl,s1,s2,s3,hb⟩
theorem h_H (a a' q:Option Addr) (n c n' c' l d:Nat) (ws ts:List Int) (D:Int) (bs:List (List (Int×Int))) (th k x y z:Int) (w:World) (S1:Sl w a n ws) (S2:Sl w a' n' ts) (S:Bl w q l bs) (hx:(Lit.int .i64 x).wf=true) :
  Calls Tryz.prog 152 #[.agg #[.slice a n c,.slice a' n' c',.int .i64 D,.slice q l d],.int .i64 th,.int .i64 k,.int .i64 x,.int .i64 y,.int .i64 z] w (r_3 (okL (b_v ws ts D bs th k x) (b_w ws ts k x y z)) (okL (b_v ws ts D bs th k x) ts) (okZ (b_v ws ts D bs th k x) D) (okL (b_v ws ts D bs th k x) bs) (okZ (b_v ws ts D bs th k x) (b_K ws ts x)) (b_v ws ts D bs th k x) w):=by
 have HWX:=Lib.hid hx;have Hl:=Lib.hid S.1;clear hx;obtain ⟨W,hW⟩:=nm ((w.alloc (Obj.cells #[.slice a n c,.slice a' n' c',.int .i64 D,.slice q l d] 30)).alloc (Obj.cells #[.slice none 0 0,.slice none 0 0,.int .i64 0,.slice none 0 0] 30));have hbW:=N2;have X0:=N88;have R0:=N80;have T1:=slB hbW S1;have T2:=slB hbW S2;have T:=blB hbW S;have hzR:=c_9 R0;have ⟨HBW,HR0,HX0⟩:=hh3 hbW R0 X0;have HT:=Lib.hid (And.intro T1 (And.intro T2 T));have HW:=Lib.hid hW;clear hW hbW X0 R0 T1 T2 T S1 S2 S
 go_enter Tryz.func152,Tryz.ntmps152
 go_upto_region 1 with fail
 rw [←HW.out]
 go_cut [15,16] (fun s15 s16 wx=>n_w W (.slice a n c) (.slice a' n' c') (.int .i64 D) (.slice q l d) s15 s16 wx)
 case first =>
  refine b_s (LockInv (.slice a n c) (.slice a' n' c') (.int .i64 D) (.slice q l d)) (by kernel_rfl) (by kernel_rfl) ?_ ?_ ?_
  ·intro listed hl;exact .mk _ _ _ _ _ 0 0 .nilFunc .nilFunc .nilFunc .nilFunc .nilFunc .nilFunc .nilFunc rfl (Below.refl _ _).drew (fun h=>absurd h (hl 0 (by decide))) (fun h=>absurd h (hl 1 (by decide))) (fun h=>absurd h (hl 2 (by decide))) (fun h=>absurd h (hl 3 (by decide))) (fun h=>absurd h (hl 4 (by decide))) (fun h=>absurd h (hl 5 (by decide))) (fun h=>absurd h (hl 6 (by decide)))
  ·show StepsL _ _ _ _ _ _ _
   refine StepsL.cons (k:=0) rfl (fun listed a1 w1 hI hn hw K hK=>?_) ?_
   ·cases hI with | mk p20 p21 p22 p15 p16 gx go x0 x1 x2 x3 y0 y1 y2 ea hb hf0 hf1 hf2 hX hO hSX hSO =>
     obtain ⟨⟨k0,k1,k2,k3⟩,-⟩:=b_k hb HX0.out;have HH_:=N54;clear hf0 hf1 hf2 hX hO hSX hSO hb hw;rw [ea];clear ea;simp only [Act.put,sA,sB,sC]
     go_simp
     obtain ⟨hf0,hf1,hf2,hX,hO,hSX,hSO,hb,hw⟩:=HH_.out;refine hK.out _ _ ?_;exact .mk (.agg #[.slice a n c,.slice a' n' c',.int .i64 D,.slice q l d]) p21 p22 p15 p16 gx go x0 x1 x2 x3 y0 y1 y2 (by simp only [Act.put,sA,sB,sC]) (hb) (fun _=>rfl) (upk hf1 rfl) (upk hf2 rfl) (upk hX rfl) (fun h=>⟨(hO (a_a h (by decide))).1,(hO (a_a h (by decide))).2.1,(hO (a_a h (by decide))).2.2.1,fun hu=>(hO (a_a h (by decide))).2.2.2 (a_a hu (by decide))⟩) (fun h=>⟨a_o (hSX (a_a h (by decide))).1,(hSX (a_a h (by decide))).2⟩) (fun h=>⟨a_o (hSO (a_a h (by decide))).1,(hSO (a_a h (by decide))).2⟩)
   refine StepsL.cons (k:=1) rfl (fun listed a1 w1 hI hn hw K hK=>?_) ?_
   ·cases hI with | mk p20 p21 p22 p15 p16 gx go x0 x1 x2 x3 y0 y1 y2 ea hb hf0 hf1 hf2 hX hO hSX hSO =>
     have e_f0:=hf0 (hw 0 (by decide));subst e_f0;have HH_:=N54;clear hf0 hf1 hf2 hX hO hSX hSO hb hw;rw [ea];clear ea;simp only [Act.put,sA,sB,sC]
     go_simp
     obtain ⟨hf0,hf1,hf2,hX,hO,hSX,hSO,hb,hw⟩:=HH_.out;refine hK.out _ _ ?_;exact .mk (.agg #[.slice a n c,.slice a' n' c',.int .i64 D,.slice q l d]) (.agg #[.slice a n c,.slice a' n' c',.int .i64 D,.slice q l d]) p22 p15 p16 gx go x0 x1 x2 x3 y0 y1 y2 (by simp only [Act.put,sA,sB,sC]) (hb) (fun _=>rfl) (fun _=>rfl) (upk hf2 rfl) (upk hX rfl) (fun h=>⟨(hO (a_a h (by decide))).1,(hO (a_a h (by decide))).2.1,(hO (a_a h (by decide))).2.2.1,fun hu=>(hO (a_a h (by decide))).2.2.2 (a_a hu (by decide))⟩) (fun h=>⟨a_o (hSX (a_a h (by decide))).1,(hSX (a_a h (by decide))).2⟩) (fun h=>⟨a_o (hSO (a_a h (by decide))).1,(hSO (a_a h (by decide))).2⟩)
   refine StepsL.cons (k:=2) rfl (fun listed a1 w1 hI hn hw K hK=>?_) ?_
   ·cases hI with | mk p20 p21 p22 p15 p16 gx go x0 x1 x2 x3 y0 y1 y2 ea hb hf0 hf1 hf2 hX hO hSX hSO =>
     have HH_:=N54;clear hf0 hf1 hf2 hX hO hSX hSO hb hw;rw [ea];clear ea;simp only [Act.put,sA,sB,sC]
     go_simp
     go_at_call 163
     refine (s_L _).mono ?_;rintro e w2 ⟨rfl,hb2⟩;obtain ⟨hf0,hf1,hf2,hX,hO,hSX,hSO,hb,hw⟩:=HH_.out;refine hK.out _ _ ?_;exact .mk p20 p21 (.agg #[.func (.func 169) #[] #[],.func (.func 170) #[] #[],.func (.func 171) #[] #[]]) p15 p16 gx go x0 x1 x2 x3 y0 y1 y2 (by simp only [Act.put,sA,sB,sC]) (a_b hb hb2) (upk hf0 rfl) (upk hf1 rfl) (fun _=>rfl) (fun h=>⟨(hX (a_a h (by decide))).1,(hX (a_a h (by decide))).2.1,b_k hb2 (hX (a_a h (by decide))).2.2⟩) (fun h=>⟨(hO (a_a h (by decide))).1,(hO (a_a h (by decide))).2.1,p_w hb2 (hO (a_a h (by decide))).2.2.1,fun hu=>(hO (a_a h (by decide))).2.2.2 (a_a hu (by decide))⟩) (fun h=>⟨a_o (hSX (a_a h (by decide))).1,(hSX (a_a h (by decide))).2⟩) (fun h=>⟨a_o (hSO (a_a h (by decide))).1,(hSO (a_a h (by decide))).2⟩)
   refine StepsL.cons (k:=3) rfl (fun listed a1 w1 hI hn hw K hK=>?_) ?_
   ·cases hI with | mk p20 p21 p22 p15 p16 gx go x0 x1 x2 x3 y0 y1 y2 ea hb hf0 hf1 hf2 hX hO hSX hSO =>
     have HH_:=N54;clear hf0 hf1 hf2 hX hO hSX hSO hb hw;rw [ea];clear ea;simp only [Act.put,sA,sB,sC]
     go_simp
     obtain ⟨hf0,hf1,hf2,hX,hO,hSX,hSO,hb,hw⟩:=HH_.out;refine hK.out _ _ ?_;exact .mk p20 p21 p22 (.pointer (some ⟨w1.heap.size,0,none⟩)) p16 w1.heap.size go _ _ _ _ y0 y1 y2 (by simp only [Act.put,sA,sB,sC]) (hb.alloc hb.size _) (upk hf0 rfl) (upk hf1 rfl) (upk hf2 rfl) (fun _=>⟨rfl,hb.size,c_i _ rfl⟩) (fun h=>⟨(hO (a_a h (by decide))).1,(hO (a_a h (by decide))).2.1,t_W _ (hO (a_a h (by decide))).2.2.1,fun _=>by have:=s_8 (hO (a_a h (by decide))).2.2.1;omega⟩) (fun h=>absurd (hSX (a_a h (by decide))).1 hn) (fun h=>⟨a_o (hSO (a_a h (by decide))).1,(hSO (a_a h (by decide))).2⟩)
   refine StepsL.cons (k:=4) rfl (fun listed a1 w1 hI hn hw K hK=>?_) ?_
   ·cases hI with | mk p20 p21 p22 p15 p16 gx go x0 x1 x2 x3 y0 y1 y2 ea hb hf0 hf1 hf2 hX hO hSX hSO =>
     have HH_:=N54;clear hf0 hf1 hf2 hX hO hSX hSO hb hw;rw [ea];clear ea;simp only [Act.put,sA,sB,sC]
     go_simp
     obtain ⟨hf0,hf1,hf2,hX,hO,hSX,hSO,hb,hw⟩:=HH_.out;refine hK.out _ _ ?_;exact .mk p20 p21 p22 p15 (.pointer (some ⟨w1.heap.size,0,none⟩)) gx w1.heap.size x0 x1 x2 x3 _ _ _ (by simp only [Act.put,sA,sB,sC]) (hb.alloc hb.size _) (upk hf0 rfl) (upk hf1 rfl) (upk hf2 rfl) (fun h=>⟨(hX (a_a h (by decide))).1,(hX (a_a h (by decide))).2.1,g_w _ (hX (a_a h (by decide))).2.2⟩) (fun _=>⟨rfl,hb.size,r_l _ rfl,fun h=>by have:=c_9 (hX (a_a h (by decide))).2.2;omega⟩) (fun h=>⟨a_o (hSX (a_a h (by decide))).1,(hSX (a_a h (by decide))).2⟩) (fun h=>absurd (hSO (a_a h (by decide))).1 hn)
   refine StepsL.cons (k:=5) rfl (fun listed a1 w1 hI hn hw K hK=>?_) ?_
   ·cases hI with | mk p20 p21 p22 p15 p16 gx go x0 x1 x2 x3 y0 y1 y2 ea hb hf0 hf1 hf2 hX hO hSX hSO =>
     have e_f1:=hf1 (hw 1 (by decide));subst e_f1;obtain ⟨e_X,a4,X⟩:=hX (hw 3 (by decide));subst e_X;obtain ⟨⟨z0,z1,z2,z3⟩,f0,f1,f2,f3⟩:=id X;have HH_:=N54;clear hf0 hf1 hf2 hX hO hSX hSO hb hw;rw [ea];clear ea;simp only [Act.put,sA,sB,sC]
     go_simp
     obtain ⟨hf0,hf1,hf2,hX,hO,hSX,hSO,hb,hw⟩:=HH_.out;refine hK.out _ _ ?_;exact .mk p20 (.agg #[.slice a n c,.slice a' n' c',.int .i64 D,.slice q l d]) p22 (.pointer (some ⟨gx,0,none⟩)) p16 gx go _ _ _ _ y0 y1 y2 (by simp only [Act.put,sA,sB,sC]) (a_U hb a4 _ _ _ _) (upk hf0 rfl) (fun _=>rfl) (upk hf2 rfl) (fun _=>⟨rfl,a4,b_z X _ _ _ _⟩) (fun h=>⟨(hO (a_a h (by decide))).1,(hO (a_a h (by decide))).2.1,p_x (hO (a_a h (by decide))).2.2.1 ((hO (a_a h (by decide))).2.2.2 (hw 3 (by decide))),fun _=>(hO (a_a h (by decide))).2.2.2 (hw 3 (by decide))⟩) (fun _=>⟨a_o (hw 3 (by decide)),rfl,rfl,rfl,rfl⟩) (fun h=>⟨a_o (hSO (a_a h (by decide))).1,(hSO (a_a h (by decide))).2⟩)
   refine StepsL.cons (k:=6) rfl (fun listed a1 w1 hI hn hw K hK=>?_) ?_
   ·cases hI with | mk p20 p21 p22 p15 p16 gx go x0 x1 x2 x3 y0 y1 y2 ea hb hf0 hf1 hf2 hX hO hSX hSO =>
     have e_f2:=hf2 (hw 2 (by decide));subst e_f2;obtain ⟨e_O,a4,X,hne⟩:=hO (hw 4 (by decide));subst e_O;obtain ⟨⟨z0,z1,z2⟩,f0,f1,f2⟩:=id X;have HH_:=N54;clear hf0 hf1 hf2 hX hO hSX hSO hb hw;rw [ea];clear ea;simp only [Act.put,sA,sB,sC]
     go_simp
     obtain ⟨hf0,hf1,hf2,hX,hO,hSX,hSO,hb,hw⟩:=HH_.out;refine hK.out _ _ ?_;exact .mk p20 p21 (.agg #[.func (.func 169) #[] #[],.func (.func 170) #[] #[],.func (.func 171) #[] #[]]) p15 (.pointer (some ⟨go,0,none⟩)) gx go x0 x1 x2 x3 _ _ _ (by simp only [Act.put,sA,sB,sC]) (m_p hb a4 _ _ _) (upk hf0 rfl) (upk hf1 rfl) (fun _=>rfl) (fun h=>⟨(hX (a_a h (by decide))).1,(hX (a_a h (by decide))).2.1,n_i (hX (a_a h (by decide))).2.2 (Ne.symm (hne (a_a h (by decide))))⟩) (fun _=>⟨rfl,a4,r_m X _ _ _,fun hu=>hne (a_a hu (by decide))⟩) (fun h=>⟨a_o (hSX (a_a h (by decide))).1,(hSX (a_a h (by decide))).2⟩) (fun _=>⟨a_o (hw 4 (by decide)),rfl,rfl,rfl⟩)
   exact StepsL.nil
  ·intro listed a1 w1 hI hu
   cases hI with | mk p20 p21 p22 p15 p16 gx go x0 x1 x2 x3 y0 y1 y2 ea hb hf0 hf1 hf2 hX hO hSX hSO =>
    obtain ⟨e15,e3,X⟩:=hX (hu 3);obtain ⟨e16,e4,Y,-⟩:=hO (hu 4);obtain ⟨-,ex0,ex1,ex2,ex3⟩:=hSX (hu 5);obtain ⟨-,ey0,ey1,ey2⟩:=hSO (hu 6);subst e15 e16 ex0 ex1 ex2 ex3 ey0 ey1 ey2;have HC:=Lib.hid (show n_w W (.slice a n c) (.slice a' n' c') (.int .i64 D) (.slice q l d) (.pointer (some ⟨gx,0,none⟩)) (.pointer (some ⟨go,0,none⟩)) w1 from ⟨gx,go,rfl,rfl,X,Y,e3,e4,hb⟩);clear hf0 hf1 hf2 hX hO hSX hSO hb X Y;rw [ea];clear ea;simp only [Act.put,sA,sB,sC]
    go_wp2_with fail
    go_meet
    exact HC.out
 case rest =>
  obtain ⟨gx,go,rfl,rfl,X,Y,hgx,hgo,hbc⟩:=hcut;obtain ⟨T1,T2,T⟩:=HT.out;replace T1:=slB hbc T1;replace T2:=slB hbc T2;replace T:=blB hbc T;have R:=b_k hbc HR0.out;have HB:=Lib.hid (a_b HBW.out hbc);have hzc:=hbc.size;clear hbc HT HR0 HBW HX0 HW;obtain ⟨⟨k0,k1,k2,k3⟩,-⟩:=id X
  go_wp2_with fail
  refine (e_d a a' q n c n' c' l d ws ts D th bs _ T1 T2 T).mono ?_;rintro e w1 ⟨rfl,hb⟩;replace T1:=slB hb T1;replace T2:=slB hb T2;replace T:=blB hb T;replace R:=b_k hb R;replace X:=b_k hb X;replace Y:=p_w hb Y;have HB1:=Lib.hid (a_b HB.out hb);have hz1:=hb.size;clear hb HB k0 k1 k2 k3
  by_cases hhk:j_i ws ts D bs th=true∧k_y k=true
  ·obtain ⟨hh,hk⟩:=hhk;obtain ⟨hm,h0,h1⟩:=d_e hh;have HH:=Lib.hid (show (d_O ws ts D bs&&thB bs th)=true from hh);have HE:=Lib.hid (show b_v ws ts D bs th k x=if d_L bs th=[] then a_I ws ts x else 9 by rw [b_v,if_pos ⟨hh,hk⟩]);obtain ⟨j,F,rfl,hj3,hf,hff,hc⟩:=t_R hk Y;have ⟨HFF,HF,HC,HM⟩:=hh4 hff hf hc hm;obtain ⟨t,rfl⟩:=N120;have htl:t < l:=by rw [←Hl.out];omega
   obtain ⟨b,o,p,pc,rfl,g0,hcap,hp⟩:=k_a T htl;obtain ⟨ps,hps⟩:=mn (bs.getD t []);rw [hps] at g0;have HPS:=Lib.hid (show d_L bs (t:Int)=ps by rw [d_L,Int.toNat_natCast,hps]);rw [HPS.out] at HE;obtain ⟨m,hmm⟩:=mn (ps.length);rw [hmm] at g0;have HPL:=Lib.hid hmm;rw [HH.out];have i1:¬ (j:Int) < 0:=by omega
   have i2:¬ (3:Int)≤j:=by omega
   have i3:(0:Int)≤j:=by omega
   have i4:(j:Int) < 3:=by omega
   have i5:(0:Int)≤t:=by omega
   have i6:(t:Int) < l:=by omega
   obtain ⟨⟨k0,k1,k2,k3⟩,-⟩:=id X;clear hh hk hm h0 h1 hf hff hc hcap hp hps hmm
   by_cases hne:ps=[]
   ·obtain rfl:0=m:=by rw [←HPL.out,hne];rfl
    have HNE:=Lib.hid hne;clear hne
    go_wp2_with fail
    refine (g_D a a' n c n' c' ws ts x _ T1 T2 HWX.out).mono ?_;rintro e w2 ⟨rfl,hb⟩;obtain ⟨ev,hev⟩:=mn (a_I ws ts x);obtain ⟨lv,hlv⟩:=mn (b_K ws ts x);have ⟨HEV,HLV⟩:=hh2 hev hlv;have HES:=Lib.hid (show b_v ws ts D bs t j x=ev by rw [HE.out,if_pos HNE.out,hev]);rw [hev,hlv];have HB2:=Lib.hid (a_b HB1.out hb);replace R:=b_k hb R
    by_cases he:ev=0
    ·subst he;have HX:=Lib.hid (b_k hb X);have HU:=HEV;have KF:=Lib.hid (a_u hb HF.out);replace T1:=slB hb T1;replace T2:=slB hb T2;replace T:=blB hb T;have HR:=Lib.hid R;have hz2:=hb.size;obtain ⟨nv,hnv⟩:=mn (d_y j lv y z);have HNV:=Lib.hid hnv;obtain ⟨us,hus⟩:=mn (ws.set x.toNat nv);have HUS:=Lib.hid hus;have HLW:=Lib.hid (show us=b_w ws ts j x y z by rw [b_w,HLV.out,hnv,hus]);clear hb hev hlv hnv hus k0 k1 k2 k3 g0 X Y R HF hzR;obtain ⟨W2,hW2⟩:∃ W2:World,W2=w2:=⟨_,rfl⟩;subst hW2
     go_upto_region 9 with fail
     go_cut [18,19] (fun s18 s19 wx=>l_m W2 us ts D bs s18 s19 wx)
     case first =>
      refine o_A a a' b o n c n' c' l d ws ts us D bs j gx go F x y z lv nv _ _ _ _ _ _ _ _ _ _ _ _ _ _ _ _ _ _ _ _ _ _ _ _ _ _ _ _ _ _ _ _ _ _ _ _ _ _ _ _ _ _ _ _ _ _ _ _ _ _ _ _ _ _ _ _ _ _ _ _ _ _ _ _ _ _ _ _ _ W2 _ HX T1 T2 T HM HWX HU HUS HNV HC HFF KF i3 i4 ?_
      ·intro listed a1 w3 hI hu
       cases hI with | mk p58 p59 p60 p61 p62 p63 p64 p65 p66 p67 p68 p69 p70 p57 p71 p72 p19 p18 p m e1 p' m' e2 g l2 p3 m3 e3 p4 m4 e4 v x0 x1 x2 x3 ea hb hf0 hC hf2 hf3 hf4 hf5 hf6 hf7 hf8 hf9 hf10 hf11 hS hf13 hW13 hf14 hW14 hf15 hA hT hf18 =>
       have e18:=hf18 (hu 18);obtain ⟨e19,a4,X⟩:=hA (hu 16);obtain ⟨-,-,ex0,ex1,ex2,ex3⟩:=hT (hu 17);obtain ⟨-,-,s1,s2⟩:=hS (hu 12);obtain ⟨-,-,-,c3⟩:=hC (hu 1);subst e18 e19 ex0 ex1 ex2 ex3;have HZ:=Lib.hid (show l_m W2 us ts D bs (.int .i64 0) (.pointer (some ⟨v,0,none⟩)) w3 from ⟨v,_,_,_,_,_,_,_,_,_,rfl,rfl,a4,X,a_n (fun _ h=>h.1) s1,a_n (fun _ h=>h.1) s2,a_H (fun _ h=>h.1) c3,hb⟩);clear hf0 hC hf2 hf3 hf4 hf5 hf6 hf7 hf8 hf9 hf10 hf11 hS hf13 hW13 hf14 hW14 hf15 hA hT hf18 hb X s1 s2 c3 hu;rw [ea];clear ea;simp only [Act.put,sA,sB,sC]
       go_wp2_with fail
       go_meet
       exact HZ.out
     case rest =>
      obtain ⟨v,a2,n2,c2,a3,n3,c3,q2,l2,d2,rfl,rfl,hv,X,s1,s2,s3,hbc⟩:=hcut;have R:=b_k hbc HR.out;have hzR:=c_9 HR.out;have HB3:=Lib.hid (a_b HB2.out hbc);obtain ⟨⟨k0,k1,k2,k3⟩,-⟩:=id X;have H4:=Lib.hid (b_z R (.slice a2 n2 c2) (.slice a3 n3 c3) (.int .i64 D) (.slice q2 l2 d2));obtain ⟨⟨r0,r1,r2,r3⟩,f0,f1,f2,f3⟩:=R;have HV1:=Lib.hid (a_n (fun b (hb:W2.heap.size≤b)=>Nat.le_trans HB2.out.size hb) (a_r (fun _ _ _ hq hv=>e_E (g:=w.heap.size+1) (x:=.slice a2 n2 c2) (y:=.slice a3 n3 c3) (z:=.int .i64 D) (u:=.slice q2 l2 d2) hv (by omega)) s1));have HV2:=Lib.hid (a_n (fun b (hb:W2.heap.size≤b)=>Nat.le_trans HB2.out.size hb) (a_r (fun _ _ _ hq hv=>e_E (g:=w.heap.size+1) (x:=.slice a2 n2 c2) (y:=.slice a3 n3 c3) (z:=.int .i64 D) (u:=.slice q2 l2 d2) hv (by omega)) s2));have HV3:=Lib.hid (a_H (fun b (hb:W2.heap.size≤b)=>Nat.le_trans HB2.out.size hb) (a_G (fun _ _ _ hq hv=>e_E (g:=w.heap.size+1) (x:=.slice a2 n2 c2) (y:=.slice a3 n3 c3) (z:=.int .i64 D) (u:=.slice q2 l2 d2) hv (by omega)) s3));clear s1 s2 s3 hbc T1 T2 T
      go_wp2
      refine b_O ⟨w.heap.size+1,0,none⟩ rfl rfl rfl (a_7 _ _ _ _ _ _ H4.out.1.1 H4.out.1.2.1 H4.out.1.2.2.1 H4.out.1.2.2.2) ?_;rw [←HLW.out,HLV.out,HES.out];exact o_y rfl HV1.out HV2.out HV3.out (a_U HB3.out (by omega) _ _ _ _)
    ·have q1:=N127;have HEN:=Lib.hid he;have HZ:=N29;obtain ⟨⟨r0,r1,r2,r3⟩,f0,f1,f2,f3⟩:=R;clear he hb hev hlv X Y T1 T2 T k0 k1 k2 k3 g0
     go_wp2
     refine b_O ⟨w.heap.size+1,0,none⟩ rfl rfl rfl (a_7 _ _ _ _ _ _ HZ.out.1.1 HZ.out.1.2.1 HZ.out.1.2.2.1 HZ.out.1.2.2.2) ?_;rw [HES.out];exact i_v HEN.out (a_U (g:=w.heap.size+1) HB2.out (by omega) _ _ _ _)
   ·have HES:=Lib.hid (show b_v ws ts D bs t j x=9 by rw [HE.out,if_neg hne]);have hm0:0 < m:=by rw [←HPL.out];exact List.length_pos_iff.2 hne
    have HZ:=N29;obtain ⟨⟨r0,r1,r2,r3⟩,f0,f1,f2,f3⟩:=R;clear hne X Y T1 T2 T;exact J76
  ·have HES:=Lib.hid (show b_v ws ts D bs th k x=1 by rw [b_v,if_neg hhk]);have HZ:=N29;obtain ⟨⟨r0,r1,r2,r3⟩,f0,f1,f2,f3⟩:=R
   have hcase:(d_O ws ts D bs&&thB bs th)=false∨((d_O ws ts D bs&&thB bs th)=true∧k < 0)∨((d_O ws ts D bs&&thB bs th)=true∧¬ k < 0∧3≤k):=by
    cases hm:(d_O ws ts D bs&&thB bs th) with
    | false=>exact .inl rfl
    | true =>
     right
     by_cases u1:k < 0
     ·exact .inl ⟨rfl,u1⟩
     ·refine .inr ⟨rfl,u1,?_⟩
      by_cases u2:3≤k
      ·exact u2
      ·exact absurd ⟨hm,by simp [k_y];omega⟩ hhk
   clear hhk X Y T1 T2 T
   rcases hcase with hm | ⟨hm,u1⟩ | ⟨hm,u1,u2⟩
   all_goals
    rw [hm];clear hm;exact J76
end Go.Proofs.YtogdpojnbgeknaaGreatDoor
namespace Go.Proofs.YtogdpojnbgeknaaGreatDoor
open Go.ChangeShapes Go.WideShapes Go.ChangeAt Go.RowKit
open Gen
open Lib (hid)
theorem c_8 {Q:Nat→Prop} {w:World} {fa:Option Addr} {fn fc:Nat} {la:Option Addr} {ln lc:Nat} {t u:Thr} (h:ThQ Q w fa fn fc la ln lc t) (h1:u.fs=t.fs:=by rfl) (h2:u.lf=t.lf:=by rfl):ThQ Q w fa fn fc la ln lc u:=⟨h.fcap,by rw [h1];exact h.fs,h.lcap,by rw [h2];exact h.lf⟩
theorem c_W (Q:Nat→Prop) (L:WoL) (X:Wo) (j:Nat) (e:Int) (w:World) (R:RWo Q w L X) (hj:j < L.th.n) (hQ:∀ b,w.heap.size≤b→Q b) (hn:L.th.n≤1000) :
  Calls Tryz.prog 52 #[woV L X.D,.int .i64 j,.int .i64 e] w (b_B Q (b_j X j (b_t (thW X j) e)) w):=by
 obtain ⟨Y,hY⟩:=mn (b_j X j (b_t (thW X j) e));rw [hY];obtain ⟨D,hD⟩:=mn (X.D);rw [hD];obtain ⟨tb,tq,t,ta,tc,qa,qc,htl,htt,-,T,hr⟩:=d_b R.th hj;have htw:=N53;rw [htw] at hY;have HTW:=hid htw;obtain ⟨tn,htn⟩:=mn (t.fs.length);obtain ⟨tm,htm⟩:=mn (t.lf.length);have HTN:=hid (And.intro htn htm);obtain ⟨Q1,hQ1⟩:∃ Q1:Nat→Prop,Q1=fun b=>Q b∧(b < w.heap.size∨w.heap.size+3≤b):=⟨_,rfl⟩
 have HQ1:=hid hQ1;have HQ2:=N30;have HR1:=N41;have HT1:=N36;obtain ⟨W,hW⟩:=nm ((w.alloc (Obj.cells (woC L D).toArray 33)).alloc (Obj.cells woZ.toArray 33));have HX:=N52;have HZ:=N63;have HB:=N3;have HSZ:=N43;have HRA:=N28;have ⟨HW,HY,HTL,HD,HN⟩:=hh5 hW hY htl hD hn;rw [htn,htm] at HT1;have i1:(0:Int)≤j:=by omega
 have i2:(j:Int) < L.th.n:=by omega
 clear htl hY hD htt T hr htn htm hQ1 R hW htw hQ hn;unfold woV
 go_enter Tryz.func52,Tryz.ntmps52
 go_upto_region 1 with fail
 rw [←HW.out];obtain ⟨k5,-⟩:=HX.out 5 _ rfl;rw [HTL.out] at k5
 go_upto_region 2 with (first | (refine wpList_load_mid rfl 46 _ rfl tb (tq+j*13) rfl (thC t ta tn tc qa tm qc) _ HRA.out Tryz.underlying46 rfl (by kernel_rfl) ?_) | (refine a_c rfl 46 _ _ rfl W.heap.size (thC t ta tn tc qa tm qc).toArray rfl rfl _ (a_e thN W.heap.size rfl) rfl (by kernel_rfl) (a_K _ _ _ _ _ _ _) ?_;intro V HV))
 rw [HSZ.out];simp only [Act.put];have HX2:=N31;have HZ2:=N74;have HT2:=N90;have HB2:=N27;have HS2:=N119;clear HV HX HZ HB HSZ HRA HW k5 i1 i2;have HT3:=N64;have HR3:=N109;obtain ⟨V2,hV2⟩:=nm (((V.setCell ⟨w.heap.size+2,10,none⟩ (.int .i64 2)).setCell ⟨w.heap.size+2,11,none⟩ (.int .i64 e)));have HT2':=hid (show a_p V2 (w.heap.size+2) (thC (b_t t e) ta tn tc qa tm qc) by have h:=(a_A (a_A HT2.out 10 (by simp) (.int .i64 2)) 11 (by simp) (.int .i64 e));rw [hV2];exact h);have HX2':=hid (show a_p V2 _ _ by rw [hV2];exact a_m (a_m (HX2.out) (by omega) _) (by omega) _);have HZ2':=hid (show a_p V2 _ _ by rw [hV2];exact a_m (a_m (HZ2.out) (by omega) _) (by omega) _);have hkV2:Kept Q1 V V2:=by rw [hV2];exact (a_6 (a_T _ _ _ (fun b hb=>by show b≠w.heap.size+2;have:=HQ2.out.2.1 b hb;omega)) (a_T _ _ _ (fun b hb=>by show b≠w.heap.size+2;have:=HQ2.out.2.1 b hb;omega)))
 have HB2':=hid (show Below w.heap.size w V2 by rw [hV2];exact ((HB2.out.setCell (p:=⟨w.heap.size+2,10,none⟩) (by show _≤w.heap.size+2;omega) _).setCell (p:=⟨w.heap.size+2,11,none⟩) (by show _≤w.heap.size+2;omega) _));have HS2':=hid (show V2.heap.size=V.heap.size by rw [hV2];simp);have HV2:=hid hV2;clear hV2;obtain ⟨c10,g10⟩:=HT2.out 10 _ rfl;obtain ⟨c11,g11⟩:=HT2.out 11 _ rfl
 go_upto_region 4 with fail
 rw [←HV2.out];clear c10 g10 c11 g11
 have h0:Calls Tryz.prog 53 #[woV L D,.int .i64 j,thV (b_t t e) ta tn tc qa tm qc] V2 (b_B Q1 Y V2):=by
  have h:=c_R Q1 L X j (b_t t e) ta tc qa qc V2 (a_B hkV2 HR3.out) (by rw [show (b_t t e).fs.length=tn from HTN.out.1,show (b_t t e).lf.length=tm from HTN.out.2];exact c_8 (a_w hkV2 HT3.out)) (fun b hb=>HQ2.out.2.2 b (by have:=HS2'.out;have:=HS2.out;omega)) HN.out;rw [show (b_t t e).fs.length=tn from HTN.out.1,show (b_t t e).lf.length=tm from HTN.out.2,HD.out,HY.out] at h;exact h
 have HYD:=hid (show Y.D=D by rw [←HY.out,←HD.out];rfl);have HC:=hid h0;clear h0
 go_wp2_with (first | (refine wpList_load_mid rfl 33 _ rfl (w.heap.size) 0 rfl (woC L D) _ (a_f HX2'.out) Tryz.underlying33 rfl (by kernel_rfl) ?_) | (refine wpList_load_mid rfl 46 _ rfl (w.heap.size+2) 0 rfl (thC (b_t t e) ta tn tc qa tm qc) _ (a_f HT2'.out) Tryz.underlying46 rfl (by kernel_rfl) ?_))
 refine HC.out.mono ?_;rintro e9 w9 ⟨L9,rfl,R9,hb9⟩;have HZ9:=hid (a_i hb9 HZ2'.out);have HB9:=hid (a_b HB2'.out hb9);have HR9:=hid R9;clear hb9 R9 HC;rw [HYD.out]
 go_wp2_with (refine a_c rfl 33 _ _ rfl (w.heap.size+1) (woC L9 D).toArray rfl rfl _ HZ9.out rfl (by kernel_rfl) (b_o _ _) ?_;intro U HU)
 have HZ10:=N26;refine a_V ⟨w.heap.size+1,0,none⟩ rfl rfl rfl (a_E HZ10.out 33 Tryz.underlying33 rfl (by kernel_rfl)) ?_;have hkU:=N7;exact a_Y (L:=L9) (by rw [HYD.out]) (a_D HQ2.out.1 (a_B hkU HR9.out)) (by rw [HU.out];exact a_h (by omega) HB9.out)
end Go.Proofs.YtogdpojnbgeknaaGreatDoor
namespace Go.Proofs.YtogdpojnbgeknaaGreatDoor
open Go.ChangeShapes Go.WideShapes Go.ChangeAt Go.RowKit
theorem n_n {ts:List Int} {i j:Nat} {t:Int}:e_q (j_1 ts i t j) ((i+j:Nat):Int) t=j_1 ts i t (j+1):=by
 rw [h_w];rfl
def SlN (N:Nat) (w:World) (a:Option Addr) (n:Nat) (zs:List Int):Prop:=zs.length=n∧(n=0∨∃ b o,a=some ⟨b,o,none⟩∧b≠N∧Row w b o zs)
theorem SlN.sl {N:Nat} {w:World} {a:Option Addr} {n:Nat} {zs:List Int} (h:SlN N w a n zs):Sl w a n zs:=⟨h.1,h.2.imp id fun ⟨b,o,e,_,r⟩=>⟨b,o,e,r⟩⟩
end Go.Proofs.YtogdpojnbgeknaaGreatDoor
