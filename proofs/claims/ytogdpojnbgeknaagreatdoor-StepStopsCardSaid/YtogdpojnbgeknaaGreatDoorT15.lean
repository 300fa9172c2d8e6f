import Derived.Test.YtogdpojnbgeknaaGreatDoorT14
import Derived.Test.YtogdpojnbgeknaaGreatDoorT0
import Derived.Deep.RegionLaw
import Derived.Deep.RegionLawGrows
import Derived.Maps.AppendAt
import Derived.Test.YtogdpojnbgeknaaGreatDoorT10
import Derived.Deep.RegionWith
set_option maxRecDepth 100000
set_option maxHeartbeats 16000000
namespace Go.Proofs.YtogdpojnbgeknaaGreatDoor
open Go.ChangeShapes Go.WideShapes Go.ChangeAt Go.RowKit
theorem g_j {A B:List Int} {z E:Int} {C:List (List (Int×Int))} (he:E≠0) {w w':World} (hb:Below w.heap.size w w'):e_B (okL E A) (okL E B) (okZ E z) (okL E C) E w (.returned (.tuple #[.agg #[.slice none 0 0,.slice none 0 0,.int .i64 0,.slice none 0 0],.int .i64 E])) w':=by
 rw [d_p he,d_p he,g_b he,d_p he];exact d_j hb
theorem h_p {A B:List Int} {z E:Int} {C:List (List (Int×Int))} (he:E=0) {w w':World} {e:Ending} (h:e_B A B z C 0 w e w'):e_B (okL E A) (okL E B) (okZ E z) (okL E C) E w e w':=by
 rw [k_P he,k_P he,s_J he,k_P he,he];exact h
def d_6 (w:World) (g:Nat) (x y z u:Value):Prop:=(w.cell? ⟨g,0,none⟩=some x∧w.cell? ⟨g,1,none⟩=some y∧w.cell? ⟨g,2,none⟩=some z∧w.cell? ⟨g,3,none⟩=some u)∧w.frozen? ⟨g,0,none⟩=false∧w.frozen? ⟨g,1,none⟩=false∧w.frozen? ⟨g,2,none⟩=false∧w.frozen? ⟨g,3,none⟩=false
theorem c_i {w:World} {x y z u:Value} {t:TypeId} (g:Nat) (hg:g=w.heap.size):d_6 (w.alloc (.cells #[x,y,z,u] t)) g x y z u:=
 ⟨⟨a_W _ _ _ hg rfl,a_W _ _ _ hg rfl,a_W _ _ _ hg rfl,a_W _ _ _ hg rfl⟩,c_m _ _ hg,c_m _ _ hg,c_m _ _ hg,c_m _ _ hg⟩
theorem b_k {w w':World} {g:Nat} {x y z u:Value} (hb:Below w.heap.size w w') (h:d_6 w g x y z u):d_6 w' g x y z u:=by
 obtain ⟨⟨a,b,c,d⟩,e,f,i,j⟩:=h;exact ⟨⟨a_u hb a,a_u hb b,a_u hb c,a_u hb d⟩,b_8 hb a e,b_8 hb b f,b_8 hb c i,b_8 hb d j⟩
theorem g_w {w:World} {g:Nat} {x y z u:Value} (o:Obj) (h:d_6 w g x y z u):d_6 (w.alloc o) g x y z u:=b_k ((Below.refl _ _).alloc (Nat.le_refl _) _) h
theorem b_z {w:World} {g:Nat} {x y z u:Value} (h:d_6 w g x y z u) (x' y' z' u':Value):d_6 ((((w.setCell ⟨g,0,none⟩ x').setCell ⟨g,1,none⟩ y').setCell ⟨g,2,none⟩ z').setCell ⟨g,3,none⟩ u') g x' y' z' u':=by
 obtain ⟨⟨a,b,c,d⟩,e,f,i,j⟩:=h;refine ⟨s_2 x' y' z' u' (by rw [a];rfl) (by rw [b];rfl) (by rw [c];rfl) (by rw [d];rfl),?_,?_,?_,?_⟩ <;> (simp only [World.frozen?_setCell];assumption)
theorem e_5 {W wy:World} {g b o:Nat} {v x y z u:Value} (hb:Below W.heap.size W wy) (hne:b≠g) (h:W.cell? ⟨b,o,none⟩=some v):((((wy.setCell ⟨g,0,none⟩ x).setCell ⟨g,1,none⟩ y).setCell ⟨g,2,none⟩ z).setCell ⟨g,3,none⟩ u).cell? ⟨b,o,none⟩=some v:=by
 have ne:=N199;rw [World.cell?_setCell_other _ _ _ _ (ne _),World.cell?_setCell_other _ _ _ _ (ne _),World.cell?_setCell_other _ _ _ _ (ne _),World.cell?_setCell_other _ _ _ _ (ne _)];exact a_u hb h
theorem i_P {F:Nat} {w w':World} {g:Nat} {x y z u:Value} (hb:Below F w w') (hg:g < F) (h:d_6 w g x y z u):d_6 w' g x y z u:=by
 obtain ⟨⟨a,b,c,d⟩,e,f,i,j⟩:=h;exact ⟨⟨(hb.cell (p:=⟨g,0,none⟩) hg).trans a,(hb.cell (p:=⟨g,1,none⟩) hg).trans b,(hb.cell (p:=⟨g,2,none⟩) hg).trans c,(hb.cell (p:=⟨g,3,none⟩) hg).trans d⟩,(hb.frozen (p:=⟨g,0,none⟩) hg).trans e,(hb.frozen (p:=⟨g,1,none⟩) hg).trans f,(hb.frozen (p:=⟨g,2,none⟩) hg).trans i,(hb.frozen (p:=⟨g,3,none⟩) hg).trans j⟩
theorem c_9 {w:World} {g:Nat} {x y z u:Value} (h:d_6 w g x y z u):g < w.heap.size:=b_c h.1.1
theorem j_N (a a' q:Option Addr) (n c n' c' l d:Nat) (ws ts:List Int) (D:Int) (bs:List (List (Int×Int))) (th x v:Int) (w:World) (S1:Sl w a n ws) (S2:Sl w a' n' ts) (S:Bl w q l bs) (hx:(Lit.int .i64 x).wf=true) :
  Calls Tryz.prog 122 #[.agg #[.slice a n c,.slice a' n' c',.int .i64 D,.slice q l d],.int .i64 th,.int .i64 x,.int .i64 v] w (e_B (okL (b_d ws ts D bs th x) (b_N ws D x v)) (okL (b_d ws ts D bs th x) ts) (okZ (b_d ws ts D bs th x) D) (okL (b_d ws ts D bs th x) (b_I D bs th x v)) (b_d ws ts D bs th x) w):=by
 have HX:=Lib.hid hx;have Hl:=Lib.hid S.1;clear hx
 cases hh:j_i ws ts D bs th with
 | false =>
  have he:b_d ws ts D bs th x=1:=by rw [b_d,if_neg (by rw [hh];decide)]
  rw [he];have HH:=Lib.hid (show (d_O ws ts D bs&&thB bs th)=false from hh);clear hh he
  go_enter Tryz.func122,Tryz.ntmps122
  go_wp2_with fail
  refine (e_d a a' q n c n' c' l d ws ts D th bs _ (slA _ (slA _ (slA _ S1))) (slA _ (slA _ (slA _ S2))) (blA _ (blA _ (blA _ S)))).mono ?_;rintro e w1 ⟨rfl,hb⟩;rw [HH.out];have R:=b_k hb (g_w _ (c_i (w:=w.alloc _) (w.heap.size+1) (by simp)));have HR:=N29;obtain ⟨⟨r0,r1,r2,r3⟩,f0,f1,f2,f3⟩:=R;have HB:=N100;clear hb
  go_wp2
  refine a_l ⟨w.heap.size+1,0,none⟩ rfl rfl rfl (a_7 _ _ _ _ _ _ HR.out.1.1 HR.out.1.2.1 HR.out.1.2.2.1 HR.out.1.2.2.2) ?_;exact g_j (by decide) (a_U (g:=w.heap.size+1) HB.out (by omega) _ _ _ _)
 | true =>
  obtain ⟨hm,h0,h1⟩:=d_e hh;obtain ⟨j,rfl⟩:=N120;have hjl:j < l:=by rw [←Hl.out];omega
  have i1:(0:Int)≤j:=by omega
  have i2:(j:Int) < l:=by omega
  have HH:=Lib.hid (show (d_O ws ts D bs&&thB bs j)=true from hh);have HE:=N92;have hD0:0≤D:=(a_X hm).2.2.1.1;have hD8:D≤8:=(a_X hm).2.2.1.2;have hlD:=N233;have HM:=Lib.hid hm;clear hh hm h0 h1
  go_enter Tryz.func122,Tryz.ntmps122
  go_wp2_with fail
  refine (e_d a a' q n c n' c' l d ws ts D j bs _ (slA _ (slA _ (slA _ S1))) (slA _ (slA _ (slA _ S2))) (blA _ (blA _ (blA _ S)))).mono ?_;rintro e w1 ⟨rfl,hb⟩;rw [HH.out];have hb1:=N11;have R:=b_k hb (g_w _ (c_i (w:=w.alloc _) (w.heap.size+1) (by simp)));have X:=b_k hb (c_i (w:=(w.alloc _).alloc _) (w.heap.size+1+1) (by simp));have T1:=slB hb1 S1;have T2:=slB hb1 S2;have T:=blB hb1 S;have HB:=Lib.hid hb1;obtain ⟨⟨k0,k1,k2,k3⟩,-⟩:=id X;clear hb hb1 S1 S2 S HH
  go_wp2_with fail
  refine (g_D a a' n c n' c' ws ts x _ T1 T2 HX.out).mono ?_;rintro e w2 ⟨rfl,hb⟩;obtain ⟨ev,hev⟩:=mn (a_I ws ts x);obtain ⟨lv,hlv⟩:=mn (b_K ws ts x);have HEV:=Lib.hid hev;rw [hev,hlv];have HB2:=Lib.hid (a_b HB.out hb);replace R:=b_k hb R
  by_cases he:ev=0
  ·subst he;replace X:=b_k hb X;replace T1:=slB hb T1;replace T2:=slB hb T2;replace T:=blB hb T;have hgw2:=c_9 R;have hgx2:=c_9 X;obtain ⟨W,hW⟩:=nm (w2.alloc (Obj.cells #[.int .i64 x,.int .i64 v] 59));have b2:Below w2.heap.size w2 W:=by rw [hW];exact (Below.refl _ _).alloc (Nat.le_refl _) _
   replace R:=b_k b2 R;replace X:=b_k b2 X;replace T1:=slB b2 T1;replace T2:=slB b2 T2;replace T:=blB b2 T;have p0:W.cell? ⟨w2.heap.size,0,none⟩=some (.int .i64 x):=by rw [hW];exact a_W _ _ _ rfl rfl
   have p1:W.cell? ⟨w2.heap.size,1,none⟩=some (.int .i64 v):=by rw [hW];exact a_W _ _ _ rfl rfl
   have hgw:=c_9 R;have hgx:=c_9 X;have hw2:w.heap.size+1 < w2.heap.size∧w.heap.size+1+1 < w2.heap.size:=⟨hgw2,hgx2⟩;have HW:=Lib.hid hW;have HB3:=Lib.hid (a_b HB2.out b2);have HB3s:=Lib.hid HB3.out.size;have HR:=Lib.hid R;clear hb hlv hev b2 k0 k1 k2 k3 R hW HB HB2;obtain ⟨⟨k0,k1,k2,k3⟩,-⟩:=X
   go_upto_region 8 with fail
   rw [←HW.out]
   by_cases hd:D=0
   ·subst hd;have HES:=N211
    go_wp2_with fail
    have hB0:=N107;have HE0:=Lib.hid HEV.out
    go_region_held3 (fun w'=>(w'.cell? ⟨w.heap.size+1+1,0,none⟩=some (.slice a n c)∧w'.cell? ⟨w.heap.size+1+1,1,none⟩=some (.slice a' n' c')∧w'.cell? ⟨w.heap.size+1+1,2,none⟩=some (.int .i64 0)∧w'.cell? ⟨w.heap.size+1+1,3,none⟩=some (.slice q l d))∧w'.cell? ⟨w2.heap.size,0,none⟩=some (.int .i64 x)∧w'.cell? ⟨w2.heap.size,1,none⟩=some (.int .i64 v))
     (first | exact ⟨⟨k0,k1,k2,k3⟩,p0,p1⟩ | (exact ⟨⟨a_u (by assumption) k0,a_u (by assumption) k1,a_u (by assumption) k2,a_u (by assumption) k3⟩,a_u (by assumption) p0,a_u (by assumption) p1⟩) | (exact ⟨⟨e_5 (by assumption) (by omega) k0,e_5 (by assumption) (by omega) k1,e_5 (by assumption) (by omega) k2,e_5 (by assumption) (by omega) k3⟩,e_5 (by assumption) (by omega) p0,e_5 (by assumption) (by omega) p1⟩))
     ((first | (go_at_call 67;refine (e_j a a' q n c n' c' l d ws ts 0 bs _ (slB (by assumption) T1) (slB (by assumption) T2) (blB (by assumption) T) HM.out).mono ?_;rintro e wx ⟨p,m,d1,p',m',d2,y,l2,rfl,u1,u2,O,hbx⟩;have hbx':=a_b (by assumption) hbx) | (go_at_call 149;refine (h_7 p p' (some ⟨y,0,none⟩) m d1 m' d2 l2 l2 ws ts 0 x v _ u1.sl u2.sl HX.out HEV.out).mono ?_;rintro e wy ⟨p3,m3,d3,p4,m4,d4,rfl,u3,u4,hby⟩;have hby':=a_b (by assumption) hby;obtain ⟨⟨r0,r1,r2,r3⟩,f0,f1,f2,f3⟩:=b_k hby' HR.out)))
    have H4:=Lib.hid (b_z (b_k hby' HR.out) (.slice p3 m3 d3) (.slice p4 m4 d4) (.int .i64 0) (.slice (some ⟨y,0,none⟩) l2 l2));have HZ:=Lib.hid (h_p HES.out (g_i (F:=W.heap.size) (g:=w.heap.size+1) (ws:=b_N ws 0 x v) (ts:=ts) (D:=0) (bs:=b_I 0 bs j x v) (x:=0) (y0:=.slice p3 m3 d3) (y1:=.slice p4 m4 d4) (y2:=.int .i64 0) (y3:=.slice (some ⟨y,0,none⟩) l2 l2) (d:=d3) (d':=d4) (e:=l2) hgw (by omega) (Q:=fun b=>wx.heap.size≤b) (fun b h=>Nat.le_trans hbx'.size h) (c_K (fun _ h=>h) u3) (c_K (fun _ h=>h) u4) (n_p hby (i_n O)) (a_b HB3.out hby')));clear u1 u2 u3 u4 O hbx hby hbx' hby' hB0 p0 p1 k0 k1 k2 k3 T1 T2 T;exact J89
   ·have q1:(D==0)=false:=by simpa using hd
    have HDN:=Lib.hid hd;obtain ⟨b,o,y,yc,rfl,g0,hcap,hp⟩:=k_a T hjl;obtain ⟨ps,hps⟩:=mn (bs.getD j []);rw [hps] at g0 hp hcap hlD;have HPS:=Lib.hid hps;obtain ⟨m,hm⟩:=mn (ps.length);rw [hm] at g0 hp hcap hlD;have ⟨HPL,HCAP⟩:=hh2 hm hcap;have hm8:m≤8:=by omega
    have HPE:=Lib.hid (show e_b m D=if (m:Int)=D then 7 else 0 by rw [e_b,if_neg (by omega)]);clear hps hm hcap hd
    go_wp2_with fail
    have hB0:=N107
    go_region_held3 (fun w'=>(w'.cell? ⟨w.heap.size+1+1,2,none⟩=some (.int .i64 D)∧w'.cell? ⟨w.heap.size+1+1,3,none⟩=some (.slice (some ⟨b,o,none⟩) l d))∧w'.cell? ⟨b,o+j,none⟩=some (.slice y m yc)∧w'.cell? ⟨w2.heap.size,0,none⟩=some (.int .i64 x)∧w'.cell? ⟨w2.heap.size,1,none⟩=some (.int .i64 v))
     (first | exact ⟨⟨k2,k3⟩,g0,p0,p1⟩ | (exact ⟨⟨a_u (by assumption) k2,a_u (by assumption) k3⟩,a_u (by assumption) g0,a_u (by assumption) p0,a_u (by assumption) p1⟩))
     ((go_at_call 150;refine (p_W y m yc ps D x v _ (plB (by assumption) hp) HCAP.out).mono ?_;rintro e wx ⟨r,rc,rfl,hrc,u0,hbx⟩;have hbx':=a_b (by assumption) hbx))
    have hsz:W.heap.size≤wx.heap.size:=hbx'.size;replace T1:=slB hbx' T1;replace T2:=slB hbx' T2;replace T:=blB hbx' T;replace k0:=a_u hbx' k0;replace k1:=a_u hbx' k1;replace k2:=a_u hbx' k2;replace k3:=a_u hbx' k3;have R:=b_k hbx' HR.out;have HBX:=Lib.hid (a_b HB3.out hbx')
    by_cases hf:(m:Int)=D
    ·have HES:=N153;have HP7:=Lib.hid (show e_b m D=7 by rw [HPE.out,if_pos hf]);rw [HP7.out];have HZ:=N29;obtain ⟨⟨r0,r1,r2,r3⟩,f0,f1,f2,f3⟩:=R;clear hf u0 hbx hbx' hB0 k0 k1 k2 k3 T1 T2 T hp g0 p0 p1 hrc HPE
     go_wp2
     refine a_l ⟨w.heap.size+1,0,none⟩ rfl rfl rfl (a_7 _ _ _ _ _ _ HZ.out.1.1 HZ.out.1.2.1 HZ.out.1.2.2.1 HZ.out.1.2.2.2) ?_;rw [HES.out];exact g_j (by decide) (a_U (g:=w.heap.size+1) HBX.out (by omega) _ _ _ _)
    ·have HES:=N154;have HP0:=Lib.hid (show e_b m D=0 by rw [HPE.out,if_neg hf]);have hL:e_R ps D (x,v)=ps++[(x,v)]:=by rw [e_R,HPL.out,HP0.out,if_pos rfl]
     rw [HP0.out];rw [hL] at u0 hrc ⊢;have hm1:(ps++[(x,v)]).length=m+1:=by rw [List.length_append,HPL.out];rfl
     rw [hm1] at u0 hrc ⊢;have HTW:=Lib.hid (show b_N ws D x v=ws by rw [b_N,if_neg HDN.out]);have HTB:=N156;have ⟨U0,HRC,HRR⟩:=hh3 u0 hrc R;clear hf hL hm1 u0 hrc hbx hbx' hB0 g0 p0 p1 hp HPE R HR HB3
     go_wp2_with fail
     refine (e_j a a' (some ⟨b,o,none⟩) n c n' c' l d ws ts D bs _ T1 T2 T HM.out).mono ?_;rintro e wz ⟨p,m1,d1,p',m2,d2,g,l2,rfl,u1,u2,O,hbz⟩;have hgz:wx.heap.size≤g:=O.2.1;have hl2:l2=l:=by rw [←O.1,Hl.out]
     subst hl2;have O2:=j_a (F':=W.heap.size) (by omega) O;have hp0:PlQ (fun z=>W.heap.size≤z∧z≠g) wz r (m+1) (ps++[(x,v)]):=u_x hbz (o_8 (fun z h1 h2=>⟨h1,by omega⟩) U0.out);have ⟨U1,U2,HO,HP,HBZ⟩:=hh5 u1 u2 O2 hp0 hbz;clear O O2 hp0 hbz u1 u2 T1 T2 T k0 k1 k2 k3
     go_wp2_with fail
     refine (q_v W.heap.size g l2 p p' m1 d1 m2 d2 D bs j r (m+1) rc (ps++[(x,v)]) _ HO.out hjl HP.out HRC.out).mono ?_;rintro e wh ⟨rfl,O3,K3,hbh⟩;have R3:=i_P hbh (by omega) (b_k HBZ.out HRR.out);have hfd:=j_g wh (.slice p m1 d1) (.slice p' m2 d2) (.int .i64 D) (.slice (some ⟨g,0,none⟩) l2 l2);have H4:=Lib.hid (b_z R3 (.slice p m1 d1) (.slice p' m2 d2) (.int .i64 D) (.slice (some ⟨g,0,none⟩) l2 l2));have HZ:=Lib.hid (h_p HES.out (g_i (F:=W.heap.size) (g:=w.heap.size+1) (ws:=b_N ws D x v) (ts:=ts) (D:=D) (bs:=b_I D bs j x v) (x:=0) (y0:=.slice p m1 d1) (y1:=.slice p' m2 d2) (y2:=.int .i64 D) (y3:=.slice (some ⟨g,0,none⟩) l2 l2) (d:=d1) (d':=d2) (e:=l2) hgw (by omega) (Q:=fun b=>wx.heap.size≤b∧b≠g) (fun b h=>Nat.le_trans hsz h.1) (by rw [HTW.out];exact a_r (fun b o u hq hu=>K3 b o u hq.2 hu) U1.out) (a_r (fun b o u hq hu=>K3 b o u hq.2 hu) U2.out) (by rw [HTB.out];exact i_n O3) ((a_b HBX.out HBZ.out).trans (hbh.mono (by have:=HB3s.out;omega)))));obtain ⟨⟨r0,r1,r2,r3⟩,f0,f1,f2,f3⟩:=R3;clear O3 K3 hbh;exact J89
  ·have q1:=N127;have HR:=N29;obtain ⟨⟨r0,r1,r2,r3⟩,f0,f1,f2,f3⟩:=R;have HEN:=Lib.hid he;have HES:=Lib.hid (show b_d ws ts D bs j x=ev by rw [HE.out,HEV.out,if_neg he]);clear hb hlv hev he k0 k1 k2 k3 X T1 T2 T HB hlD hD0 hD8
   go_wp2
   refine a_l ⟨w.heap.size+1,0,none⟩ rfl rfl rfl (a_7 _ _ _ _ _ _ HR.out.1.1 HR.out.1.2.1 HR.out.1.2.2.1 HR.out.1.2.2.2) ?_;rw [HES.out];exact g_j HEN.out (a_U (g:=w.heap.size+1) HB2.out (by omega) _ _ _ _)
theorem g_d {w:World} {B:Nat} {e:TypeId} {v:Value} {n:Nat} {xs:List Value} (h:w.ownsRow B e 1 v n xs):∃ a c,v=.slice a n c:=by
 exact J67
theorem t_S {w:World} {B:Nat} {e:TypeId} {v:Value} {n:Nat} {xs:List Value} (h:w.ownsRow B e 1 v n xs) {r:Nat} (hr:v.ownBlock=some r):B≤r:=by
 rcases h.2 with ⟨rfl,_⟩ | ⟨g,cap,cur,rfl,hb,_⟩
 ·simp [Value.ownBlock] at hr
 ·simp [Value.ownBlock] at hr;omega
theorem g_a {F:Nat} {wr w0 w1 w2:World} {e:TypeId} {v:Value} {n:Nat} {xs:List Value} (h0:Below F wr w0) (hs:F≤w0.heap.size) (hg:w0.grownBy w1 v.ownBlock) (ho:w2.ownsRow F e 1 v n xs):Below F wr w1:=
 h0.grown hg hs (fun _ hr=>t_S ho hr)
theorem h_q {w:World} {g:Nat} {x y z u:Value} (h:d_6 w g x y z u) (u':Value):d_6 (w.setCell ⟨g,3,none⟩ u') g x y z u':=by
 obtain ⟨⟨a,b,c,d⟩,e,f,i,j⟩:=h;have ne:∀ k,k≠3→(⟨g,3,none⟩:Addr)≠⟨g,k,none⟩:=fun k hk e=>hk (congrArg Addr.off e).symm
 refine ⟨⟨?_,?_,?_,World.cell?_setCell_same' _ _ _ (by rw [d];rfl)⟩,?_,?_,?_,?_⟩
 ·rw [World.cell?_setCell_other _ _ _ _ (ne _ (by decide))];exact a
 ·rw [World.cell?_setCell_other _ _ _ _ (ne _ (by decide))];exact b
 ·rw [World.cell?_setCell_other _ _ _ _ (ne _ (by decide))];exact c
 all_goals (rw [World.frozen?_setCell];assumption)
theorem c_b {w:World} {g g' o:Nat} {x y z u:Value} (h:d_6 w g x y z u) (hne:g'≠g) (v:Value):d_6 (w.setCell ⟨g',o,none⟩ v) g x y z u:=by
 obtain ⟨⟨a,b,c,d⟩,e,f,i,j⟩:=h;have ne:=N205;refine ⟨⟨?_,?_,?_,?_⟩,?_,?_,?_,?_⟩
 ·rw [World.cell?_setCell_other _ _ _ _ (ne _)];exact a
 ·rw [World.cell?_setCell_other _ _ _ _ (ne _)];exact b
 ·rw [World.cell?_setCell_other _ _ _ _ (ne _)];exact c
 ·rw [World.cell?_setCell_other _ _ _ _ (ne _)];exact d
 all_goals (rw [World.frozen?_setCell];assumption)
def g_R (r:Bool) (w:World) (e:Ending) (w':World):Prop:=e=.returned (.bool r)∧Below w.heap.size w w'
theorem c_v {r s:Bool} {w w':World} (h:r=s) (hb:Below w.heap.size w w'):g_R r w (.returned (.bool s)) w':=by subst h;exact ⟨rfl,hb⟩
theorem i_I (b1 o1 b2 o2 n c1 c2:Nat) (ws ts:List Int) (w:World) (hw:ws.length=n) (ht:ts.length=n) (R1:Row w b1 o1 ws) (R2:Row w b2 o2 ts) (h0:1≤n) (h160:n≤160) :
  Calls Tryz.prog 12 #[.agg #[.slice (some ⟨b1,o1,none⟩) n c1,.slice (some ⟨b2,o2,none⟩) n c2]] w (g_R (d_g ws ts) w):=by
 have ⟨Hw,Ht⟩:=hh2 hw ht;clear hw ht;have t0:=N111;have t1:=N157;have t2:((n:Int) != n)=false:=by simp
 go_enter Tryz.func12,Tryz.ntmps12
 go_wp2
 go_loop [27] (fun i=>∃ k:Nat,k≤n∧i=.int .i64 k∧Hid (f_j ws ts k)) (fun i=>n - (intOf i).toNat)
 case atStart=>exact ⟨0,by omega,rfl,by intro i hi;omega⟩
 case round =>
  obtain ⟨k,hk,rfl,hr⟩:=hrel
  by_cases hlt:k < n
  ·have g1:=b_a (Obj.cells #[.slice (some ⟨b1,o1,none⟩) n c1,.slice (some ⟨b2,o2,none⟩) n c2] 26) (R1 k (by rw [Hw.out];exact hlt));have g2:=b_a (Obj.cells #[.slice (some ⟨b1,o1,none⟩) n c1,.slice (some ⟨b2,o2,none⟩) n c2] 26) (R2 k (by rw [Ht.out];exact hlt))
   generalize htv:ts.getD k 0=tv at g2
   generalize hwv:ws.getD k 0=wv at g1
   have ⟨Htv,Hwv⟩:=hh2 htv hwv;clear htv hwv
   by_cases q1:tv < 0
   ·have H:=Lib.hid (f_8 Hw.out hlt Htv.out Hwv.out (.inl q1))
    go_wp2
    go_ret
    exact c_v H.out (by go_grown)
   ·by_cases q2:2 < tv
    ·have H:=Lib.hid (f_8 Hw.out hlt Htv.out Hwv.out (.inr (.inl q2)))
     go_wp2
     go_ret
     exact c_v H.out (by go_grown)
    ·by_cases q3:tv=0
     ·subst q3
      by_cases q4:wv=0
      ·subst q4;have H:=Lib.hid (g_4 hr.out Htv.out Hwv.out (by omega))
       go_wp2
       go_round
       case rel=>exact ⟨k+1,by omega,by go_num,H.out⟩
       case measure=>simp [intOf];omega
      ·have q5:(wv != 0)=true:=by simp [q4]
       have H:=Lib.hid (f_8 Hw.out hlt Htv.out Hwv.out (.inr (.inr ⟨rfl,q4⟩)));clear q4
       go_wp2
       go_ret
       exact c_v H.out (by go_grown)
     ·have q4:(tv==0)=false:=by simp [q3]
      have H:=Lib.hid (g_4 hr.out Htv.out Hwv.out (by omega));clear q3
      go_wp2
      go_round
      case rel=>exact ⟨k+1,by omega,by go_num,H.out⟩
      case measure=>simp [intOf];omega
  ·obtain rfl:k=n:=by omega
   have H:=Lib.hid (l_S Hw.out Ht.out h0 h160 hr.out)
   go_wp2
   go_ret
   exact c_v H.out (by go_grown)
theorem j_z (a a':Option Addr) (n c n' c':Nat) (ws ts:List Int) (w:World) (hw:ws.length=n) (ht:ts.length=n') (h:¬ (1≤n∧n≤160∧n'=n)) :
  Calls Tryz.prog 12 #[.agg #[.slice a n c,.slice a' n' c']] w (g_R (d_g ws ts) w):=by
 have hm:d_g ws ts=false:=by simp [d_g,k_4,hw,ht,h]
 have Hm:=Lib.hid hm;clear hm hw ht
 by_cases h1:n < 1
 ·have t0:decide ((n:Int) < 1)=true:=by simp;omega
  exact J71
 ·by_cases h2:160 < n
  ·have t0:=N111;have t1:decide (160 < (n:Int))=true:=by simp;omega
   exact J71
  ·have t0:=N111;have t1:=N157;have t2:((n':Int) != n)=true:=by simp;omega
   exact J71
theorem g_u (a a':Option Addr) (n c n' c':Nat) (ws ts:List Int) (w:World) (S1:Sl w a n ws) (S2:Sl w a' n' ts) :
  Calls Tryz.prog 12 #[.agg #[.slice a n c,.slice a' n' c']] w fun e w'=>e=.returned (.bool (d_g ws ts))∧Below w.heap.size w w':=by
 by_cases h:1≤n∧n≤160∧n'=n
 ·obtain ⟨h0,h1,rfl⟩:=h;obtain ⟨hw,b1,o1,rfl,R1⟩:=c_V S1 h0;obtain ⟨ht,b2,o2,rfl,R2⟩:=c_V S2 h0;exact i_I b1 o1 b2 o2 n' c c' ws ts w hw ht R1 R2 h0 h1
 ·exact j_z a a' n c n' c' ws ts w S1.1 S2.1 h
theorem d_S (a a':Option Addr) (n c n' c':Nat) (ws ts:List Int) (i:Int) (w:World) (S1:Sl w a n ws) (S2:Sl w a' n' ts) (hm:d_g ws ts=true) :
  Calls Tryz.prog 51 #[.agg #[.slice a n c,.slice a' n' c'],.int .i64 i] w fun e w'=>e=.returned (.tuple #[.int .i64 (b_K ws ts i),.int .i64 (a_I ws ts i)])∧Below w.heap.size w w':=by
 obtain ⟨z0,z1,z2⟩:=c_s hm;have hn:=S1.1;have hn':=S2.1;obtain rfl:n'=n:=by omega
 obtain ⟨-,b1,o1,rfl,R1⟩:=c_V S1 (by omega);obtain ⟨-,b2,o2,rfl,R2⟩:=c_V S2 (by omega);have z4:n'≤160:=by omega
 by_cases h0:i < 0
 ·have HE:=Lib.hid (show a_I ws ts i=3 by rw [a_I,if_pos hm,if_neg (by omega)]);have HV:=Lib.hid (show b_K ws ts i=0 by rw [b_K,HE.out,if_neg (by decide)]);exact J84
 ·obtain ⟨k,rfl⟩:=Int.eq_ofNat_of_zero_le (show 0≤i by omega)
  by_cases h1:k < n'
  ·have ht:=g_G hm k (by omega);have HE:=Lib.hid (show a_I ws ts (k:Int)=r_k (ts.getD k 0) by rw [a_I,if_pos hm,if_pos ⟨by omega,by omega⟩];simp);have HV:=Lib.hid (show b_K ws ts (k:Int)=if r_k (ts.getD k 0)=0 then ws.getD k 0 else 0 by rw [b_K,HE.out];simp);have g1:=b_a (Obj.cells #[.slice (some ⟨b1,o1,none⟩) n' c,.slice (some ⟨b2,o2,none⟩) n' c'] 26) (R1 k (by omega));have g2:=b_a (Obj.cells #[.slice (some ⟨b1,o1,none⟩) n' c,.slice (some ⟨b2,o2,none⟩) n' c'] 26) (R2 k (by omega))
   generalize ts.getD k 0=tv at ht HE HV g2
   generalize ws.getD k 0=wv at HV g1
   have ht':tv=0∨tv=1∨tv=2:=by omega
   clear hm hn hn' z0 z1 z2 ht
   rcases ht' with rfl | rfl | rfl
   all_goals
    go_enter Tryz.func51,Tryz.ntmps51
    go_wp2
    go_ret2
    exact ⟨h_g (by rw [HV.out];rfl) (by rw [HE.out];rfl),by go_grown⟩
  ·have HE:=Lib.hid (show a_I ws ts (k:Int)=3 by rw [a_I,if_pos hm,if_neg (by omega)]);have HV:=Lib.hid (show b_K ws ts (k:Int)=0 by rw [b_K,HE.out,if_neg (by decide)]);exact J84
def j_4 (Q:Nat→Prop) (ws ts:List Int) (x:Int) (w:World) (e:Ending) (w':World):Prop:=
 ∃ a n c a' n' c',e=.returned (.tuple #[.agg #[.slice a n c,.slice a' n' c'],.int .i64 x])∧SlP Q w' a n ws∧SlP Q w' a' n' ts∧Below w.heap.size w w'
theorem c_E (Q:Nat→Prop) (a a':Option Addr) (n c n' c':Nat) (ws ts:List Int) (i v:Int) (w:World) (S1:Sl w a n ws) (U2:SlP Q w a' n' ts) (hQ:∀ b,w.heap.size≤b→Q b) (hm:d_g ws ts=true) :
  Calls Tryz.prog 61 #[.agg #[.slice a n c,.slice a' n' c'],.int .i64 i,.int .i64 v] w (j_4 Q (c_q ws ts i v) (c_p ws ts i) (a_I ws ts i) w):=by
 have hzz:=c_s hm;have hn1:=S1.1;have hn2:n≤1000:=by omega
 have Hm:=Lib.hid hm;have S2:=U2.sl;have ⟨HU,HQ⟩:=hh2 U2 hQ;clear hm hzz hn1 U2 hQ
 by_cases he:a_I ws ts i=0
 ·have HE:=Lib.hid he;obtain ⟨-,h0,h1,-⟩:=d_V he
  have H1:=Lib.hid (show c_q ws ts i v=e_q ws i v by
   rw [c_q,if_pos he];obtain ⟨k,rfl⟩:=N120;rw [Int.toNat_natCast,h_w])
  have H2:=Lib.hid (show c_p ws ts i=ts by rw [c_p,if_pos he]);clear he h0 h1;rw [H1.out,H2.out,HE.out]
  go_enter Tryz.func61,Tryz.ntmps61
  go_wp2_with fail
  refine (d_S _ _ n c n' c' ws ts i _ (slA _ (slA _ S1)) (slA _ (slA _ S2)) Hm.out).mono ?_;rintro e w1 ⟨rfl,hb⟩;have hb1:=N11;have k0:=N197;have k1:=N191;have r0:=N68;have r1:=N69;have hs1:=N82;have f0:=N129;have f1:=N130;rw [HE.out]
  generalize b_K ws ts i=lv
  have T1:=Lib.hid (slB hb1 S1);have HB1:=Lib.hid hb1;clear hb hb1 S1 S2
  go_wp2_with fail
  go_region_with (go_at_call 62;refine (l_v a n c ws i v _ (slD T1.out) hn2).mono ?_;rintro e w2 ⟨p,d,rfl,s2,hb2⟩;have k1':w2.cell? ⟨w.heap.size,1,none⟩=some (.slice a' n' c'):=a_u hb2 k1;have r0':w2.cell? ⟨w.heap.size+1,0,none⟩=some (.slice none 0 0):=a_u hb2 r0;have r1':w2.cell? ⟨w.heap.size+1,1,none⟩=some (.slice none 0 0):=a_u hb2 r1;have f0':w2.frozen? ⟨w.heap.size+1,0,none⟩=false:=(hb2.frozen (b_c (w:=w1) r0)).trans f0;have f1':w2.frozen? ⟨w.heap.size+1,1,none⟩=false:=(hb2.frozen (b_c (w:=w1) r1)).trans f1;have HB2:=Lib.hid hb2;clear hb2)
  all_goals
   have hB:=a_b (HB1.out.drew) HB2.out;have hs2:w.heap.size+1 < w2.heap.size:=by have:=HB2.out.size;simp at this;omega
   go_wp2
   refine a_l ⟨w.heap.size+1,0,none⟩ rfl rfl rfl (c_B _ _ _ _ (by go_cell_look) (by go_cell_look)) ?_;have hF:Below w.heap.size w ((w2.setCell ⟨w.heap.size+1,0,none⟩ (.slice p (e_q ws i v).length d)).setCell ⟨w.heap.size+1,1,none⟩ (.slice a' n' c')):=(hB.setCell (by simp) _).setCell (by simp) _;exact ⟨_,_,_,_,_,_,rfl,c_K (fun b hb=>HQ.out b (Nat.le_trans (Nat.le_of_lt (Nat.lt_of_le_of_lt (Nat.le_add_right _ 1) hs1)) hb)) (g_f (g_f s2 _ (by simp;omega) _) _ (by simp;omega) _),h_G hF HU.out,hF⟩
 ·have HE:=N194;have H1:=Lib.hid (show c_q ws ts i v=[] by rw [c_q,if_neg he]);have H2:=Lib.hid (show c_p ws ts i=[] by rw [c_p,if_neg he]);clear he;rw [H1.out,H2.out];obtain ⟨ev,hev⟩:=mn (a_I ws ts i);have HX:=Lib.hid hev;have HE':=HE.out;rw [hev] at HE' ⊢;clear hev HE
  go_enter Tryz.func61,Tryz.ntmps61
  go_wp2_with fail
  refine (d_S _ _ n c n' c' ws ts i _ (slA _ (slA _ S1)) (slA _ (slA _ S2)) Hm.out).mono ?_;rintro e w1 ⟨rfl,hb⟩;have hb1:=N11;have r0:=N68;have r1:=N69;have f0:=N129;have f1:=N130;rw [HX.out]
  generalize b_K ws ts i=lv
  clear hb S1 S2
  go_wp2
  refine a_l ⟨w.heap.size+1,0,none⟩ rfl rfl rfl (c_B _ _ _ _ (by go_cell_look) (by go_cell_look)) ?_;exact ⟨_,_,_,_,_,_,rfl,c_7 _ _,c_7 _ _,by go_grown⟩
end Go.Proofs.YtogdpojnbgeknaaGreatDoor
