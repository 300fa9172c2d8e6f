import Derived.Test.YtolabfafgbmdbaaGreatDoorQ14
import Derived.Test.YtolabfafgbmdbaaGreatDoorQ0
import Derived.Deep.RegionLaw
import Derived.Deep.RegionLawGrows
import Derived.Maps.AppendAt
import Derived.Test.YtolabfafgbmdbaaGreatDoorQ11
set_option maxRecDepth 100000
set_option maxHeartbeats 16000000
namespace Go.Proofs.YtolabfafgbmdbaaGreatDoor
open Go.ChangeShapes Go.WideShapes Go.ChangeAt Go.RowKit
theorem g_q {A B:List Int} {z E:Int} {C:List (List (Int×Int))} (he:E≠0) {w w':World} (hb:Below w.heap.size w w'):e_K (okL E A) (okL E B) (okZ E z) (okL E C) E w (.returned (.tuple #[.agg #[.slice none 0 0,.slice none 0 0,.int .i64 0,.slice none 0 0],.int .i64 E])) w':=by
 rw [d_w he,d_w he,g_j he,d_w he];exact d_p hb
theorem h_B {A B:List Int} {z E:Int} {C:List (List (Int×Int))} (he:E=0) {w w':World} {e:Ending} (h:e_K A B z C 0 w e w'):e_K (okL E A) (okL E B) (okZ E z) (okL E C) E w e w':=by
 rw [k_8 he,k_8 he,s_X he,k_8 he,he];exact h
def e_a (w:World) (g:Nat) (x y z u:Value):Prop:=(w.cell? ⟨g,0,none⟩=some x∧w.cell? ⟨g,1,none⟩=some y∧w.cell? ⟨g,2,none⟩=some z∧w.cell? ⟨g,3,none⟩=some u)∧w.frozen? ⟨g,0,none⟩=false∧w.frozen? ⟨g,1,none⟩=false∧w.frozen? ⟨g,2,none⟩=false∧w.frozen? ⟨g,3,none⟩=false
theorem c_m {w:World} {x y z u:Value} {t:TypeId} (g:Nat) (hg:g=w.heap.size):e_a (w.alloc (.cells #[x,y,z,u] t)) g x y z u:=
 ⟨⟨a_Y _ _ _ hg rfl,a_Y _ _ _ hg rfl,a_Y _ _ _ hg rfl,a_Y _ _ _ hg rfl⟩,c_p _ _ hg,c_p _ _ hg,c_p _ _ hg,c_p _ _ hg⟩
theorem b_l {w w':World} {g:Nat} {x y z u:Value} (hb:Below w.heap.size w w') (h:e_a w g x y z u):e_a w' g x y z u:=by
 obtain ⟨⟨a,b,c,d⟩,e,f,i,j⟩:=h;exact ⟨⟨a_t hb a,a_t hb b,a_t hb c,a_t hb d⟩,c_b hb a e,c_b hb b f,c_b hb c i,c_b hb d j⟩
theorem g_D {w:World} {g:Nat} {x y z u:Value} (o:Obj) (h:e_a w g x y z u):e_a (w.alloc o) g x y z u:=b_l ((Below.refl _ _).alloc (Nat.le_refl _) _) h
theorem b_B {w:World} {g:Nat} {x y z u:Value} (h:e_a w g x y z u) (x' y' z' u':Value):e_a ((((w.setCell ⟨g,0,none⟩ x').setCell ⟨g,1,none⟩ y').setCell ⟨g,2,none⟩ z').setCell ⟨g,3,none⟩ u') g x' y' z' u':=by
 obtain ⟨⟨a,b,c,d⟩,e,f,i,j⟩:=h;refine ⟨t_g x' y' z' u' (by rw [a];rfl) (by rw [b];rfl) (by rw [c];rfl) (by rw [d];rfl),?_,?_,?_,?_⟩ <;> (simp only [World.frozen?_setCell];assumption)
theorem f_a {W wy:World} {g b o:Nat} {v x y z u:Value} (hb:Below W.heap.size W wy) (hne:b≠g) (h:W.cell? ⟨b,o,none⟩=some v):((((wy.setCell ⟨g,0,none⟩ x).setCell ⟨g,1,none⟩ y).setCell ⟨g,2,none⟩ z).setCell ⟨g,3,none⟩ u).cell? ⟨b,o,none⟩=some v:=by
 have ne:=N203;rw [World.cell?_setCell_other _ _ _ _ (ne _),World.cell?_setCell_other _ _ _ _ (ne _),World.cell?_setCell_other _ _ _ _ (ne _),World.cell?_setCell_other _ _ _ _ (ne _)];exact a_t hb h
theorem i_5 {F:Nat} {w w':World} {g:Nat} {x y z u:Value} (hb:Below F w w') (hg:g < F) (h:e_a w g x y z u):e_a w' g x y z u:=by
 obtain ⟨⟨a,b,c,d⟩,e,f,i,j⟩:=h;exact ⟨⟨(hb.cell (p:=⟨g,0,none⟩) hg).trans a,(hb.cell (p:=⟨g,1,none⟩) hg).trans b,(hb.cell (p:=⟨g,2,none⟩) hg).trans c,(hb.cell (p:=⟨g,3,none⟩) hg).trans d⟩,(hb.frozen (p:=⟨g,0,none⟩) hg).trans e,(hb.frozen (p:=⟨g,1,none⟩) hg).trans f,(hb.frozen (p:=⟨g,2,none⟩) hg).trans i,(hb.frozen (p:=⟨g,3,none⟩) hg).trans j⟩
theorem d_e {w:World} {g:Nat} {x y z u:Value} (h:e_a w g x y z u):g < w.heap.size:=b_d h.1.1
theorem j_6 (a a' q:Option Addr) (n c n' c' l d:Nat) (ws ts:List Int) (D:Int) (bs:List (List (Int×Int))) (th x v:Int) (w:World) (S1:Sl w a n ws) (S2:Sl w a' n' ts) (S:Bl w q l bs) (hx:(Lit.int .i64 x).wf=true) :
  Calls Tryz.prog 122 #[.agg #[.slice a n c,.slice a' n' c',.int .i64 D,.slice q l d],.int .i64 th,.int .i64 x,.int .i64 v] w (e_K (okL (b_g ws ts D bs th x) (b_Q ws D x v)) (okL (b_g ws ts D bs th x) ts) (okZ (b_g ws ts D bs th x) D) (okL (b_g ws ts D bs th x) (b_F D bs th x v)) (b_g ws ts D bs th x) w):=by
 have HX:=Lib.hid hx;have Hl:=Lib.hid S.1;clear hx
 cases hh:j_A ws ts D bs th with
 | false =>
  have he:b_g ws ts D bs th x=1:=by rw [b_g,if_neg (by rw [hh];decide)]
  rw [he];have HH:=Lib.hid (show (d_q ws ts D bs&&thB bs th)=false from hh);clear hh he
  go_enter Tryz.func122,Tryz.ntmps122
  go_wp2_with fail
  refine (e_i a a' q n c n' c' l d ws ts D th bs _ (slA _ (slA _ (slA _ S1))) (slA _ (slA _ (slA _ S2))) (blA _ (blA _ (blA _ S)))).mono ?_;rintro e w1 ⟨rfl,hb⟩;rw [HH.out];have R:=b_l hb (g_D _ (c_m (w:=w.alloc _) (w.heap.size+1) (by simp)));have HR:=N29;obtain ⟨⟨r0,r1,r2,r3⟩,f0,f1,f2,f3⟩:=R;have HB:=N122;clear hb
  go_wp2
  refine a_l ⟨w.heap.size+1,0,none⟩ rfl rfl rfl (a_8 _ _ _ _ _ _ HR.out.1.1 HR.out.1.2.1 HR.out.1.2.2.1 HR.out.1.2.2.2) ?_;exact g_q (by decide) (a_W (g:=w.heap.size+1) HB.out (by omega) _ _ _ _)
 | true =>
  obtain ⟨hm,h0,h1⟩:=d_j hh;obtain ⟨j,rfl⟩:=N104;have hjl:j < l:=by rw [←Hl.out];omega
  have i1:(0:Int)≤j:=by omega
  have i2:(j:Int) < l:=by omega
  have HH:=Lib.hid (show (d_q ws ts D bs&&thB bs j)=true from hh);have HE:=N92;have hD0:0≤D:=(a_T hm).2.2.1.1;have hD8:D≤8:=(a_T hm).2.2.1.2;have hlD:=N240;have HM:=Lib.hid hm;clear hh hm h0 h1
  go_enter Tryz.func122,Tryz.ntmps122
  go_wp2_with fail
  refine (e_i a a' q n c n' c' l d ws ts D j bs _ (slA _ (slA _ (slA _ S1))) (slA _ (slA _ (slA _ S2))) (blA _ (blA _ (blA _ S)))).mono ?_;rintro e w1 ⟨rfl,hb⟩;rw [HH.out];have hb1:=N6;have R:=b_l hb (g_D _ (c_m (w:=w.alloc _) (w.heap.size+1) (by simp)));have X:=b_l hb (c_m (w:=(w.alloc _).alloc _) (w.heap.size+1+1) (by simp));have T1:=slB hb1 S1;have T2:=slB hb1 S2;have T:=blB hb1 S;have HB:=Lib.hid hb1;obtain ⟨⟨k0,k1,k2,k3⟩,-⟩:=id X;clear hb hb1 S1 S2 S HH
  go_wp2_with fail
  refine (g_K a a' n c n' c' ws ts x _ T1 T2 HX.out).mono ?_;rintro e w2 ⟨rfl,hb⟩;obtain ⟨ev,hev⟩:=mn (a_I ws ts x);obtain ⟨lv,hlv⟩:=mn (b_M ws ts x);have HEV:=Lib.hid hev;rw [hev,hlv];have HB2:=Lib.hid (a_a HB.out hb);replace R:=b_l hb R
  by_cases he:ev=0
  ·subst he;replace X:=b_l hb X;replace T1:=slB hb T1;replace T2:=slB hb T2;replace T:=blB hb T;have hgw2:=d_e R;have hgx2:=d_e X;obtain ⟨W,hW⟩:=nm (w2.alloc (Obj.cells #[.int .i64 x,.int .i64 v] 59));have b2:Below w2.heap.size w2 W:=by rw [hW];exact (Below.refl _ _).alloc (Nat.le_refl _) _
   replace R:=b_l b2 R;replace X:=b_l b2 X;replace T1:=slB b2 T1;replace T2:=slB b2 T2;replace T:=blB b2 T;have p0:W.cell? ⟨w2.heap.size,0,none⟩=some (.int .i64 x):=by rw [hW];exact a_Y _ _ _ rfl rfl
   have p1:W.cell? ⟨w2.heap.size,1,none⟩=some (.int .i64 v):=by rw [hW];exact a_Y _ _ _ rfl rfl
   have hgw:=d_e R;have hgx:=d_e X;have hw2:w.heap.size+1 < w2.heap.size∧w.heap.size+1+1 < w2.heap.size:=⟨hgw2,hgx2⟩;have HW:=Lib.hid hW;have HB3:=Lib.hid (a_a HB2.out b2);have HB3s:=Lib.hid HB3.out.size;have HR:=Lib.hid R;clear hb hlv hev b2 k0 k1 k2 k3 R hW HB HB2;obtain ⟨⟨k0,k1,k2,k3⟩,-⟩:=X
   go_upto_region 8 with fail
   rw [←HW.out]
   by_cases hd:D=0
   ·subst hd;have HES:=N218
    go_wp2_with fail
    have hB0:=N106;have HE0:=Lib.hid HEV.out
    go_region_held3 (fun w'=>(w'.cell? ⟨w.heap.size+1+1,0,none⟩=some (.slice a n c)∧w'.cell? ⟨w.heap.size+1+1,1,none⟩=some (.slice a' n' c')∧w'.cell? ⟨w.heap.size+1+1,2,none⟩=some (.int .i64 0)∧w'.cell? ⟨w.heap.size+1+1,3,none⟩=some (.slice q l d))∧w'.cell? ⟨w2.heap.size,0,none⟩=some (.int .i64 x)∧w'.cell? ⟨w2.heap.size,1,none⟩=some (.int .i64 v))
     (first | exact ⟨⟨k0,k1,k2,k3⟩,p0,p1⟩ | (exact ⟨⟨a_t (by assumption) k0,a_t (by assumption) k1,a_t (by assumption) k2,a_t (by assumption) k3⟩,a_t (by assumption) p0,a_t (by assumption) p1⟩) | (exact ⟨⟨f_a (by assumption) (by omega) k0,f_a (by assumption) (by omega) k1,f_a (by assumption) (by omega) k2,f_a (by assumption) (by omega) k3⟩,f_a (by assumption) (by omega) p0,f_a (by assumption) (by omega) p1⟩))
     ((first | (go_at_call 67;refine (e_o a a' q n c n' c' l d ws ts 0 bs _ (slB (by assumption) T1) (slB (by assumption) T2) (blB (by assumption) T) HM.out).mono ?_;rintro e wx ⟨p,m,d1,p',m',d2,y,l2,rfl,u1,u2,O,hbx⟩;have hbx':=a_a (by assumption) hbx) | (go_at_call 149;refine (i_n p p' (some ⟨y,0,none⟩) m d1 m' d2 l2 l2 ws ts 0 x v _ u1.sl u2.sl HX.out HEV.out).mono ?_;rintro e wy ⟨p3,m3,d3,p4,m4,d4,rfl,u3,u4,hby⟩;have hby':=a_a (by assumption) hby;obtain ⟨⟨r0,r1,r2,r3⟩,f0,f1,f2,f3⟩:=b_l hby' HR.out)))
    have H4:=Lib.hid (b_B (b_l hby' HR.out) (.slice p3 m3 d3) (.slice p4 m4 d4) (.int .i64 0) (.slice (some ⟨y,0,none⟩) l2 l2));have HZ:=Lib.hid (h_B HES.out (g_p (F:=W.heap.size) (g:=w.heap.size+1) (ws:=b_Q ws 0 x v) (ts:=ts) (D:=0) (bs:=b_F 0 bs j x v) (x:=0) (y0:=.slice p3 m3 d3) (y1:=.slice p4 m4 d4) (y2:=.int .i64 0) (y3:=.slice (some ⟨y,0,none⟩) l2 l2) (d:=d3) (d':=d4) (e:=l2) hgw (by omega) (Q:=fun b=>wx.heap.size≤b) (fun b h=>Nat.le_trans hbx'.size h) (c_N (fun _ h=>h) u3) (c_N (fun _ h=>h) u4) (n_A hby (i_D O)) (a_a HB3.out hby')));clear u1 u2 u3 u4 O hbx hby hbx' hby' hB0 p0 p1 k0 k1 k2 k3 T1 T2 T;exact J100
   ·have q1:(D==0)=false:=by simpa using hd
    have HDN:=Lib.hid hd;obtain ⟨b,o,y,yc,rfl,g0,hcap,hp⟩:=h_J T hjl;obtain ⟨ps,hps⟩:=mn (bs.getD j []);rw [hps] at g0 hp hcap hlD;have HPS:=Lib.hid hps;obtain ⟨m,hm⟩:=mn (ps.length);rw [hm] at g0 hp hcap hlD;have ⟨HPL,HCAP⟩:=hh2 hm hcap;have hm8:m≤8:=by omega
    have HPE:=Lib.hid (show e_g m D=if (m:Int)=D then 7 else 0 by rw [e_g,if_neg (by omega)]);clear hps hm hcap hd
    go_wp2_with fail
    have hB0:=N106
    go_region_held3 (fun w'=>(w'.cell? ⟨w.heap.size+1+1,2,none⟩=some (.int .i64 D)∧w'.cell? ⟨w.heap.size+1+1,3,none⟩=some (.slice (some ⟨b,o,none⟩) l d))∧w'.cell? ⟨b,o+j,none⟩=some (.slice y m yc)∧w'.cell? ⟨w2.heap.size,0,none⟩=some (.int .i64 x)∧w'.cell? ⟨w2.heap.size,1,none⟩=some (.int .i64 v))
     (first | exact ⟨⟨k2,k3⟩,g0,p0,p1⟩ | (exact ⟨⟨a_t (by assumption) k2,a_t (by assumption) k3⟩,a_t (by assumption) g0,a_t (by assumption) p0,a_t (by assumption) p1⟩))
     ((go_at_call 150;refine (p_9 y m yc ps D x v _ (plB (by assumption) hp) HCAP.out).mono ?_;rintro e wx ⟨r,rc,rfl,hrc,u0,hbx⟩;have hbx':=a_a (by assumption) hbx))
    have hsz:W.heap.size≤wx.heap.size:=hbx'.size;replace T1:=slB hbx' T1;replace T2:=slB hbx' T2;replace T:=blB hbx' T;replace k0:=a_t hbx' k0;replace k1:=a_t hbx' k1;replace k2:=a_t hbx' k2;replace k3:=a_t hbx' k3;have R:=b_l hbx' HR.out;have HBX:=Lib.hid (a_a HB3.out hbx')
    by_cases hf:(m:Int)=D
    ·have HES:=N156;have HP7:=Lib.hid (show e_g m D=7 by rw [HPE.out,if_pos hf]);rw [HP7.out];have HZ:=N29;obtain ⟨⟨r0,r1,r2,r3⟩,f0,f1,f2,f3⟩:=R;clear hf u0 hbx hbx' hB0 k0 k1 k2 k3 T1 T2 T hp g0 p0 p1 hrc HPE
     go_wp2
     refine a_l ⟨w.heap.size+1,0,none⟩ rfl rfl rfl (a_8 _ _ _ _ _ _ HZ.out.1.1 HZ.out.1.2.1 HZ.out.1.2.2.1 HZ.out.1.2.2.2) ?_;rw [HES.out];exact g_q (by decide) (a_W (g:=w.heap.size+1) HBX.out (by omega) _ _ _ _)
    ·have HES:=N157;have HP0:=Lib.hid (show e_g m D=0 by rw [HPE.out,if_neg hf]);have hL:e_0 ps D (x,v)=ps++[(x,v)]:=by rw [e_0,HPL.out,HP0.out,if_pos rfl]
     rw [HP0.out];rw [hL] at u0 hrc ⊢;have hm1:(ps++[(x,v)]).length=m+1:=by rw [List.length_append,HPL.out];rfl
     rw [hm1] at u0 hrc ⊢;have HTW:=Lib.hid (show b_Q ws D x v=ws by rw [b_Q,if_neg HDN.out]);have HTB:=N159;have ⟨U0,HRC,HRR⟩:=hh3 u0 hrc R;clear hf hL hm1 u0 hrc hbx hbx' hB0 g0 p0 p1 hp HPE R HR HB3
     go_wp2_with fail
     refine (e_o a a' (some ⟨b,o,none⟩) n c n' c' l d ws ts D bs _ T1 T2 T HM.out).mono ?_;rintro e wz ⟨p,m1,d1,p',m2,d2,g,l2,rfl,u1,u2,O,hbz⟩;have hgz:wx.heap.size≤g:=O.2.1;have hl2:l2=l:=by rw [←O.1,Hl.out]
     subst hl2;have O2:=j_s (F':=W.heap.size) (by omega) O;have hp0:PlQ (fun z=>W.heap.size≤z∧z≠g) wz r (m+1) (ps++[(x,v)]):=u_M hbz (p_k (fun z h1 h2=>⟨h1,by omega⟩) U0.out);have ⟨U1,U2,HO,HP,HBZ⟩:=hh5 u1 u2 O2 hp0 hbz;clear O O2 hp0 hbz u1 u2 T1 T2 T k0 k1 k2 k3
     go_wp2_with fail
     refine (q_O W.heap.size g l2 p p' m1 d1 m2 d2 D bs j r (m+1) rc (ps++[(x,v)]) _ HO.out hjl HP.out HRC.out).mono ?_;rintro e wh ⟨rfl,O3,K3,hbh⟩;have R3:=i_5 hbh (by omega) (b_l HBZ.out HRR.out);have hfd:=j_y wh (.slice p m1 d1) (.slice p' m2 d2) (.int .i64 D) (.slice (some ⟨g,0,none⟩) l2 l2);have H4:=Lib.hid (b_B R3 (.slice p m1 d1) (.slice p' m2 d2) (.int .i64 D) (.slice (some ⟨g,0,none⟩) l2 l2));have HZ:=Lib.hid (h_B HES.out (g_p (F:=W.heap.size) (g:=w.heap.size+1) (ws:=b_Q ws D x v) (ts:=ts) (D:=D) (bs:=b_F D bs j x v) (x:=0) (y0:=.slice p m1 d1) (y1:=.slice p' m2 d2) (y2:=.int .i64 D) (y3:=.slice (some ⟨g,0,none⟩) l2 l2) (d:=d1) (d':=d2) (e:=l2) hgw (by omega) (Q:=fun b=>wx.heap.size≤b∧b≠g) (fun b h=>Nat.le_trans hsz h.1) (by rw [HTW.out];exact a_r (fun b o u hq hu=>K3 b o u hq.2 hu) U1.out) (a_r (fun b o u hq hu=>K3 b o u hq.2 hu) U2.out) (by rw [HTB.out];exact i_D O3) ((a_a HBX.out HBZ.out).trans (hbh.mono (by have:=HB3s.out;omega)))));obtain ⟨⟨r0,r1,r2,r3⟩,f0,f1,f2,f3⟩:=R3;clear O3 K3 hbh;exact J100
  ·have q1:=N128;have HR:=N29;obtain ⟨⟨r0,r1,r2,r3⟩,f0,f1,f2,f3⟩:=R;have HEN:=Lib.hid he;have HES:=Lib.hid (show b_g ws ts D bs j x=ev by rw [HE.out,HEV.out,if_neg he]);clear hb hlv hev he k0 k1 k2 k3 X T1 T2 T HB hlD hD0 hD8
   go_wp2
   refine a_l ⟨w.heap.size+1,0,none⟩ rfl rfl rfl (a_8 _ _ _ _ _ _ HR.out.1.1 HR.out.1.2.1 HR.out.1.2.2.1 HR.out.1.2.2.2) ?_;rw [HES.out];exact g_q HEN.out (a_W (g:=w.heap.size+1) HB2.out (by omega) _ _ _ _)
theorem g_l {w:World} {B:Nat} {e:TypeId} {v:Value} {n:Nat} {xs:List Value} (h:w.ownsRow B e 1 v n xs):∃ a c,v=.slice a n c:=by
 exact J71
theorem t_5 {w:World} {B:Nat} {e:TypeId} {v:Value} {n:Nat} {xs:List Value} (h:w.ownsRow B e 1 v n xs) {r:Nat} (hr:v.ownBlock=some r):B≤r:=by
 rcases h.2 with ⟨rfl,_⟩ | ⟨g,cap,cur,rfl,hb,_⟩
 ·simp [Value.ownBlock] at hr
 ·simp [Value.ownBlock] at hr;omega
theorem g_i {F:Nat} {wr w0 w1 w2:World} {e:TypeId} {v:Value} {n:Nat} {xs:List Value} (h0:Below F wr w0) (hs:F≤w0.heap.size) (hg:w0.grownBy w1 v.ownBlock) (ho:w2.ownsRow F e 1 v n xs):Below F wr w1:=
 h0.grown hg hs (fun _ hr=>t_5 ho hr)
theorem h_C {w:World} {g:Nat} {x y z u:Value} (h:e_a w g x y z u) (u':Value):e_a (w.setCell ⟨g,3,none⟩ u') g x y z u':=by
 obtain ⟨⟨a,b,c,d⟩,e,f,i,j⟩:=h;have ne:∀ k,k≠3→(⟨g,3,none⟩:Addr)≠⟨g,k,none⟩:=fun k hk e=>hk (congrArg Addr.off e).symm
 refine ⟨⟨?_,?_,?_,World.cell?_setCell_same' _ _ _ (by rw [d];rfl)⟩,?_,?_,?_,?_⟩
 ·rw [World.cell?_setCell_other _ _ _ _ (ne _ (by decide))];exact a
 ·rw [World.cell?_setCell_other _ _ _ _ (ne _ (by decide))];exact b
 ·rw [World.cell?_setCell_other _ _ _ _ (ne _ (by decide))];exact c
 all_goals (rw [World.frozen?_setCell];assumption)
theorem c_e {w:World} {g g' o:Nat} {x y z u:Value} (h:e_a w g x y z u) (hne:g'≠g) (v:Value):e_a (w.setCell ⟨g',o,none⟩ v) g x y z u:=by
 obtain ⟨⟨a,b,c,d⟩,e,f,i,j⟩:=h;have ne:=N211;refine ⟨⟨?_,?_,?_,?_⟩,?_,?_,?_,?_⟩
 ·rw [World.cell?_setCell_other _ _ _ _ (ne _)];exact a
 ·rw [World.cell?_setCell_other _ _ _ _ (ne _)];exact b
 ·rw [World.cell?_setCell_other _ _ _ _ (ne _)];exact c
 ·rw [World.cell?_setCell_other _ _ _ _ (ne _)];exact d
 all_goals (rw [World.frozen?_setCell];assumption)
def g_Y (r:Bool) (w:World) (e:Ending) (w':World):Prop:=e=.returned (.bool r)∧Below w.heap.size w w'
theorem c_z {r s:Bool} {w w':World} (h:r=s) (hb:Below w.heap.size w w'):g_Y r w (.returned (.bool s)) w':=by subst h;exact ⟨rfl,hb⟩
theorem i_Z (b1 o1 b2 o2 n c1 c2:Nat) (ws ts:List Int) (w:World) (hw:ws.length=n) (ht:ts.length=n) (R1:Row w b1 o1 ws) (R2:Row w b2 o2 ts) (h0:1≤n) (h160:n≤160) :
  Calls Tryz.prog 12 #[.agg #[.slice (some ⟨b1,o1,none⟩) n c1,.slice (some ⟨b2,o2,none⟩) n c2]] w (g_Y (d_g ws ts) w):=by
 have ⟨Hw,Ht⟩:=hh2 hw ht;clear hw ht;have t0:=N111;have t1:=N160;have t2:((n:Int) != n)=false:=by simp
 go_enter Tryz.func12,Tryz.ntmps12
 go_wp2
 go_loop [27] (fun i=>∃ k:Nat,k≤n∧i=.int .i64 k∧Hid (f_n ws ts k)) (fun i=>n - (intOf i).toNat)
 case atStart=>exact ⟨0,by omega,rfl,by intro i hi;omega⟩
 case round =>
  obtain ⟨k,hk,rfl,hr⟩:=hrel
  by_cases hlt:k < n
  ·have g1:=b_b (Obj.cells #[.slice (some ⟨b1,o1,none⟩) n c1,.slice (some ⟨b2,o2,none⟩) n c2] 26) (R1 k (by rw [Hw.out];exact hlt));have g2:=b_b (Obj.cells #[.slice (some ⟨b1,o1,none⟩) n c1,.slice (some ⟨b2,o2,none⟩) n c2] 26) (R2 k (by rw [Ht.out];exact hlt))
   generalize htv:ts.getD k 0=tv at g2
   generalize hwv:ws.getD k 0=wv at g1
   have ⟨Htv,Hwv⟩:=hh2 htv hwv;clear htv hwv
   by_cases q1:tv < 0
   ·have H:=Lib.hid (g_g Hw.out hlt Htv.out Hwv.out (.inl q1))
    go_wp2
    go_ret
    exact c_z H.out (by go_grown)
   ·by_cases q2:2 < tv
    ·have H:=Lib.hid (g_g Hw.out hlt Htv.out Hwv.out (.inr (.inl q2)))
     go_wp2
     go_ret
     exact c_z H.out (by go_grown)
    ·by_cases q3:tv=0
     ·subst q3
      by_cases q4:wv=0
      ·subst q4;have H:=Lib.hid (h_d hr.out Htv.out Hwv.out (by omega))
       go_wp2
       go_round
       case rel=>exact ⟨k+1,by omega,by go_num,H.out⟩
       case measure=>simp [intOf];omega
      ·have q5:(wv != 0)=true:=by simp [q4]
       have H:=Lib.hid (g_g Hw.out hlt Htv.out Hwv.out (.inr (.inr ⟨rfl,q4⟩)));clear q4
       go_wp2
       go_ret
       exact c_z H.out (by go_grown)
     ·have q4:(tv==0)=false:=by simp [q3]
      have H:=Lib.hid (h_d hr.out Htv.out Hwv.out (by omega));clear q3
      go_wp2
      go_round
      case rel=>exact ⟨k+1,by omega,by go_num,H.out⟩
      case measure=>simp [intOf];omega
  ·obtain rfl:k=n:=by omega
   have H:=Lib.hid (l_3 Hw.out Ht.out h0 h160 hr.out)
   go_wp2
   go_ret
   exact c_z H.out (by go_grown)
theorem j_S (a a':Option Addr) (n c n' c':Nat) (ws ts:List Int) (w:World) (hw:ws.length=n) (ht:ts.length=n') (h:¬ (1≤n∧n≤160∧n'=n)) :
  Calls Tryz.prog 12 #[.agg #[.slice a n c,.slice a' n' c']] w (g_Y (d_g ws ts) w):=by
 have hm:d_g ws ts=false:=by simp [d_g,l_m,hw,ht,h]
 have Hm:=Lib.hid hm;clear hm hw ht
 by_cases h1:n < 1
 ·have t0:decide ((n:Int) < 1)=true:=by simp;omega
  exact J75
 ·by_cases h2:160 < n
  ·have t0:=N111;have t1:decide (160 < (n:Int))=true:=by simp;omega
   exact J75
  ·have t0:=N111;have t1:=N160;have t2:((n':Int) != n)=true:=by simp;omega
   exact J75
theorem d_t (a a':Option Addr) (n c n' c':Nat) (ws ts:List Int) (w:World) (S1:Sl w a n ws) (S2:Sl w a' n' ts) :
  Calls Tryz.prog 12 #[.agg #[.slice a n c,.slice a' n' c']] w fun e w'=>e=.returned (.bool (d_g ws ts))∧Below w.heap.size w w':=by
 by_cases h:1≤n∧n≤160∧n'=n
 ·obtain ⟨h0,h1,rfl⟩:=h;obtain ⟨hw,b1,o1,rfl,R1⟩:=c_Z S1 h0;obtain ⟨ht,b2,o2,rfl,R2⟩:=c_Z S2 h0;exact i_Z b1 o1 b2 o2 n' c c' ws ts w hw ht R1 R2 h0 h1
 ·exact j_S a a' n c n' c' ws ts w S1.1 S2.1 h
theorem d_V (a a':Option Addr) (n c n' c':Nat) (ws ts:List Int) (i:Int) (w:World) (S1:Sl w a n ws) (S2:Sl w a' n' ts) (hm:d_g ws ts=true) :
  Calls Tryz.prog 51 #[.agg #[.slice a n c,.slice a' n' c'],.int .i64 i] w fun e w'=>e=.returned (.tuple #[.int .i64 (b_M ws ts i),.int .i64 (a_I ws ts i)])∧Below w.heap.size w w':=by
 obtain ⟨z0,z1,z2⟩:=c_w hm;have hn:=S1.1;have hn':=S2.1;obtain rfl:n'=n:=by omega
 obtain ⟨-,b1,o1,rfl,R1⟩:=c_Z S1 (by omega);obtain ⟨-,b2,o2,rfl,R2⟩:=c_Z S2 (by omega);have z4:n'≤160:=by omega
 by_cases h0:i < 0
 ·have HE:=Lib.hid (show a_I ws ts i=3 by rw [a_I,if_pos hm,if_neg (by omega)]);have HV:=Lib.hid (show b_M ws ts i=0 by rw [b_M,HE.out,if_neg (by decide)]);exact J91
 ·obtain ⟨k,rfl⟩:=Int.eq_ofNat_of_zero_le (show 0≤i by omega)
  by_cases h1:k < n'
  ·have ht:=g_N hm k (by omega);have HE:=Lib.hid (show a_I ws ts (k:Int)=r_B (ts.getD k 0) by rw [a_I,if_pos hm,if_pos ⟨by omega,by omega⟩];simp);have HV:=Lib.hid (show b_M ws ts (k:Int)=if r_B (ts.getD k 0)=0 then ws.getD k 0 else 0 by rw [b_M,HE.out];simp);have g1:=b_b (Obj.cells #[.slice (some ⟨b1,o1,none⟩) n' c,.slice (some ⟨b2,o2,none⟩) n' c'] 26) (R1 k (by omega));have g2:=b_b (Obj.cells #[.slice (some ⟨b1,o1,none⟩) n' c,.slice (some ⟨b2,o2,none⟩) n' c'] 26) (R2 k (by omega))
   generalize ts.getD k 0=tv at ht HE HV g2
   generalize ws.getD k 0=wv at HV g1
   have ht':tv=0∨tv=1∨tv=2:=by omega
   clear hm hn hn' z0 z1 z2 ht
   rcases ht' with rfl | rfl | rfl
   all_goals
    go_enter Tryz.func51,Tryz.ntmps51
    go_wp2
    go_ret2
    exact ⟨h_q (by rw [HV.out];rfl) (by rw [HE.out];rfl),by go_grown⟩
  ·have HE:=Lib.hid (show a_I ws ts (k:Int)=3 by rw [a_I,if_pos hm,if_neg (by omega)]);have HV:=Lib.hid (show b_M ws ts (k:Int)=0 by rw [b_M,HE.out,if_neg (by decide)]);exact J91
theorem g_B (k D:Int) (w:World):Calls Tryz.prog 83 #[.int .i64 k,.int .i64 D] w fun e w'=>e=.returned (.bool (c_i k D))∧w=w':=by
 have H:=Lib.hid (show c_i k D=decide (1≤k∧k≤8∧0≤D∧D≤8) from rfl)
 by_cases h1:1≤k
 all_goals by_cases h2:k≤8
 all_goals by_cases h3:0≤D
 all_goals
  go_enter Tryz.func83,Tryz.ntmps83
  go_wp2
  go_ret
  exact ⟨f_V (by rw [H.out,Bool.eq_iff_iff];simp;try omega),rfl⟩
theorem i_Y (a a' q:Option Addr) (n c n' c' l d:Nat) (ws ts:List Int) (D:Int) (bs:List (List (Int×Int))) (w:World) (S1:Sl w a n ws) (S2:Sl w a' n' ts) (S:Bl w q l bs) :
  Calls Tryz.prog 40 #[.agg #[.slice a n c,.slice a' n' c',.int .i64 D,.slice q l d]] w (a_1 (d_q ws ts D bs) w):=by
 have Hn:=Lib.hid S1.1;have Hl:=Lib.hid S.1
 cases hm:d_g ws ts with
 | false =>
  have HM:=Lib.hid hm;have HT:=Lib.hid (show d_q ws ts D bs=false by simp [d_q,hm]);clear hm
  go_enter Tryz.func40,Tryz.ntmps40
  go_wp2_with fail
  refine (d_t a a' n c n' c' ws ts _ (slA _ S1) (slA _ S2)).mono ?_;exact J98
 | true =>
  have HM:=Lib.hid hm;clear hm
  cases hs:c_i l D with
  | false =>
   have HT:=Lib.hid (show d_q ws ts D bs=false by
    have:c_i bs.length D=false:=by rw [Hl.out];exact hs
    simp [d_q,this])
   have HS:=Lib.hid hs;clear hs
   go_enter Tryz.func40,Tryz.ntmps40
   go_wp2_with fail
   refine (d_t a a' n c n' c' ws ts _ (slA _ S1) (slA _ S2)).mono ?_;rintro e w1 ⟨rfl,hb⟩;rw [HM.out];have hb1:=N6;have c2:=N108;have c3:=N58;have HB1:=Lib.hid hb1;clear hb hb1
   go_wp2_with fail
   refine (g_B l D _).mono ?_;rintro e w2 ⟨rfl,rfl⟩;rw [HS.out]
   go_wp2
   go_ret
   exact a_i HT.out HB1.out
  | true =>
   have hs':c_i bs.length D=true:=by rw [Hl.out];exact hs
   have ⟨HS,HS2⟩:=hh2 hs' hs;simp only [c_i,decide_eq_true_eq] at hs;obtain ⟨s1,s2,s3,s4⟩:=hs;have s1':1≤l:=by omega
   have s2':l≤8:=by omega
   clear hs' s1 s2
   go_enter Tryz.func40,Tryz.ntmps40
   go_wp2_with fail
   refine (d_t a a' n c n' c' ws ts _ (slA _ S1) (slA _ S2)).mono ?_;rintro e w1 ⟨rfl,hb⟩;rw [HM.out];have hb1:=N6;have c0:=N223;have c1:=N215;have c2:=N108;have c3:=N58;have HB1:=Lib.hid hb1;have S':=blB hb1 S;clear hb hb1 S
   go_wp2_with fail
   refine (g_B l D _).mono ?_;rintro e w2 ⟨rfl,rfl⟩;rw [HS2.out]
   go_wp2
   go_loopw [23] (fun s wr=>∃ k:Nat,k≤l∧s=.int .i64 k∧Hid (j_g ws.length D bs k)∧Below w1.heap.size w1 wr) (fun s _=>l - (intOf s).toNat)
   case atStart=>exact ⟨0,by omega,rfl,by intro j hj;omega,Below.refl _ _⟩
   case round =>
    obtain ⟨k,hk,rfl,hr,hb⟩:=hrel;have c0':=a_t hb c0;have c2':=a_t hb c2;have HB:=Lib.hid hb
    by_cases hlt:k < l
    ·obtain ⟨b,o,p,pc,rfl,k0,hcap,hp⟩:=h_J (blB hb S') hlt;obtain ⟨x,hx⟩:=mn (bs.getD k []);rw [hx] at k0 hp hcap;have HX:=Lib.hid hx;obtain ⟨m,hmm⟩:=mn (x.length);rw [hmm] at k0 hp hcap;have HMM:=Lib.hid hmm;have hcap1:=hcap.1;have hcap2:=hcap.2.1;have i1:(0:Int)≤k:=by omega
     have i2:(k:Int) < l:=by omega
     clear hx hmm hb hcap
     by_cases hD:D < m
     ·have HF:=Lib.hid (g_O (ws:=ws) (ts:=ts) (D:=D) (bs:=bs) (k:=k) (by rw [Hl.out];exact hlt) (by rw [HX.out];simp [f_9,HMM.out];omega));exact J80
     ·have hD':(m:Int)≤D:=by omega
      go_wp2_with fail
      go_loopw [34] (fun s wq=>∃ i:Nat,i≤m∧s=.int .i64 i∧Hid (h_V n x i)∧Below wr.heap.size wr wq) (fun s _=>m - (intOf s).toNat)
      case atStart=>exact ⟨0,by omega,rfl,by intro j hj;omega,Below.refl _ _⟩
      case round =>
       obtain ⟨i,hi,rfl,hri,hbi⟩:=hrel;have c0'':=a_t hbi c0';have HBI:=Lib.hid hbi
       by_cases hlt2:i < m
       ·obtain ⟨pb,po,rfl,R⟩:=hp.2.resolve_left (by omega);have g:=R i (by rw [HMM.out];exact hlt2);have g1:=a_t hbi g.1;have g2:=a_t hbi g.2;obtain ⟨y,hy⟩:=mn (x.getD i (0,0));rw [hy] at g1 g2;obtain ⟨y1,y2⟩:=y;have HY:=Lib.hid hy;dsimp only at g1 g2;have j1:(0:Int)≤i:=by omega
        have j2:(i:Int) < m:=by omega
        have d0:=b_b (Obj.cells #[.int .i64 y1,.int .i64 y2] 59) c0'';have hszi:=hbi.size;clear g hy hbi
        by_cases hin:0≤y1∧y1 < n
        ·obtain ⟨h1,h2⟩:=hin;have HF:=Lib.hid (h_m hri.out (by rw [HY.out];simp [inP];omega))
         go_wp2_with fail
         go_roundw
         case rel=>exact ⟨i+1,by omega,by go_num,HF.out,HBI.out.alloc hszi _⟩
         case measure=>simp [intOf];omega
        ·have HF:=Lib.hid (g_O (ws:=ws) (ts:=ts) (D:=D) (bs:=bs) (k:=k) (by rw [Hl.out];exact hlt) (by rw [HX.out,Hn.out];exact q_r (k:=i) (by rw [HMM.out];exact hlt2) (by rw [HY.out];simp [inP];omega)))
         by_cases h1:0≤y1
         ·have h2:(n:Int)≤y1:=by omega
          exact J106
         ·exact J106
       ·obtain rfl:i=m:=by omega
        have HF:=Lib.hid (g_3 hr.out (by rw [HX.out,Hn.out];exact n_1 (by rw [HMM.out];exact hD') (by rw [HMM.out];exact hri.out)));clear hbi
        go_wp2_with fail
        go_roundw
        case rel=>exact ⟨k+1,by omega,by go_num,HF.out,HB.out.trans (HBI.out.mono HB.out.size)⟩
        case measure=>simp [intOf];omega
    ·obtain rfl:k=l:=by omega
     have HF:=Lib.hid (j_J HM.out HS.out (by rw [Hl.out];exact hr.out));clear hb;exact J80
end Go.Proofs.YtolabfafgbmdbaaGreatDoor
