import Derived.Test.YtolabfafgbmdbaaGreatDoorR13
import Derived.Test.YtolabfafgbmdbaaGreatDoorR0
import Derived.Deep.RegionLaw
import Derived.Deep.RegionLawGrows
import Derived.Maps.AppendAt
import Derived.Test.YtolabfafgbmdbaaGreatDoorR10
set_option maxRecDepth 100000
set_option maxHeartbeats 16000000
namespace Go.Proofs.YtolabfafgbmdbaaGreatDoor
open Go.ChangeShapes Go.WideShapes Go.ChangeAt Go.RowKit
theorem e_7 {A B:List Int} {z E:Int} {C:List (List (Int×Int))} (he:E≠0) {w w':World} (hb:Below w.heap.size w w'):d_v (okL E A) (okL E B) (okZ E z) (okL E C) E w (.returned (.tuple #[.agg #[.slice none 0 0,.slice none 0 0,.int .i64 0,.slice none 0 0],.int .i64 E])) w':=by
 rw [e_0 he,e_0 he,i_6 he,e_0 he];exact c_i hb
theorem f_4 {A B:List Int} {z E:Int} {C:List (List (Int×Int))} (he:E=0) {w w':World} {e:Ending} (h:d_v A B z C 0 w e w'):d_v (okL E A) (okL E B) (okZ E z) (okL E C) E w e w':=by
 rw [i_5 he,i_5 he,p_v he,i_5 he,he];exact h
def e_L (w:World) (g:Nat) (x y z u:Value):Prop:=(w.cell? ⟨g,0,none⟩=some x∧w.cell? ⟨g,1,none⟩=some y∧w.cell? ⟨g,2,none⟩=some z∧w.cell? ⟨g,3,none⟩=some u)∧w.frozen? ⟨g,0,none⟩=false∧w.frozen? ⟨g,1,none⟩=false∧w.frozen? ⟨g,2,none⟩=false∧w.frozen? ⟨g,3,none⟩=false
theorem c_v {w:World} {x y z u:Value} {t:TypeId} (g:Nat) (hg:g=w.heap.size):e_L (w.alloc (.cells #[x,y,z,u] t)) g x y z u:=
 ⟨⟨a_S _ _ _ hg rfl,a_S _ _ _ hg rfl,a_S _ _ _ hg rfl,a_S _ _ _ hg rfl⟩,b_B _ _ hg,b_B _ _ hg,b_B _ _ hg,b_B _ _ hg⟩
theorem b_F {w w':World} {g:Nat} {x y z u:Value} (hb:Below w.heap.size w w') (h:e_L w g x y z u):e_L w' g x y z u:=by
 obtain ⟨⟨a,b,c,d⟩,e,f,i,j⟩:=h;exact ⟨⟨a_n hb a,a_n hb b,a_n hb c,a_n hb d⟩,b_S hb a e,b_S hb b f,b_S hb c i,b_S hb d j⟩
theorem i_j {w:World} {g:Nat} {x y z u:Value} (o:Obj) (h:e_L w g x y z u):e_L (w.alloc o) g x y z u:=b_F ((Below.refl _ _).alloc (Nat.le_refl _) _) h
theorem b_Z {w:World} {g:Nat} {x y z u:Value} (h:e_L w g x y z u) (x' y' z' u':Value):e_L ((((w.setCell ⟨g,0,none⟩ x').setCell ⟨g,1,none⟩ y').setCell ⟨g,2,none⟩ z').setCell ⟨g,3,none⟩ u') g x' y' z' u':=by
 obtain ⟨⟨a,b,c,d⟩,e,f,i,j⟩:=h;refine ⟨p_F x' y' z' u' (by rw [a];rfl) (by rw [b];rfl) (by rw [c];rfl) (by rw [d];rfl),?_,?_,?_,?_⟩ <;> (simp only [World.frozen?_setCell];assumption)
theorem d_Q {W wy:World} {g b o:Nat} {v x y z u:Value} (hb:Below W.heap.size W wy) (hne:b≠g) (h:W.cell? ⟨b,o,none⟩=some v):((((wy.setCell ⟨g,0,none⟩ x).setCell ⟨g,1,none⟩ y).setCell ⟨g,2,none⟩ z).setCell ⟨g,3,none⟩ u).cell? ⟨b,o,none⟩=some v:=by
 have ne:=N86;rw [World.cell?_setCell_other _ _ _ _ (ne _),World.cell?_setCell_other _ _ _ _ (ne _),World.cell?_setCell_other _ _ _ _ (ne _),World.cell?_setCell_other _ _ _ _ (ne _)];exact a_n hb h
theorem h_k {F:Nat} {w w':World} {g:Nat} {x y z u:Value} (hb:Below F w w') (hg:g < F) (h:e_L w g x y z u):e_L w' g x y z u:=by
 obtain ⟨⟨a,b,c,d⟩,e,f,i,j⟩:=h;exact ⟨⟨(hb.cell (p:=⟨g,0,none⟩) hg).trans a,(hb.cell (p:=⟨g,1,none⟩) hg).trans b,(hb.cell (p:=⟨g,2,none⟩) hg).trans c,(hb.cell (p:=⟨g,3,none⟩) hg).trans d⟩,(hb.frozen (p:=⟨g,0,none⟩) hg).trans e,(hb.frozen (p:=⟨g,1,none⟩) hg).trans f,(hb.frozen (p:=⟨g,2,none⟩) hg).trans i,(hb.frozen (p:=⟨g,3,none⟩) hg).trans j⟩
theorem c_M {w:World} {g:Nat} {x y z u:Value} (h:e_L w g x y z u):g < w.heap.size:=a_0 h.1.1
theorem i_h (a a' q:Option Addr) (n c n' c' l d:Nat) (ws ts:List Int) (D:Int) (bs:List (List (Int×Int))) (th x v:Int) (w:World) (S1:Sl w a n ws) (S2:Sl w a' n' ts) (S:Bl w q l bs) (hx:(Lit.int .i64 x).wf=true) :
  Calls Tryz.prog 122 #[.agg #[.slice a n c,.slice a' n' c',.int .i64 D,.slice q l d],.int .i64 th,.int .i64 x,.int .i64 v] w (d_v (okL (b_2 ws ts D bs th x) (c_K ws D x v)) (okL (b_2 ws ts D bs th x) ts) (okZ (b_2 ws ts D bs th x) D) (okL (b_2 ws ts D bs th x) (c_J D bs th x v)) (b_2 ws ts D bs th x) w):=by
 have HX:=Lib.hid hx;have Hl:=Lib.hid S.1;clear hx
 cases hh:o_E ws ts D bs th with
 | false =>
  have he:b_2 ws ts D bs th x=1:=by rw [b_2,if_neg (by rw [hh];decide)]
  rw [he];have HH:=Lib.hid (show (c_P ws ts D bs&&thB bs th)=false from hh);clear hh he
  go_enter Tryz.func122,Tryz.ntmps122
  go_wp2_with fail
  refine (d_a a a' q n c n' c' l d ws ts D th bs _ (slA _ (slA _ (slA _ S1))) (slA _ (slA _ (slA _ S2))) (blA _ (blA _ (blA _ S)))).mono ?_;rintro e w1 ⟨rfl,hb⟩;rw [HH.out];have R:=b_F hb (i_j _ (c_v (w:=w.alloc _) (w.heap.size+1) (by simp)));have HR:=N19;obtain ⟨⟨r0,r1,r2,r3⟩,f0,f1,f2,f3⟩:=R;have HB:=N50;clear hb
  go_wp2
  refine a_j ⟨w.heap.size+1,0,none⟩ rfl rfl rfl (b_b _ _ _ _ _ _ HR.out.1.1 HR.out.1.2.1 HR.out.1.2.2.1 HR.out.1.2.2.2) ?_;exact e_7 (by decide) (a_Y (g:=w.heap.size+1) HB.out (by omega) _ _ _ _)
 | true =>
  obtain ⟨hm,h0,h1⟩:=e_U hh;obtain ⟨j,rfl⟩:=N99;have hjl:j < l:=by rw [←Hl.out];omega
  have i1:(0:Int)≤j:=by omega
  have i2:(j:Int) < l:=by omega
  have HH:=Lib.hid (show (c_P ws ts D bs&&thB bs j)=true from hh);have HE:=Lib.hid (show b_2 ws ts D bs j x=if a_L ws ts x=0 then (if D=0 then 0 else if ((bs.getD j []).length:Int)=D then 7 else 0) else a_L ws ts x by rw [b_2,if_pos hh,e_l,Int.toNat_natCast]);have hD0:0≤D:=(b_h hm).2.2.1.1;have hD8:D≤8:=(b_h hm).2.2.1.2;have hlD:((bs.getD j []).length:Int)≤D:=((b_h hm).2.2.2 j (by omega)).1;have HM:=Lib.hid hm;clear hh hm h0 h1
  go_enter Tryz.func122,Tryz.ntmps122
  go_wp2_with fail
  refine (d_a a a' q n c n' c' l d ws ts D j bs _ (slA _ (slA _ (slA _ S1))) (slA _ (slA _ (slA _ S2))) (blA _ (blA _ (blA _ S)))).mono ?_;rintro e w1 ⟨rfl,hb⟩;rw [HH.out];have hb1:=N4;have R:=b_F hb (i_j _ (c_v (w:=w.alloc _) (w.heap.size+1) (by simp)));have X:=b_F hb (c_v (w:=(w.alloc _).alloc _) (w.heap.size+1+1) (by simp));have T1:=slB hb1 S1;have T2:=slB hb1 S2;have T:=blB hb1 S;have HB:=Lib.hid hb1;obtain ⟨⟨k0,k1,k2,k3⟩,-⟩:=id X;clear hb hb1 S1 S2 S HH
  go_wp2_with fail
  refine (f_n a a' n c n' c' ws ts x _ T1 T2 HX.out).mono ?_;rintro e w2 ⟨rfl,hb⟩;obtain ⟨ev,hev⟩:=mn (a_L ws ts x);obtain ⟨lv,hlv⟩:=mn (b_T ws ts x);have HEV:=Lib.hid hev;rw [hev,hlv];have HB2:=Lib.hid (a_b HB.out hb);replace R:=b_F hb R
  by_cases he:ev=0
  ·subst he;replace X:=b_F hb X;replace T1:=slB hb T1;replace T2:=slB hb T2;replace T:=blB hb T;have hgw2:=c_M R;have hgx2:=c_M X;obtain ⟨W,hW⟩:=nm (w2.alloc (Obj.cells #[.int .i64 x,.int .i64 v] 59));have b2:Below w2.heap.size w2 W:=by rw [hW];exact (Below.refl _ _).alloc (Nat.le_refl _) _
   replace R:=b_F b2 R;replace X:=b_F b2 X;replace T1:=slB b2 T1;replace T2:=slB b2 T2;replace T:=blB b2 T;have p0:W.cell? ⟨w2.heap.size,0,none⟩=some (.int .i64 x):=by rw [hW];exact a_S _ _ _ rfl rfl
   have p1:W.cell? ⟨w2.heap.size,1,none⟩=some (.int .i64 v):=by rw [hW];exact a_S _ _ _ rfl rfl
   have hgw:=c_M R;have hgx:=c_M X;have hw2:w.heap.size+1 < w2.heap.size∧w.heap.size+1+1 < w2.heap.size:=⟨hgw2,hgx2⟩;have HW:=Lib.hid hW;have HB3:=Lib.hid (a_b HB2.out b2);have HB3s:=Lib.hid HB3.out.size;have HR:=Lib.hid R;clear hb hlv hev b2 k0 k1 k2 k3 R hW HB HB2;obtain ⟨⟨k0,k1,k2,k3⟩,-⟩:=X
   go_upto_region 8 with fail
   rw [←HW.out]
   by_cases hd:D=0
   ·subst hd;have HES:=Lib.hid (show b_2 ws ts 0 bs j x=0 by rw [HE.out,HEV.out,if_pos rfl,if_pos rfl])
    go_wp2_with fail
    have hB0:=N76;have HE0:=Lib.hid HEV.out
    go_region_held3 (fun w'=>(w'.cell? ⟨w.heap.size+1+1,0,none⟩=some (.slice a n c)∧w'.cell? ⟨w.heap.size+1+1,1,none⟩=some (.slice a' n' c')∧w'.cell? ⟨w.heap.size+1+1,2,none⟩=some (.int .i64 0)∧w'.cell? ⟨w.heap.size+1+1,3,none⟩=some (.slice q l d))∧w'.cell? ⟨w2.heap.size,0,none⟩=some (.int .i64 x)∧w'.cell? ⟨w2.heap.size,1,none⟩=some (.int .i64 v))
     (first | exact ⟨⟨k0,k1,k2,k3⟩,p0,p1⟩ | (exact ⟨⟨a_n (by assumption) k0,a_n (by assumption) k1,a_n (by assumption) k2,a_n (by assumption) k3⟩,a_n (by assumption) p0,a_n (by assumption) p1⟩) | (exact ⟨⟨d_Q (by assumption) (by omega) k0,d_Q (by assumption) (by omega) k1,d_Q (by assumption) (by omega) k2,d_Q (by assumption) (by omega) k3⟩,d_Q (by assumption) (by omega) p0,d_Q (by assumption) (by omega) p1⟩))
     ((first | (go_at_call 67;refine (d_f a a' q n c n' c' l d ws ts 0 bs _ (slB (by assumption) T1) (slB (by assumption) T2) (blB (by assumption) T) HM.out).mono ?_;rintro e wx ⟨p,m,d1,p',m',d2,y,l2,rfl,u1,u2,O,hbx⟩;have hbx':=a_b (by assumption) hbx) | (go_at_call 149;refine (g_K p p' (some ⟨y,0,none⟩) m d1 m' d2 l2 l2 ws ts 0 x v _ u1.sl u2.sl HX.out HEV.out).mono ?_;rintro e wy ⟨p3,m3,d3,p4,m4,d4,rfl,u3,u4,hby⟩;have hby':=a_b (by assumption) hby;obtain ⟨⟨r0,r1,r2,r3⟩,f0,f1,f2,f3⟩:=b_F hby' HR.out)))
    have H4:=Lib.hid (b_Z (b_F hby' HR.out) (.slice p3 m3 d3) (.slice p4 m4 d4) (.int .i64 0) (.slice (some ⟨y,0,none⟩) l2 l2));have HZ:=Lib.hid (f_4 HES.out (e_6 (F:=W.heap.size) (g:=w.heap.size+1) (ws:=c_K ws 0 x v) (ts:=ts) (D:=0) (bs:=c_J 0 bs j x v) (x:=0) (y0:=.slice p3 m3 d3) (y1:=.slice p4 m4 d4) (y2:=.int .i64 0) (y3:=.slice (some ⟨y,0,none⟩) l2 l2) (d:=d3) (d':=d4) (e:=l2) hgw (by omega) (Q:=fun b=>wx.heap.size≤b) (fun b h=>Nat.le_trans hbx'.size h) (c_o (fun _ h=>h) u3) (c_o (fun _ h=>h) u4) (q_F hby (g_W O)) (a_b HB3.out hby')));clear u1 u2 u3 u4 O hbx hby hbx' hby' hB0 p0 p1 k0 k1 k2 k3 T1 T2 T;exact J84
   ·have q1:(D==0)=false:=by simpa using hd
    have HDN:=Lib.hid hd;obtain ⟨b,o,y,yc,rfl,g0,hcap,hp⟩:=h_C T hjl;obtain ⟨ps,hps⟩:=mn (bs.getD j []);rw [hps] at g0 hp hcap hlD;have HPS:=Lib.hid hps;obtain ⟨m,hm⟩:=mn (ps.length);rw [hm] at g0 hp hcap hlD;have ⟨HPL,HCAP⟩:=hh2 hm hcap;have hm8:m≤8:=by omega
    have HPE:=Lib.hid (show c_7 m D=if (m:Int)=D then 7 else 0 by rw [c_7,if_neg (by omega)]);clear hps hm hcap hd
    go_wp2_with fail
    have hB0:=N76
    go_region_held3 (fun w'=>(w'.cell? ⟨w.heap.size+1+1,2,none⟩=some (.int .i64 D)∧w'.cell? ⟨w.heap.size+1+1,3,none⟩=some (.slice (some ⟨b,o,none⟩) l d))∧w'.cell? ⟨b,o+j,none⟩=some (.slice y m yc)∧w'.cell? ⟨w2.heap.size,0,none⟩=some (.int .i64 x)∧w'.cell? ⟨w2.heap.size,1,none⟩=some (.int .i64 v))
     (first | exact ⟨⟨k2,k3⟩,g0,p0,p1⟩ | (exact ⟨⟨a_n (by assumption) k2,a_n (by assumption) k3⟩,a_n (by assumption) g0,a_n (by assumption) p0,a_n (by assumption) p1⟩))
     ((go_at_call 150;refine (n_g y m yc ps D x v _ (plB (by assumption) hp) HCAP.out).mono ?_;rintro e wx ⟨r,rc,rfl,hrc,u0,hbx⟩;have hbx':=a_b (by assumption) hbx))
    have hsz:W.heap.size≤wx.heap.size:=hbx'.size;replace T1:=slB hbx' T1;replace T2:=slB hbx' T2;replace T:=blB hbx' T;replace k0:=a_n hbx' k0;replace k1:=a_n hbx' k1;replace k2:=a_n hbx' k2;replace k3:=a_n hbx' k3;have R:=b_F hbx' HR.out;have HBX:=Lib.hid (a_b HB3.out hbx')
    by_cases hf:(m:Int)=D
    ·have HES:=Lib.hid (show b_2 ws ts D bs j x=7 by rw [HE.out,HEV.out,if_pos rfl,if_neg HDN.out,HPS.out,HPL.out,if_pos hf]);have HP7:=Lib.hid (show c_7 m D=7 by rw [HPE.out,if_pos hf]);rw [HP7.out];have HZ:=N19;obtain ⟨⟨r0,r1,r2,r3⟩,f0,f1,f2,f3⟩:=R;clear hf u0 hbx hbx' hB0 k0 k1 k2 k3 T1 T2 T hp g0 p0 p1 hrc HPE
     go_wp2
     refine a_j ⟨w.heap.size+1,0,none⟩ rfl rfl rfl (b_b _ _ _ _ _ _ HZ.out.1.1 HZ.out.1.2.1 HZ.out.1.2.2.1 HZ.out.1.2.2.2) ?_;rw [HES.out];exact e_7 (by decide) (a_Y (g:=w.heap.size+1) HBX.out (by omega) _ _ _ _)
    ·have HES:=Lib.hid (show b_2 ws ts D bs j x=0 by rw [HE.out,HEV.out,if_pos rfl,if_neg HDN.out,HPS.out,HPL.out,if_neg hf]);have HP0:=Lib.hid (show c_7 m D=0 by rw [HPE.out,if_neg hf]);have hL:d_F ps D (x,v)=ps++[(x,v)]:=by rw [d_F,HPL.out,HP0.out,if_pos rfl]
     rw [HP0.out];rw [hL] at u0 hrc ⊢;have hm1:(ps++[(x,v)]).length=m+1:=by rw [List.length_append,HPL.out];rfl
     rw [hm1] at u0 hrc ⊢;have HTW:=Lib.hid (show c_K ws D x v=ws by rw [c_K,if_neg HDN.out]);have HTB:=Lib.hid (show c_J D bs j x v=bs.set j (ps++[(x,v)]) by rw [c_J,if_neg HDN.out,e_l,Int.toNat_natCast,HPS.out]);have ⟨U0,HRC,HRR⟩:=hh3 u0 hrc R;clear hf hL hm1 u0 hrc hbx hbx' hB0 g0 p0 p1 hp HPE R HR HB3
     go_wp2_with fail
     refine (d_f a a' (some ⟨b,o,none⟩) n c n' c' l d ws ts D bs _ T1 T2 T HM.out).mono ?_;rintro e wz ⟨p,m1,d1,p',m2,d2,g,l2,rfl,u1,u2,O,hbz⟩;have hgz:wx.heap.size≤g:=O.2.1;have hl2:l2=l:=by rw [←O.1,Hl.out]
     subst hl2;have O2:=h_E (F':=W.heap.size) (by omega) O;have hp0:PlQ (fun z=>W.heap.size≤z∧z≠g) wz r (m+1) (ps++[(x,v)]):=q_Z hbz (p_z (fun z h1 h2=>⟨h1,by omega⟩) U0.out);have ⟨U1,U2,HO,HP,HBZ⟩:=hh5 u1 u2 O2 hp0 hbz;clear O O2 hp0 hbz u1 u2 T1 T2 T k0 k1 k2 k3
     go_wp2_with fail
     refine (n_P W.heap.size g l2 p p' m1 d1 m2 d2 D bs j r (m+1) rc (ps++[(x,v)]) _ HO.out hjl HP.out HRC.out).mono ?_;rintro e wh ⟨rfl,O3,K3,hbh⟩;have R3:=h_k hbh (by omega) (b_F HBZ.out HRR.out);have hfd:=h_K wh (.slice p m1 d1) (.slice p' m2 d2) (.int .i64 D) (.slice (some ⟨g,0,none⟩) l2 l2);have H4:=Lib.hid (b_Z R3 (.slice p m1 d1) (.slice p' m2 d2) (.int .i64 D) (.slice (some ⟨g,0,none⟩) l2 l2));have HZ:=Lib.hid (f_4 HES.out (e_6 (F:=W.heap.size) (g:=w.heap.size+1) (ws:=c_K ws D x v) (ts:=ts) (D:=D) (bs:=c_J D bs j x v) (x:=0) (y0:=.slice p m1 d1) (y1:=.slice p' m2 d2) (y2:=.int .i64 D) (y3:=.slice (some ⟨g,0,none⟩) l2 l2) (d:=d1) (d':=d2) (e:=l2) hgw (by omega) (Q:=fun b=>wx.heap.size≤b∧b≠g) (fun b h=>Nat.le_trans hsz h.1) (by rw [HTW.out];exact a_q (fun b o u hq hu=>K3 b o u hq.2 hu) U1.out) (a_q (fun b o u hq hu=>K3 b o u hq.2 hu) U2.out) (by rw [HTB.out];exact g_W O3) ((a_b HBX.out HBZ.out).trans (hbh.mono (by have:=HB3s.out;omega)))));obtain ⟨⟨r0,r1,r2,r3⟩,f0,f1,f2,f3⟩:=R3;clear O3 K3 hbh;exact J84
  ·have q1:=N124;have HR:=N19;obtain ⟨⟨r0,r1,r2,r3⟩,f0,f1,f2,f3⟩:=R;have HEN:=Lib.hid he;have HES:=Lib.hid (show b_2 ws ts D bs j x=ev by rw [HE.out,HEV.out,if_neg he]);clear hb hlv hev he k0 k1 k2 k3 X T1 T2 T HB hlD hD0 hD8
   go_wp2
   refine a_j ⟨w.heap.size+1,0,none⟩ rfl rfl rfl (b_b _ _ _ _ _ _ HR.out.1.1 HR.out.1.2.1 HR.out.1.2.2.1 HR.out.1.2.2.2) ?_;rw [HES.out];exact e_7 HEN.out (a_Y (g:=w.heap.size+1) HB2.out (by omega) _ _ _ _)
theorem e_2 {w:World} {B:Nat} {e:TypeId} {v:Value} {n:Nat} {xs:List Value} (h:w.ownsRow B e 1 v n xs):∃ a c,v=.slice a n c:=by
 rcases h.2 with ⟨rfl,rfl⟩ | ⟨g,cap,cur,rfl,_⟩
 ·exact ⟨_,_,rfl⟩
 ·exact ⟨_,_,rfl⟩
theorem q_i {w:World} {B:Nat} {e:TypeId} {v:Value} {n:Nat} {xs:List Value} (h:w.ownsRow B e 1 v n xs) {r:Nat} (hr:v.ownBlock=some r):B≤r:=by
 rcases h.2 with ⟨rfl,_⟩ | ⟨g,cap,cur,rfl,hb,_⟩
 ·simp [Value.ownBlock] at hr
 ·simp [Value.ownBlock] at hr;omega
theorem k_B {F:Nat} {wr w0 w1 w2:World} {e:TypeId} {v:Value} {n:Nat} {xs:List Value} (h0:Below F wr w0) (hs:F≤w0.heap.size) (hg:w0.grownBy w1 v.ownBlock) (ho:w2.ownsRow F e 1 v n xs):Below F wr w1:=
 h0.grown hg hs (fun _ hr=>q_i ho hr)
theorem m_V {w:World} {g:Nat} {x y z u:Value} (h:e_L w g x y z u) (u':Value):e_L (w.setCell ⟨g,3,none⟩ u') g x y z u':=by
 obtain ⟨⟨a,b,c,d⟩,e,f,i,j⟩:=h;have ne:∀ k,k≠3→(⟨g,3,none⟩:Addr)≠⟨g,k,none⟩:=fun k hk e=>hk (congrArg Addr.off e).symm
 refine ⟨⟨?_,?_,?_,World.cell?_setCell_same' _ _ _ (by rw [d];rfl)⟩,?_,?_,?_,?_⟩
 ·rw [World.cell?_setCell_other _ _ _ _ (ne _ (by decide))];exact a
 ·rw [World.cell?_setCell_other _ _ _ _ (ne _ (by decide))];exact b
 ·rw [World.cell?_setCell_other _ _ _ _ (ne _ (by decide))];exact c
 all_goals (rw [World.frozen?_setCell];assumption)
theorem k_0 {w:World} {g g' o:Nat} {x y z u:Value} (h:e_L w g x y z u) (hne:g'≠g) (v:Value):e_L (w.setCell ⟨g',o,none⟩ v) g x y z u:=by
 obtain ⟨⟨a,b,c,d⟩,e,f,i,j⟩:=h;have ne:=N94;refine ⟨⟨?_,?_,?_,?_⟩,?_,?_,?_,?_⟩
 ·rw [World.cell?_setCell_other _ _ _ _ (ne _)];exact a
 ·rw [World.cell?_setCell_other _ _ _ _ (ne _)];exact b
 ·rw [World.cell?_setCell_other _ _ _ _ (ne _)];exact c
 ·rw [World.cell?_setCell_other _ _ _ _ (ne _)];exact d
 all_goals (rw [World.frozen?_setCell];assumption)
theorem j_x (a b:Option Addr) (n c m d:Nat) (xs ys:List Int) (w:World) (S1:Sl w a n xs) (S2:Sl w b m ys) (hn:n≤9223372036854775807) :
  Calls Tryz.prog 63 #[.slice a n c,.slice b m d] w fun e w'=>e=.returned (.bool (e_5 xs ys))∧Below w.heap.size w w':=by
 have Hx:=Lib.hid S1.1;have Hy:=Lib.hid S2.1
 by_cases hl:m=n
 ·subst hl;have q:((m:Int) != m)=false:=by simp
  go_enter Tryz.func63,Tryz.ntmps63
  go_wp2
  go_loopw [13] (fun s wr=>∃ k:Nat,k≤m∧s=.int .i64 k∧Hid (l_i xs ys k)∧Below w.heap.size w wr) (fun s _=>m - (intOf s).toNat)
  case atStart=>exact ⟨0,by omega,rfl,by intro j hj;omega,Below.refl _ _⟩
  case round =>
   obtain ⟨k,hk,rfl,hs,hb⟩:=hrel
   by_cases hlt:k < m
   ·obtain ⟨b1,o1,rfl,R1⟩:=S1.2.resolve_left (by omega);obtain ⟨b2,o2,rfl,R2⟩:=S2.2.resolve_left (by omega);have g1:=a_n hb (R1 k (by rw [Hx.out];exact hlt));have g2:=a_n hb (R2 k (by rw [Hy.out];exact hlt))
    generalize hxv:xs.getD k 0=x at g1
    generalize hyv:ys.getD k 0=y at g2
    have ⟨HX,HY,HB⟩:=hh3 hxv hyv hb;have i1:(0:Int)≤k:=by omega
    have i2:(k:Int) < m:=by omega
    clear hxv hyv hb
    by_cases e:x=y
    ·have HS:=Lib.hid (j_k hs.out HX.out HY.out e);subst e;have q2:(x != x)=false:=by simp
     exact J83
    ·have HF:=Lib.hid (o_b (xs:=xs) (ys:=ys) k (by rw [HX.out,HY.out];exact e));have q2:(x != y)=true:=by simpa using e
     clear e
     go_wp2
     go_quiet (fail)
     go_wp2
     go_ret
     exact ⟨c_k HF.out.symm,below_drewN HB.out _⟩
   ·obtain rfl:k=m:=by omega
    have HF:=Lib.hid (m_F (xs:=xs) (ys:=ys) (by rw [Hx.out,Hy.out]) (by rw [Hx.out];exact hs.out))
    go_wp2
    go_ret
    exact ⟨c_k HF.out.symm,hb⟩
 ·have HF:=Lib.hid (m_G (xs:=xs) (ys:=ys) (by rw [Hx.out,Hy.out];omega));have q:=N60;clear hl
  go_enter Tryz.func63,Tryz.ntmps63
  go_wp2
  go_ret
  exact ⟨c_k HF.out.symm,Below.refl _ _⟩
theorem n_l (a b:Option Addr) (n c m d:Nat) (a' b':Option Addr) (n' c' m' d':Nat) (xs ys xs' ys':List Int) (w:World) (S1:Sl w a n xs) (S2:Sl w b m ys) (T1:Sl w a' n' xs') (T2:Sl w b' m' ys')
  (hn:n≤9223372036854775807) (hm:m≤9223372036854775807) :
  Calls Tryz.prog 71 #[.agg #[.slice a n c,.slice b m d],.agg #[.slice a' n' c',.slice b' m' d']] w fun e w'=>e=.returned (.bool (e_5 xs xs'&&e_5 ys ys'))∧Below w.heap.size w w':=by
 go_enter Tryz.func71,Tryz.ntmps71
 go_wp2_with fail
 refine (j_x a a' n c n' c' xs xs' _ (slA _ (slA _ S1)) (slA _ (slA _ T1)) hn).mono ?_;rintro e w1 ⟨rfl,hb⟩;have hb1:=N4;obtain ⟨hc,hf⟩:=e_M hb;have k1:w1.cell? ⟨w.heap.size,1,none⟩=some (.slice b m d):=a_n hb (a_J _ (by simp));have k2:w1.cell? ⟨w.heap.size+1,1,none⟩=some (.slice b' m' d'):=a_n hb (by simp);clear hc hf hb
 cases hx:e_5 xs xs' with
 | false =>
  have HX:=Lib.hid hx;clear hx
  go_wp2_with fail
  go_ret
  exact ⟨c_k (by rw [HX.out];rfl),hb1⟩
 | true =>
  have HX:=Lib.hid hx;clear hx
  go_wp2_with fail
  refine (j_x b b' m d m' d' ys ys' _ (slB hb1 S2) (slB hb1 T2) hm).mono ?_;rintro e w2 ⟨rfl,hb2⟩;have hb3:Below w.heap.size w w2:=a_b hb1 hb2
  generalize hy:e_5 ys ys'=r
  have HY:=Lib.hid hy;clear hy hb2
  go_wp2_with fail
  go_ret
  exact ⟨c_k (by rw [HX.out,HY.out];rfl),hb3⟩
def f_z (r:Bool) (w:World) (e:Ending) (w':World):Prop:=e=.returned (.bool r)∧Below w.heap.size w w'
theorem b_H {r s:Bool} {w w':World} (h:r=s) (hb:Below w.heap.size w w'):f_z r w (.returned (.bool s)) w':=by subst h;exact ⟨rfl,hb⟩
theorem h_f (b1 o1 b2 o2 n c1 c2:Nat) (ws ts:List Int) (w:World) (hw:ws.length=n) (ht:ts.length=n) (R1:Row w b1 o1 ws) (R2:Row w b2 o2 ts) (h0:1≤n) (h160:n≤160) :
  Calls Tryz.prog 12 #[.agg #[.slice (some ⟨b1,o1,none⟩) n c1,.slice (some ⟨b2,o2,none⟩) n c2]] w (f_z (c_E ws ts) w):=by
 have ⟨Hw,Ht⟩:=hh2 hw ht;clear hw ht;have t0:=N45;have t1:=N63;have t2:((n:Int) != n)=false:=by simp
 go_enter Tryz.func12,Tryz.ntmps12
 go_wp2
 go_loop [27] (fun i=>∃ k:Nat,k≤n∧i=.int .i64 k∧Hid (d_X ws ts k)) (fun i=>n - (intOf i).toNat)
 case atStart=>exact ⟨0,by omega,rfl,by intro i hi;omega⟩
 case round =>
  obtain ⟨k,hk,rfl,hr⟩:=hrel
  by_cases hlt:k < n
  ·have g1:=a_J (Obj.cells #[.slice (some ⟨b1,o1,none⟩) n c1,.slice (some ⟨b2,o2,none⟩) n c2] 26) (R1 k (by rw [Hw.out];exact hlt));have g2:=a_J (Obj.cells #[.slice (some ⟨b1,o1,none⟩) n c1,.slice (some ⟨b2,o2,none⟩) n c2] 26) (R2 k (by rw [Ht.out];exact hlt))
   generalize htv:ts.getD k 0=tv at g2
   generalize hwv:ws.getD k 0=wv at g1
   have ⟨Htv,Hwv⟩:=hh2 htv hwv;clear htv hwv
   by_cases q1:tv < 0
   ·have H:=Lib.hid (e_Z Hw.out hlt Htv.out Hwv.out (.inl q1))
    go_wp2
    go_ret
    exact b_H H.out (by go_grown)
   ·by_cases q2:2 < tv
    ·have H:=Lib.hid (e_Z Hw.out hlt Htv.out Hwv.out (.inr (.inl q2)))
     go_wp2
     go_ret
     exact b_H H.out (by go_grown)
    ·by_cases q3:tv=0
     ·subst q3
      by_cases q4:wv=0
      ·subst q4;have H:=Lib.hid (f_J hr.out Htv.out Hwv.out (by omega))
       go_wp2
       go_round
       case rel=>exact ⟨k+1,by omega,by go_num,H.out⟩
       case measure=>simp [intOf];omega
      ·have q5:(wv != 0)=true:=by simp [q4]
       have H:=Lib.hid (e_Z Hw.out hlt Htv.out Hwv.out (.inr (.inr ⟨rfl,q4⟩)));clear q4
       go_wp2
       go_ret
       exact b_H H.out (by go_grown)
     ·have q4:(tv==0)=false:=by simp [q3]
      have H:=Lib.hid (f_J hr.out Htv.out Hwv.out (by omega));clear q3
      go_wp2
      go_round
      case rel=>exact ⟨k+1,by omega,by go_num,H.out⟩
      case measure=>simp [intOf];omega
  ·obtain rfl:k=n:=by omega
   have H:=Lib.hid (j_V Hw.out Ht.out h0 h160 hr.out)
   go_wp2
   go_ret
   exact b_H H.out (by go_grown)
theorem h_2 (a a':Option Addr) (n c n' c':Nat) (ws ts:List Int) (w:World) (hw:ws.length=n) (ht:ts.length=n') (h:¬ (1≤n∧n≤160∧n'=n)) :
  Calls Tryz.prog 12 #[.agg #[.slice a n c,.slice a' n' c']] w (f_z (c_E ws ts) w):=by
 have hm:c_E ws ts=false:=by simp [c_E,m_L,hw,ht,h]
 have Hm:=Lib.hid hm;clear hm hw ht
 by_cases h1:n < 1
 ·have t0:decide ((n:Int) < 1)=true:=by simp;omega
  exact J58
 ·by_cases h2:160 < n
  ·have t0:=N45;have t1:decide (160 < (n:Int))=true:=by simp;omega
   exact J58
  ·have t0:=N45;have t1:=N63;have t2:((n':Int) != n)=true:=by simp;omega
   exact J58
theorem c_X (a a':Option Addr) (n c n' c':Nat) (ws ts:List Int) (w:World) (S1:Sl w a n ws) (S2:Sl w a' n' ts) :
  Calls Tryz.prog 12 #[.agg #[.slice a n c,.slice a' n' c']] w fun e w'=>e=.returned (.bool (c_E ws ts))∧Below w.heap.size w w':=by
 by_cases h:1≤n∧n≤160∧n'=n
 ·obtain ⟨h0,h1,rfl⟩:=h;obtain ⟨hw,b1,o1,rfl,R1⟩:=c_I S1 h0;obtain ⟨ht,b2,o2,rfl,R2⟩:=c_I S2 h0;exact h_f b1 o1 b2 o2 n' c c' ws ts w hw ht R1 R2 h0 h1
 ·exact h_2 a a' n c n' c' ws ts w S1.1 S2.1 h
end Go.Proofs.YtolabfafgbmdbaaGreatDoor
