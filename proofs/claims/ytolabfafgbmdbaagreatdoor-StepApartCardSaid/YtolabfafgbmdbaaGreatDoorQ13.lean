import Derived.Test.YtolabfafgbmdbaaGreatDoorQ12
import Derived.Test.YtolabfafgbmdbaaGreatDoorQ0
import Derived.Test.YtolabfafgbmdbaaGreatDoorQ11
import Derived.RangeFuncNested
import Derived.RangeFuncBox
import Derived.RangeFuncBound
import Derived.RangeFuncCalls
import Derived.RangeFuncLeaves
import Derived.OwnWalkIn
import Derived.TacticsInMore
import Derived.LoopNIn
import Derived.LoopIn
set_option maxRecDepth 100000
set_option maxHeartbeats 16000000
namespace Go.Proofs.YtolabfafgbmdbaaGreatDoor
open Go.ChangeShapes Go.WideShapes Go.ChangeAt Go.RowKit
theorem k_4 {ws ts:List Int} {D:Int} {bs:List (List (Int×Int))} {w wc wr:World} {p p':Option Addr} {n n' d d' m:Nat} {x y z u:Value}
  (u1:SlF (w.heap.size+2) wc p n ws) (u2:SlF (w.heap.size+2) wc p' n' ts) (hb:Below wc.heap.size wc wr) (O:j_c (w.heap.size+2) wc.heap.size m m bs wr) (hb0:Below w.heap.size w wc) :
  l_A ws ts D bs w (.returned (.agg #[.slice p n d,.slice p' n' d',.int .i64 D,.slice (some ⟨wc.heap.size,0,none⟩) m m])) ((((wr.setCell ⟨w.heap.size+1,0,none⟩ x).setCell ⟨w.heap.size+1,1,none⟩ y).setCell ⟨w.heap.size+1,2,none⟩ z).setCell ⟨w.heap.size+1,3,none⟩ u):=by
 have hz:=hb0.size;have hF:w.heap.size+2≤wc.heap.size:=O.2.1
 have hk:∀ (b o:Nat) (v:Value),(w.heap.size+2≤b∧b < wc.heap.size)→wc.cell? ⟨b,o,none⟩=some v→((((wr.setCell ⟨w.heap.size+1,0,none⟩ x).setCell ⟨w.heap.size+1,1,none⟩ y).setCell ⟨w.heap.size+1,2,none⟩ z).setCell ⟨w.heap.size+1,3,none⟩ u).cell? ⟨b,o,none⟩=some v:=by
  intro b o v hq hv;have ne:∀ j,(⟨w.heap.size+1,j,none⟩:Addr)≠⟨b,o,none⟩:=fun j e=>by have h:=congrArg Addr.block e;dsimp only at h;omega
  rw [World.cell?_setCell_other _ _ _ _ (ne _),World.cell?_setCell_other _ _ _ _ (ne _),World.cell?_setCell_other _ _ _ _ (ne _),World.cell?_setCell_other _ _ _ _ (ne _)];exact a_t hb hv
 have rw':∀ {a:Option Addr} {k:Nat} {zs:List Int},SlF (w.heap.size+2) wc a k zs→SlP (fun b=>w.heap.size+2≤b∧b < wc.heap.size) wc a k zs:=by
  intro a k zs h;refine ⟨h.1,?_⟩
  by_cases h0:k=0
  ·exact .inl h0
  ·obtain ⟨b,o,e,hf,r⟩:=h.2.resolve_left h0;exact .inr ⟨b,o,e,⟨hf,b_d (r 0 (by have:=h.1;omega))⟩,r⟩
 refine ⟨_,_,_,_,_,_,_,_,rfl,a_n (fun b hq=>⟨by omega,by omega⟩) (a_r hk (rw' u1)),a_n (fun b hq=>⟨by omega,by omega⟩) (a_r hk (rw' u2)),?_,?_⟩
 ·exact j_s (by omega) (g_M (g_M (g_M (g_M O (by simp) _) (by simp) _) (by simp) _) (by simp) _)
 ·exact ((((hb0.trans (hb.mono hz)).setCell (by simp) _).setCell (by simp) _).setCell (by simp) _).setCell (by simp) _
theorem e_o (a a' q:Option Addr) (n c n' c' l d:Nat) (ws ts:List Int) (D:Int) (bs:List (List (Int×Int))) (w:World) (S1:Sl w a n ws) (S2:Sl w a' n' ts) (S:Bl w q l bs) (hm:d_q ws ts D bs=true) :
  Calls Tryz.prog 67 #[.agg #[.slice a n c,.slice a' n' c',.int .i64 D,.slice q l d]] w (l_A ws ts D bs w):=by
 obtain ⟨m0,⟨m1,m2⟩,⟨m3,m4⟩,m5⟩:=a_T hm;obtain ⟨z0,z1,z2⟩:=c_w m0;have Hw:=Lib.hid S1.1;have Ht:=Lib.hid S2.1;have Hl:=Lib.hid S.1;have hn1:1≤n:=by rw [←Hw.out];exact z0
 have hn2:n≤160:=by rw [←Hw.out];exact z1
 have hn3:1≤n':=by rw [←Ht.out,z2];exact z0
 have hn4:n'≤160:=by rw [←Ht.out,z2];exact z1
 have hl1:1≤l:=by rw [←Hl.out];exact m1
 have hl2:l≤8:=by rw [←Hl.out];exact m2
 have H5:Hid (∀ i,i < l→(bs.getD i []).length≤8):=fun i hi=>by have:=(m5 i (by rw [Hl.out];exact hi)).1;omega
 clear m0 m1 m2 m3 m4 m5 z0 z1 z2 hm
 go_enter Tryz.func67,Tryz.ntmps67
 go_upto_region 1 with fail
 obtain ⟨W,hW⟩:=nm ((w.alloc (Obj.cells #[.slice a n c,.slice a' n' c',.int .i64 D,.slice q l d] 109)).alloc (Obj.cells #[.slice none 0 0,.slice none 0 0,.int .i64 0,.slice none 0 0] 109));have b0:=N2;have hWs:=N84;have k0:W.cell? ⟨w.heap.size,0,none⟩=some (.slice a n c):=by rw [hW];exact b_b _ (by simp)
 have k1:W.cell? ⟨w.heap.size,1,none⟩=some (.slice a' n' c'):=by rw [hW];exact b_b _ (by simp)
 have k2:W.cell? ⟨w.heap.size,2,none⟩=some (.int .i64 D):=by rw [hW];exact b_b _ (by simp)
 have k3:W.cell? ⟨w.heap.size,3,none⟩=some (.slice q l d):=by rw [hW];exact b_b _ (by simp)
 have r0:=N228;have r1:=N229;have r2:W.cell? ⟨w.heap.size+1,2,none⟩=some (.int .i64 0):=by rw [hW];simp
 have r3:W.cell? ⟨w.heap.size+1,3,none⟩=some (.slice none 0 0):=by rw [hW];simp
 have f0:∀ i,W.frozen? ⟨w.heap.size+1,i,none⟩=false:=by intro i;rw [hW];exact b_G (a_5 _ _ _ (by simp))
 rw [←hW];have ⟨HWs,HF0⟩:=hh2 hWs f0;have T1:=slB b0 S1;have T2:=slB b0 S2;have T:=blB b0 S;have HB0:=Lib.hid b0;clear hW hWs f0 b0 S1 S2 S
 go_cut [3,4] (fun s3 s4 wx=>s_j W n n' ws ts s3 s4 wx)
 case first =>
  have hB0:=N106
  go_region_held3 (fun w'=>w'.cell? ⟨w.heap.size,0,none⟩=some (.slice a n c)∧w'.cell? ⟨w.heap.size,1,none⟩=some (.slice a' n' c')∧Below W.heap.size W w')
   (first | exact ⟨k0,k1,(Below.refl _ _).drew⟩ | (exact ⟨a_t (by assumption) k0,a_t (by assumption) k1,by assumption⟩))
   ((first | (go_at_call 85;refine (h_4 a n c ws _ (slB (by assumption) T1) (by omega) (.inl (by omega))).mono ?_;rintro e wx ⟨p,d,rfl,u1,hbx⟩;rw [Hw.out] at u1 ⊢;have hbx':=a_a (by assumption) hbx) | (go_at_call 85;refine (h_4 a' n' c' ts _ (slB (by assumption) T2) (by omega) (.inl (by omega))).mono ?_;rintro e wy ⟨p',d',rfl,u2,hby⟩;rw [Ht.out] at u2 ⊢;have hby':=a_a (by assumption) hby)))
  all_goals
   go_wp2_with fail
   go_meet
   first
    | exact ⟨_,_,_,_,rfl,rfl,j_3 hby u1,f_Y (hbx'.size) u2,hby'⟩
    | exact ⟨_,_,_,_,rfl,rfl,f_Y (hby'.size) u1,j_3 hbx u2,hbx'⟩
 case rest =>
  obtain ⟨p,d1,p',d2,rfl,rfl,u1,u2,hbx⟩:=hcut;replace u1:=f_Y (F':=w.heap.size+2) (by rw [HWs.out];exact Nat.le_refl _) u1;replace u2:=f_Y (F':=w.heap.size+2) (by rw [HWs.out];exact Nat.le_refl _) u2;have hmk:=j_E l (by omega);have hsz:w.heap.size+2≤wc.heap.size:=by have:=hbx.size;rw [HWs.out] at this;exact this
  have HBX:=Lib.hid (a_a HB0.out hbx);replace k0:=a_t hbx k0;replace k1:=a_t hbx k1;replace k2:=a_t hbx k2;replace k3:=a_t hbx k3;have f0:=c_b hbx r0 (HF0.out 0);have f1:=c_b hbx r1 (HF0.out 1);have f2:=c_b hbx r2 (HF0.out 2);have f3:=c_b hbx r3 (HF0.out 3);replace r0:=a_t hbx r0;replace r1:=a_t hbx r1;replace r2:=a_t hbx r2;replace r3:=a_t hbx r3;replace T:=blB hbx T;have a3:=b_b (Obj.cells (Nb l) 55) k3;have ⟨U1,U2⟩:=hh2 u1 u2;clear hbx T1 T2 u1 u2 HWs HF0 HB0
  go_wp2_with fail
  go_loopw [27] (fun i wr=>∃ k:Nat,k≤l∧i=.int .i64 k∧Hid (j_c (w.heap.size+2) wc.heap.size k l bs wr)∧Below wc.heap.size wc wr) (fun i _=>l - (intOf i).toNat)
  case atStart=>exact ⟨0,by omega,rfl,q_o _ _ _ _ Hl.out hsz,(Below.refl _ _).alloc (Nat.le_refl _) _⟩
  case round =>
   obtain ⟨k,hk,rfl,hr,hb⟩:=hrel;have k0':=a_t hb k0;have k1':=a_t hb k1;have k2':=a_t hb k2;have k3':=a_t hb k3;have HB:=Lib.hid hb
   by_cases hlt:k < l
   ·obtain ⟨b,o,y,yc,rfl,g0,hcap,hp⟩:=h_J (blB hb T) hlt;have h8:=H5.out k hlt;obtain ⟨x,hx⟩:=mn (bs.getD k []);rw [hx] at g0 hp hcap h8;have HX:=Lib.hid hx;obtain ⟨m,hm⟩:=mn (x.length);rw [hm] at g0 hp hcap h8;have HM:=Lib.hid hm;have i1:(0:Int)≤k:=by omega
    have i2:(k:Int) < l:=by omega
    have HC:=Lib.hid hcap;clear hx hm hb hcap
    go_wp2_with (go_at_call 89;refine (h_5 y m yc x _ hp HC.out (by omega)).mono ?_;rintro e w2 ⟨y2,c2,rfl,hc2,hp2,hb2⟩;rw [HM.out] at hc2 hp2 ⊢;have O2:=r_Z hb2 hr.out;have G0:=O2.2.2.2.2.1 k (Nat.le_refl _) hlt;have G1:=O2.2.2.2.2.2 k hlt;have HO2:=Lib.hid O2;have HB2:=Lib.hid hb2;have HP2:=Lib.hid hp2;have HC2:=Lib.hid hc2;clear O2 hb2 hp2 hc2)
    have hsr:=hr.out.2.2.1
    go_roundw
    case rel =>
     refine ⟨k+1,by omega,by go_num,q_p HO2.out k hlt (Nat.le_refl _) x (p_k (F:=wr.heap.size) (fun b h1 h2=>⟨by omega,by omega⟩) HP2.out) HC2.out _ (by simp) bs Hl.out HX.out (fun _ _ _=>rfl),(a_a HB.out HB2.out).setCell (Nat.le_refl _) _⟩
    case measure=>simp [intOf];omega
   ·obtain rfl:k=l:=by omega
    have r0':=a_t hb r0;have r1':=a_t hb r1;have r2':=a_t hb r2;have r3':=a_t hb r3;have f0':=c_b hb r0 f0;have f1':=c_b hb r1 f1;have f2':=c_b hb r2 f2;have f3':=c_b hb r3 f3;clear hb r0 r1 r2 r3 f0 f1 f2 f3 k0 k1 k2 k3
    go_wp2
    have R4:=t_g (w:=wr) (g:=w.heap.size+1) (.slice p n d1) (.slice p' n' d2) (.int .i64 D) (.slice (some ⟨wc.heap.size,0,none⟩) k k) (by rw [r0'];rfl) (by rw [r1'];rfl) (by rw [r2'];rfl) (by rw [r3'];rfl);refine a_X ⟨w.heap.size+1,0,none⟩ rfl rfl rfl (l_0 _ _ _ _ _ _ R4.1 R4.2.1 R4.2.2.1 R4.2.2.2) ?_;exact k_4 U1.out U2.out HB.out hr.out HBX.out
def l_y (F g m:Nat) (v:Value) (bs:List (List (Int×Int))) (w:World) (e:Ending) (w':World):Prop:=
 e=.returned v∧j_c F g m m bs w'∧(∀ (b o:Nat) (u:Value),b≠g→w.cell? ⟨b,o,none⟩=some u→w'.cell? ⟨b,o,none⟩=some u)∧Below F w w'
theorem q_q {F g m th:Nat} {bs:List (List (Int×Int))} {w Z:World} {p:Option Addr} {k kc:Nat} {b:List (Int×Int)} (O:j_c F g m m bs w) (hth:th < m) (hp:PlQ (fun x=>F≤x∧x≠g) w p k b) (hc:d_A p k kc) (hz:g < Z.heap.size)
  (K1:∀ (b o:Nat) (u:Value),b≠g→w.cell? ⟨b,o,none⟩=some u→Z.cell? ⟨b,o,none⟩=some u) (K2:∀ i,i≠th→∀ u,w.cell? ⟨g,i,none⟩=some u→Z.cell? ⟨g,i,none⟩=some u) (K3:Z.cell? ⟨g,th,none⟩=some (.slice p k kc)) (K4:∀ i,i < m→Z.frozen? ⟨g,i,none⟩=false) :
  j_c F g m m (bs.set th b) Z:=by
 obtain ⟨h1,h2,h3,h4,h5,h6⟩:=O;refine ⟨by rw [List.length_set];exact h1,h2,hz,fun i hi=>?_,fun i hk hi=>by omega,K4⟩;have hkp:∀ (x o:Nat) (v:Value),(F≤x∧x≠g)→w.cell? ⟨x,o,none⟩=some v→Z.cell? ⟨x,o,none⟩=some v:=fun x o v hq hv=>K1 x o v hq.2 hv
 by_cases e:i=th
 ·subst e;obtain rfl:b.length=k:=hp.1;have e2:(bs.set i b).getD i []=b:=by simp [List.getD_eq_getElem?_getD,h1,hth]
  rw [e2];exact ⟨p,kc,K3,hc,g_Q hkp hp⟩
 ·have e2:(bs.set th b).getD i []=bs.getD i []:=by simp only [List.getD_eq_getElem?_getD];rw [List.getElem?_set_ne (fun h=>e h.symm)]
  rw [e2];exact d_O (K2 i e) hkp (h4 i hi)
theorem q_O (F g m:Nat) (a a':Option Addr) (n c n' c':Nat) (D:Int) (bs:List (List (Int×Int))) (th:Nat) (p:Option Addr) (k kc:Nat) (b:List (Int×Int)) (w:World) (O:j_c F g m m bs w) (hth:th < m) (hp:PlQ (fun x=>F≤x∧x≠g) w p k b) (hc:d_A p k kc) :
  Calls Tryz.prog 151 #[.agg #[.slice a n c,.slice a' n' c',.int .i64 D,.slice (some ⟨g,0,none⟩) m m],.int .i64 th,.slice p k kc] w (l_y F g m (.agg #[.slice a n c,.slice a' n' c',.int .i64 D,.slice (some ⟨g,0,none⟩) m m]) (bs.set th b) w):=by
 have i1:(0:Int)≤th:=by omega
 have i2:(th:Int) < m:=by omega
 obtain ⟨W,hW⟩:=nm ((w.alloc (Obj.cells #[.slice a n c,.slice a' n' c',.int .i64 D,.slice (some ⟨g,0,none⟩) m m] 109)).alloc (Obj.cells #[.slice none 0 0,.slice none 0 0,.int .i64 0,.slice none 0 0] 109));have hgw:g < w.heap.size:=O.2.2.1;have hFg:F≤g:=O.2.1;have b0:=N2;have O1:=r_Z b0 O;have c0:=j_r O1 hth;have c1:=O1.2.2.2.2.2 th hth;obtain ⟨X,hX⟩:=nm (W.setCell ⟨g,th,none⟩ (.slice p k kc));have ne:∀ {b o:Nat},b≠g→(⟨g,th,none⟩:Addr)≠⟨b,o,none⟩:=fun h e=>h (congrArg Addr.block e).symm
 have keepX:∀ (b o:Nat) (u:Value),b≠g→W.cell? ⟨b,o,none⟩=some u→X.cell? ⟨b,o,none⟩=some u:=by
  intro b o u hb hu;rw [hX,World.cell?_setCell_other _ _ _ _ (ne hb)];exact hu
 have k3':W.cell? ⟨w.heap.size,3,none⟩=some (.slice (some ⟨g,0,none⟩) m m):=by rw [hW];exact b_b _ (by simp)
 have k0:X.cell? ⟨w.heap.size,0,none⟩=some (.slice a n c):=keepX _ _ _ (by omega) (by rw [hW];exact b_b _ (by simp));have k1:X.cell? ⟨w.heap.size,1,none⟩=some (.slice a' n' c'):=keepX _ _ _ (by omega) (by rw [hW];exact b_b _ (by simp));have k2:X.cell? ⟨w.heap.size,2,none⟩=some (.int .i64 D):=keepX _ _ _ (by omega) (by rw [hW];exact b_b _ (by simp));have k3:X.cell? ⟨w.heap.size,3,none⟩=some (.slice (some ⟨g,0,none⟩) m m):=keepX _ _ _ (by omega) k3';have r0:X.cell? ⟨w.heap.size+1,0,none⟩=some (.slice none 0 0):=keepX _ _ _ (by omega) (by rw [hW];simp);have r1:X.cell? ⟨w.heap.size+1,1,none⟩=some (.slice none 0 0):=keepX _ _ _ (by omega) (by rw [hW];simp);have r2:X.cell? ⟨w.heap.size+1,2,none⟩=some (.int .i64 0):=keepX _ _ _ (by omega) (by rw [hW];simp);have r3:X.cell? ⟨w.heap.size+1,3,none⟩=some (.slice none 0 0):=keepX _ _ _ (by omega) (by rw [hW];simp);have ff:∀ i,X.frozen? ⟨w.heap.size+1,i,none⟩=false:=by intro i;rw [hX,World.frozen?_setCell,hW];exact b_G (a_5 _ _ _ (by simp))
 have f0:=ff 0;have f1:=ff 1;have f2:=ff 2;have f3:=ff 3;have R4:=t_g (w:=X) (g:=w.heap.size+1) (.slice a n c) (.slice a' n' c') (.int .i64 D) (.slice (some ⟨g,0,none⟩) m m) (by rw [r0];rfl) (by rw [r1];rfl) (by rw [r2];rfl) (by rw [r3];rfl)
 have HP:Hid (l_y F g m (.agg #[.slice a n c,.slice a' n' c',.int .i64 D,.slice (some ⟨g,0,none⟩) m m]) (bs.set th b) w (.returned (.agg #[.slice a n c,.slice a' n' c',.int .i64 D,.slice (some ⟨g,0,none⟩) m m])) ((((X.setCell ⟨w.heap.size+1,0,none⟩ (.slice a n c)).setCell ⟨w.heap.size+1,1,none⟩ (.slice a' n' c')).setCell ⟨w.heap.size+1,2,none⟩ (.int .i64 D)).setCell ⟨w.heap.size+1,3,none⟩ (.slice (some ⟨g,0,none⟩) m m))):=by
  have ne2:∀ (j b o:Nat),b≠w.heap.size+1→(⟨w.heap.size+1,j,none⟩:Addr)≠⟨b,o,none⟩:=fun j b o h e=>h (congrArg Addr.block e).symm
  have keepZ:∀ (b o:Nat) (u:Value),b≠g→w.cell? ⟨b,o,none⟩=some u→((((X.setCell ⟨w.heap.size+1,0,none⟩ (.slice a n c)).setCell ⟨w.heap.size+1,1,none⟩ (.slice a' n' c')).setCell ⟨w.heap.size+1,2,none⟩ (.int .i64 D)).setCell ⟨w.heap.size+1,3,none⟩ (.slice (some ⟨g,0,none⟩) m m)).cell? ⟨b,o,none⟩=some u:=by
   intro b o u hb hu;have hlt:b < w.heap.size:=b_d hu;rw [World.cell?_setCell_other _ _ _ _ (ne2 _ _ _ (by omega)),World.cell?_setCell_other _ _ _ _ (ne2 _ _ _ (by omega)),World.cell?_setCell_other _ _ _ _ (ne2 _ _ _ (by omega)),World.cell?_setCell_other _ _ _ _ (ne2 _ _ _ (by omega))];exact keepX _ _ _ hb (a_t b0 hu)
  have keepG:∀ (i:Nat) (u:Value),X.cell? ⟨g,i,none⟩=some u→((((X.setCell ⟨w.heap.size+1,0,none⟩ (.slice a n c)).setCell ⟨w.heap.size+1,1,none⟩ (.slice a' n' c')).setCell ⟨w.heap.size+1,2,none⟩ (.int .i64 D)).setCell ⟨w.heap.size+1,3,none⟩ (.slice (some ⟨g,0,none⟩) m m)).cell? ⟨g,i,none⟩=some u:=by
   intro i u hu;rw [World.cell?_setCell_other _ _ _ _ (ne2 _ _ _ (by omega)),World.cell?_setCell_other _ _ _ _ (ne2 _ _ _ (by omega)),World.cell?_setCell_other _ _ _ _ (ne2 _ _ _ (by omega)),World.cell?_setCell_other _ _ _ _ (ne2 _ _ _ (by omega))];exact hu
  have hx:Below F w X:=by rw [hX];exact (b0.mono (by omega)).setCell (by simpa using hFg) _
  have hB:Below F w ((((X.setCell ⟨w.heap.size+1,0,none⟩ (.slice a n c)).setCell ⟨w.heap.size+1,1,none⟩ (.slice a' n' c')).setCell ⟨w.heap.size+1,2,none⟩ (.int .i64 D)).setCell ⟨w.heap.size+1,3,none⟩ (.slice (some ⟨g,0,none⟩) m m)):=
   (((hx.setCell (by simp;omega) _).setCell (by simp;omega) _).setCell (by simp;omega) _).setCell (by simp;omega) _
  refine ⟨rfl,q_q O hth hp hc ?_ keepZ ?_ ?_ ?_,keepZ,hB⟩
  ·have:=hB.size;omega
  ·intro i hi u hu;refine keepG i u ?_;rw [hX,World.cell?_setCell_other]
   ·exact a_t b0 hu
   ·intro e;exact hi (congrArg Addr.off e).symm
  ·refine keepG th _ ?_;rw [hX];exact World.cell?_setCell_same' _ _ _ c0
  ·intro i hi;rw [World.frozen?_setCell,World.frozen?_setCell,World.frozen?_setCell,World.frozen?_setCell,hX,World.frozen?_setCell];exact O1.2.2.2.2.2 i hi
 have HR:=Lib.hid R4;clear ff keepX ne O1 b0 O hp hc R4;have HW:=Lib.hid hW;clear hW;obtain ⟨cv,hcv⟩:=Option.isSome_iff_exists.1 c0;clear c0;subst hX
 go_enter Tryz.func151,Tryz.ntmps151
 go_upto_region 1 with fail
 rw [←HW.out]
 go_wp2
 refine a_X ⟨w.heap.size+1,0,none⟩ rfl rfl rfl (l_0 _ _ _ _ _ _ HR.out.1 HR.out.2.1 HR.out.2.2.1 HR.out.2.2.2) ?_;exact HP.out
theorem a_W {k g:Nat} {w W:World} (hb:Below k w W) (hg:k≤g) (x y z u:Value):Below k w ((((W.setCell ⟨g,0,none⟩ x).setCell ⟨g,1,none⟩ y).setCell ⟨g,2,none⟩ z).setCell ⟨g,3,none⟩ u):=
 (((hb.setCell (p:=⟨g,0,none⟩) hg _).setCell (p:=⟨g,1,none⟩) hg _).setCell (p:=⟨g,2,none⟩) hg _).setCell (p:=⟨g,3,none⟩) hg _
def e_K (ws ts:List Int) (D:Int) (bs:List (List (Int×Int))) (x:Int) (w:World) (e:Ending) (w':World):Prop:=
 ∃ a n c a' n' c' q l d,e=.returned (.tuple #[.agg #[.slice a n c,.slice a' n' c',.int .i64 D,.slice q l d],.int .i64 x])∧SlF w.heap.size w' a n ws∧SlF w.heap.size w' a' n' ts∧BlP (fun b=>w.heap.size≤b) w' q l bs∧Below w.heap.size w w'
theorem d_p {x:Int} {w w':World} (hb:Below w.heap.size w w'):e_K [] [] 0 [] x w (.returned (.tuple #[.agg #[.slice none 0 0,.slice none 0 0,.int .i64 0,.slice none 0 0],.int .i64 x])) w':=
 ⟨_,_,_,_,_,_,_,_,_,rfl,h_x _ _,h_x _ _,g_2 _ _,hb⟩
def m_A (ws ts:List Int) (D:Int) (q:Option Addr) (l d:Nat) (w:World) (e:Ending) (w':World):Prop:=
 ∃ a n c a' n' c',e=.returned (.tuple #[.agg #[.slice a n c,.slice a' n' c',.int .i64 D,.slice q l d],.int .i64 0])∧SlF w.heap.size w' a n ws∧SlF w.heap.size w' a' n' ts∧Below w.heap.size w w'
theorem i_n (a a' q:Option Addr) (n c n' c' l d:Nat) (ws ts:List Int) (D x v:Int) (w:World) (S1:Sl w a n ws) (S2:Sl w a' n' ts) (hx:(Lit.int .i64 x).wf=true) (hu:a_I ws ts x=0) :
  Calls Tryz.prog 149 #[.agg #[.slice a n c,.slice a' n' c',.int .i64 D,.slice q l d],.agg #[.int .i64 x,.int .i64 v]] w (m_A (ws.set x.toNat v) ts D q l d w):=by
 have ⟨HE,HX⟩:=hh2 hu hx;have H1:=Lib.hid (show c_u ws ts x v=ws.set x.toNat v by rw [c_u,if_pos hu]);have H2:=Lib.hid (show c_t ws ts x=ts by rw [c_t,if_pos hu]);clear hx hu
 go_enter Tryz.func149,Tryz.ntmps149
 go_wp2_with fail
 refine (n_Q a a' n c n' c' ws ts x v _ (slA _ (slA _ (slA _ S1))) (slA _ (slA _ (slA _ S2))) HX.out).mono ?_;rintro e w1 ⟨p,m,e1,p',m',e2,rfl,u1,u2,hb⟩;rw [HE.out];rw [H1.out] at u1;rw [H2.out] at u2;have hb1:=N6;have k2:w1.cell? ⟨w.heap.size,2,none⟩=some (.int .i64 D):=a_t hb (b_b _ (b_b _ (by simp)));have k0:w1.cell? ⟨w.heap.size,0,none⟩=some (.slice a n c):=a_t hb (b_b _ (b_b _ (by simp)));have k1:w1.cell? ⟨w.heap.size,1,none⟩=some (.slice a' n' c'):=a_t hb (b_b _ (b_b _ (by simp)));have k3:w1.cell? ⟨w.heap.size,3,none⟩=some (.slice q l d):=a_t hb (b_b _ (b_b _ (by simp)));have fk:∀ i,w1.frozen? ⟨w.heap.size,i,none⟩=false:=by intro i;rw [hb.frozen (p:=⟨w.heap.size,i,none⟩) (by simp;omega)];exact b_G ((b_q _ _ _ (by simp;omega)).trans ((b_q _ _ _ (by simp)).trans (a_5 _ _ _ rfl)))
 have r0:w1.cell? ⟨w.heap.size+1+1,0,none⟩=some (.slice none 0 0):=a_t hb (a_Y _ _ _ (by simp) rfl);have r1:w1.cell? ⟨w.heap.size+1+1,1,none⟩=some (.slice none 0 0):=a_t hb (a_Y _ _ _ (by simp) rfl);have r2:w1.cell? ⟨w.heap.size+1+1,2,none⟩=some (.int .i64 0):=a_t hb (a_Y _ _ _ (by simp) rfl);have r3:w1.cell? ⟨w.heap.size+1+1,3,none⟩=some (.slice none 0 0):=a_t hb (a_Y _ _ _ (by simp) rfl);have ff:∀ i,w1.frozen? ⟨w.heap.size+1+1,i,none⟩=false:=by intro i;rw [hb.frozen (p:=⟨w.heap.size+1+1,i,none⟩) (by simp)];exact b_G (a_5 _ _ _ (by simp))
 have hs:w.heap.size+1+1 < w1.heap.size:=b_d r0;have hsz:w.heap.size+3≤w1.heap.size:=by omega
 obtain ⟨W,hW⟩:=nm (((w1.alloc (Obj.cells #[.slice p m e1,.slice p' m' e2] 26)).setCell ⟨w.heap.size,0,none⟩ (.slice p m e1)).setCell ⟨w.heap.size,1,none⟩ (.slice p' m' e2));have b2:Below w.heap.size w W:=by rw [hW];exact ((hb1.alloc hb1.size _).setCell (by simp) _).setCell (by simp) _
 have ne:∀ j i,(⟨w.heap.size,j,none⟩:Addr)≠⟨w.heap.size+1+1,i,none⟩:=fun j i e=>by have h:=congrArg Addr.block e;dsimp only at h;omega
 have keep:∀ (b o:Nat) (u:Value),b≠w.heap.size→w1.cell? ⟨b,o,none⟩=some u→W.cell? ⟨b,o,none⟩=some u:=by
  intro b o u hne hu;have ne2:∀ j,(⟨w.heap.size,j,none⟩:Addr)≠⟨b,o,none⟩:=fun j e=>hne (congrArg Addr.block e).symm
  rw [hW,World.cell?_setCell_other _ _ _ _ (ne2 _),World.cell?_setCell_other _ _ _ _ (ne2 _)];exact b_b _ hu
 have a0:=b_b (Obj.cells #[.slice p m e1,.slice p' m' e2] 26) k0;have a1:=b_b (Obj.cells #[.slice p m e1,.slice p' m' e2] 26) k1;have a2:=b_b (Obj.cells #[.slice p m e1,.slice p' m' e2] 26) k2;have a3:=b_b (Obj.cells #[.slice p m e1,.slice p' m' e2] 26) k3;have g0:=(d_K (k:=0) (Obj.cells #[.slice p m e1,.slice p' m' e2] 26) (show w.heap.size < w1.heap.size by omega)).trans (fk 0);have g1:=(d_K (k:=1) (Obj.cells #[.slice p m e1,.slice p' m' e2] 26) (show w.heap.size < w1.heap.size by omega)).trans (fk 1);have K0:W.cell? ⟨w.heap.size,0,none⟩=some (.slice p m e1):=by rw [hW];exact s_a _ _ (by rw [a0];rfl)
 have K1:W.cell? ⟨w.heap.size,1,none⟩=some (.slice p' m' e2):=by rw [hW];exact s_b _ _ (by rw [a1];rfl)
 have ne3:∀ j i,j≠i→(⟨w.heap.size,j,none⟩:Addr)≠⟨w.heap.size,i,none⟩:=fun j i h e=>h (congrArg Addr.off e)
 have K2:W.cell? ⟨w.heap.size,2,none⟩=some (.int .i64 D):=by rw [hW,World.cell?_setCell_other _ _ _ _ (ne3 _ _ (by decide)),World.cell?_setCell_other _ _ _ _ (ne3 _ _ (by decide))];exact a2
 have K3:W.cell? ⟨w.heap.size,3,none⟩=some (.slice q l d):=by rw [hW,World.cell?_setCell_other _ _ _ _ (ne3 _ _ (by decide)),World.cell?_setCell_other _ _ _ _ (ne3 _ _ (by decide))];exact a3
 have R0:=keep _ _ _ (by omega) r0;have R1:=keep _ _ _ (by omega) r1;have R2:=keep _ _ _ (by omega) r2;have R3:=keep _ _ _ (by omega) r3;have fr:∀ i,W.frozen? ⟨w.heap.size+1+1,i,none⟩=false:=by intro i;rw [hW,World.frozen?_setCell,World.frozen?_setCell];exact (d_K _ hs).trans (ff i)
 have f0:=fr 0;have f1:=fr 1;have f2:=fr 2;have f3:=fr 3;have ⟨HW,HB⟩:=hh2 hW b2;have HR:=Lib.hid (t_g (w:=W) (g:=w.heap.size+1+1) (.slice p m e1) (.slice p' m' e2) (.int .i64 D) (.slice q l d) (by rw [R0];rfl) (by rw [R1];rfl) (by rw [R2];rfl) (by rw [R3];rfl));have U1:=Lib.hid (a_r (Q:=fun b=>w.heap.size+3≤b) (fun b o u hq hu=>keep b o u (by omega) hu) (show SlP (fun b=>w.heap.size+3≤b) w1 p m (ws.set x.toNat v) from c_N (fun b hb=>by simp at hb;omega) u1));have U2:=Lib.hid (a_r (Q:=fun b=>w.heap.size+3≤b) (fun b o u hq hu=>keep b o u (by omega) hu) (show SlP (fun b=>w.heap.size+3≤b) w1 p' m' ts from c_N (fun b hb=>by simp at hb;omega) u2));clear hb hb1 hW b2 ff u1 u2 S1 S2 ne ne3 keep fr fk k0 k1 k2 k3 r0 r1 r2 r3
 go_upto_region 5 with fail
 rw [←HW.out];clear a0 a1 a2 a3 g0 g1
 go_wp2
 refine a_l ⟨w.heap.size+1+1,0,none⟩ rfl rfl rfl (a_8 _ _ _ _ _ _ HR.out.1 HR.out.2.1 HR.out.2.2.1 HR.out.2.2.2) ?_;have hk:∀ (b:Nat),w.heap.size+3≤b→b≠w.heap.size+1+1:=fun b h=>by omega
 refine ⟨_,_,_,_,_,_,rfl,?_,?_,a_W (g:=w.heap.size+1+1) HB.out (by omega) _ _ _ _⟩
 ·exact r_t (fun b hb=>by omega) (c_A _ hk _ (c_A _ hk _ (c_A _ hk _ (c_A _ hk _ U1.out))))
 ·exact r_t (fun b hb=>by omega) (c_A _ hk _ (c_A _ hk _ (c_A _ hk _ (c_A _ hk _ U2.out))))
attribute [local go_sem] Oper.semAt_some
def l_q {α:Type} (f:Nat→α) (k:Nat):List α:=(List.range k).map f
theorem j_7 {α:Type} (f:Nat→α) (k:Nat):l_q f (k+1)=l_q f k++[f k]:=by simp [l_q,List.range_succ]
theorem l_r {α:Type} (f:Nat→α) (k:Nat):(l_q f k).length=k:=by simp [l_q]
theorem m_t {α:Type} (f:Nat→α) (k j:Nat) (h:j < k):f j∈l_q f k:=by
 simp only [l_q,List.mem_map,List.mem_range];exact ⟨j,h,rfl⟩
def d_N (ps:List (Int×Int)) (j:Nat):Int×(Int×Int):=((ps.length:Int) - 1 - j,ps.getD (ps.length - 1 - j) (0,0))
def KpB (n₀ Bs:Nat) (W W':World):Prop:=Below n₀ W W'∧∀ v,W.cell? ⟨Bs,0,none⟩=some v→W'.cell? ⟨Bs,0,none⟩=some v
theorem l_Y (n₀ Bs:Nat) (W:World):KpB n₀ Bs W W:=⟨Below.refl _ _,fun _ h=>h⟩
theorem t_0 {n₀ Bs:Nat} {A B C:World} (h:KpB n₀ Bs A B) (k:KpB n₀ Bs B C):KpB n₀ Bs A C:=⟨h.1.trans k.1,fun v e=>k.2 v (h.2 v e)⟩
theorem u_v {n₀ Bs:Nat} {w:World} (hn:n₀≤w.heap.size):∀ (W:World) (l:Nat) (o o':Obj),w.heap.size≤l→W.heap[l]?=some o→o.isCells=false→o.isWalk=false→KpB n₀ Bs W (W.putObj l o'):=
 fun W l o o' hl ho hc hw=>⟨belowK_b hn W l o o' hl ho hc hw,fun v e=>cell_kept e (grownBy_putObj' W l o') (fun r h=>by cases h;exact ⟨o,ho,hc⟩)⟩
def r_0 (x:Int×(Int×Int)):Array Value:=#[.int .i64 x.1,.agg #[.int .i64 x.2.1,.int .i64 x.2.2]]
theorem q_l (F:Fence) (n:Nat) (h8:F.fn 168) (hro:F.round=none) (hn:1≤n) (l Bs n₀ b off len cap:Nat) (ps:List (Int×Int)) (hreach:len≤9223372036854775807) (hps:ps.length=len) (hb:b < n₀) (J Jx:List (Int×(Int×Int))→World→Prop)
  (hY:∀ pre x W,J pre W→pre.length < len→YieldAt F (n - 1) Tryz.prog l #[.int .i64 x.1,.agg #[.int .i64 x.2.1,.int .i64 x.2.2]] W fun e W' =>
   (e=.returned (.bool true)∧J (pre++[x]) W'∧KpB n₀ Bs W W')∨(e=.returned (.bool false)∧Jx (pre++[x]) W'))
  (W:World) (hBs:W.cell? ⟨Bs,0,none⟩=some (.slice (some ⟨b,off,none⟩) len cap)) (hc:p_8 W b off ps) (h0:J [] W) :
  CallsIn F n Tryz.prog 168 #[.func (.yield l) #[] #[],.pointer (some ⟨Bs,0,none⟩)] W fun e W'=>(∃ v,e=.returned v) ∧
   ((∃ ys,ys=l_q (d_N ps) len∧J ys W')∨(∃ pre,(∃ k,k≤len∧pre=l_q (d_N ps) k)∧Jx pre W')):=by
 have Hps:=Lib.hid hps;clear hps;refine callsIn_of_wp Tryz.func168 rfl h8 ?_ hro;simp only [Tryz.ntmps168,List.size_toArray,List.length_cons,List.length_nil,Nat.reduceAdd,Nat.reduceSub,Array.replicate_succ,Array.replicate_zero,List.push_toArray,List.append_toArray,List.nil_append,List.cons_append]
 gi_wp2
 gi_loopw [3] (fun i wr=>∃ (m:Nat) (z:Int),m≤len∧z=m - 1∧i=.int .i64 z∧J (l_q (d_N ps) (len - m)) wr∧Hid (KpB n₀ Bs W wr))
  (fun i _=>(intOf i+1).toNat)
 case atStart=>exact ⟨len,(len:Int) - 1,Nat.le_refl _,rfl,rfl,by rw [Nat.sub_self];exact h0,l_Y _ _ _⟩
 case round =>
  obtain ⟨m,z,hm,hz,rfl,hJs,hnx⟩:=hrel;have hBs':=hnx.out.2 _ hBs
  cases m with
  | succ k =>
   obtain rfl:z=(k:Int):=by omega
   have hx:=hc k (by rw [Hps.out];omega);have hx1:=(hnx.out.1.cell (p:=⟨b,off+k*2,none⟩) hb).trans hx.1;have hx2:=(hnx.out.1.cell (p:=⟨b,off+k*2+1,none⟩) hb).trans hx.2
   have HF:=Lib.hid (show d_N ps (len - (k+1))=((k:Int),ps.getD k (0,0)) by
    simp only [d_N,Hps.out];rw [show len - 1 - (len - (k+1))=k by omega,show (len:Int) - 1 - ((len - (k+1):Nat):Int)=k by omega])
   have HS:=Lib.hid (j_7 (d_N ps) (len - (k+1)));have HK:=Lib.hid (show len - (k+1)+1=len - k by omega);obtain ⟨fn,tmps,assign,body,hy,hR⟩:=hY _ ((k:Int),ps.getD k (0,0)) wr hJs (by rw [l_r];omega);dsimp only at hy hR
   generalize ps.getD k (0,0)=q at *
   obtain ⟨q1,q2⟩:=q;dsimp only at hy hR hx1 hx2;have hk0:(0:Int)≤(k:Int):=by omega
   have hkl:(k:Int) < len:=by omega
   clear hx hz
   gi_wp2
   refine hR.mono ?_;rintro e W3 (⟨rfl,hJ3,hk3⟩ | ⟨rfl,hJx3⟩)
   ·gi_wp2
    go_roundw
    case rel=>exact ⟨k,(k:Int) - 1,by omega,rfl,rfl,by rw [←HK.out,HS.out,HF.out];exact hJ3,t_0 hnx.out hk3⟩
    case measure=>simp [intOf]
   ·gi_wp2
    refine bodyPost_ret (results_none rfl _ _ _) rfl ?_;exact ⟨⟨_,rfl⟩,.inr ⟨_,⟨len - k,by omega,by rw [←HK.out,HS.out,HF.out]⟩,hJx3⟩⟩
  | zero =>
   obtain rfl:z=-1:=by omega
   clear hz
   gi_wp2
   go_end0
   exact ⟨⟨_,rfl⟩,.inl ⟨_,rfl,hJs⟩⟩
theorem j_p (F:Fence) (n:Nat) (h8:F.fn 168) (hro:F.round=none) (l Bs:Nat) (a:Option Addr) (cap:Nat) (J:List (Int×(Int×Int))→World→Prop) (W:World) (hBs:W.cell? ⟨Bs,0,none⟩=some (.slice a 0 cap)) (h0:J [] W) :
  CallsIn F n Tryz.prog 168 #[.func (.yield l) #[] #[],.pointer (some ⟨Bs,0,none⟩)] W fun e W'=>(∃ v,e=.returned v)∧J [] W':=by
 refine callsIn_of_wp Tryz.func168 rfl h8 ?_ hro;simp only [Tryz.ntmps168,List.size_toArray,List.length_cons,List.length_nil,Nat.reduceAdd,Nat.reduceSub,Array.replicate_succ,Array.replicate_zero,List.push_toArray,List.append_toArray,List.nil_append,List.cons_append]
 gi_wp2
 gi_loopw [3] (fun i wr=>i=.int .i64 (-1)∧J [] wr) (fun _ _=>0)
 case atStart=>exact ⟨rfl,h0⟩
 case round =>
  obtain ⟨rfl,hJs⟩:=hrel
  gi_wp2
  go_end0
  exact ⟨⟨_,rfl⟩,hJs⟩
theorem s_u (F:Fence) (n:Nat) (h6:F.fn 162) (hro:F.round=none) (a:Option Addr) (len cap:Nat) (w:World) :
  CallsIn F n Tryz.prog 162 #[.slice a len cap] w fun e w'=>e=.returned (.func (.func 168) #[] #[.pointer (some ⟨w.heap.size,0,none⟩)])∧w'=w.alloc (.cells #[.slice a len cap] 55):=by
 refine callsIn_of_wp Tryz.func162 rfl h6 ?_ hro;simp only [Tryz.ntmps162,List.size_toArray,List.length_cons,List.length_nil,Nat.reduceAdd,Nat.reduceSub,Array.replicate_succ,Array.replicate_zero,List.push_toArray,List.append_toArray,List.nil_append,List.cons_append]
 gi_wp2
 go_ret
 exact ⟨rfl,rfl⟩
theorem m_C (F:Fence) (n:Nat) (h8:F.fn 168) (hro:F.round=none) (hn:1≤n) (Bs n₀ len cap:Nat) (a:Option Addr) (ps:List (Int×Int)) (hreach:len≤9223372036854775807) (w:World)
  (hc:w.cell? ⟨Bs,0,none⟩=some (.slice a len cap)) (hI:Pl w a len ps) (hbl:∀ p,a=some p→0 < len→p.block < n₀) :
  SeqStopsK F n Tryz.prog 168 #[.pointer (some ⟨Bs,0,none⟩)] r_0 (KpB n₀ Bs) (fun ys=>ys=l_q (d_N ps) len)
   (fun pre=>∃ k,k≤len∧pre=l_q (d_N ps) k) len w:=fun l J Jx W hW _ _ hY h0=>by
 have hc':=(hW.cell (p:=⟨Bs,0,none⟩) (b_d hc)).trans hc
 by_cases hz:len=0
 ·subst hz;exact (j_p F n h8 hro l Bs a cap J W hc' h0).mono fun e W' ⟨he,hj⟩=>⟨he,.inl ⟨_,rfl,hj⟩⟩
 ·obtain ⟨b,o,rfl,R⟩:=hI.2.resolve_left hz;exact q_l F n h8 hro hn l Bs n₀ b o len cap ps hreach hI.1 (hbl _ rfl (by omega)) J Jx hY W hc' (fun i hi=>⟨(hW.cell (p:=⟨b,_,none⟩) (b_d (R i hi).1)).trans (R i hi).1,(hW.cell (p:=⟨b,_,none⟩) (b_d (R i hi).2)).trans (R i hi).2⟩) h0
end Go.Proofs.YtolabfafgbmdbaaGreatDoor
