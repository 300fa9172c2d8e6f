import Derived.Test.YtogdpojnbgeknaaGreatDoorB6
import Derived.Test.YtogdpojnbgeknaaGreatDoorB0
import Derived.Test.YtogdpojnbgeknaaGreatDoorB5
import Derived.RangeFuncNested
import Derived.RangeFuncBox
import Derived.RangeFuncBound
import Derived.RangeFuncCalls
import Derived.RangeFuncLeaves
import Derived.OwnWalkIn
import Derived.TacticsInMore
import Derived.LoopNIn
import Derived.LoopIn
import Derived.Shelf.Abstract
set_option maxRecDepth 100000
set_option maxHeartbeats 16000000
namespace Go.Proofs.YtogdpojnbgeknaaGreatDoor
open Go.ChangeShapes Go.WideShapes Go.ChangeAt Go.RowKit
def l_B (F g m:Nat) (v:Value) (bs:List (List (Int×Int))) (w:World) (e:Ending) (w':World):Prop:=
 e=.returned v∧j_f F g m m bs w'∧(∀ (b o:Nat) (u:Value),b≠g→w.cell? ⟨b,o,none⟩=some u→w'.cell? ⟨b,o,none⟩=some u)∧Below F w w'
theorem q_s {F g m th:Nat} {bs:List (List (Int×Int))} {w Z:World} {p:Option Addr} {k kc:Nat} {b:List (Int×Int)} (O:j_f F g m m bs w) (hth:th < m) (hp:PlQ (fun x=>F≤x∧x≠g) w p k b) (hc:d_A p k kc) (hz:g < Z.heap.size)
  (K1:∀ (b o:Nat) (u:Value),b≠g→w.cell? ⟨b,o,none⟩=some u→Z.cell? ⟨b,o,none⟩=some u) (K2:∀ i,i≠th→∀ u,w.cell? ⟨g,i,none⟩=some u→Z.cell? ⟨g,i,none⟩=some u) (K3:Z.cell? ⟨g,th,none⟩=some (.slice p k kc)) (K4:∀ i,i < m→Z.frozen? ⟨g,i,none⟩=false) :
  j_f F g m m (bs.set th b) Z:=by
 obtain ⟨h1,h2,h3,h4,h5,h6⟩:=O;refine ⟨by rw [List.length_set];exact h1,h2,hz,fun i hi=>?_,fun i hk hi=>by omega,K4⟩;have hkp:∀ (x o:Nat) (v:Value),(F≤x∧x≠g)→w.cell? ⟨x,o,none⟩=some v→Z.cell? ⟨x,o,none⟩=some v:=fun x o v hq hv=>K1 x o v hq.2 hv
 by_cases e:i=th
 ·subst e;obtain rfl:b.length=k:=hp.1;have e2:(bs.set i b).getD i []=b:=by simp [List.getD_eq_getElem?_getD,h1,hth]
  rw [e2];exact ⟨p,kc,K3,hc,g_S hkp hp⟩
 ·have e2:(bs.set th b).getD i []=bs.getD i []:=by simp only [List.getD_eq_getElem?_getD];rw [List.getElem?_set_ne (fun h=>e h.symm)]
  rw [e2];exact d_P (K2 i e) hkp (h4 i hi)
theorem q_P (F g m:Nat) (a a':Option Addr) (n c n' c':Nat) (D:Int) (bs:List (List (Int×Int))) (th:Nat) (p:Option Addr) (k kc:Nat) (b:List (Int×Int)) (w:World) (O:j_f F g m m bs w) (hth:th < m) (hp:PlQ (fun x=>F≤x∧x≠g) w p k b) (hc:d_A p k kc) :
  Calls Tryz.prog 151 #[.agg #[.slice a n c,.slice a' n' c',.int .i64 D,.slice (some ⟨g,0,none⟩) m m],.int .i64 th,.slice p k kc] w (l_B F g m (.agg #[.slice a n c,.slice a' n' c',.int .i64 D,.slice (some ⟨g,0,none⟩) m m]) (bs.set th b) w):=by
 have i1:(0:Int)≤th:=by omega
 have i2:(th:Int) < m:=by omega
 obtain ⟨W,hW⟩:=nm ((w.alloc (Obj.cells #[.slice a n c,.slice a' n' c',.int .i64 D,.slice (some ⟨g,0,none⟩) m m] 109)).alloc (Obj.cells #[.slice none 0 0,.slice none 0 0,.int .i64 0,.slice none 0 0] 109));have hgw:g < w.heap.size:=O.2.2.1;have hFg:F≤g:=O.2.1;have b0:=N2;have O1:=r_1 b0 O;have c0:=j_t O1 hth;have c1:=O1.2.2.2.2.2 th hth;obtain ⟨X,hX⟩:=nm (W.setCell ⟨g,th,none⟩ (.slice p k kc));have ne:∀ {b o:Nat},b≠g→(⟨g,th,none⟩:Addr)≠⟨b,o,none⟩:=fun h e=>h (congrArg Addr.block e).symm
 have keepX:∀ (b o:Nat) (u:Value),b≠g→W.cell? ⟨b,o,none⟩=some u→X.cell? ⟨b,o,none⟩=some u:=by
  intro b o u hb hu;rw [hX,World.cell?_setCell_other _ _ _ _ (ne hb)];exact hu
 have k3':W.cell? ⟨w.heap.size,3,none⟩=some (.slice (some ⟨g,0,none⟩) m m):=by rw [hW];exact a_8 _ (by simp)
 have k0:X.cell? ⟨w.heap.size,0,none⟩=some (.slice a n c):=keepX _ _ _ (by omega) (by rw [hW];exact a_8 _ (by simp));have k1:X.cell? ⟨w.heap.size,1,none⟩=some (.slice a' n' c'):=keepX _ _ _ (by omega) (by rw [hW];exact a_8 _ (by simp));have k2:X.cell? ⟨w.heap.size,2,none⟩=some (.int .i64 D):=keepX _ _ _ (by omega) (by rw [hW];exact a_8 _ (by simp));have k3:X.cell? ⟨w.heap.size,3,none⟩=some (.slice (some ⟨g,0,none⟩) m m):=keepX _ _ _ (by omega) k3';have r0:X.cell? ⟨w.heap.size+1,0,none⟩=some (.slice none 0 0):=keepX _ _ _ (by omega) (by rw [hW];simp);have r1:X.cell? ⟨w.heap.size+1,1,none⟩=some (.slice none 0 0):=keepX _ _ _ (by omega) (by rw [hW];simp);have r2:X.cell? ⟨w.heap.size+1,2,none⟩=some (.int .i64 0):=keepX _ _ _ (by omega) (by rw [hW];simp);have r3:X.cell? ⟨w.heap.size+1,3,none⟩=some (.slice none 0 0):=keepX _ _ _ (by omega) (by rw [hW];simp);have ff:∀ i,X.frozen? ⟨w.heap.size+1,i,none⟩=false:=by intro i;rw [hX,World.frozen?_setCell,hW];exact b_F (a_4 _ _ _ (by simp))
 have f0:=ff 0;have f1:=ff 1;have f2:=ff 2;have f3:=ff 3;have R4:=t_n (w:=X) (g:=w.heap.size+1) (.slice a n c) (.slice a' n' c') (.int .i64 D) (.slice (some ⟨g,0,none⟩) m m) (by rw [r0];rfl) (by rw [r1];rfl) (by rw [r2];rfl) (by rw [r3];rfl)
 have HP:Hid (l_B F g m (.agg #[.slice a n c,.slice a' n' c',.int .i64 D,.slice (some ⟨g,0,none⟩) m m]) (bs.set th b) w (.returned (.agg #[.slice a n c,.slice a' n' c',.int .i64 D,.slice (some ⟨g,0,none⟩) m m])) ((((X.setCell ⟨w.heap.size+1,0,none⟩ (.slice a n c)).setCell ⟨w.heap.size+1,1,none⟩ (.slice a' n' c')).setCell ⟨w.heap.size+1,2,none⟩ (.int .i64 D)).setCell ⟨w.heap.size+1,3,none⟩ (.slice (some ⟨g,0,none⟩) m m))):=by
  have ne2:∀ (j b o:Nat),b≠w.heap.size+1→(⟨w.heap.size+1,j,none⟩:Addr)≠⟨b,o,none⟩:=fun j b o h e=>h (congrArg Addr.block e).symm
  have keepZ:∀ (b o:Nat) (u:Value),b≠g→w.cell? ⟨b,o,none⟩=some u→((((X.setCell ⟨w.heap.size+1,0,none⟩ (.slice a n c)).setCell ⟨w.heap.size+1,1,none⟩ (.slice a' n' c')).setCell ⟨w.heap.size+1,2,none⟩ (.int .i64 D)).setCell ⟨w.heap.size+1,3,none⟩ (.slice (some ⟨g,0,none⟩) m m)).cell? ⟨b,o,none⟩=some u:=by
   intro b o u hb hu;have hlt:b < w.heap.size:=b_d hu;rw [World.cell?_setCell_other _ _ _ _ (ne2 _ _ _ (by omega)),World.cell?_setCell_other _ _ _ _ (ne2 _ _ _ (by omega)),World.cell?_setCell_other _ _ _ _ (ne2 _ _ _ (by omega)),World.cell?_setCell_other _ _ _ _ (ne2 _ _ _ (by omega))];exact keepX _ _ _ hb (a_t b0 hu)
  have keepG:∀ (i:Nat) (u:Value),X.cell? ⟨g,i,none⟩=some u→((((X.setCell ⟨w.heap.size+1,0,none⟩ (.slice a n c)).setCell ⟨w.heap.size+1,1,none⟩ (.slice a' n' c')).setCell ⟨w.heap.size+1,2,none⟩ (.int .i64 D)).setCell ⟨w.heap.size+1,3,none⟩ (.slice (some ⟨g,0,none⟩) m m)).cell? ⟨g,i,none⟩=some u:=by
   intro i u hu;rw [World.cell?_setCell_other _ _ _ _ (ne2 _ _ _ (by omega)),World.cell?_setCell_other _ _ _ _ (ne2 _ _ _ (by omega)),World.cell?_setCell_other _ _ _ _ (ne2 _ _ _ (by omega)),World.cell?_setCell_other _ _ _ _ (ne2 _ _ _ (by omega))];exact hu
  have hx:Below F w X:=by rw [hX];exact (b0.mono (by omega)).setCell (by simpa using hFg) _
  have hB:Below F w ((((X.setCell ⟨w.heap.size+1,0,none⟩ (.slice a n c)).setCell ⟨w.heap.size+1,1,none⟩ (.slice a' n' c')).setCell ⟨w.heap.size+1,2,none⟩ (.int .i64 D)).setCell ⟨w.heap.size+1,3,none⟩ (.slice (some ⟨g,0,none⟩) m m)):=
   (((hx.setCell (by simp;omega) _).setCell (by simp;omega) _).setCell (by simp;omega) _).setCell (by simp;omega) _
  refine ⟨rfl,q_s O hth hp hc ?_ keepZ ?_ ?_ ?_,keepZ,hB⟩
  ·have:=hB.size;omega
  ·intro i hi u hu;refine keepG i u ?_;rw [hX,World.cell?_setCell_other]
   ·exact a_t b0 hu
   ·intro e;exact hi (congrArg Addr.off e).symm
  ·refine keepG th _ ?_;rw [hX];exact World.cell?_setCell_same' _ _ _ c0
  ·intro i hi;rw [World.frozen?_setCell,World.frozen?_setCell,World.frozen?_setCell,World.frozen?_setCell,hX,World.frozen?_setCell];exact O1.2.2.2.2.2 i hi
 have HR:=Lib.hid R4;clear ff keepX ne O1 b0 O hp hc R4;have HW:=Lib.hid hW;clear hW;obtain ⟨cv,hcv⟩:=Option.isSome_iff_exists.1 c0;clear c0;subst hX
 go_enter Tryz.func151,Tryz.ntmps151
 go_upto_region 1 with fail
 rw [←HW.out]
 go_wp2
 refine a_X ⟨w.heap.size+1,0,none⟩ rfl rfl rfl (l_4 _ _ _ _ _ _ HR.out.1 HR.out.2.1 HR.out.2.2.1 HR.out.2.2.2) ?_;exact HP.out
theorem a_W {k g:Nat} {w W:World} (hb:Below k w W) (hg:k≤g) (x y z u:Value):Below k w ((((W.setCell ⟨g,0,none⟩ x).setCell ⟨g,1,none⟩ y).setCell ⟨g,2,none⟩ z).setCell ⟨g,3,none⟩ u):=
 (((hb.setCell (p:=⟨g,0,none⟩) hg _).setCell (p:=⟨g,1,none⟩) hg _).setCell (p:=⟨g,2,none⟩) hg _).setCell (p:=⟨g,3,none⟩) hg _
def e_L (ws ts:List Int) (D:Int) (bs:List (List (Int×Int))) (x:Int) (w:World) (e:Ending) (w':World):Prop:=
 ∃ a n c a' n' c' q l d,e=.returned (.tuple #[.agg #[.slice a n c,.slice a' n' c',.int .i64 D,.slice q l d],.int .i64 x])∧SlF w.heap.size w' a n ws∧SlF w.heap.size w' a' n' ts∧BlP (fun b=>w.heap.size≤b) w' q l bs∧Below w.heap.size w w'
theorem d_n {x:Int} {w w':World} (hb:Below w.heap.size w w'):e_L [] [] 0 [] x w (.returned (.tuple #[.agg #[.slice none 0 0,.slice none 0 0,.int .i64 0,.slice none 0 0],.int .i64 x])) w':=
 ⟨_,_,_,_,_,_,_,_,_,rfl,h_A _ _,h_A _ _,g_4 _ _,hb⟩
def m_C (ws ts:List Int) (D:Int) (q:Option Addr) (l d:Nat) (w:World) (e:Ending) (w':World):Prop:=
 ∃ a n c a' n' c',e=.returned (.tuple #[.agg #[.slice a n c,.slice a' n' c',.int .i64 D,.slice q l d],.int .i64 0])∧SlF w.heap.size w' a n ws∧SlF w.heap.size w' a' n' ts∧Below w.heap.size w w'
theorem i_m (a a' q:Option Addr) (n c n' c' l d:Nat) (ws ts:List Int) (D x v:Int) (w:World) (S1:Sl w a n ws) (S2:Sl w a' n' ts) (hx:(Lit.int .i64 x).wf=true) (hu:a_I ws ts x=0) :
  Calls Tryz.prog 149 #[.agg #[.slice a n c,.slice a' n' c',.int .i64 D,.slice q l d],.agg #[.int .i64 x,.int .i64 v]] w (m_C (ws.set x.toNat v) ts D q l d w):=by
 have ⟨HE,HX⟩:=hh2 hu hx;have H1:=Lib.hid (show c_t ws ts x v=ws.set x.toNat v by rw [c_t,if_pos hu]);have H2:=Lib.hid (show c_s ws ts x=ts by rw [c_s,if_pos hu]);clear hx hu
 go_enter Tryz.func149,Tryz.ntmps149
 go_wp2_with fail
 refine (n_P a a' n c n' c' ws ts x v _ (slA _ (slA _ (slA _ S1))) (slA _ (slA _ (slA _ S2))) HX.out).mono ?_;rintro e w1 ⟨p,m,e1,p',m',e2,rfl,u1,u2,hb⟩;rw [HE.out];rw [H1.out] at u1;rw [H2.out] at u2;have hb1:=N6;have k2:w1.cell? ⟨w.heap.size,2,none⟩=some (.int .i64 D):=a_t hb (a_8 _ (a_8 _ (by simp)));have k0:w1.cell? ⟨w.heap.size,0,none⟩=some (.slice a n c):=a_t hb (a_8 _ (a_8 _ (by simp)));have k1:w1.cell? ⟨w.heap.size,1,none⟩=some (.slice a' n' c'):=a_t hb (a_8 _ (a_8 _ (by simp)));have k3:w1.cell? ⟨w.heap.size,3,none⟩=some (.slice q l d):=a_t hb (a_8 _ (a_8 _ (by simp)));have fk:∀ i,w1.frozen? ⟨w.heap.size,i,none⟩=false:=by intro i;rw [hb.frozen (p:=⟨w.heap.size,i,none⟩) (by simp;omega)];exact b_F ((b_r _ _ _ (by simp;omega)).trans ((b_r _ _ _ (by simp)).trans (a_4 _ _ _ rfl)))
 have r0:w1.cell? ⟨w.heap.size+1+1,0,none⟩=some (.slice none 0 0):=a_t hb (a_Y _ _ _ (by simp) rfl);have r1:w1.cell? ⟨w.heap.size+1+1,1,none⟩=some (.slice none 0 0):=a_t hb (a_Y _ _ _ (by simp) rfl);have r2:w1.cell? ⟨w.heap.size+1+1,2,none⟩=some (.int .i64 0):=a_t hb (a_Y _ _ _ (by simp) rfl);have r3:w1.cell? ⟨w.heap.size+1+1,3,none⟩=some (.slice none 0 0):=a_t hb (a_Y _ _ _ (by simp) rfl);have ff:∀ i,w1.frozen? ⟨w.heap.size+1+1,i,none⟩=false:=by intro i;rw [hb.frozen (p:=⟨w.heap.size+1+1,i,none⟩) (by simp)];exact b_F (a_4 _ _ _ (by simp))
 have hs:w.heap.size+1+1 < w1.heap.size:=b_d r0;have hsz:w.heap.size+3≤w1.heap.size:=by omega
 obtain ⟨W,hW⟩:=nm (((w1.alloc (Obj.cells #[.slice p m e1,.slice p' m' e2] 26)).setCell ⟨w.heap.size,0,none⟩ (.slice p m e1)).setCell ⟨w.heap.size,1,none⟩ (.slice p' m' e2));have b2:Below w.heap.size w W:=by rw [hW];exact ((hb1.alloc hb1.size _).setCell (by simp) _).setCell (by simp) _
 have ne:∀ j i,(⟨w.heap.size,j,none⟩:Addr)≠⟨w.heap.size+1+1,i,none⟩:=fun j i e=>by have h:=congrArg Addr.block e;dsimp only at h;omega
 have keep:∀ (b o:Nat) (u:Value),b≠w.heap.size→w1.cell? ⟨b,o,none⟩=some u→W.cell? ⟨b,o,none⟩=some u:=by
  intro b o u hne hu;have ne2:∀ j,(⟨w.heap.size,j,none⟩:Addr)≠⟨b,o,none⟩:=fun j e=>hne (congrArg Addr.block e).symm
  rw [hW,World.cell?_setCell_other _ _ _ _ (ne2 _),World.cell?_setCell_other _ _ _ _ (ne2 _)];exact a_8 _ hu
 have a0:=a_8 (Obj.cells #[.slice p m e1,.slice p' m' e2] 26) k0;have a1:=a_8 (Obj.cells #[.slice p m e1,.slice p' m' e2] 26) k1;have a2:=a_8 (Obj.cells #[.slice p m e1,.slice p' m' e2] 26) k2;have a3:=a_8 (Obj.cells #[.slice p m e1,.slice p' m' e2] 26) k3;have g0:=(d_L (k:=0) (Obj.cells #[.slice p m e1,.slice p' m' e2] 26) (show w.heap.size < w1.heap.size by omega)).trans (fk 0);have g1:=(d_L (k:=1) (Obj.cells #[.slice p m e1,.slice p' m' e2] 26) (show w.heap.size < w1.heap.size by omega)).trans (fk 1);have K0:W.cell? ⟨w.heap.size,0,none⟩=some (.slice p m e1):=by rw [hW];exact s_d _ _ (by rw [a0];rfl)
 have K1:W.cell? ⟨w.heap.size,1,none⟩=some (.slice p' m' e2):=by rw [hW];exact s_e _ _ (by rw [a1];rfl)
 have ne3:∀ j i,j≠i→(⟨w.heap.size,j,none⟩:Addr)≠⟨w.heap.size,i,none⟩:=fun j i h e=>h (congrArg Addr.off e)
 have K2:W.cell? ⟨w.heap.size,2,none⟩=some (.int .i64 D):=by rw [hW,World.cell?_setCell_other _ _ _ _ (ne3 _ _ (by decide)),World.cell?_setCell_other _ _ _ _ (ne3 _ _ (by decide))];exact a2
 have K3:W.cell? ⟨w.heap.size,3,none⟩=some (.slice q l d):=by rw [hW,World.cell?_setCell_other _ _ _ _ (ne3 _ _ (by decide)),World.cell?_setCell_other _ _ _ _ (ne3 _ _ (by decide))];exact a3
 have R0:=keep _ _ _ (by omega) r0;have R1:=keep _ _ _ (by omega) r1;have R2:=keep _ _ _ (by omega) r2;have R3:=keep _ _ _ (by omega) r3;have fr:∀ i,W.frozen? ⟨w.heap.size+1+1,i,none⟩=false:=by intro i;rw [hW,World.frozen?_setCell,World.frozen?_setCell];exact (d_L _ hs).trans (ff i)
 have f0:=fr 0;have f1:=fr 1;have f2:=fr 2;have f3:=fr 3;have ⟨HW,HB⟩:=hh2 hW b2;have HR:=Lib.hid (t_n (w:=W) (g:=w.heap.size+1+1) (.slice p m e1) (.slice p' m' e2) (.int .i64 D) (.slice q l d) (by rw [R0];rfl) (by rw [R1];rfl) (by rw [R2];rfl) (by rw [R3];rfl));have U1:=Lib.hid (a_r (Q:=fun b=>w.heap.size+3≤b) (fun b o u hq hu=>keep b o u (by omega) hu) (show SlP (fun b=>w.heap.size+3≤b) w1 p m (ws.set x.toNat v) from c_M (fun b hb=>by simp at hb;omega) u1));have U2:=Lib.hid (a_r (Q:=fun b=>w.heap.size+3≤b) (fun b o u hq hu=>keep b o u (by omega) hu) (show SlP (fun b=>w.heap.size+3≤b) w1 p' m' ts from c_M (fun b hb=>by simp at hb;omega) u2));clear hb hb1 hW b2 ff u1 u2 S1 S2 ne ne3 keep fr fk k0 k1 k2 k3 r0 r1 r2 r3
 go_upto_region 5 with fail
 rw [←HW.out];clear a0 a1 a2 a3 g0 g1
 go_wp2
 refine a_m ⟨w.heap.size+1+1,0,none⟩ rfl rfl rfl (a_9 _ _ _ _ _ _ HR.out.1 HR.out.2.1 HR.out.2.2.1 HR.out.2.2.2) ?_;have hk:∀ (b:Nat),w.heap.size+3≤b→b≠w.heap.size+1+1:=fun b h=>by omega
 refine ⟨_,_,_,_,_,_,rfl,?_,?_,a_W (g:=w.heap.size+1+1) HB.out (by omega) _ _ _ _⟩
 ·exact r_x (fun b hb=>by omega) (c_z _ hk _ (c_z _ hk _ (c_z _ hk _ (c_z _ hk _ U1.out))))
 ·exact r_x (fun b hb=>by omega) (c_z _ hk _ (c_z _ hk _ (c_z _ hk _ (c_z _ hk _ U2.out))))
attribute [local go_sem] Oper.semAt_some
def l_t {α:Type} (f:Nat→α) (k:Nat):List α:=(List.range k).map f
theorem k_c {α:Type} (f:Nat→α) (k:Nat):l_t f (k+1)=l_t f k++[f k]:=by simp [l_t,List.range_succ]
theorem l_u {α:Type} (f:Nat→α) (k:Nat):(l_t f k).length=k:=by simp [l_t]
theorem m_w {α:Type} (f:Nat→α) (k j:Nat) (h:j < k):f j∈l_t f k:=by
 simp only [l_t,List.mem_map,List.mem_range];exact ⟨j,h,rfl⟩
def d_O (ps:List (Int×Int)) (j:Nat):Int×(Int×Int):=((ps.length:Int) - 1 - j,ps.getD (ps.length - 1 - j) (0,0))
def KpB (n₀ Bs:Nat) (W W':World):Prop:=Below n₀ W W'∧∀ v,W.cell? ⟨Bs,0,none⟩=some v→W'.cell? ⟨Bs,0,none⟩=some v
theorem l_2 (n₀ Bs:Nat) (W:World):KpB n₀ Bs W W:=⟨Below.refl _ _,fun _ h=>h⟩
theorem u_d {n₀ Bs:Nat} {A B C:World} (h:KpB n₀ Bs A B) (k:KpB n₀ Bs B C):KpB n₀ Bs A C:=⟨h.1.trans k.1,fun v e=>k.2 v (h.2 v e)⟩
theorem u_J {n₀ Bs:Nat} {w:World} (hn:n₀≤w.heap.size):∀ (W:World) (l:Nat) (o o':Obj),w.heap.size≤l→W.heap[l]?=some o→o.isCells=false→o.isWalk=false→KpB n₀ Bs W (W.putObj l o'):=
 fun W l o o' hl ho hc hw=>⟨belowK_b hn W l o o' hl ho hc hw,fun v e=>cell_kept e (grownBy_putObj' W l o') (fun r h=>by cases h;exact ⟨o,ho,hc⟩)⟩
def r_3 (x:Int×(Int×Int)):Array Value:=#[.int .i64 x.1,.agg #[.int .i64 x.2.1,.int .i64 x.2.2]]
theorem q_n (F:Fence) (n:Nat) (h8:F.fn 168) (hro:F.round=none) (hn:1≤n) (l Bs n₀ b off len cap:Nat) (ps:List (Int×Int)) (hreach:len≤9223372036854775807) (hps:ps.length=len) (hb:b < n₀) (J Jx:List (Int×(Int×Int))→World→Prop)
  (hY:∀ pre x W,J pre W→pre.length < len→YieldAt F (n - 1) Tryz.prog l #[.int .i64 x.1,.agg #[.int .i64 x.2.1,.int .i64 x.2.2]] W fun e W' =>
   (e=.returned (.bool true)∧J (pre++[x]) W'∧KpB n₀ Bs W W')∨(e=.returned (.bool false)∧Jx (pre++[x]) W'))
  (W:World) (hBs:W.cell? ⟨Bs,0,none⟩=some (.slice (some ⟨b,off,none⟩) len cap)) (hc:q_a W b off ps) (h0:J [] W) :
  CallsIn F n Tryz.prog 168 #[.func (.yield l) #[] #[],.pointer (some ⟨Bs,0,none⟩)] W fun e W'=>(∃ v,e=.returned v) ∧
   ((∃ ys,ys=l_t (d_O ps) len∧J ys W')∨(∃ pre,(∃ k,k≤len∧pre=l_t (d_O ps) k)∧Jx pre W')):=by
 have Hps:=Lib.hid hps;clear hps;refine callsIn_of_wp Tryz.func168 rfl h8 ?_ hro;simp only [Tryz.ntmps168,List.size_toArray,List.length_cons,List.length_nil,Nat.reduceAdd,Nat.reduceSub,Array.replicate_succ,Array.replicate_zero,List.push_toArray,List.append_toArray,List.nil_append,List.cons_append]
 gi_wp2
 gi_loopw [3] (fun i wr=>∃ (m:Nat) (z:Int),m≤len∧z=m - 1∧i=.int .i64 z∧J (l_t (d_O ps) (len - m)) wr∧Hid (KpB n₀ Bs W wr))
  (fun i _=>(intOf i+1).toNat)
 case atStart=>exact ⟨len,(len:Int) - 1,Nat.le_refl _,rfl,rfl,by rw [Nat.sub_self];exact h0,l_2 _ _ _⟩
 case round =>
  obtain ⟨m,z,hm,hz,rfl,hJs,hnx⟩:=hrel;have hBs':=hnx.out.2 _ hBs
  cases m with
  | succ k =>
   obtain rfl:z=(k:Int):=by omega
   have hx:=hc k (by rw [Hps.out];omega);have hx1:=(hnx.out.1.cell (p:=⟨b,off+k*2,none⟩) hb).trans hx.1;have hx2:=(hnx.out.1.cell (p:=⟨b,off+k*2+1,none⟩) hb).trans hx.2
   have HF:=Lib.hid (show d_O ps (len - (k+1))=((k:Int),ps.getD k (0,0)) by
    simp only [d_O,Hps.out];rw [show len - 1 - (len - (k+1))=k by omega,show (len:Int) - 1 - ((len - (k+1):Nat):Int)=k by omega])
   have HS:=Lib.hid (k_c (d_O ps) (len - (k+1)));have HK:=Lib.hid (show len - (k+1)+1=len - k by omega);obtain ⟨fn,tmps,assign,body,hy,hR⟩:=hY _ ((k:Int),ps.getD k (0,0)) wr hJs (by rw [l_u];omega);dsimp only at hy hR
   generalize ps.getD k (0,0)=q at *
   obtain ⟨q1,q2⟩:=q;dsimp only at hy hR hx1 hx2;have hk0:(0:Int)≤(k:Int):=by omega
   have hkl:(k:Int) < len:=by omega
   clear hx hz
   gi_wp2
   refine hR.mono ?_;rintro e W3 (⟨rfl,hJ3,hk3⟩ | ⟨rfl,hJx3⟩)
   ·gi_wp2
    go_roundw
    case rel=>exact ⟨k,(k:Int) - 1,by omega,rfl,rfl,by rw [←HK.out,HS.out,HF.out];exact hJ3,u_d hnx.out hk3⟩
    case measure=>simp [intOf]
   ·gi_wp2
    refine bodyPost_ret (results_none rfl _ _ _) rfl ?_;exact ⟨⟨_,rfl⟩,.inr ⟨_,⟨len - k,by omega,by rw [←HK.out,HS.out,HF.out]⟩,hJx3⟩⟩
  | zero =>
   obtain rfl:z=-1:=by omega
   clear hz
   gi_wp2
   go_end0
   exact ⟨⟨_,rfl⟩,.inl ⟨_,rfl,hJs⟩⟩
theorem j_q (F:Fence) (n:Nat) (h8:F.fn 168) (hro:F.round=none) (l Bs:Nat) (a:Option Addr) (cap:Nat) (J:List (Int×(Int×Int))→World→Prop) (W:World) (hBs:W.cell? ⟨Bs,0,none⟩=some (.slice a 0 cap)) (h0:J [] W) :
  CallsIn F n Tryz.prog 168 #[.func (.yield l) #[] #[],.pointer (some ⟨Bs,0,none⟩)] W fun e W'=>(∃ v,e=.returned v)∧J [] W':=by
 refine callsIn_of_wp Tryz.func168 rfl h8 ?_ hro;simp only [Tryz.ntmps168,List.size_toArray,List.length_cons,List.length_nil,Nat.reduceAdd,Nat.reduceSub,Array.replicate_succ,Array.replicate_zero,List.push_toArray,List.append_toArray,List.nil_append,List.cons_append]
 gi_wp2
 gi_loopw [3] (fun i wr=>i=.int .i64 (-1)∧J [] wr) (fun _ _=>0)
 case atStart=>exact ⟨rfl,h0⟩
 case round =>
  obtain ⟨rfl,hJs⟩:=hrel
  gi_wp2
  go_end0
  exact ⟨⟨_,rfl⟩,hJs⟩
theorem s_y (F:Fence) (n:Nat) (h6:F.fn 162) (hro:F.round=none) (a:Option Addr) (len cap:Nat) (w:World) :
  CallsIn F n Tryz.prog 162 #[.slice a len cap] w fun e w'=>e=.returned (.func (.func 168) #[] #[.pointer (some ⟨w.heap.size,0,none⟩)])∧w'=w.alloc (.cells #[.slice a len cap] 55):=by
 refine callsIn_of_wp Tryz.func162 rfl h6 ?_ hro;simp only [Tryz.ntmps162,List.size_toArray,List.length_cons,List.length_nil,Nat.reduceAdd,Nat.reduceSub,Array.replicate_succ,Array.replicate_zero,List.push_toArray,List.append_toArray,List.nil_append,List.cons_append]
 gi_wp2
 go_ret
 exact ⟨rfl,rfl⟩
theorem m_E (F:Fence) (n:Nat) (h8:F.fn 168) (hro:F.round=none) (hn:1≤n) (Bs n₀ len cap:Nat) (a:Option Addr) (ps:List (Int×Int)) (hreach:len≤9223372036854775807) (w:World)
  (hc:w.cell? ⟨Bs,0,none⟩=some (.slice a len cap)) (hI:Pl w a len ps) (hbl:∀ p,a=some p→0 < len→p.block < n₀) :
  SeqStopsK F n Tryz.prog 168 #[.pointer (some ⟨Bs,0,none⟩)] r_3 (KpB n₀ Bs) (fun ys=>ys=l_t (d_O ps) len)
   (fun pre=>∃ k,k≤len∧pre=l_t (d_O ps) k) len w:=fun l J Jx W hW _ _ hY h0=>by
 have hc':=(hW.cell (p:=⟨Bs,0,none⟩) (b_d hc)).trans hc
 by_cases hz:len=0
 ·subst hz;exact (j_q F n h8 hro l Bs a cap J W hc' h0).mono fun e W' ⟨he,hj⟩=>⟨he,.inl ⟨_,rfl,hj⟩⟩
 ·obtain ⟨b,o,rfl,R⟩:=hI.2.resolve_left hz;exact q_n F n h8 hro hn l Bs n₀ b o len cap ps hreach hI.1 (hbl _ rfl (by omega)) J Jx hY W hc' (fun i hi=>⟨(hW.cell (p:=⟨b,_,none⟩) (b_d (R i hi).1)).trans (R i hi).1,(hW.cell (p:=⟨b,_,none⟩) (b_d (R i hi).2)).trans (R i hi).2⟩) h0
end Go.Proofs.YtogdpojnbgeknaaGreatDoor
namespace Go.Proofs.YtogdpojnbgeknaaGreatDoor
open Go.ChangeShapes Go.WideShapes Go.ChangeAt Go.RowKit Go.Shelf
attribute [local go_sem] Oper.semAt_some
theorem m_7 {ps:List (Int×Int)} {x:Int} {len:Nat} (hl:ps.length=len) (h:∀ p∈l_t (d_O ps) len,p.2.1≠x):c_b ps x=none:=by
 subst hl;refine l_c fun j hj=>?_
 have:=h _ (m_w (d_O ps) ps.length (ps.length - 1 - j) (by omega))
 simpa only [d_O,show ps.length - 1 - (ps.length - 1 - j)=j by omega] using this
theorem m_5 {ps:List (Int×Int)} {x:Int} {len k:Nat} (hl:ps.length=len) (hk:k≤len) {ini:List (Int×(Int×Int))} {last:Int×(Int×Int)} (e:l_t (d_O ps) k=ini++[last])
  (h:∀ p∈ini,p.2.1≠x) (hx:last.2.1=x):c_b ps x=some last.2.2:=by
 subst hl
 cases k with
 | zero=>simp [l_t] at e
 | succ j =>
  rw [k_c] at e;obtain ⟨rfl,e5⟩:=List.append_inj' e rfl;obtain rfl:d_O ps j=last:=by simpa using e5
  refine o_2 (k:=ps.length - 1 - j) (by omega) hx fun i h1 h2=>?_
  have:=h _ (m_w (d_O ps) j (ps.length - 1 - i) (by omega))
  simpa only [d_O,show ps.length - 1 - (ps.length - 1 - i)=i by omega] using this
def h_X (ps:List (Int×Int)) (x:Int) (w:World) (e:Ending) (w':World):Prop:=e=.returned (.tuple #[.int .i64 (c_x ps x),.bool (c_w ps x)])∧Below w.heap.size w w'
def NwI (x:Int) (h:Nat) (w:World) (pre:List (Int×(Int×Int))) (W:World):Prop:=
 ((∀ p∈pre,p.2.1≠x)∧W.cell? ⟨h,0,none⟩=some (.int .i64 x)∧W.cell? ⟨h+1,0,none⟩=some (.int .i64 0)∧W.frozen? ⟨h+1,0,none⟩=false∧W.cell? ⟨h+1+1,0,none⟩=some (.bool false)∧W.frozen? ⟨h+1+1,0,none⟩=false)∧Below w.heap.size w W
def NwX (x:Int) (h:Nat) (w:World) (c:Code) (pre:List (Int×(Int×Int))) (W:World):Prop:=
 (c=.ret∧∃ ini last,pre=ini++[last]∧(∀ p∈ini,p.2.1≠x)∧last.2.1=x∧W.cell? ⟨h+1,0,none⟩=some (.int .i64 last.2.2)∧W.cell? ⟨h+1+1,0,none⟩=some (.bool true))∧Below w.heap.size w W
theorem o_5 {x:Int} {h B:Nat} {w:World} (hB:w.heap.size≤B):OwnFrom B (NwI x h w):=
 OwnFrom.and (Own.from (fun _ _ _ _ hs hg hr=>⟨hs.1,cell_kept hs.2.1 hg hr,cell_kept hs.2.2.1 hg hr,(frozen_kept hs.2.2.1 hg hr).trans hs.2.2.2.1,cell_kept hs.2.2.2.2.1 hg hr,(frozen_kept hs.2.2.2.2.1 hg hr).trans hs.2.2.2.2.2⟩) _) (ownFrom_below (Nat.le_refl _) hB)
theorem s_2 {x:Int} {h B:Nat} {w:World} (hB:w.heap.size≤B) (c:Code):OwnFrom B (NwX x h w c):=
 OwnFrom.and (Own.from (fun _ _ _ _ hs hg hr=>by obtain ⟨hc,ini,last,e1,e2,e3,e4,e5⟩:=hs;exact ⟨hc,ini,last,e1,e2,e3,cell_kept e4 hg hr,cell_kept e5 hg hr⟩) _) (ownFrom_below (Nat.le_refl _) hB)
theorem o_4 {x:Int} {h:Nat} {w W:World} {pre:List (Int×(Int×Int))} (o:Obj) (i:NwI x h w pre W):NwI x h w pre (W.alloc o):=
 (o_5 (Nat.le_refl _)).alloc o i
theorem n_K (F:Fence) (n:Nat) (h4:F.fn 148) (h6:F.fn 162) (h8:F.fn 168) (hro:F.round=none) (hn:3≤n) (a:Option Addr) (len cap:Nat) (ps:List (Int×Int)) (x:Int) (hreach:len≤9223372036854775807) (w:World) (hI:Pl w a len ps) :
  CallsIn F n Tryz.prog 148 #[.slice a len cap,.int .i64 x] w (h_X ps x w):=by
 have h1:1≤n:=by omega
 refine callsIn_of_wp_marks Tryz.func148 rfl h4 ?_ hro;simp only [Tryz.ntmps148,List.size_toArray,List.length_cons,List.length_nil,Nat.reduceAdd,Nat.reduceSub,Array.replicate_succ,Array.replicate_zero,List.push_toArray,List.append_toArray,List.nil_append,List.cons_append]
 gi_wp2_with (gi_at_call 162;refine (s_y F (n - 1) h6 hro _ _ _ _).mono ?_;rintro e w' ⟨rfl,rfl⟩)
 obtain ⟨W0,hW0⟩:=mn ((((w.alloc (Obj.cells #[.int .i64 x] 3)).alloc (Obj.cells #[.int .i64 0] 3)).alloc (Obj.cells #[.bool false] 4)).alloc (Obj.cells #[.slice a len cap] 55));have hs0:W0.heap.size=w.heap.size+4:=by rw [←hW0];simp
 have hB0:Below w.heap.size w W0:=by rw [←hW0];go_grown
 have cx:W0.cell? ⟨w.heap.size,0,none⟩=some (.int .i64 x):=by rw [←hW0];exact a_8 _ (a_8 _ (a_8 _ (a_Y _ _ _ rfl rfl)))
 have c1:W0.cell? ⟨w.heap.size+1,0,none⟩=some (.int .i64 0):=by rw [←hW0];exact a_8 _ (a_8 _ (a_Y _ _ _ (by simp) rfl))
 have c2:W0.cell? ⟨w.heap.size+1+1,0,none⟩=some (.bool false):=by rw [←hW0];exact a_8 _ (a_Y _ _ _ (by simp) rfl)
 have c3:W0.cell? ⟨w.heap.size+1+1+1,0,none⟩=some (.slice a len cap):=by rw [←hW0];exact a_Y _ _ _ (by simp) rfl
 have f1:W0.frozen? ⟨w.heap.size+1,0,none⟩=false:=by rw [←hW0,d_L _ (by simp),d_L _ (by simp)];exact c_o _ _ (by simp)
 have f2:W0.frozen? ⟨w.heap.size+1+1,0,none⟩=false:=by rw [←hW0,d_L _ (by simp)];exact c_o _ _ (by simp)
 rw [hW0];have hI0:Pl W0 a len ps:=plB hB0 hI
 have hbl:∀ p,a=some p→0 < len→p.block < w.heap.size:=by
  intro p hp hl;obtain ⟨b,o,e,R⟩:=hI.2.resolve_left (by omega);rw [hp] at e;cases e;exact b_d (R 0 (by rw [hI.1];exact hl)).1
 refine wpIn_rangeFunc_ownH hro h1 (gf:=168) (lb:=#[.pointer (some ⟨w.heap.size+1+1+1,0,none⟩)]) rfl h8 (enters_of Tryz.func168 (by kernel_rfl) rfl)
  (m_E F (n - 1) h8 hro (by omega) (w.heap.size+1+1+1) w.heap.size len cap a ps hreach W0 c3 hI0 hbl) u_d (u_J (by omega)) (Below.refl _ _) (fun _=>rfl)
  (NwI x w.heap.size w) (NwX x w.heap.size w) (o_5 (by omega)) (s_2 (by omega))
  ⟨⟨by simp,cx,c1,f1,c2,f2⟩,hB0⟩
  (fun y a' W=>∃ Bx,W.cell? ⟨Bx,0,none⟩=some (.int .i64 y.2.1)∧W.cell? ⟨Bx,1,none⟩=some (.int .i64 y.2.2)∧a'={ tmps:=#[.slice a len cap,.int .i64 x,undef,.pointer (some ⟨w.heap.size,0,none⟩),.pointer (some ⟨w.heap.size+1,0,none⟩),.pointer (some ⟨w.heap.size+1+1,0,none⟩),undef,.pointer (some ⟨Bx,0,none⟩),.slice a len cap,.func (.func 168) #[] #[.pointer (some ⟨w.heap.size+1+1+1,0,none⟩)],.int .i64 y.1,.agg #[.int .i64 y.2.1,.int .i64 y.2.2],undef,undef,undef,undef,undef,undef],defers:=[] })
  (fun y a'=>Own.from (fun _ A B row hs hg hr=>by obtain ⟨Bx,e1,e2,e3⟩:=hs;exact ⟨Bx,cell_kept e1 hg hr,cell_kept e2 hg hr,e3⟩) _) ?assign ?body ?done ?stop
 case assign =>
  rintro l pre ⟨y0,y1,y2⟩ W K hi hK;have hsz:=hi.2.size;have hl3:=b_d hi.1.2.2.2.2.1;simp only [r_3]
  gi_wp2
  refine hK _ _ ((KeepsOthers.alloc _ _).from _) ⟨(Below.refl _ W).alloc hsz _,fun v hv=>a_8 _ hv⟩ (o_4 _ hi) ⟨W.heap.size,by simp,by simp,rfl⟩
 case body =>
  rintro l pre ⟨y0,y1,y2⟩ a' W hl - hi ⟨Bx,e1,e2,rfl⟩ hlt;obtain ⟨⟨i1,i2,i3,i4,i5,i6⟩,i7⟩:=id hi;have ⟨Hi,H1⟩:=hh2 hi i1;dsimp only at e1 e2;clear hi i1
  by_cases hx:y1=x
  ·subst hx
   gi_wp2
   refine ⟨((KeepsOthers.setCell _ _ _).trans (KeepsOthers.setCell _ _ _)).from _,⟨rfl,pre,_,rfl,H1.out,rfl,?_,?_⟩,(i7.setCell (p:=⟨w.heap.size+1,0,none⟩) (by simp) _).setCell (p:=⟨w.heap.size+1+1,0,none⟩) (by simp;omega) _⟩
   ·rw [World.cell?_setCell_other]
    ·exact World.cell?_setCell_same' _ _ _ (by rw [i3];rfl)
    ·intro e;simp at e
   ·refine World.cell?_setCell_same' _ _ _ ?_;rw [World.cell?_setCell_other]
    ·rw [i5];rfl
    ·intro e;simp at e
  ·have q:(y1==x)=false:=by simpa using hx
   have HX:=Lib.hid hx;clear hx
   gi_wp2
   refine ⟨KeepsFrom.refl _ _,l_2 _ _ _,⟨fun p hp=>(List.mem_append.1 hp).elim (H1.out p) (fun e=>by simp at e;subst e;exact HX.out),Hi.out.1.2⟩,Hi.out.2⟩
 case done =>
  rintro D ys W hD rfl ⟨⟨i1,i2,i3,i4,i5,i6⟩,i7⟩ hK;have HN:=Lib.hid (m_7 (len:=len) hI.1 i1);have hl3:=b_d i5;clear i1
  gi_wp2
  have hK1:=(KeepsOthers.setCell W ⟨w.heap.size+1,0,none⟩ (.int .i64 0)).same D _ hK rfl;have hK':=(KeepsOthers.setCell _ ⟨w.heap.size+1+1,0,none⟩ (.bool false)).same D _ hK1 rfl;refine ⟨by simp,.inl ⟨_,_,rfl,run_takeDeferred hK',?_⟩⟩
  have g5:((W.setCell ⟨w.heap.size+1,0,none⟩ (.int .i64 0)).setCell ⟨w.heap.size+1+1,0,none⟩ (.bool false)).cell? ⟨w.heap.size+1+1,0,none⟩=some (.bool false):=by
   refine World.cell?_setCell_same' _ _ _ ?_;rw [World.cell?_setCell_other]
   ·rw [i5];rfl
   ·intro e;simp at e
  have g3:((W.setCell ⟨w.heap.size+1,0,none⟩ (.int .i64 0)).setCell ⟨w.heap.size+1+1,0,none⟩ (.bool false)).cell? ⟨w.heap.size+1,0,none⟩=some (.int .i64 0):=by
   rw [World.cell?_setCell_other]
   ·exact World.cell?_setCell_same' _ _ _ (by rw [i3];rfl)
   ·intro e;simp at e
  have j5:=cell_kept g5 (grownBy_putObj' _ D (.deferred none)) (fun r e=>by cases e;exact ⟨_,hK',rfl⟩);have j3:=cell_kept g3 (grownBy_putObj' _ D (.deferred none)) (fun r e=>by cases e;exact ⟨_,hK',rfl⟩);have hB1:Below w.heap.size w ((W.setCell ⟨w.heap.size+1,0,none⟩ (.int .i64 0)).setCell ⟨w.heap.size+1+1,0,none⟩ (.bool false)):=(i7.setCell (p:=⟨w.heap.size+1,0,none⟩) (by simp) _).setCell (p:=⟨w.heap.size+1+1,0,none⟩) (by simp;omega) _;refine ⟨.tuple #[.int .i64 0,.bool false],?_,⟨by rw [c_x,c_w,HN.out];rfl,hB1.trans (belowK_b (w:=w) (Nat.le_refl _) _ D _ _ (by omega) hK' rfl rfl)⟩⟩;simp [results,Tryz.f148,go_sem,j3,j5]
 case stop =>
  rintro D c pre W hD ⟨k,hk,rfl⟩ ⟨⟨rfl,ini,last,e1,e2,e3,j3,j5⟩,i7⟩ hK;have HN:=Lib.hid (m_5 hI.1 hk e1 e2 e3);clear e1 e2 e3
  gi_wp2
  refine ⟨by simp,.inl ⟨_,_,rfl,run_takeDeferred hK,?_⟩⟩;have k5:=cell_kept j5 (grownBy_putObj' _ D (.deferred none)) (fun r e=>by cases e;exact ⟨_,hK,rfl⟩);have k3:=cell_kept j3 (grownBy_putObj' _ D (.deferred none)) (fun r e=>by cases e;exact ⟨_,hK,rfl⟩);refine ⟨.tuple #[.int .i64 last.2.2,.bool true],?_,⟨by rw [c_x,c_w,HN.out];rfl,i7.trans (belowK_b (w:=w) (Nat.le_refl _) W D _ _ (by omega) hK rfl rfl)⟩⟩;simp [results,Tryz.f148,go_sem,k3,k5]
theorem m_B (a:Option Addr) (len cap:Nat) (ps:List (Int×Int)) (x:Int) (w:World) (hI:Pl w a len ps) (hreach:len≤9223372036854775807) :
  Calls Tryz.prog 148 #[.slice a len cap,.int .i64 x] w (h_X ps x w):=
 callsIn_wide.1 (n_K Fence.wide 3 trivial trivial trivial rfl (Nat.le_refl _) a len cap ps x hreach w hI)
end Go.Proofs.YtogdpojnbgeknaaGreatDoor
namespace Go.Proofs.YtogdpojnbgeknaaGreatDoor
open Go.ChangeShapes Go.WideShapes Go.ChangeAt Go.RowKit
theorem i_7 (a a' q:Option Addr) (n c n' c' l d:Nat) (ws ts:List Int) (D:Int) (bs:List (List (Int×Int))) (w:World) (S1:Sl w a n ws) (S2:Sl w a' n' ts) (S:Bl w q l bs) :
  Calls Tryz.prog 36 #[.agg #[.slice a n c,.slice a' n' c',.int .i64 D,.slice q l d]] w (b_h (d_o ws ts D bs) w):=by
 obtain ⟨t,ht⟩:=mn (d_o ws ts D bs);rw [ht];have HT:=Lib.hid ht;clear ht
 go_enter Tryz.func36,Tryz.ntmps36
 go_wp2_with fail
 refine (e_6 a a' q n c n' c' l d ws ts D bs _ (slA _ S1) (slA _ S2) (blA _ S)).mono ?_;rintro e w1 ⟨rfl,hb⟩;rw [HT.out];have HB:=N122;clear hb
 go_wp2
 go_ret
 exact ⟨rfl,HB.out⟩
theorem c_u {w w':World} {a:Addr} {v:Value} (hb:Below w.heap.size w w') (h:w.cell? a=some v) (f:w.frozen? a=false):w'.cell? a=some v∧w'.frozen? a=false:=⟨a_t hb h,c_a hb h f⟩
theorem g_s {F g:Nat} {Q:Nat→Prop} {ws ts:List Int} {D:Int} {bs:List (List (Int×Int))} {x:Int} {w W:World} {p p' q:Option Addr} {n n' l d d' e:Nat} {y0 y1 y2 y3:Value}
  (hg:g < F) (hw:w.heap.size≤g) (hQ:∀ b,Q b→F≤b) (u1:SlP Q W p n ws) (u2:SlP Q W p' n' ts) (u3:BlP (fun b=>F≤b) W q l bs) (hb:Below w.heap.size w W) :
  e_L ws ts D bs x w (.returned (.tuple #[.agg #[.slice p n d,.slice p' n' d',.int .i64 D,.slice q l e],.int .i64 x])) ((((W.setCell ⟨g,0,none⟩ y0).setCell ⟨g,1,none⟩ y1).setCell ⟨g,2,none⟩ y2).setCell ⟨g,3,none⟩ y3):=by
 have hk:∀ (b o:Nat) (v:Value),F≤b→W.cell? ⟨b,o,none⟩=some v→((((W.setCell ⟨g,0,none⟩ y0).setCell ⟨g,1,none⟩ y1).setCell ⟨g,2,none⟩ y2).setCell ⟨g,3,none⟩ y3).cell? ⟨b,o,none⟩=some v:=by
  intro b o v hq hv;have ne:∀ j,(⟨g,j,none⟩:Addr)≠⟨b,o,none⟩:=fun j e=>by have h:=congrArg Addr.block e;dsimp only at h;omega
  rw [World.cell?_setCell_other _ _ _ _ (ne _),World.cell?_setCell_other _ _ _ _ (ne _),World.cell?_setCell_other _ _ _ _ (ne _),World.cell?_setCell_other _ _ _ _ (ne _)];exact hv
 refine ⟨_,_,_,_,_,_,_,_,_,rfl,?_,?_,?_,a_W hb hw _ _ _ _⟩
 ·exact r_x (fun b hb=>by omega) (a_r hk (a_n hQ u1))
 ·exact r_x (fun b hb=>by omega) (a_r hk (a_n hQ u2))
 ·exact a_H (fun b hb=>by omega) (a_G hk u3)
theorem j_B (w:World) (x y z u:Value):(Instr.field 109 (.agg #[x,y,z,u]) 0).run Tryz.prog w=.ok (.agg #[x,y,z,u]) w:=by
 simp [go_sem,Instr.field,asAgg]
def t_J (w1:World) (a a':Option Addr) (n c n' c':Nat) (D:Int) (k:Nat) (s8:Value) (wx:World):Prop:=
 ∃ g b,s8=.pointer (some ⟨g,0,none⟩)∧wx.cell? ⟨g,0,none⟩=some (.slice a n c)∧wx.cell? ⟨g,1,none⟩=some (.slice a' n' c')∧wx.cell? ⟨g,2,none⟩=some (.int .i64 D)∧wx.cell? ⟨g,3,none⟩=some (.slice (some ⟨b,0,none⟩) k k)∧Bl wx (some ⟨b,0,none⟩) k (List.replicate k [])∧Below w1.heap.size w1 wx
theorem l_O {w:World} {b k:Nat} (h:w.heap[b]?=some (.cells (Nb k) 55)):Bl w (some ⟨b,0,none⟩) k (List.replicate k []):=by
 refine ⟨by simp,.inr ⟨b,0,rfl,fun i hi=>?_⟩⟩;rw [List.length_replicate] at hi;have e:(List.replicate k ([]:List (Int×Int))).getD i []=[]:=by simp [List.getD_eq_getElem?_getD,hi]
 rw [e];refine ⟨none,0,?_,e_e,s_b _⟩;rw [Nat.zero_add];simp only [World.cell?,h]
 simpa using r_T k i hi
theorem n_r (a a':Option Addr) (n c n' c':Nat) (ws ts:List Int) (k D:Int) (w:World) (S1:Sl w a n ws) (S2:Sl w a' n' ts) :
  Calls Tryz.prog 31 #[.agg #[.slice a n c,.slice a' n' c'],.int .i64 k,.int .i64 D] w (e_L (o_Z ws ts k D) (o_Y ws ts k D) (m_3 ws ts k D) (o_X ws ts k D) (e_J ws ts k D) w):=by
 cases hm:d_g ws ts with
 | false =>
  have he:e_J ws ts k D=1:=by rw [e_J,if_neg (by rw [hm];decide)]
  obtain ⟨e1,e2,e3,e4⟩:=o_0 (ws:=ws) (ts:=ts) (n:=k) (D:=D) (by rw [he];decide);rw [e1,e2,e3,e4,he];have HM:=Lib.hid hm;clear e1 e2 e3 e4 he hm
  go_enter Tryz.func31,Tryz.ntmps31
  go_wp2_with fail
  refine (c_m a a' n c n' c' ws ts _ (slA _ (slA _ S1)) (slA _ (slA _ S2))).mono ?_;rintro e w1 ⟨rfl,hb⟩;rw [HM.out];have hb1:=N6;have r0:=N69;have r1:=N70;have r2:=N139;have r3:=N134;have ff:=N66;have f0:=ff 0;have f1:=ff 1;have f2:=ff 2;have f3:=ff 3;have HR:=N101;have HB:=Lib.hid hb1;clear hb hb1 ff;exact J34
 | true =>
  cases hs:c_f k D with
  | false =>
   have he:e_J ws ts k D=2:=by rw [e_J,if_pos hm,if_neg (by rw [hs];decide)]
   obtain ⟨e1,e2,e3,e4⟩:=o_0 (ws:=ws) (ts:=ts) (n:=k) (D:=D) (by rw [he];decide);rw [e1,e2,e3,e4,he];have HM:=Lib.hid hm;have hs':¬ (1≤k∧k≤8∧0≤D∧D≤8):=by simpa [c_f] using hs
   clear e1 e2 e3 e4 he hm hs
   go_enter Tryz.func31,Tryz.ntmps31
   go_wp2_with fail
   refine (c_m a a' n c n' c' ws ts _ (slA _ (slA _ S1)) (slA _ (slA _ S2))).mono ?_;rintro e w1 ⟨rfl,hb⟩;rw [HM.out];have hb1:=N6;have r0:=N69;have r1:=N70;have r2:=N139;have r3:=N134;have ff:=N66;have f0:=ff 0;have f1:=ff 1;have f2:=ff 2;have f3:=ff 3;have HR:=N101;have HB:=Lib.hid hb1;clear hb hb1 ff
   by_cases d0:k < 1
   ·clear hs';exact J34
   ·by_cases d1:8 < k
    ·clear hs';exact J34
    ·by_cases d2:D < 0
     ·clear hs';exact J34
     ·have d3:8 < D:=by omega
      clear hs';exact J34
  | true =>
   have hs':1≤k∧k≤8∧0≤D∧D≤8:=by simpa [c_f] using hs
   obtain ⟨s1,s2,s3,s4⟩:=hs';obtain ⟨j,rfl⟩:=N250;have hj:j≤8:=by omega
   obtain ⟨e0,e1,e2,e3,e4⟩:=o_1 hm hs;rw [e0,e1,e2,e3,e4,Int.toNat_natCast];have HM:=Lib.hid hm;have HV:=Lib.hid (i_P hm hs);have HL:=Lib.hid (show (List.replicate j ([]:List (Int×Int))).length=j by simp);clear e0 e1 e2 e3 e4 hm hs;have t0:decide ((j:Int) < 1)=false:=by simp;omega
   have t1:decide (8 < (j:Int))=false:=by simp;omega
   go_enter Tryz.func31,Tryz.ntmps31
   go_wp2_with fail
   refine (c_m a a' n c n' c' ws ts _ (slA _ (slA _ S1)) (slA _ (slA _ S2))).mono ?_;rintro e w1 ⟨rfl,hb⟩;rw [HM.out];have hb1:=N6;have k0:=N200;have k1:=N194;have r0:=N69;have r1:=N70;have r2:=N139;have r3:=N134;have ff:=N66;have f0:=ff 0;have f1:=ff 1;have f2:=ff 2;have f3:=ff 3;have T1:=slB hb1 S1;have T2:=slB hb1 S2;have HB:=Lib.hid hb1;clear hb hb1 ff S1 S2
   go_upto_region 5 with fail
   go_cut [8] (fun s8 wx=>t_J w1 a a' n c n' c' D j s8 wx)
   case first =>
    have hmk:=j_J j (by omega);have xa0:=a_8 (Obj.cells #[.slice none 0 0,.slice none 0 0,.int .i64 0,.slice none 0 0] 109) k0;have xb0:=a_8 (Obj.cells (Nb j) 55) k0;have xc0:=a_8 (Obj.cells (Nb j) 55) (a_8 (Obj.cells #[.slice none 0 0,.slice none 0 0,.int .i64 0,.slice none 0 0] 109) k0);have xd0:=a_8 (Obj.cells #[.slice none 0 0,.slice none 0 0,.int .i64 0,.slice none 0 0] 109) (a_8 (Obj.cells (Nb j) 55) k0);have xa1:=a_8 (Obj.cells #[.slice none 0 0,.slice none 0 0,.int .i64 0,.slice none 0 0] 109) k1;have xb1:=a_8 (Obj.cells (Nb j) 55) k1;have xc1:=a_8 (Obj.cells (Nb j) 55) (a_8 (Obj.cells #[.slice none 0 0,.slice none 0 0,.int .i64 0,.slice none 0 0] 109) k1);have xd1:=a_8 (Obj.cells #[.slice none 0 0,.slice none 0 0,.int .i64 0,.slice none 0 0] 109) (a_8 (Obj.cells (Nb j) 55) k1)
    go_region
    all_goals
     go_wp2_with fail
     go_meet
     first
      | exact ⟨w1.heap.size+1,w1.heap.size,rfl,a_Y (w:=w1.alloc (Obj.cells (Nb j) 55)) _ _ _ (by simp) rfl,a_Y (w:=w1.alloc (Obj.cells (Nb j) 55)) _ _ _ (by simp) rfl,a_Y (w:=w1.alloc (Obj.cells (Nb j) 55)) _ _ _ (by simp) rfl,a_Y (w:=w1.alloc (Obj.cells (Nb j) 55)) _ _ _ (by simp) rfl,l_O ((b_r _ _ _ (by simp)).trans (a_4 w1 _ _ rfl)),by go_grown⟩
      | exact ⟨w1.heap.size,w1.heap.size+1,rfl,a_8 (Obj.cells (Nb j) 55) (a_Y (w:=w1) _ _ _ rfl rfl),a_8 (Obj.cells (Nb j) 55) (a_Y (w:=w1) _ _ _ rfl rfl),a_8 (Obj.cells (Nb j) 55) (a_Y (w:=w1) _ _ _ rfl rfl),a_8 (Obj.cells (Nb j) 55) (a_Y (w:=w1) _ _ _ rfl rfl),l_O (a_4 _ _ _ (by simp)),by go_grown⟩
   case rest =>
    obtain ⟨g,b,rfl,c0,c1,c2,c3,hbl,hbx⟩:=hcut;replace r0:=c_u hbx r0 f0;replace r1:=c_u hbx r1 f1;replace r2:=c_u hbx r2 f2;replace r3:=c_u hbx r3 f3;clear f0 f1 f2 f3 k0 k1;replace T1:=slB hbx T1;replace T2:=slB hbx T2;have HBX:=Lib.hid (a_a HB.out hbx);have HR:=Lib.hid (And.intro r0 (And.intro r1 (And.intro r2 r3)));clear hbx r0 r1 r2 r3 HM HB
    go_wp2_with fail
    refine (e_s a a' (some ⟨b,0,none⟩) n c n' c' j j ws ts D (List.replicate j []) _ T1 T2 hbl HV.out).mono ?_;rintro e w3 ⟨p,m,d1,p',m',d2,y,l,rfl,u1,u2,O,hb3⟩;have r0:=c_u hb3 HR.out.1.1 HR.out.1.2;have r1:=c_u hb3 HR.out.2.1.1 HR.out.2.1.2;have r2:=c_u hb3 HR.out.2.2.1.1 HR.out.2.2.1.2;have r3:=c_u hb3 HR.out.2.2.2.1 HR.out.2.2.2.2;have hlt:w.heap.size+1 < wc.heap.size:=b_d HR.out.1.1;have HB3:=Lib.hid (a_a HBX.out hb3);have ⟨U1,U2⟩:=hh2 u1 u2;have HO:=Lib.hid (i_C O);have H4:=Lib.hid (t_n (w:=w3) (g:=w.heap.size+1) (.slice p m d1) (.slice p' m' d2) (.int .i64 D) (.slice (some ⟨y,0,none⟩) l l) (by rw [r0.1];rfl) (by rw [r1.1];rfl) (by rw [r2.1];rfl) (by rw [r3.1];rfl));obtain ⟨r0,f0⟩:=r0;obtain ⟨r1,f1⟩:=r1;obtain ⟨r2,f2⟩:=r2;obtain ⟨r3,f3⟩:=r3;clear hb3 u1 u2 O HBX HR T1 T2 hbl c0 c1 c2 c3;have hfd:=j_B w3 (.slice p m d1) (.slice p' m' d2) (.int .i64 D) (.slice (some ⟨y,0,none⟩) l l)
    go_wp2
    refine a_m ⟨w.heap.size+1,0,none⟩ rfl rfl rfl (a_9 _ _ _ _ _ _ H4.out.1 H4.out.2.1 H4.out.2.2.1 H4.out.2.2.2) ?_;exact g_s (g:=w.heap.size+1) hlt (by omega) (fun _ h=>h.1) U1.out U2.out HO.out HB3.out
def g_L (v x:Int) (w:World) (e:Ending) (w':World):Prop:=e=.returned (.tuple #[.int .i64 v,.int .i64 x])∧Below w.heap.size w w'
theorem c_W {v x z y:Int} {w w':World} (h1:v=z) (h2:x=y) (hb:Below w.heap.size w w'):g_L v x w (.returned (.tuple #[.int .i64 z,.int .i64 y])) w':=by subst h1;subst h2;exact ⟨rfl,hb⟩
theorem l_s (a a' q:Option Addr) (n c n' c' l d:Nat) (ws ts:List Int) (D:Int) (bs:List (List (Int×Int))) (th x:Int) (w:World) (S1:Sl w a n ws) (S2:Sl w a' n' ts) (S:Bl w q l bs) (hx:(Lit.int .i64 x).wf=true) :
  Calls Tryz.prog 120 #[.agg #[.slice a n c,.slice a' n' c',.int .i64 D,.slice q l d],.int .i64 th,.int .i64 x] w (g_L (f_m ws ts D bs th x) (c_8 ws ts D bs th x) w):=by
 have HX:=Lib.hid hx;have Hl:=Lib.hid S.1;clear hx
 cases hh:j_D ws ts D bs th with
 | false =>
  have HE:=Lib.hid (show c_8 ws ts D bs th x=1 by rw [c_8,if_neg (by rw [hh];decide)]);have HV:=Lib.hid (show f_m ws ts D bs th x=0 by rw [f_m,HE.out,if_neg (by decide)]);rw [HE.out,HV.out];have HH:=Lib.hid (show (d_o ws ts D bs&&thB bs th)=false from hh);clear hh HE HV
  go_enter Tryz.func120,Tryz.ntmps120
  go_wp2_with fail
  refine (e_l a a' q n c n' c' l d ws ts D th bs _ (slA _ (slA _ S1)) (slA _ (slA _ S2)) (blA _ (blA _ S))).mono ?_;rintro e w1 ⟨rfl,hb⟩;rw [HH.out];have HB:=N122;clear hb
  go_wp2
  go_ret2
  exact c_W rfl rfl HB.out
 | true =>
  obtain ⟨hm,h0,h1⟩:=d_j hh;obtain ⟨j,rfl⟩:=N120;have hjl:j < l:=by rw [←Hl.out];omega
  have i1:(0:Int)≤j:=by omega
  have i2:(j:Int) < l:=by omega
  have HH:=Lib.hid (show (d_o ws ts D bs&&thB bs j)=true from hh);have HE:=Lib.hid (show c_8 ws ts D bs j x=a_I ws ts x by rw [c_8,if_pos hh]);have HV:=N123;have H8:=N183;have HS8:=Lib.hid H8;clear hh hm h0 h1 H8
  go_enter Tryz.func120,Tryz.ntmps120
  go_wp2_with fail
  refine (e_l a a' q n c n' c' l d ws ts D j bs _ (slA _ (slA _ S1)) (slA _ (slA _ S2)) (blA _ (blA _ S))).mono ?_;rintro e w1 ⟨rfl,hb⟩;rw [HH.out];have hb1:=N6;have k0:w1.cell? ⟨w.heap.size+1,0,none⟩=some (.slice a n c):=a_t hb (by simp);have k1:w1.cell? ⟨w.heap.size+1,1,none⟩=some (.slice a' n' c'):=a_t hb (by simp);have k3:w1.cell? ⟨w.heap.size+1,3,none⟩=some (.slice q l d):=a_t hb (by simp);have T1:=slB hb1 S1;have T2:=slB hb1 S2;have T:=blB hb1 S;have HB:=Lib.hid hb1;clear hb hb1 S1 S2 S
  go_wp2_with fail
  refine (g_M a a' n c n' c' ws ts x _ T1 T2 HX.out).mono ?_;rintro e w2 ⟨rfl,hb⟩;obtain ⟨ev,hev⟩:=mn (a_I ws ts x);obtain ⟨lv,hlv⟩:=mn (b_L ws ts x);have ⟨HEV,HLV⟩:=hh2 hev hlv;rw [hev,hlv];have HB2:=Lib.hid (a_a HB.out hb)
  by_cases he:ev=0
  ·subst he;replace k3:=a_t hb k3;replace T:=blB hb T;obtain ⟨b,o,y,yc,rfl,g0,hcap,hp⟩:=g_5 T hjl;obtain ⟨ps,hps⟩:=mn (bs.getD j []);have h8:=HS8.out;rw [hps] at g0 hp hcap h8;have HPS:=Lib.hid hps;obtain ⟨m,hm⟩:=mn (ps.length);rw [hm] at g0 hp hcap h8;clear hb hlv hev hps hm hcap k0 k1 T1 T2 T HB HS8
   go_wp2_with fail
   refine (m_B y m yc ps x _ hp (by omega)).mono ?_;rintro e w3 ⟨rfl,hb⟩;have HB3:=Lib.hid (a_a HB2.out hb);exact J46
  ·have q1:=N129;have HEN:=Lib.hid he;clear hb hlv hev he k0 k1 k3 T1 T2 T HB HS8
   go_wp2
   go_ret2
   exact c_W (by rw [HV.out,HEV.out,if_neg HEN.out]) (by rw [HE.out,HEV.out]) HB2.out
theorem g_t {A B:List Int} {z E:Int} {C:List (List (Int×Int))} (he:E≠0) {w w':World} (hb:Below w.heap.size w w'):e_L (okL E A) (okL E B) (okZ E z) (okL E C) E w (.returned (.tuple #[.agg #[.slice none 0 0,.slice none 0 0,.int .i64 0,.slice none 0 0],.int .i64 E])) w':=by
 rw [d_v he,d_v he,g_l he,d_v he];exact d_n hb
theorem h_E {A B:List Int} {z E:Int} {C:List (List (Int×Int))} (he:E=0) {w w':World} {e:Ending} (h:e_L A B z C 0 w e w'):e_L (okL E A) (okL E B) (okZ E z) (okL E C) E w e w':=by
 rw [l_e he,l_e he,s_4 he,l_e he,he];exact h
def e_d (w:World) (g:Nat) (x y z u:Value):Prop:=(w.cell? ⟨g,0,none⟩=some x∧w.cell? ⟨g,1,none⟩=some y∧w.cell? ⟨g,2,none⟩=some z∧w.cell? ⟨g,3,none⟩=some u)∧w.frozen? ⟨g,0,none⟩=false∧w.frozen? ⟨g,1,none⟩=false∧w.frozen? ⟨g,2,none⟩=false∧w.frozen? ⟨g,3,none⟩=false
theorem c_l {w:World} {x y z u:Value} {t:TypeId} (g:Nat) (hg:g=w.heap.size):e_d (w.alloc (.cells #[x,y,z,u] t)) g x y z u:=
 ⟨⟨a_Y _ _ _ hg rfl,a_Y _ _ _ hg rfl,a_Y _ _ _ hg rfl,a_Y _ _ _ hg rfl⟩,c_o _ _ hg,c_o _ _ hg,c_o _ _ hg,c_o _ _ hg⟩
theorem b_l {w w':World} {g:Nat} {x y z u:Value} (hb:Below w.heap.size w w') (h:e_d w g x y z u):e_d w' g x y z u:=by
 obtain ⟨⟨a,b,c,d⟩,e,f,i,j⟩:=h;exact ⟨⟨a_t hb a,a_t hb b,a_t hb c,a_t hb d⟩,c_a hb a e,c_a hb b f,c_a hb c i,c_a hb d j⟩
theorem g_H {w:World} {g:Nat} {x y z u:Value} (o:Obj) (h:e_d w g x y z u):e_d (w.alloc o) g x y z u:=b_l ((Below.refl _ _).alloc (Nat.le_refl _) _) h
theorem b_A {w:World} {g:Nat} {x y z u:Value} (h:e_d w g x y z u) (x' y' z' u':Value):e_d ((((w.setCell ⟨g,0,none⟩ x').setCell ⟨g,1,none⟩ y').setCell ⟨g,2,none⟩ z').setCell ⟨g,3,none⟩ u') g x' y' z' u':=by
 obtain ⟨⟨a,b,c,d⟩,e,f,i,j⟩:=h;refine ⟨t_n x' y' z' u' (by rw [a];rfl) (by rw [b];rfl) (by rw [c];rfl) (by rw [d];rfl),?_,?_,?_,?_⟩ <;> (simp only [World.frozen?_setCell];assumption)
theorem f_d {W wy:World} {g b o:Nat} {v x y z u:Value} (hb:Below W.heap.size W wy) (hne:b≠g) (h:W.cell? ⟨b,o,none⟩=some v):((((wy.setCell ⟨g,0,none⟩ x).setCell ⟨g,1,none⟩ y).setCell ⟨g,2,none⟩ z).setCell ⟨g,3,none⟩ u).cell? ⟨b,o,none⟩=some v:=by
 have ne:=N202;rw [World.cell?_setCell_other _ _ _ _ (ne _),World.cell?_setCell_other _ _ _ _ (ne _),World.cell?_setCell_other _ _ _ _ (ne _),World.cell?_setCell_other _ _ _ _ (ne _)];exact a_t hb h
theorem i_8 {F:Nat} {w w':World} {g:Nat} {x y z u:Value} (hb:Below F w w') (hg:g < F) (h:e_d w g x y z u):e_d w' g x y z u:=by
 obtain ⟨⟨a,b,c,d⟩,e,f,i,j⟩:=h;exact ⟨⟨(hb.cell (p:=⟨g,0,none⟩) hg).trans a,(hb.cell (p:=⟨g,1,none⟩) hg).trans b,(hb.cell (p:=⟨g,2,none⟩) hg).trans c,(hb.cell (p:=⟨g,3,none⟩) hg).trans d⟩,(hb.frozen (p:=⟨g,0,none⟩) hg).trans e,(hb.frozen (p:=⟨g,1,none⟩) hg).trans f,(hb.frozen (p:=⟨g,2,none⟩) hg).trans i,(hb.frozen (p:=⟨g,3,none⟩) hg).trans j⟩
theorem d_d {w:World} {g:Nat} {x y z u:Value} (h:e_d w g x y z u):g < w.heap.size:=b_d h.1.1
theorem k_b (a a' q:Option Addr) (n c n' c' l d:Nat) (ws ts:List Int) (D:Int) (bs:List (List (Int×Int))) (th x v:Int) (w:World) (S1:Sl w a n ws) (S2:Sl w a' n' ts) (S:Bl w q l bs) (hx:(Lit.int .i64 x).wf=true) :
  Calls Tryz.prog 122 #[.agg #[.slice a n c,.slice a' n' c',.int .i64 D,.slice q l d],.int .i64 th,.int .i64 x,.int .i64 v] w (e_L (okL (b_g ws ts D bs th x) (b_O ws D x v)) (okL (b_g ws ts D bs th x) ts) (okZ (b_g ws ts D bs th x) D) (okL (b_g ws ts D bs th x) (b_J D bs th x v)) (b_g ws ts D bs th x) w):=by
 have HX:=Lib.hid hx;have Hl:=Lib.hid S.1;clear hx
 cases hh:j_D ws ts D bs th with
 | false =>
  have he:b_g ws ts D bs th x=1:=by rw [b_g,if_neg (by rw [hh];decide)]
  rw [he];have HH:=Lib.hid (show (d_o ws ts D bs&&thB bs th)=false from hh);clear hh he
  go_enter Tryz.func122,Tryz.ntmps122
  go_wp2_with fail
  refine (e_l a a' q n c n' c' l d ws ts D th bs _ (slA _ (slA _ (slA _ S1))) (slA _ (slA _ (slA _ S2))) (blA _ (blA _ (blA _ S)))).mono ?_;rintro e w1 ⟨rfl,hb⟩;rw [HH.out];have R:=b_l hb (g_H _ (c_l (w:=w.alloc _) (w.heap.size+1) (by simp)));have HR:=N29;obtain ⟨⟨r0,r1,r2,r3⟩,f0,f1,f2,f3⟩:=R;have HB:=N122;clear hb
  go_wp2
  refine a_m ⟨w.heap.size+1,0,none⟩ rfl rfl rfl (a_9 _ _ _ _ _ _ HR.out.1.1 HR.out.1.2.1 HR.out.1.2.2.1 HR.out.1.2.2.2) ?_;exact g_t (by decide) (a_W (g:=w.heap.size+1) HB.out (by omega) _ _ _ _)
 | true =>
  obtain ⟨hm,h0,h1⟩:=d_j hh;obtain ⟨j,rfl⟩:=N120;have hjl:j < l:=by rw [←Hl.out];omega
  have i1:(0:Int)≤j:=by omega
  have i2:(j:Int) < l:=by omega
  have HH:=Lib.hid (show (d_o ws ts D bs&&thB bs j)=true from hh);have HE:=N93;have hD0:0≤D:=(a_S hm).2.2.1.1;have hD8:D≤8:=(a_S hm).2.2.1.2;have hlD:=N238;have HM:=Lib.hid hm;clear hh hm h0 h1
  go_enter Tryz.func122,Tryz.ntmps122
  go_wp2_with fail
  refine (e_l a a' q n c n' c' l d ws ts D j bs _ (slA _ (slA _ (slA _ S1))) (slA _ (slA _ (slA _ S2))) (blA _ (blA _ (blA _ S)))).mono ?_;rintro e w1 ⟨rfl,hb⟩;rw [HH.out];have hb1:=N6;have R:=b_l hb (g_H _ (c_l (w:=w.alloc _) (w.heap.size+1) (by simp)));have X:=b_l hb (c_l (w:=(w.alloc _).alloc _) (w.heap.size+1+1) (by simp));have T1:=slB hb1 S1;have T2:=slB hb1 S2;have T:=blB hb1 S;have HB:=Lib.hid hb1;obtain ⟨⟨k0,k1,k2,k3⟩,-⟩:=id X;clear hb hb1 S1 S2 S HH
  go_wp2_with fail
  refine (g_M a a' n c n' c' ws ts x _ T1 T2 HX.out).mono ?_;rintro e w2 ⟨rfl,hb⟩;obtain ⟨ev,hev⟩:=mn (a_I ws ts x);obtain ⟨lv,hlv⟩:=mn (b_L ws ts x);have HEV:=Lib.hid hev;rw [hev,hlv];have HB2:=Lib.hid (a_a HB.out hb);replace R:=b_l hb R
  by_cases he:ev=0
  ·subst he;replace X:=b_l hb X;replace T1:=slB hb T1;replace T2:=slB hb T2;replace T:=blB hb T;have hgw2:=d_d R;have hgx2:=d_d X;obtain ⟨W,hW⟩:=nm (w2.alloc (Obj.cells #[.int .i64 x,.int .i64 v] 59));have b2:Below w2.heap.size w2 W:=by rw [hW];exact (Below.refl _ _).alloc (Nat.le_refl _) _
   replace R:=b_l b2 R;replace X:=b_l b2 X;replace T1:=slB b2 T1;replace T2:=slB b2 T2;replace T:=blB b2 T;have p0:W.cell? ⟨w2.heap.size,0,none⟩=some (.int .i64 x):=by rw [hW];exact a_Y _ _ _ rfl rfl
   have p1:W.cell? ⟨w2.heap.size,1,none⟩=some (.int .i64 v):=by rw [hW];exact a_Y _ _ _ rfl rfl
   have hgw:=d_d R;have hgx:=d_d X;have hw2:w.heap.size+1 < w2.heap.size∧w.heap.size+1+1 < w2.heap.size:=⟨hgw2,hgx2⟩;have HW:=Lib.hid hW;have HB3:=Lib.hid (a_a HB2.out b2);have HB3s:=Lib.hid HB3.out.size;have HR:=Lib.hid R;clear hb hlv hev b2 k0 k1 k2 k3 R hW HB HB2;obtain ⟨⟨k0,k1,k2,k3⟩,-⟩:=X
   go_upto_region 8 with fail
   rw [←HW.out]
   by_cases hd:D=0
   ·subst hd;have HES:=N217
    go_wp2_with fail
    have hB0:=N106;have HE0:=Lib.hid HEV.out
    go_region_held3 (fun w'=>(w'.cell? ⟨w.heap.size+1+1,0,none⟩=some (.slice a n c)∧w'.cell? ⟨w.heap.size+1+1,1,none⟩=some (.slice a' n' c')∧w'.cell? ⟨w.heap.size+1+1,2,none⟩=some (.int .i64 0)∧w'.cell? ⟨w.heap.size+1+1,3,none⟩=some (.slice q l d))∧w'.cell? ⟨w2.heap.size,0,none⟩=some (.int .i64 x)∧w'.cell? ⟨w2.heap.size,1,none⟩=some (.int .i64 v))
     (first | exact ⟨⟨k0,k1,k2,k3⟩,p0,p1⟩ | (exact ⟨⟨a_t (by assumption) k0,a_t (by assumption) k1,a_t (by assumption) k2,a_t (by assumption) k3⟩,a_t (by assumption) p0,a_t (by assumption) p1⟩) | (exact ⟨⟨f_d (by assumption) (by omega) k0,f_d (by assumption) (by omega) k1,f_d (by assumption) (by omega) k2,f_d (by assumption) (by omega) k3⟩,f_d (by assumption) (by omega) p0,f_d (by assumption) (by omega) p1⟩))
     ((first | (go_at_call 67;refine (e_s a a' q n c n' c' l d ws ts 0 bs _ (slB (by assumption) T1) (slB (by assumption) T2) (blB (by assumption) T) HM.out).mono ?_;rintro e wx ⟨p,m,d1,p',m',d2,y,l2,rfl,u1,u2,O,hbx⟩;have hbx':=a_a (by assumption) hbx) | (go_at_call 149;refine (i_m p p' (some ⟨y,0,none⟩) m d1 m' d2 l2 l2 ws ts 0 x v _ u1.sl u2.sl HX.out HEV.out).mono ?_;rintro e wy ⟨p3,m3,d3,p4,m4,d4,rfl,u3,u4,hby⟩;have hby':=a_a (by assumption) hby;obtain ⟨⟨r0,r1,r2,r3⟩,f0,f1,f2,f3⟩:=b_l hby' HR.out)))
    have H4:=Lib.hid (b_A (b_l hby' HR.out) (.slice p3 m3 d3) (.slice p4 m4 d4) (.int .i64 0) (.slice (some ⟨y,0,none⟩) l2 l2));have HZ:=Lib.hid (h_E HES.out (g_s (F:=W.heap.size) (g:=w.heap.size+1) (ws:=b_O ws 0 x v) (ts:=ts) (D:=0) (bs:=b_J 0 bs j x v) (x:=0) (y0:=.slice p3 m3 d3) (y1:=.slice p4 m4 d4) (y2:=.int .i64 0) (y3:=.slice (some ⟨y,0,none⟩) l2 l2) (d:=d3) (d':=d4) (e:=l2) hgw (by omega) (Q:=fun b=>wx.heap.size≤b) (fun b h=>Nat.le_trans hbx'.size h) (c_M (fun _ h=>h) u3) (c_M (fun _ h=>h) u4) (n_z hby (i_C O)) (a_a HB3.out hby')));clear u1 u2 u3 u4 O hbx hby hbx' hby' hB0 p0 p1 k0 k1 k2 k3 T1 T2 T;exact J99
   ·have q1:(D==0)=false:=by simpa using hd
    have HDN:=Lib.hid hd;obtain ⟨b,o,y,yc,rfl,g0,hcap,hp⟩:=g_5 T hjl;obtain ⟨ps,hps⟩:=mn (bs.getD j []);rw [hps] at g0 hp hcap hlD;have HPS:=Lib.hid hps;obtain ⟨m,hm⟩:=mn (ps.length);rw [hm] at g0 hp hcap hlD;have ⟨HPL,HCAP⟩:=hh2 hm hcap;have hm8:m≤8:=by omega
    have HPE:=Lib.hid (show e_j m D=if (m:Int)=D then 7 else 0 by rw [e_j,if_neg (by omega)]);clear hps hm hcap hd
    go_wp2_with fail
    have hB0:=N106
    go_region_held3 (fun w'=>(w'.cell? ⟨w.heap.size+1+1,2,none⟩=some (.int .i64 D)∧w'.cell? ⟨w.heap.size+1+1,3,none⟩=some (.slice (some ⟨b,o,none⟩) l d))∧w'.cell? ⟨b,o+j,none⟩=some (.slice y m yc)∧w'.cell? ⟨w2.heap.size,0,none⟩=some (.int .i64 x)∧w'.cell? ⟨w2.heap.size,1,none⟩=some (.int .i64 v))
     (first | exact ⟨⟨k2,k3⟩,g0,p0,p1⟩ | (exact ⟨⟨a_t (by assumption) k2,a_t (by assumption) k3⟩,a_t (by assumption) g0,a_t (by assumption) p0,a_t (by assumption) p1⟩))
     ((go_at_call 150;refine (q_b y m yc ps D x v _ (plB (by assumption) hp) HCAP.out).mono ?_;rintro e wx ⟨r,rc,rfl,hrc,u0,hbx⟩;have hbx':=a_a (by assumption) hbx))
    have hsz:W.heap.size≤wx.heap.size:=hbx'.size;replace T1:=slB hbx' T1;replace T2:=slB hbx' T2;replace T:=blB hbx' T;replace k0:=a_t hbx' k0;replace k1:=a_t hbx' k1;replace k2:=a_t hbx' k2;replace k3:=a_t hbx' k3;have R:=b_l hbx' HR.out;have HBX:=Lib.hid (a_a HB3.out hbx')
    by_cases hf:(m:Int)=D
    ·have HES:=N155;have HP7:=Lib.hid (show e_j m D=7 by rw [HPE.out,if_pos hf]);rw [HP7.out];have HZ:=N29;obtain ⟨⟨r0,r1,r2,r3⟩,f0,f1,f2,f3⟩:=R;clear hf u0 hbx hbx' hB0 k0 k1 k2 k3 T1 T2 T hp g0 p0 p1 hrc HPE
     go_wp2
     refine a_m ⟨w.heap.size+1,0,none⟩ rfl rfl rfl (a_9 _ _ _ _ _ _ HZ.out.1.1 HZ.out.1.2.1 HZ.out.1.2.2.1 HZ.out.1.2.2.2) ?_;rw [HES.out];exact g_t (by decide) (a_W (g:=w.heap.size+1) HBX.out (by omega) _ _ _ _)
    ·have HES:=N156;have HP0:=Lib.hid (show e_j m D=0 by rw [HPE.out,if_neg hf]);have hL:e_1 ps D (x,v)=ps++[(x,v)]:=by rw [e_1,HPL.out,HP0.out,if_pos rfl]
     rw [HP0.out];rw [hL] at u0 hrc ⊢;have hm1:(ps++[(x,v)]).length=m+1:=by rw [List.length_append,HPL.out];rfl
     rw [hm1] at u0 hrc ⊢;have HTW:=Lib.hid (show b_O ws D x v=ws by rw [b_O,if_neg HDN.out]);have HTB:=N158;have ⟨U0,HRC,HRR⟩:=hh3 u0 hrc R;clear hf hL hm1 u0 hrc hbx hbx' hB0 g0 p0 p1 hp HPE R HR HB3
     go_wp2_with fail
     refine (e_s a a' (some ⟨b,o,none⟩) n c n' c' l d ws ts D bs _ T1 T2 T HM.out).mono ?_;rintro e wz ⟨p,m1,d1,p',m2,d2,g,l2,rfl,u1,u2,O,hbz⟩;have hgz:wx.heap.size≤g:=O.2.1;have hl2:l2=l:=by rw [←O.1,Hl.out]
     subst hl2;have O2:=j_u (F':=W.heap.size) (by omega) O;have hp0:PlQ (fun z=>W.heap.size≤z∧z≠g) wz r (m+1) (ps++[(x,v)]):=u_X hbz (p_o (fun z h1 h2=>⟨h1,by omega⟩) U0.out);have ⟨U1,U2,HO,HP,HBZ⟩:=hh5 u1 u2 O2 hp0 hbz;clear O O2 hp0 hbz u1 u2 T1 T2 T k0 k1 k2 k3
     go_wp2_with fail
     refine (q_P W.heap.size g l2 p p' m1 d1 m2 d2 D bs j r (m+1) rc (ps++[(x,v)]) _ HO.out hjl HP.out HRC.out).mono ?_;rintro e wh ⟨rfl,O3,K3,hbh⟩;have R3:=i_8 hbh (by omega) (b_l HBZ.out HRR.out);have hfd:=j_B wh (.slice p m1 d1) (.slice p' m2 d2) (.int .i64 D) (.slice (some ⟨g,0,none⟩) l2 l2);have H4:=Lib.hid (b_A R3 (.slice p m1 d1) (.slice p' m2 d2) (.int .i64 D) (.slice (some ⟨g,0,none⟩) l2 l2));have HZ:=Lib.hid (h_E HES.out (g_s (F:=W.heap.size) (g:=w.heap.size+1) (ws:=b_O ws D x v) (ts:=ts) (D:=D) (bs:=b_J D bs j x v) (x:=0) (y0:=.slice p m1 d1) (y1:=.slice p' m2 d2) (y2:=.int .i64 D) (y3:=.slice (some ⟨g,0,none⟩) l2 l2) (d:=d1) (d':=d2) (e:=l2) hgw (by omega) (Q:=fun b=>wx.heap.size≤b∧b≠g) (fun b h=>Nat.le_trans hsz h.1) (by rw [HTW.out];exact a_r (fun b o u hq hu=>K3 b o u hq.2 hu) U1.out) (a_r (fun b o u hq hu=>K3 b o u hq.2 hu) U2.out) (by rw [HTB.out];exact i_C O3) ((a_a HBX.out HBZ.out).trans (hbh.mono (by have:=HB3s.out;omega)))));obtain ⟨⟨r0,r1,r2,r3⟩,f0,f1,f2,f3⟩:=R3;clear O3 K3 hbh;exact J99
  ·have q1:=N129;have HR:=N29;obtain ⟨⟨r0,r1,r2,r3⟩,f0,f1,f2,f3⟩:=R;have HEN:=Lib.hid he;have HES:=Lib.hid (show b_g ws ts D bs j x=ev by rw [HE.out,HEV.out,if_neg he]);clear hb hlv hev he k0 k1 k2 k3 X T1 T2 T HB hlD hD0 hD8
   go_wp2
   refine a_m ⟨w.heap.size+1,0,none⟩ rfl rfl rfl (a_9 _ _ _ _ _ _ HR.out.1.1 HR.out.1.2.1 HR.out.1.2.2.1 HR.out.1.2.2.2) ?_;rw [HES.out];exact g_t HEN.out (a_W (g:=w.heap.size+1) HB2.out (by omega) _ _ _ _)
end Go.Proofs.YtogdpojnbgeknaaGreatDoor
