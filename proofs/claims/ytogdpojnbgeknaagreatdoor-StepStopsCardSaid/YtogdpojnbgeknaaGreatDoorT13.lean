import Derived.Test.YtogdpojnbgeknaaGreatDoorT12
import Derived.Test.YtogdpojnbgeknaaGreatDoorT0
import Derived.Test.YtogdpojnbgeknaaGreatDoorT10
import Derived.RangeFuncNested
import Derived.RangeFuncBox
import Derived.RangeFuncBound
import Derived.RangeFuncCalls
import Derived.RangeFuncLeaves
import Derived.OwnWalkIn
import Derived.TacticsInMore
import Derived.LoopNIn
import Derived.LoopIn
set_option maxRecDepth 100000
set_option maxHeartbeats 16000000
namespace Go.Proofs.YtogdpojnbgeknaaGreatDoor
open Go.ChangeShapes Go.WideShapes Go.ChangeAt Go.RowKit
def l_l (F g m:Nat) (v:Value) (bs:List (List (Int×Int))) (w:World) (e:Ending) (w':World):Prop:=
 e=.returned v∧i_V F g m m bs w'∧(∀ (b o:Nat) (u:Value),b≠g→w.cell? ⟨b,o,none⟩=some u→w'.cell? ⟨b,o,none⟩=some u)∧Below F w w'
theorem q_c {F g m th:Nat} {bs:List (List (Int×Int))} {w Z:World} {p:Option Addr} {k kc:Nat} {b:List (Int×Int)} (O:i_V F g m m bs w) (hth:th < m) (hp:PlQ (fun x=>F≤x∧x≠g) w p k b) (hc:d_v p k kc) (hz:g < Z.heap.size)
  (K1:∀ (b o:Nat) (u:Value),b≠g→w.cell? ⟨b,o,none⟩=some u→Z.cell? ⟨b,o,none⟩=some u) (K2:∀ i,i≠th→∀ u,w.cell? ⟨g,i,none⟩=some u→Z.cell? ⟨g,i,none⟩=some u) (K3:Z.cell? ⟨g,th,none⟩=some (.slice p k kc)) (K4:∀ i,i < m→Z.frozen? ⟨g,i,none⟩=false) :
  i_V F g m m (bs.set th b) Z:=by
 obtain ⟨h1,h2,h3,h4,h5,h6⟩:=O;refine ⟨by rw [List.length_set];exact h1,h2,hz,fun i hi=>?_,fun i hk hi=>by omega,K4⟩;have hkp:∀ (x o:Nat) (v:Value),(F≤x∧x≠g)→w.cell? ⟨x,o,none⟩=some v→Z.cell? ⟨x,o,none⟩=some v:=fun x o v hq hv=>K1 x o v hq.2 hv
 by_cases e:i=th
 ·subst e;obtain rfl:b.length=k:=hp.1;have e2:(bs.set i b).getD i []=b:=by simp [List.getD_eq_getElem?_getD,h1,hth]
  rw [e2];exact ⟨p,kc,K3,hc,g_I hkp hp⟩
 ·have e2:(bs.set th b).getD i []=bs.getD i []:=by simp only [List.getD_eq_getElem?_getD];rw [List.getElem?_set_ne (fun h=>e h.symm)]
  rw [e2];exact d_K (K2 i e) hkp (h4 i hi)
theorem q_v (F g m:Nat) (a a':Option Addr) (n c n' c':Nat) (D:Int) (bs:List (List (Int×Int))) (th:Nat) (p:Option Addr) (k kc:Nat) (b:List (Int×Int)) (w:World) (O:i_V F g m m bs w) (hth:th < m) (hp:PlQ (fun x=>F≤x∧x≠g) w p k b) (hc:d_v p k kc) :
  Calls Tryz.prog 151 #[.agg #[.slice a n c,.slice a' n' c',.int .i64 D,.slice (some ⟨g,0,none⟩) m m],.int .i64 th,.slice p k kc] w (l_l F g m (.agg #[.slice a n c,.slice a' n' c',.int .i64 D,.slice (some ⟨g,0,none⟩) m m]) (bs.set th b) w):=by
 have i1:(0:Int)≤th:=by omega
 have i2:(th:Int) < m:=by omega
 obtain ⟨W,hW⟩:=nm ((w.alloc (Obj.cells #[.slice a n c,.slice a' n' c',.int .i64 D,.slice (some ⟨g,0,none⟩) m m] 109)).alloc (Obj.cells #[.slice none 0 0,.slice none 0 0,.int .i64 0,.slice none 0 0] 109));have hgw:g < w.heap.size:=O.2.2.1;have hFg:F≤g:=O.2.1;have b0:=N2;have O1:=r_I b0 O;have c0:=i_9 O1 hth;have c1:=O1.2.2.2.2.2 th hth;obtain ⟨X,hX⟩:=nm (W.setCell ⟨g,th,none⟩ (.slice p k kc));have ne:∀ {b o:Nat},b≠g→(⟨g,th,none⟩:Addr)≠⟨b,o,none⟩:=fun h e=>h (congrArg Addr.block e).symm
 have keepX:∀ (b o:Nat) (u:Value),b≠g→W.cell? ⟨b,o,none⟩=some u→X.cell? ⟨b,o,none⟩=some u:=by
  intro b o u hb hu;rw [hX,World.cell?_setCell_other _ _ _ _ (ne hb)];exact hu
 have k3':W.cell? ⟨w.heap.size,3,none⟩=some (.slice (some ⟨g,0,none⟩) m m):=by rw [hW];exact b_a _ (by simp)
 have k0:X.cell? ⟨w.heap.size,0,none⟩=some (.slice a n c):=keepX _ _ _ (by omega) (by rw [hW];exact b_a _ (by simp));have k1:X.cell? ⟨w.heap.size,1,none⟩=some (.slice a' n' c'):=keepX _ _ _ (by omega) (by rw [hW];exact b_a _ (by simp));have k2:X.cell? ⟨w.heap.size,2,none⟩=some (.int .i64 D):=keepX _ _ _ (by omega) (by rw [hW];exact b_a _ (by simp));have k3:X.cell? ⟨w.heap.size,3,none⟩=some (.slice (some ⟨g,0,none⟩) m m):=keepX _ _ _ (by omega) k3';have r0:X.cell? ⟨w.heap.size+1,0,none⟩=some (.slice none 0 0):=keepX _ _ _ (by omega) (by rw [hW];simp);have r1:X.cell? ⟨w.heap.size+1,1,none⟩=some (.slice none 0 0):=keepX _ _ _ (by omega) (by rw [hW];simp);have r2:X.cell? ⟨w.heap.size+1,2,none⟩=some (.int .i64 0):=keepX _ _ _ (by omega) (by rw [hW];simp);have r3:X.cell? ⟨w.heap.size+1,3,none⟩=some (.slice none 0 0):=keepX _ _ _ (by omega) (by rw [hW];simp);have ff:∀ i,X.frozen? ⟨w.heap.size+1,i,none⟩=false:=by intro i;rw [hX,World.frozen?_setCell,hW];exact b_C (a_4 _ _ _ (by simp))
 have f0:=ff 0;have f1:=ff 1;have f2:=ff 2;have f3:=ff 3;have R4:=s_2 (w:=X) (g:=w.heap.size+1) (.slice a n c) (.slice a' n' c') (.int .i64 D) (.slice (some ⟨g,0,none⟩) m m) (by rw [r0];rfl) (by rw [r1];rfl) (by rw [r2];rfl) (by rw [r3];rfl)
 have HP:Hid (l_l F g m (.agg #[.slice a n c,.slice a' n' c',.int .i64 D,.slice (some ⟨g,0,none⟩) m m]) (bs.set th b) w (.returned (.agg #[.slice a n c,.slice a' n' c',.int .i64 D,.slice (some ⟨g,0,none⟩) m m])) ((((X.setCell ⟨w.heap.size+1,0,none⟩ (.slice a n c)).setCell ⟨w.heap.size+1,1,none⟩ (.slice a' n' c')).setCell ⟨w.heap.size+1,2,none⟩ (.int .i64 D)).setCell ⟨w.heap.size+1,3,none⟩ (.slice (some ⟨g,0,none⟩) m m))):=by
  have ne2:∀ (j b o:Nat),b≠w.heap.size+1→(⟨w.heap.size+1,j,none⟩:Addr)≠⟨b,o,none⟩:=fun j b o h e=>h (congrArg Addr.block e).symm
  have keepZ:∀ (b o:Nat) (u:Value),b≠g→w.cell? ⟨b,o,none⟩=some u→((((X.setCell ⟨w.heap.size+1,0,none⟩ (.slice a n c)).setCell ⟨w.heap.size+1,1,none⟩ (.slice a' n' c')).setCell ⟨w.heap.size+1,2,none⟩ (.int .i64 D)).setCell ⟨w.heap.size+1,3,none⟩ (.slice (some ⟨g,0,none⟩) m m)).cell? ⟨b,o,none⟩=some u:=by
   intro b o u hb hu;have hlt:b < w.heap.size:=b_c hu;rw [World.cell?_setCell_other _ _ _ _ (ne2 _ _ _ (by omega)),World.cell?_setCell_other _ _ _ _ (ne2 _ _ _ (by omega)),World.cell?_setCell_other _ _ _ _ (ne2 _ _ _ (by omega)),World.cell?_setCell_other _ _ _ _ (ne2 _ _ _ (by omega))];exact keepX _ _ _ hb (a_u b0 hu)
  have keepG:∀ (i:Nat) (u:Value),X.cell? ⟨g,i,none⟩=some u→((((X.setCell ⟨w.heap.size+1,0,none⟩ (.slice a n c)).setCell ⟨w.heap.size+1,1,none⟩ (.slice a' n' c')).setCell ⟨w.heap.size+1,2,none⟩ (.int .i64 D)).setCell ⟨w.heap.size+1,3,none⟩ (.slice (some ⟨g,0,none⟩) m m)).cell? ⟨g,i,none⟩=some u:=by
   intro i u hu;rw [World.cell?_setCell_other _ _ _ _ (ne2 _ _ _ (by omega)),World.cell?_setCell_other _ _ _ _ (ne2 _ _ _ (by omega)),World.cell?_setCell_other _ _ _ _ (ne2 _ _ _ (by omega)),World.cell?_setCell_other _ _ _ _ (ne2 _ _ _ (by omega))];exact hu
  have hx:Below F w X:=by rw [hX];exact (b0.mono (by omega)).setCell (by simpa using hFg) _
  have hB:Below F w ((((X.setCell ⟨w.heap.size+1,0,none⟩ (.slice a n c)).setCell ⟨w.heap.size+1,1,none⟩ (.slice a' n' c')).setCell ⟨w.heap.size+1,2,none⟩ (.int .i64 D)).setCell ⟨w.heap.size+1,3,none⟩ (.slice (some ⟨g,0,none⟩) m m)):=
   (((hx.setCell (by simp;omega) _).setCell (by simp;omega) _).setCell (by simp;omega) _).setCell (by simp;omega) _
  refine ⟨rfl,q_c O hth hp hc ?_ keepZ ?_ ?_ ?_,keepZ,hB⟩
  ·have:=hB.size;omega
  ·intro i hi u hu;refine keepG i u ?_;rw [hX,World.cell?_setCell_other]
   ·exact a_u b0 hu
   ·intro e;exact hi (congrArg Addr.off e).symm
  ·refine keepG th _ ?_;rw [hX];exact World.cell?_setCell_same' _ _ _ c0
  ·intro i hi;rw [World.frozen?_setCell,World.frozen?_setCell,World.frozen?_setCell,World.frozen?_setCell,hX,World.frozen?_setCell];exact O1.2.2.2.2.2 i hi
 have HR:=Lib.hid R4;clear ff keepX ne O1 b0 O hp hc R4;have HW:=Lib.hid hW;clear hW;obtain ⟨cv,hcv⟩:=Option.isSome_iff_exists.1 c0;clear c0;subst hX
 go_enter Tryz.func151,Tryz.ntmps151
 go_upto_region 1 with fail
 rw [←HW.out]
 go_wp2
 refine a_V ⟨w.heap.size+1,0,none⟩ rfl rfl rfl (l_O _ _ _ _ _ _ HR.out.1 HR.out.2.1 HR.out.2.2.1 HR.out.2.2.2) ?_;exact HP.out
theorem a_U {k g:Nat} {w W:World} (hb:Below k w W) (hg:k≤g) (x y z u:Value):Below k w ((((W.setCell ⟨g,0,none⟩ x).setCell ⟨g,1,none⟩ y).setCell ⟨g,2,none⟩ z).setCell ⟨g,3,none⟩ u):=
 (((hb.setCell (p:=⟨g,0,none⟩) hg _).setCell (p:=⟨g,1,none⟩) hg _).setCell (p:=⟨g,2,none⟩) hg _).setCell (p:=⟨g,3,none⟩) hg _
def e_B (ws ts:List Int) (D:Int) (bs:List (List (Int×Int))) (x:Int) (w:World) (e:Ending) (w':World):Prop:=
 ∃ a n c a' n' c' q l d,e=.returned (.tuple #[.agg #[.slice a n c,.slice a' n' c',.int .i64 D,.slice q l d],.int .i64 x])∧SlF w.heap.size w' a n ws∧SlF w.heap.size w' a' n' ts∧BlP (fun b=>w.heap.size≤b) w' q l bs∧Below w.heap.size w w'
theorem d_j {x:Int} {w w':World} (hb:Below w.heap.size w w'):e_B [] [] 0 [] x w (.returned (.tuple #[.agg #[.slice none 0 0,.slice none 0 0,.int .i64 0,.slice none 0 0],.int .i64 x])) w':=
 ⟨_,_,_,_,_,_,_,_,_,rfl,h_l _ _,h_l _ _,g_V _ _,hb⟩
def m_l (ws ts:List Int) (D:Int) (q:Option Addr) (l d:Nat) (w:World) (e:Ending) (w':World):Prop:=
 ∃ a n c a' n' c',e=.returned (.tuple #[.agg #[.slice a n c,.slice a' n' c',.int .i64 D,.slice q l d],.int .i64 0])∧SlF w.heap.size w' a n ws∧SlF w.heap.size w' a' n' ts∧Below w.heap.size w w'
theorem h_7 (a a' q:Option Addr) (n c n' c' l d:Nat) (ws ts:List Int) (D x v:Int) (w:World) (S1:Sl w a n ws) (S2:Sl w a' n' ts) (hx:(Lit.int .i64 x).wf=true) (hu:a_I ws ts x=0) :
  Calls Tryz.prog 149 #[.agg #[.slice a n c,.slice a' n' c',.int .i64 D,.slice q l d],.agg #[.int .i64 x,.int .i64 v]] w (m_l (ws.set x.toNat v) ts D q l d w):=by
 have ⟨HE,HX⟩:=hh2 hu hx;have H1:=Lib.hid (show c_q ws ts x v=ws.set x.toNat v by rw [c_q,if_pos hu]);have H2:=Lib.hid (show c_p ws ts x=ts by rw [c_p,if_pos hu]);clear hx hu
 go_enter Tryz.func149,Tryz.ntmps149
 go_wp2_with fail
 refine (n_E a a' n c n' c' ws ts x v _ (slA _ (slA _ (slA _ S1))) (slA _ (slA _ (slA _ S2))) HX.out).mono ?_;rintro e w1 ⟨p,m,e1,p',m',e2,rfl,u1,u2,hb⟩;rw [HE.out];rw [H1.out] at u1;rw [H2.out] at u2;have hb1:=N11;have k2:w1.cell? ⟨w.heap.size,2,none⟩=some (.int .i64 D):=a_u hb (b_a _ (b_a _ (by simp)));have k0:w1.cell? ⟨w.heap.size,0,none⟩=some (.slice a n c):=a_u hb (b_a _ (b_a _ (by simp)));have k1:w1.cell? ⟨w.heap.size,1,none⟩=some (.slice a' n' c'):=a_u hb (b_a _ (b_a _ (by simp)));have k3:w1.cell? ⟨w.heap.size,3,none⟩=some (.slice q l d):=a_u hb (b_a _ (b_a _ (by simp)));have fk:∀ i,w1.frozen? ⟨w.heap.size,i,none⟩=false:=by intro i;rw [hb.frozen (p:=⟨w.heap.size,i,none⟩) (by simp;omega)];exact b_C ((b_q _ _ _ (by simp;omega)).trans ((b_q _ _ _ (by simp)).trans (a_4 _ _ _ rfl)))
 have r0:w1.cell? ⟨w.heap.size+1+1,0,none⟩=some (.slice none 0 0):=a_u hb (a_W _ _ _ (by simp) rfl);have r1:w1.cell? ⟨w.heap.size+1+1,1,none⟩=some (.slice none 0 0):=a_u hb (a_W _ _ _ (by simp) rfl);have r2:w1.cell? ⟨w.heap.size+1+1,2,none⟩=some (.int .i64 0):=a_u hb (a_W _ _ _ (by simp) rfl);have r3:w1.cell? ⟨w.heap.size+1+1,3,none⟩=some (.slice none 0 0):=a_u hb (a_W _ _ _ (by simp) rfl);have ff:∀ i,w1.frozen? ⟨w.heap.size+1+1,i,none⟩=false:=by intro i;rw [hb.frozen (p:=⟨w.heap.size+1+1,i,none⟩) (by simp)];exact b_C (a_4 _ _ _ (by simp))
 have hs:w.heap.size+1+1 < w1.heap.size:=b_c r0;have hsz:w.heap.size+3≤w1.heap.size:=by omega
 obtain ⟨W,hW⟩:=nm (((w1.alloc (Obj.cells #[.slice p m e1,.slice p' m' e2] 26)).setCell ⟨w.heap.size,0,none⟩ (.slice p m e1)).setCell ⟨w.heap.size,1,none⟩ (.slice p' m' e2));have b2:Below w.heap.size w W:=by rw [hW];exact ((hb1.alloc hb1.size _).setCell (by simp) _).setCell (by simp) _
 have ne:∀ j i,(⟨w.heap.size,j,none⟩:Addr)≠⟨w.heap.size+1+1,i,none⟩:=fun j i e=>by have h:=congrArg Addr.block e;dsimp only at h;omega
 have keep:∀ (b o:Nat) (u:Value),b≠w.heap.size→w1.cell? ⟨b,o,none⟩=some u→W.cell? ⟨b,o,none⟩=some u:=by
  intro b o u hne hu;have ne2:∀ j,(⟨w.heap.size,j,none⟩:Addr)≠⟨b,o,none⟩:=fun j e=>hne (congrArg Addr.block e).symm
  rw [hW,World.cell?_setCell_other _ _ _ _ (ne2 _),World.cell?_setCell_other _ _ _ _ (ne2 _)];exact b_a _ hu
 have a0:=b_a (Obj.cells #[.slice p m e1,.slice p' m' e2] 26) k0;have a1:=b_a (Obj.cells #[.slice p m e1,.slice p' m' e2] 26) k1;have a2:=b_a (Obj.cells #[.slice p m e1,.slice p' m' e2] 26) k2;have a3:=b_a (Obj.cells #[.slice p m e1,.slice p' m' e2] 26) k3;have g0:=(d_F (k:=0) (Obj.cells #[.slice p m e1,.slice p' m' e2] 26) (show w.heap.size < w1.heap.size by omega)).trans (fk 0);have g1:=(d_F (k:=1) (Obj.cells #[.slice p m e1,.slice p' m' e2] 26) (show w.heap.size < w1.heap.size by omega)).trans (fk 1);have K0:W.cell? ⟨w.heap.size,0,none⟩=some (.slice p m e1):=by rw [hW];exact r_S _ _ (by rw [a0];rfl)
 have K1:W.cell? ⟨w.heap.size,1,none⟩=some (.slice p' m' e2):=by rw [hW];exact r_T _ _ (by rw [a1];rfl)
 have ne3:∀ j i,j≠i→(⟨w.heap.size,j,none⟩:Addr)≠⟨w.heap.size,i,none⟩:=fun j i h e=>h (congrArg Addr.off e)
 have K2:W.cell? ⟨w.heap.size,2,none⟩=some (.int .i64 D):=by rw [hW,World.cell?_setCell_other _ _ _ _ (ne3 _ _ (by decide)),World.cell?_setCell_other _ _ _ _ (ne3 _ _ (by decide))];exact a2
 have K3:W.cell? ⟨w.heap.size,3,none⟩=some (.slice q l d):=by rw [hW,World.cell?_setCell_other _ _ _ _ (ne3 _ _ (by decide)),World.cell?_setCell_other _ _ _ _ (ne3 _ _ (by decide))];exact a3
 have R0:=keep _ _ _ (by omega) r0;have R1:=keep _ _ _ (by omega) r1;have R2:=keep _ _ _ (by omega) r2;have R3:=keep _ _ _ (by omega) r3;have fr:∀ i,W.frozen? ⟨w.heap.size+1+1,i,none⟩=false:=by intro i;rw [hW,World.frozen?_setCell,World.frozen?_setCell];exact (d_F _ hs).trans (ff i)
 have f0:=fr 0;have f1:=fr 1;have f2:=fr 2;have f3:=fr 3;have ⟨HW,HB⟩:=hh2 hW b2;have HR:=Lib.hid (s_2 (w:=W) (g:=w.heap.size+1+1) (.slice p m e1) (.slice p' m' e2) (.int .i64 D) (.slice q l d) (by rw [R0];rfl) (by rw [R1];rfl) (by rw [R2];rfl) (by rw [R3];rfl));have U1:=Lib.hid (a_r (Q:=fun b=>w.heap.size+3≤b) (fun b o u hq hu=>keep b o u (by omega) hu) (show SlP (fun b=>w.heap.size+3≤b) w1 p m (ws.set x.toNat v) from c_K (fun b hb=>by simp at hb;omega) u1));have U2:=Lib.hid (a_r (Q:=fun b=>w.heap.size+3≤b) (fun b o u hq hu=>keep b o u (by omega) hu) (show SlP (fun b=>w.heap.size+3≤b) w1 p' m' ts from c_K (fun b hb=>by simp at hb;omega) u2));clear hb hb1 hW b2 ff u1 u2 S1 S2 ne ne3 keep fr fk k0 k1 k2 k3 r0 r1 r2 r3
 go_upto_region 5 with fail
 rw [←HW.out];clear a0 a1 a2 a3 g0 g1
 go_wp2
 refine a_l ⟨w.heap.size+1+1,0,none⟩ rfl rfl rfl (a_7 _ _ _ _ _ _ HR.out.1 HR.out.2.1 HR.out.2.2.1 HR.out.2.2.2) ?_;have hk:∀ (b:Nat),w.heap.size+3≤b→b≠w.heap.size+1+1:=fun b h=>by omega
 refine ⟨_,_,_,_,_,_,rfl,?_,?_,a_U (g:=w.heap.size+1+1) HB.out (by omega) _ _ _ _⟩
 ·exact r_b (fun b hb=>by omega) (c_w _ hk _ (c_w _ hk _ (c_w _ hk _ (c_w _ hk _ U1.out))))
 ·exact r_b (fun b hb=>by omega) (c_w _ hk _ (c_w _ hk _ (c_w _ hk _ (c_w _ hk _ U2.out))))
attribute [local go_sem] Oper.semAt_some
def l_b {α:Type} (f:Nat→α) (k:Nat):List α:=(List.range k).map f
theorem j_O {α:Type} (f:Nat→α) (k:Nat):l_b f (k+1)=l_b f k++[f k]:=by simp [l_b,List.range_succ]
theorem l_c {α:Type} (f:Nat→α) (k:Nat):(l_b f k).length=k:=by simp [l_b]
theorem m_f {α:Type} (f:Nat→α) (k j:Nat) (h:j < k):f j∈l_b f k:=by
 simp only [l_b,List.mem_map,List.mem_range];exact ⟨j,h,rfl⟩
def d_J (ps:List (Int×Int)) (j:Nat):Int×(Int×Int):=((ps.length:Int) - 1 - j,ps.getD (ps.length - 1 - j) (0,0))
def KpB (n₀ Bs:Nat) (W W':World):Prop:=Below n₀ W W'∧∀ v,W.cell? ⟨Bs,0,none⟩=some v→W'.cell? ⟨Bs,0,none⟩=some v
theorem l_M (n₀ Bs:Nat) (W:World):KpB n₀ Bs W W:=⟨Below.refl _ _,fun _ h=>h⟩
theorem t_O {n₀ Bs:Nat} {A B C:World} (h:KpB n₀ Bs A B) (k:KpB n₀ Bs B C):KpB n₀ Bs A C:=⟨h.1.trans k.1,fun v e=>k.2 v (h.2 v e)⟩
theorem u_j {n₀ Bs:Nat} {w:World} (hn:n₀≤w.heap.size):∀ (W:World) (l:Nat) (o o':Obj),w.heap.size≤l→W.heap[l]?=some o→o.isCells=false→o.isWalk=false→KpB n₀ Bs W (W.putObj l o'):=
 fun W l o o' hl ho hc hw=>⟨belowK_b hn W l o o' hl ho hc hw,fun v e=>cell_kept e (grownBy_putObj' W l o') (fun r h=>by cases h;exact ⟨o,ho,hc⟩)⟩
def r_J (x:Int×(Int×Int)):Array Value:=#[.int .i64 x.1,.agg #[.int .i64 x.2.1,.int .i64 x.2.2]]
theorem p_7 (F:Fence) (n:Nat) (h8:F.fn 168) (hro:F.round=none) (hn:1≤n) (l Bs n₀ b off len cap:Nat) (ps:List (Int×Int)) (hreach:len≤9223372036854775807) (hps:ps.length=len) (hb:b < n₀) (J Jx:List (Int×(Int×Int))→World→Prop)
  (hY:∀ pre x W,J pre W→pre.length < len→YieldAt F (n - 1) Tryz.prog l #[.int .i64 x.1,.agg #[.int .i64 x.2.1,.int .i64 x.2.2]] W fun e W' =>
   (e=.returned (.bool true)∧J (pre++[x]) W'∧KpB n₀ Bs W W')∨(e=.returned (.bool false)∧Jx (pre++[x]) W'))
  (W:World) (hBs:W.cell? ⟨Bs,0,none⟩=some (.slice (some ⟨b,off,none⟩) len cap)) (hc:p_V W b off ps) (h0:J [] W) :
  CallsIn F n Tryz.prog 168 #[.func (.yield l) #[] #[],.pointer (some ⟨Bs,0,none⟩)] W fun e W'=>(∃ v,e=.returned v) ∧
   ((∃ ys,ys=l_b (d_J ps) len∧J ys W')∨(∃ pre,(∃ k,k≤len∧pre=l_b (d_J ps) k)∧Jx pre W')):=by
 have Hps:=Lib.hid hps;clear hps;refine callsIn_of_wp Tryz.func168 rfl h8 ?_ hro;simp only [Tryz.ntmps168,List.size_toArray,List.length_cons,List.length_nil,Nat.reduceAdd,Nat.reduceSub,Array.replicate_succ,Array.replicate_zero,List.push_toArray,List.append_toArray,List.nil_append,List.cons_append]
 gi_wp2
 gi_loopw [3] (fun i wr=>∃ (m:Nat) (z:Int),m≤len∧z=m - 1∧i=.int .i64 z∧J (l_b (d_J ps) (len - m)) wr∧Hid (KpB n₀ Bs W wr))
  (fun i _=>(intOf i+1).toNat)
 case atStart=>exact ⟨len,(len:Int) - 1,Nat.le_refl _,rfl,rfl,by rw [Nat.sub_self];exact h0,l_M _ _ _⟩
 case round =>
  obtain ⟨m,z,hm,hz,rfl,hJs,hnx⟩:=hrel;have hBs':=hnx.out.2 _ hBs
  cases m with
  | succ k =>
   obtain rfl:z=(k:Int):=by omega
   have hx:=hc k (by rw [Hps.out];omega);have hx1:=(hnx.out.1.cell (p:=⟨b,off+k*2,none⟩) hb).trans hx.1;have hx2:=(hnx.out.1.cell (p:=⟨b,off+k*2+1,none⟩) hb).trans hx.2
   have HF:=Lib.hid (show d_J ps (len - (k+1))=((k:Int),ps.getD k (0,0)) by
    simp only [d_J,Hps.out];rw [show len - 1 - (len - (k+1))=k by omega,show (len:Int) - 1 - ((len - (k+1):Nat):Int)=k by omega])
   have HS:=Lib.hid (j_O (d_J ps) (len - (k+1)));have HK:=Lib.hid (show len - (k+1)+1=len - k by omega);obtain ⟨fn,tmps,assign,body,hy,hR⟩:=hY _ ((k:Int),ps.getD k (0,0)) wr hJs (by rw [l_c];omega);dsimp only at hy hR
   generalize ps.getD k (0,0)=q at *
   obtain ⟨q1,q2⟩:=q;dsimp only at hy hR hx1 hx2;have hk0:(0:Int)≤(k:Int):=by omega
   have hkl:(k:Int) < len:=by omega
   clear hx hz
   gi_wp2
   refine hR.mono ?_;rintro e W3 (⟨rfl,hJ3,hk3⟩ | ⟨rfl,hJx3⟩)
   ·gi_wp2
    go_roundw
    case rel=>exact ⟨k,(k:Int) - 1,by omega,rfl,rfl,by rw [←HK.out,HS.out,HF.out];exact hJ3,t_O hnx.out hk3⟩
    case measure=>simp [intOf]
   ·gi_wp2
    refine bodyPost_ret (results_none rfl _ _ _) rfl ?_;exact ⟨⟨_,rfl⟩,.inr ⟨_,⟨len - k,by omega,by rw [←HK.out,HS.out,HF.out]⟩,hJx3⟩⟩
  | zero =>
   obtain rfl:z=-1:=by omega
   clear hz
   gi_wp2
   go_end0
   exact ⟨⟨_,rfl⟩,.inl ⟨_,rfl,hJs⟩⟩
theorem i_6 (F:Fence) (n:Nat) (h8:F.fn 168) (hro:F.round=none) (l Bs:Nat) (a:Option Addr) (cap:Nat) (J:List (Int×(Int×Int))→World→Prop) (W:World) (hBs:W.cell? ⟨Bs,0,none⟩=some (.slice a 0 cap)) (h0:J [] W) :
  CallsIn F n Tryz.prog 168 #[.func (.yield l) #[] #[],.pointer (some ⟨Bs,0,none⟩)] W fun e W'=>(∃ v,e=.returned v)∧J [] W':=by
 refine callsIn_of_wp Tryz.func168 rfl h8 ?_ hro;simp only [Tryz.ntmps168,List.size_toArray,List.length_cons,List.length_nil,Nat.reduceAdd,Nat.reduceSub,Array.replicate_succ,Array.replicate_zero,List.push_toArray,List.append_toArray,List.nil_append,List.cons_append]
 gi_wp2
 gi_loopw [3] (fun i wr=>i=.int .i64 (-1)∧J [] wr) (fun _ _=>0)
 case atStart=>exact ⟨rfl,h0⟩
 case round =>
  obtain ⟨rfl,hJs⟩:=hrel
  gi_wp2
  go_end0
  exact ⟨⟨_,rfl⟩,hJs⟩
theorem s_c (F:Fence) (n:Nat) (h6:F.fn 162) (hro:F.round=none) (a:Option Addr) (len cap:Nat) (w:World) :
  CallsIn F n Tryz.prog 162 #[.slice a len cap] w fun e w'=>e=.returned (.func (.func 168) #[] #[.pointer (some ⟨w.heap.size,0,none⟩)])∧w'=w.alloc (.cells #[.slice a len cap] 55):=by
 refine callsIn_of_wp Tryz.func162 rfl h6 ?_ hro;simp only [Tryz.ntmps162,List.size_toArray,List.length_cons,List.length_nil,Nat.reduceAdd,Nat.reduceSub,Array.replicate_succ,Array.replicate_zero,List.push_toArray,List.append_toArray,List.nil_append,List.cons_append]
 gi_wp2
 go_ret
 exact ⟨rfl,rfl⟩
theorem m_o (F:Fence) (n:Nat) (h8:F.fn 168) (hro:F.round=none) (hn:1≤n) (Bs n₀ len cap:Nat) (a:Option Addr) (ps:List (Int×Int)) (hreach:len≤9223372036854775807) (w:World)
  (hc:w.cell? ⟨Bs,0,none⟩=some (.slice a len cap)) (hI:Pl w a len ps) (hbl:∀ p,a=some p→0 < len→p.block < n₀) :
  SeqStopsK F n Tryz.prog 168 #[.pointer (some ⟨Bs,0,none⟩)] r_J (KpB n₀ Bs) (fun ys=>ys=l_b (d_J ps) len)
   (fun pre=>∃ k,k≤len∧pre=l_b (d_J ps) k) len w:=fun l J Jx W hW _ _ hY h0=>by
 have hc':=(hW.cell (p:=⟨Bs,0,none⟩) (b_c hc)).trans hc
 by_cases hz:len=0
 ·subst hz;exact (i_6 F n h8 hro l Bs a cap J W hc' h0).mono fun e W' ⟨he,hj⟩=>⟨he,.inl ⟨_,rfl,hj⟩⟩
 ·obtain ⟨b,o,rfl,R⟩:=hI.2.resolve_left hz;exact p_7 F n h8 hro hn l Bs n₀ b o len cap ps hreach hI.1 (hbl _ rfl (by omega)) J Jx hY W hc' (fun i hi=>⟨(hW.cell (p:=⟨b,_,none⟩) (b_c (R i hi).1)).trans (R i hi).1,(hW.cell (p:=⟨b,_,none⟩) (b_c (R i hi).2)).trans (R i hi).2⟩) h0
end Go.Proofs.YtogdpojnbgeknaaGreatDoor
