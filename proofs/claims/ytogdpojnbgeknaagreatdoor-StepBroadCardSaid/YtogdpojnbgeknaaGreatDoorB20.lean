import Derived.Test.YtogdpojnbgeknaaGreatDoorB15
import Derived.Maps.AppendAt
import Derived.Test.YtogdpojnbgeknaaGreatDoorB0
import Derived.Test.YtogdpojnbgeknaaGreatDoorB12
import Derived.Test.YtogdpojnbgeknaaGreatDoorB4
set_option maxRecDepth 100000
set_option maxHeartbeats 16000000
namespace Go.Proofs.YtogdpojnbgeknaaGreatDoor
open Go.ChangeShapes Go.WideShapes Go.ChangeAt Go.RowKit
def Zs (j:Nat):List Value:=(List.replicate j (0:Int)).map (Value.int .i64)
theorem n_R (j:Nat):Zs (j+1)=Zs j++[.int .i64 0]:=by simp [Zs,List.replicate_succ']
structure KeptE (B:Nat) (w w':World):Prop where
 os:w'.os=w.os
 tape:w'.tape=w.tape
 output:w'.output=w.output
 size:w.heap.size≤w'.heap.size
 block:∀ k,k < B→k < w.heap.size→w'.heap[k]?=w.heap[k]?
theorem KeptE.cell {B:Nat} {w w':World} (h:KeptE B w w') {p:Addr} {v:Value} (hp:p.block < B) (hc:w.cell? p=some v):w'.cell? p=some v:=by
 rw [World.cell?_of_block (w:=w) (h.block _ hp (b_d hc))];exact hc
theorem KeptE.free {B:Nat} {w w':World} (h:KeptE B w w') {p:Addr} {v:Value} (hp:p.block < B) (hc:w.cell? p=some v) (hf:w.frozen? p=false):w'.frozen? p=false:=by
 rw [World.frozen?_of_block (w:=w) (h.block _ hp (b_d hc))];exact hf
theorem KeptE.below {B:Nat} {w0 w w':World} (h:KeptE B w w') (hb:Below w0.heap.size w0 w) (hB:w0.heap.size≤B):Below w0.heap.size w0 w':=
 hb.trans ⟨h.os,h.tape,h.output,h.size,fun k hk=>h.block k (by omega) (by have:=hb.size;omega)⟩
theorem i_J {B:Nat} {w w':World} {o:Obj} {v:Value} {n:Nat} {e:TypeId} {xs:List Value} (hv:w.ownsRow B e 1 v n xs) (hg:(w.alloc o).grownBy w' v.ownBlock):KeptE B w w':=
 ⟨hg.os,hg.tape,hg.output,by have:=hg.size;simp at this;omega,fun k hk hkw=>by
  rw [hg.block k (by simp;omega) (fun e=>by have:=(hv.lt k e.symm).1;omega)];exact b_r w o k hkw⟩
theorem m_l {F F':Nat} {w:World} {a:Option Addr} {n:Nat} {zs:List Int} (hF:F'≤F) (h:SlF F w a n zs):SlF F' w a n zs:=
 ⟨h.1,h.2.imp id fun ⟨b,o,e,hb,r⟩=>⟨b,o,e,by omega,r⟩⟩
def p_6 (v u:Value):Prop:=v.ownBlock=none∧u.ownBlock=none∨v.ownBlock≠u.ownBlock
theorem h_0 {B:Nat} {w0:World} {u v v':Value} {n:Nat} {e:TypeId} {xs:List Value} (ha:p_6 v u) (hu:w0.ownsRow B e 1 u n xs)
  (hat:v'.ownBlock=v.ownBlock∨v'.ownBlock=some (w0.heap.size+1)) (hnil:v'.ownBlock=none→False):v'.ownBlock≠u.ownBlock:=by
 rcases hat with h | h
 ·rcases ha with ⟨h1,h2⟩ | h1
  ·exact fun _=>hnil (h.trans h1)
  ·rw [h];exact h1
 ·rw [h];intro e;have:=(hu.lt _ e.symm).2
  omega
theorem f_W {w:World} {B:Nat} {e:TypeId} {v:Value} {n:Nat} {xs:List Value} (h:w.ownsRow B e 1 v n xs):∃ a c,v=.slice a n c:=by
 exact J71
theorem m_b {w:World} {B:Nat} {e:TypeId} {v:Value} {n:Nat} {xs:List Value} (h:w.ownsRow B e 1 v (n+1) xs):v.ownBlock=none→False:=by
 rcases h.2 with ⟨_,h0⟩ | ⟨g,cap,cur,rfl,_⟩
 ·omega
 ·intro h;simp [Value.ownBlock] at h
theorem j_R {w w':World} {B:Nat} {e:TypeId} {u v:Value} {n:Nat} {xs:List Value} {o:Obj} (hu:w.ownsRow B e 1 u n xs) (ha:p_6 v u) (hg:(w.alloc o).grownBy w' v.ownBlock):w'.ownsRow B e 1 u n xs:=
 (hu.alloc o).kept hg (by
  rcases ha with ⟨_,h⟩ | h
  ·exact .inl h
  ·exact .inr (fun e=>h e.symm))
structure NewRel (B S:Nat) (w:World) (j k:Nat) (wr:World) (v u:Value):Prop where
 hv:wr.ownsRow B 3 1 v j (Zs j)
 hu:wr.ownsRow B 3 1 u k (Zs k)
 apart:p_6 v u
 c0:wr.cell? ⟨S,0,none⟩=some (.slice none 0 0)
 c1:wr.cell? ⟨S,1,none⟩=some (.slice none 0 0)
 d0:wr.cell? ⟨S+1,0,none⟩=some v
 d1:wr.cell? ⟨S+1,1,none⟩=some u
 f0:wr.frozen? ⟨S,0,none⟩=false
 f1:wr.frozen? ⟨S,1,none⟩=false
 g0:wr.frozen? ⟨S+1,0,none⟩=false
 g1:wr.frozen? ⟨S+1,1,none⟩=false
 below:Below w.heap.size w wr
theorem j_w {w:World} {a:Addr} {x:Value} (v:Value) (h:w.cell? a=some x):(w.setCell a v).cell? a=some v:=World.cell?_setCell_same _ _ _ h
theorem u_M {S:Nat} {w wr w1:World} {j k:Nat} {v u v':Value} {o:Obj} (hS:w.heap.size=S) (h:NewRel (S+2) S w j k wr v u) (hown:w1.ownsRow (S+2) 3 1 v' (j+1) (Zs j++[.int .i64 0])) (hg:(wr.alloc o).grownBy w1 v.ownBlock)
  (hat:v'.ownBlock=v.ownBlock∨v'.ownBlock=some (wr.heap.size+1)):NewRel (S+2) S w (j+1) k (w1.setCell ⟨S+1,0,none⟩ v') v' u:=by
 have hk:=i_J h.hv hg;have e0:w1.cell? ⟨S+1,0,none⟩=some v:=hk.cell (by simp) h.d0;have e1:w1.cell? ⟨S+1,1,none⟩=some u:=hk.cell (by simp) h.d1;refine ⟨?_,?_,.inr (h_0 h.apart h.hu hat (m_b hown)),?_,?_,j_w _ e0,?_,?_,?_,?_,?_,?_⟩
 ·rw [←n_R] at hown;exact ownsRow_setCell_below hown (by simp) _
 ·exact ownsRow_setCell_below (j_R h.hu h.apart hg) (by simp) _
 ·rw [World.cell?_setCell_other _ _ _ _ (by simp)];exact hk.cell (by simp) h.c0
 ·rw [World.cell?_setCell_other _ _ _ _ (by simp)];exact hk.cell (by simp) h.c1
 ·rw [World.cell?_setCell_other _ _ _ _ (by simp)];exact e1
 ·rw [World.frozen?_setCell];exact hk.free (by simp) h.c0 h.f0
 ·rw [World.frozen?_setCell];exact hk.free (by simp) h.c1 h.f1
 ·rw [World.frozen?_setCell];exact hk.free (by simp) h.d0 h.g0
 ·rw [World.frozen?_setCell];exact hk.free (by simp) h.d1 h.g1
 ·exact (hk.below h.below (by omega)).setCell (by simp;omega) _
theorem u_L {S:Nat} {w wr w1:World} {j k:Nat} {v u u':Value} {o:Obj} (hS:w.heap.size=S) (h:NewRel (S+2) S w j k wr v u) (hown:w1.ownsRow (S+2) 3 1 u' (k+1) (Zs k++[.int .i64 0])) (hg:(wr.alloc o).grownBy w1 u.ownBlock)
  (hat:u'.ownBlock=u.ownBlock∨u'.ownBlock=some (wr.heap.size+1)):NewRel (S+2) S w j (k+1) (w1.setCell ⟨S+1,1,none⟩ u') v u':=by
 have hk:=i_J h.hu hg;have ha:p_6 u v:=h.apart.imp (fun x=>⟨x.2,x.1⟩) (fun x e=>x e.symm);have e0:w1.cell? ⟨S+1,0,none⟩=some v:=hk.cell (by simp) h.d0;have e1:w1.cell? ⟨S+1,1,none⟩=some u:=hk.cell (by simp) h.d1;refine ⟨?_,?_,.inr (fun e=>h_0 ha h.hv hat (m_b hown) e.symm),?_,?_,?_,j_w _ e1,?_,?_,?_,?_,?_⟩
 ·exact ownsRow_setCell_below (j_R h.hv ha hg) (by simp) _
 ·rw [←n_R] at hown;exact ownsRow_setCell_below hown (by simp) _
 ·rw [World.cell?_setCell_other _ _ _ _ (by simp)];exact hk.cell (by simp) h.c0
 ·rw [World.cell?_setCell_other _ _ _ _ (by simp)];exact hk.cell (by simp) h.c1
 ·rw [World.cell?_setCell_other _ _ _ _ (by simp)];exact e0
 ·rw [World.frozen?_setCell];exact hk.free (by simp) h.c0 h.f0
 ·rw [World.frozen?_setCell];exact hk.free (by simp) h.c1 h.f1
 ·rw [World.frozen?_setCell];exact hk.free (by simp) h.d0 h.g0
 ·rw [World.frozen?_setCell];exact hk.free (by simp) h.d1 h.g1
 ·exact (hk.below h.below (by omega)).setCell (by simp;omega) _
theorem n_e (n:Nat) (w:World) (h160:n≤160) :
  Calls Tryz.prog 42 #[.int .i64 n] w fun e w'=>∃ a c a' c',e=.returned (.agg #[.slice a n c,.slice a' n c'])∧SlF w.heap.size w' a n (List.replicate n 0)∧SlF w.heap.size w' a' n (List.replicate n 0)∧Below w.heap.size w w':=by
 obtain ⟨i0,hi,hz0,hz1,hz2⟩:=N178;have HI:=N44;clear hi hz0 hz1 hz2
 go_enter Tryz.func42,Tryz.ntmps42
 go_wp2
 obtain ⟨W,hW⟩:=nm ((w.alloc (Obj.cells #[.slice none 0 0,.slice none 0 0] 26)).alloc (Obj.cells #[.slice none 0 0,.slice none 0 0] 26))
 have HR:NewRel (w.heap.size+2) w.heap.size w 0 0 W (.slice none 0 0) (.slice none 0 0):=by
  rw [hW]
  exact ⟨World.ownsRow_nil _ _ _ _,World.ownsRow_nil _ _ _ _,.inl ⟨rfl,rfl⟩,a_8 _ (by simp),a_8 _ (by simp),by simp,by simp,
   b_F ((b_r _ _ _ (by simp)).trans (a_4 _ _ _ (by simp))),b_F ((b_r _ _ _ (by simp)).trans (a_4 _ _ _ (by simp))),b_F (a_4 _ _ _ (by simp)),b_F (a_4 _ _ _ (by simp)),by go_grown⟩
 have hWs:w.heap.size+2≤W.heap.size:=by rw [hW];simp
 rw [←hW];have HR':=Lib.hid HR;clear hW HR
 go_loopw [4] (fun s wr=>∃ j:Nat,j≤n∧s=.int .i64 j∧w.heap.size+2≤wr.heap.size∧∃ v u,Hid (NewRel (w.heap.size+2) w.heap.size w j j wr v u)) (fun s _=>n - (intOf s).toNat)
 case atStart=>exact ⟨0,by omega,rfl,hWs,_,_,HR'.out⟩
 case round =>
  obtain ⟨j,hj,rfl,hws,v,u,hr⟩:=hrel;clear HR' hWs
  by_cases hlt:j < n
  ·have d0:=hr.out.d0;have d1:=hr.out.d1;have g0:=hr.out.g0
   go_wp2_with (at_builtin;refine wpList_append_own_at _ rfl _ _ 23 rfl (w.heap.size+2) 3 i0 (.int .i64 0) 1 8 Tryz.underlying23 HI.out.1 HI.out.2.1 HI.out.2.2.1 HI.out.2.2.2 rfl (by decide) _ _ _ rfl (hr.out.hv.alloc _) ⟨wr.heap.size,0,none⟩ 1 1 [.int .i64 0] rfl rfl ?c1 ?c2 ?c3 ?c4 ?c5 ?_)
   case c1=>exact e_r _ _ _
   case c2=>intro x hx;simp at hx;subst hx;rfl
   case c3=>unfold maxLen;omega
   case c4=>omega
   case c5=>simp;omega
   intro v' w1 hown' hgrow _ hat;obtain ⟨va,vc,rfl⟩:=f_W hown';have hn:=Lib.hid (u_M rfl hr.out hown' hgrow hat);have hk:=i_J hr.out.hv hgrow;have e0:w1.cell? ⟨w.heap.size+1,0,none⟩=some v:=hk.cell (by simp) d0;have e1:w1.frozen? ⟨w.heap.size+1,0,none⟩=false:=hk.free (by simp) d0 g0;have hws1:=hk.size;clear hown' hgrow hat d0 d1 g0 hk;have hd1:=hn.out.d1;have hg1:=hn.out.g1
   go_wp2_with (at_builtin;refine wpList_append_own_at _ rfl _ _ 23 rfl (w.heap.size+2) 3 i0 (.int .i64 0) 1 8 Tryz.underlying23 HI.out.1 HI.out.2.1 HI.out.2.2.1 HI.out.2.2.2 rfl (by decide) _ _ _ rfl (hn.out.hu.alloc _) ⟨w1.heap.size,0,none⟩ 1 1 [.int .i64 0] rfl rfl ?k1 ?k2 ?k3 ?k4 ?k5 ?_)
   case k1 =>
    have:=e_r (w1.setCell ⟨w.heap.size+1,0,none⟩ (.slice va (j+1) vc)) (.int .i64 0) 3;rw [World.size_setCell] at this;exact this
   case k2=>intro x hx;simp at hx;subst hx;rfl
   case k3=>unfold maxLen;omega
   case k4=>omega
   case k5=>simp;omega
   intro u' w2 hown2 hgrow2 _ hat2;obtain ⟨ua,uc,rfl⟩:=f_W hown2;have hn2:=Lib.hid (u_L rfl hn.out hown2 hgrow2 (by simpa using hat2));have hk2:=i_J hn.out.hu hgrow2;have x0:w2.cell? ⟨w.heap.size+1,1,none⟩=some u:=hk2.cell (by simp) hd1;have x1:w2.frozen? ⟨w.heap.size+1,1,none⟩=false:=hk2.free (by simp) hd1 hg1;have hws2:=hk2.size;rw [World.size_setCell] at hws2;clear hown2 hgrow2 hat2 hd1 hg1 hk2 e0 e1
   go_wp2
   go_roundw
   case rel=>exact ⟨j+1,by omega,by go_num,by simp;omega,_,_,hn2.out⟩
   case measure=>simp [intOf];omega
  ·obtain rfl:j=n:=by omega
   obtain ⟨va,vc,rfl⟩:=f_W hr.out.hv;obtain ⟨ua,uc,rfl⟩:=f_W hr.out.hu;have d0:=hr.out.d0;have d1:=hr.out.d1;have c0:=hr.out.c0;have c1:=hr.out.c1;have f0:=hr.out.f0;have f1:=hr.out.f1;have hb:=hr.out.below
   go_wp2
   refine a_X ⟨w.heap.size,0,none⟩ rfl rfl rfl (c_E _ _ _ _ (by go_cell_look) (by go_cell_look)) ?_;have hF:Below w.heap.size w ((wr.setCell ⟨w.heap.size,0,none⟩ (.slice va j vc)).setCell ⟨w.heap.size,1,none⟩ (.slice ua j uc)):=(hb.setCell (by simp) _).setCell (by simp) _;obtain ⟨va',vc',e1,s1⟩:=d_V (ownsRow_setCell_below (ownsRow_setCell_below hr.out.hv (a:=⟨w.heap.size,0,none⟩) (by simp) (.slice va j vc)) (a:=⟨w.heap.size,1,none⟩) (by simp) (.slice ua j uc));obtain ⟨ua',uc',e2,s2⟩:=d_V (ownsRow_setCell_below (ownsRow_setCell_below hr.out.hu (a:=⟨w.heap.size,0,none⟩) (by simp) (.slice va j vc)) (a:=⟨w.heap.size,1,none⟩) (by simp) (.slice ua j uc))
   injection e1 with p1 p2 p3
   injection e2 with q1 q2 q3
   subst p1 p3 q1 q3;exact ⟨_,_,_,_,rfl,m_l (by omega) s1,m_l (by omega) s2,hF⟩
end Go.Proofs.YtogdpojnbgeknaaGreatDoor
namespace Go.Proofs.YtogdpojnbgeknaaGreatDoor
open Go.ChangeShapes Go.WideShapes Go.ChangeAt Go.RowKit
section
variable {P:Program} {ops:Array Oper} {Q:Exit→Act→World→Prop}
theorem q_y {S S':b_v} (h:S.map Prod.fst=S'.map Prod.fst) (j:Nat):a_V S j=a_V S' j:=by
 have e:∀ T:b_v,a_V T j=(T.map Prod.fst).getD j []:=fun T=>by
  simp only [a_V,List.getD_eq_getElem?_getD,List.getElem?_map]
  cases T[j]? <;> rfl
 rw [e,e,h]
def InvT (m:Nat) (D:List Nat) (l:List (Option Tmp)) (B:Bool→World→Prop) (S:Bool→b_v) (pi pj:Nat) (p:e_H) (a0:Act) (w0:World) (listed:Array Bool) (a:Act) (w:World):Prop:=
 (Up listed m→∀ i∈D,Up listed i)∧InvD l (B (listed.getD m true)) (S (listed.getD m true)) pi pj p a0 w0 listed a w
def u_B (S1 S2:b_v) (pi pj:Nat) (p:e_H) (B:World→Prop) (k:Nat) (vals:Nat→Value) (dst:Option Tmp) (a1:Act) (w1:World) (K:Act→World→Prop):Prop:=
 ∀ v w2,b_E S2 k ((a_V S2 k).map (fun i=>if i=k then v else vals i)) w2→B w2→(∀ j,j≠k→b_E S1 j ((a_V S1 j).map vals) w1→b_E S2 j ((a_V S1 j).map vals) w2) →
  (k≠pi→k≠pj→p (vals pi) (vals pj) w1→p (vals pi) (vals pj) w2)→(k=pi→k≠pj→b_E S1 pj ((a_V S1 pj).map vals) w1→p v (vals pj) w2)→(k=pj→k≠pi→b_E S1 pi ((a_V S1 pi).map vals) w1→p (vals pi) v w2)→(k=pi→k=pj→p v v w2)→K (a1.put dst v) w2
theorem InvT.cons {l:List (Option Tmp)} {B:Bool→World→Prop} {S:Bool→b_v} {pi pj:Nat} {p:e_H} {a0:Act} {w0:World} {k:Nat} {o:Oper} {rest:List Oper} {ws:List Nat}
  {m:Nat} {D:List Nat} (hS:∀ b j,a_V (S b) j=a_V (S false) j) (hw:c_D .any o=ws) (hl:l[k]?=some o.dst) (hn:decide (b_N l).Nodup=true) (hd:ws.all (fun j=>decide (j < l.length))=true)
  (hD:(a_V (S false) k).all (fun i=>(k::(ws++ws.flatMap (a_V (S false)))).contains i)=true)
  (hkm:(k != m||D.all (fun i=>ws.contains i||ws.any (fun j=>(a_V (S false) j).contains i)))=true)
  (h:∀ a1 vals w1 bl,((k==m||D.contains k)=true→bl=false)→CameD l (B bl) (S bl) pi pj p a0 ws a1 vals w1→∀ K:Act→World→Prop,u_B (S bl) (S (cond (k==m) true bl)) pi pj p (B (cond (k==m) true bl)) k vals o.dst a1 w1 K →
   if Region.wanted o (yielded ops a1.tmps)=true then Oper.wp P o a1 w1 K Q else K (a1.put o.dst undef) w1)
  (hs:StepsL P .any ops Q (InvT m D l B S pi pj p a0 w0) (k+1) rest):StepsL P .any ops Q (InvT m D l B S pi pj p a0 w0) k (o::rest):=by
 have hn:=of_decide_eq_true hn;refine StepsL.cons hw (fun listed a1 w1 hI hu hu2 K hK=>?_) hs;obtain ⟨hI1,vals,rfl,hb,hv,hp⟩:=hI;have hlt:=N52;obtain ⟨bl,hbl⟩:=mn (listed.getD m true);rw [hbl] at hb hv
 have hall:∀ i,i∈ws++ws.flatMap (a_V (S false))→Up listed i:=fun i hi=>by
  rcases List.mem_append.1 hi with h5 | h5
  ·exact hu2 i h5
  ·obtain ⟨q,hq,hq2⟩:=List.mem_flatMap.1 h5;exact (hv q (hlt q hq) (hu2 q hq)).1 i (by rw [hS];exact hq2)
 have hallb:∀ i,i∈ws++ws.flatMap (a_V (S bl))→Up listed i:=fun i hi=>by
  refine hall i ?_;rw [show a_V (S bl)=a_V (S false) from funext (hS bl)] at hi;exact hi
 have hmn:Up (listed.setIfInBounds k true) m→∀ i∈D,Up (listed.setIfInBounds k true) i:=fun hum i hi=>by
  exact J58
 refine h _ vals w1 bl (fun e=>by
  cases hx:bl with
  | false=>rfl
  | true =>
   rw [hx] at hbl
   rcases Bool.or_eq_true_iff.1 e with h1 | h1
   ·have h1:k=m:=by simpa using h1
    subst h1;exact absurd hbl hu
   ·exact absurd (hI1 hbl k (List.contains_iff_mem.1 h1)) hu) ⟨fun j t hj ht=>?_,fun t ht=>?_,hb,fun j hj=>(hv j (hlt j hj) (hu2 j hj)).2,fun h1 h2 l1 l2=>hp l1 l2 (hallb _ h1) (hallb _ h2)⟩ K (fun v w2 h1 h2 h3 h4 h5 h6 h7=>?_)
 ·exact J35
 ·exact J21
 ·have hb2:(listed.setIfInBounds k true).getD m true=cond (k==m) true bl:=by
   rw [g_U,hbl]
   cases (k==m) <;> cases bl <;> rfl
  refine hK.out _ _ ⟨hmn,fun i=>if i=k then v else vals i,e_v hn hl v,by rw [hb2];exact h2,fun j hjl hj=>?_,fun l1 l2 u1 u2=>?_⟩
  ·rw [hb2]
   by_cases e:j=k
   ·subst e;refine ⟨fun i hi=>?_,h1⟩;rw [hS] at hi;exact J37
   ·exact J61
  ·exact J18
def InvT2 (m:Nat) (D:List Nat) (l:List (Option Tmp)) (B:Bool→World→Prop) (S:Bool→b_v) (qi pi pj:Nat) (q p:e_H) (a0:Act) (listed:Array Bool) (a:Act) (w:World):Prop:=
 (Up listed m→∀ i∈D,Up listed i)∧∃ vals,a=c_N a0 l vals 0∧B (listed.getD m true) w∧(∀ k,k < l.length→Up listed k→(∀ i∈a_V (S (listed.getD m true)) k,Up listed i)∧b_E (S (listed.getD m true)) k ((a_V (S (listed.getD m true)) k).map vals) w) ∧
  (pi < l.length→pj < l.length→Up listed pi→Up listed pj→p (vals pi) (vals pj) w)∧(qi < l.length→pj < l.length→Up listed qi→Up listed pj→q (vals qi) (vals pj) w)
def t_H (S1 S2:b_v) (qi pi pj:Nat) (q p:e_H) (B:World→Prop) (k:Nat) (vals:Nat→Value) (dst:Option Tmp) (a1:Act) (w1:World) (K:Act→World→Prop):Prop:=
 ∀ v w2,b_E S2 k ((a_V S2 k).map (fun i=>if i=k then v else vals i)) w2→B w2→(∀ j,j≠k→b_E S1 j ((a_V S1 j).map vals) w1→b_E S2 j ((a_V S1 j).map vals) w2) →
  (k≠pi→k≠pj→p (vals pi) (vals pj) w1→p (vals pi) (vals pj) w2)→(k≠qi→k≠pj→q (vals qi) (vals pj) w1→q (vals qi) (vals pj) w2) →
  (k=pi→b_E S1 pj ((a_V S1 pj).map vals) w1→q (vals qi) (vals pj) w1→p v (vals pj) w2)→(k=qi→b_E S1 pj ((a_V S1 pj).map vals) w1→q v (vals pj) w2) →
  (k=pj→b_E S1 pi ((a_V S1 pi).map vals) w1→p (vals pi) v w2)→(k=pj→b_E S1 qi ((a_V S1 qi).map vals) w1→q (vals qi) v w2)→K (a1.put dst v) w2
theorem InvT2.cons {l:List (Option Tmp)} {B:Bool→World→Prop} {S:Bool→b_v} {qi pi pj:Nat} {q p:e_H} {a0:Act} {k:Nat} {o:Oper} {rest:List Oper} {ws:List Nat}
  {m:Nat} {D:List Nat} (hne:pi≠pj∧qi≠pj∧pi≠qi) (hqp:k=pi→qi∈ws) (hql:qi < l.length) (hS:∀ b j,a_V (S b) j=a_V (S false) j) (hw:c_D .any o=ws) (hl:l[k]?=some o.dst) (hn:decide (b_N l).Nodup=true) (hd:ws.all (fun j=>decide (j < l.length))=true)
  (hD:(a_V (S false) k).all (fun i=>(k::(ws++ws.flatMap (a_V (S false)))).contains i)=true)
  (hkm:(k != m||D.all (fun i=>ws.contains i||ws.any (fun j=>(a_V (S false) j).contains i)))=true)
  (h:∀ a1 vals w1 bl,((k==m||D.contains k)=true→bl=false)→CameD l (B bl) (S bl) pi pj p a0 ws a1 vals w1→∀ K:Act→World→Prop,t_H (S bl) (S (cond (k==m) true bl)) qi pi pj q p (B (cond (k==m) true bl)) k vals o.dst a1 w1 K →
   if Region.wanted o (yielded ops a1.tmps)=true then Oper.wp P o a1 w1 K Q else K (a1.put o.dst undef) w1)
  (hs:StepsL P .any ops Q (InvT2 m D l B S qi pi pj q p a0) (k+1) rest):StepsL P .any ops Q (InvT2 m D l B S qi pi pj q p a0) k (o::rest):=by
 have hn:=of_decide_eq_true hn;refine StepsL.cons hw (fun listed a1 w1 hI hu hu2 K hK=>?_) hs;obtain ⟨hI1,vals,rfl,hb,hv,hp,hq⟩:=hI;have hlt:=N52;obtain ⟨bl,hbl⟩:=mn (listed.getD m true);rw [hbl] at hb hv
 have hall:∀ i,i∈ws++ws.flatMap (a_V (S false))→Up listed i:=fun i hi=>by
  rcases List.mem_append.1 hi with h5 | h5
  ·exact hu2 i h5
  ·obtain ⟨x,hx,hx2⟩:=List.mem_flatMap.1 h5;exact (hv x (hlt x hx) (hu2 x hx)).1 i (by rw [hS];exact hx2)
 have hallb:∀ i,i∈ws++ws.flatMap (a_V (S bl))→Up listed i:=fun i hi=>by
  refine hall i ?_;rw [show a_V (S bl)=a_V (S false) from funext (hS bl)] at hi;exact hi
 have hmn:Up (listed.setIfInBounds k true) m→∀ i∈D,Up (listed.setIfInBounds k true) i:=fun hum i hi=>by
  exact J58
 refine h _ vals w1 bl (fun e=>by
  cases hx:bl with
  | false=>rfl
  | true =>
   rw [hx] at hbl
   rcases Bool.or_eq_true_iff.1 e with h1 | h1
   ·have h1:k=m:=by simpa using h1
    subst h1;exact absurd hbl hu
   ·exact absurd (hI1 hbl k (List.contains_iff_mem.1 h1)) hu) ⟨fun j t hj ht=>?_,fun t ht=>?_,hb,fun j hj=>(hv j (hlt j hj) (hu2 j hj)).2,fun h1 h2 l1 l2=>hp l1 l2 (hallb _ h1) (hallb _ h2)⟩ K (fun v w2 h1 h2 h3 h4 h5 h6 h7 h8 h9=>?_)
 ·exact J35
 ·exact J21
 ·have hb2:(listed.setIfInBounds k true).getD m true=cond (k==m) true bl:=by
   rw [g_U,hbl]
   cases (k==m) <;> cases bl <;> rfl
  refine hK.out _ _ ⟨hmn,fun i=>if i=k then v else vals i,e_v hn hl v,by rw [hb2];exact h2,fun j hjl hj=>?_,fun l1 l2 u1 u2=>?_,fun l1 l2 u1 u2=>?_⟩
  ·rw [hb2]
   by_cases e:j=k
   ·subst e;refine ⟨fun i hi=>?_,h1⟩;rw [hS] at hi;exact J37
   ·exact J61
  ·show p (if pi=k then v else vals pi) (if pj=k then v else vals pj) w2
   by_cases e1:pi=k
   ·rw [if_pos e1,if_neg (fun e2=>hne.1 (e1.trans e2.symm))];have u3:Up listed pj:=a_b u2 (fun e2=>hne.1 (e1.trans e2.symm));exact h6 e1.symm (hv _ l2 u3).2 (hq hql l2 (hu2 _ (hqp e1.symm)) u3)
   ·by_cases e2:pj=k
    ·rw [if_neg e1,if_pos e2];exact h8 e2.symm (hv _ l1 (a_b u1 e1)).2
    ·rw [if_neg e1,if_neg e2];exact h4 (fun h=>e1 h.symm) (fun h=>e2 h.symm) (hp l1 l2 (a_b u1 e1) (a_b u2 e2))
  ·show q (if qi=k then v else vals qi) (if pj=k then v else vals pj) w2
   by_cases e1:qi=k
   ·rw [if_pos e1,if_neg (fun e2=>hne.2.1 (e1.trans e2.symm))];exact h7 e1.symm (hv _ l2 (a_b u2 (fun e2=>hne.2.1 (e1.trans e2.symm)))).2
   ·by_cases e2:pj=k
    ·rw [if_neg e1,if_pos e2];exact h9 e2.symm (hv _ l1 (a_b u1 e1)).2
    ·rw [if_neg e1,if_neg e2];exact h5 (fun h=>e1 h.symm) (fun h=>e2 h.symm) (hq l1 l2 (a_b u1 e1) (a_b u2 e2))
theorem f_n {l:List (Option Tmp)} {B:World→Prop} {S:b_v} {qi pi pj:Nat} {q p:e_H} {a0 a1:Act} {ws:List Nat} {vals:Nat→Value} {w1:World} {k:Nat} {K:Act→World→Prop} {dst:Option Tmp}
  (hK:t_H S S qi pi pj q p B k vals dst a1 w1 K) (C:CameD l B S pi pj p a0 ws a1 vals w1) (hne:((k==pi)||(k==pj)||(k==qi))=false) {v:Value} (hv:b_E S k ((a_V S k).map (fun i=>if i=k then v else vals i)) w1):K (a1.put dst v) w1:=by
 simp only [Bool.or_eq_false_iff,beq_eq_false_iff_ne] at hne;obtain ⟨⟨n1,n2⟩,n3⟩:=hne;exact hK v w1 hv C.base (fun _ _ h=>h) (fun _ _ h=>h) (fun _ _ h=>h) (fun e=>absurd e n1) (fun e=>absurd e n3) (fun e=>absurd e n2) (fun e=>absurd e n2)
theorem l_A {id:Nat} {ol:List Oper} {a:Act} {w:World} (m:Nat) (D:List Nat) (hmn:Nat.blt m ol.length=true) (l:List (Option Tmp)) (B:Bool→World→Prop) (S:Bool→b_v) (qi pi pj:Nat) (q p:e_H) (hm:P.follows .mixedOrders=true) (hb:i_z .any ol.toArray=true) (hn:decide (b_N l).Nodup=true) (hlen:l.length=ol.length)
  (h0:B false w.drew) (hs:StepsL P .any ol.toArray Q (InvT2 m D l B S qi pi pj q p a) 0 ol)
  (hend:∀ vals w',B true w'→(∀ k,k < l.length→b_E (S true) k ((a_V (S true) k).map vals) w')→(pi < l.length→pj < l.length→p (vals pi) (vals pj) w')→Q .normal (c_N a l vals 0) w'):(Code.region id ol.toArray true).wp P Q a w:=by
 have hmn:m < ol.length:=by simpa [Nat.blt_eq] using hmn
 refine b_u (fun a0 _=>InvT2 m D l B S qi pi pj q p a0) hm hb (fun listed hl=>⟨fun hu=>absurd hu (hl m (by omega)),e_M a l,(putL_first (of_decide_eq_true hn)).symm,(by
  cases hx:listed.getD m true with
  | false=>exact h0
  | true=>exact absurd hx (hl m (by omega))),fun k hkl hk=>absurd hk (hl k (by omega)),fun l1 _ u1 _=>absurd u1 (hl _ (by omega)),fun l1 _ u1 _=>absurd u1 (hl _ (by omega))⟩) hs (fun listed a' w' hI hu=>?_)
 obtain ⟨-,vals,rfl,h1,h2,h3,-⟩:=hI;have hx:listed.getD m true=true:=hu m;rw [hx] at h1 h2;exact hend vals w' h1 (fun k hk=>(h2 k hk (hu k)).2) (fun l1 l2=>h3 l1 l2 (hu _) (hu _))
end
end Go.Proofs.YtogdpojnbgeknaaGreatDoor
namespace Go.Proofs.YtogdpojnbgeknaaGreatDoor
open Go.ChangeShapes Go.WideShapes Go.ChangeAt Go.RowKit
open Gen
open Lib (hid)
def t_M (h:Nat) (L:WoL) (rb:Nat) (vb lv le:Int):b_v:=[isV 0 (.pointer (some ⟨h,1,none⟩)),isV 1 (.pointer (some ⟨h,1,none⟩)),isV 2 (.agg #[.slice L.ws.a L.ws.n L.ws.c,.slice L.ts.a L.ts.n L.ts.c]),isV 3 (.pointer (some ⟨h+2,2,none⟩)),isV 4 (.int .i64 rb),isV 5 (.pointer (some ⟨h+1,1,none⟩)),isV 6 (.pointer (some ⟨h+1,1+rb,none⟩)),isV 7 (.int .i64 vb),isV 8 (.tuple #[.int .i64 lv,.int .i64 le]),isV 9 (.tuple #[.int .i64 lv,.int .i64 le]),isV 10 (.int .i64 lv),isV 11 (.int .i64 le),isV 12 (.int .i64 lv),isV 13 (.int .i64 le)]
theorem o_p (h:Nat) (L:WoL) (rb:Nat) (vb lv le:Int):c_q (t_M h  L  rb  vb lv le ):=a_d<|a_d<|a_d<|a_d<|a_d<|a_d<|a_d<|a_d<|a_d<|a_d<|a_d<|a_d<|a_d<|a_d<|b_B
theorem q_x (L:WoL) (X:Wo) (j:Nat) (w:World) (R:RWo Any w L X) (hj:j < L.th.n) (hrw:a_6 X=true) :
  Calls Tryz.prog 22 #[woV L X.D,.int .i64 j] w (b_h (g_8 X j) w):=by
 obtain ⟨y,hy⟩:=mn (g_8 X j);rw [hy];obtain ⟨D,hD⟩:=mn (X.D);rw [hD];have HD:=hid hD;obtain ⟨tb,tq,t,ta,tc,qa,qc,htl,htt,-,T,hr⟩:=c_3 R.th hj;have htw:=N54;obtain ⟨hrc,hrm,hrl,hro⟩:=a_M hrw
 have HRT:=hid (show a_R t=true by
  have h:=hro t (List.mem_of_getElem? htt);simp only [e_o,Bool.and_eq_true] at h;exact h.1)
 have HCI:=hid (show ∀ i∈X.code,c_K i X.code.length=true by
  simp only [b_U,Bool.and_eq_true,decide_eq_true_eq,List.all_eq_true] at hrc;exact hrc.2)
 have hpc0:0≤t.pc∧t.pc≤1000:=by
  have h:=HRT.out;exact J102
 obtain ⟨pk,hpk⟩:∃ k:Nat,t.pc=k:=⟨t.pc.toNat,by omega⟩;have HPK:=hid hpk;have HM:=hid (a_S hrm).1;have HY:=hid (show n_A X t (bfW X j)=y by rw [←hy,g_8,htw]);obtain ⟨bb,bo,q,c,hba,hbc,-,-⟩:=f_p R.bs (i:=j) (by have:=R.bs.1;have:=R.th.1;omega);obtain ⟨bl,hbl⟩:=mn ((X.bs.getD j []).length);have HBL:=hid (show (bfW X j).length=bl from hbl);rw [hbl] at hbc;obtain ⟨tn,htn⟩:=mn (t.fs.length);obtain ⟨tm,htm⟩:=mn (t.lf.length);have HTN:=hid (And.intro htn htm);obtain ⟨W,hW⟩:=nm (w.alloc (Obj.cells (woC L D).toArray 33));have HX:=N125;have HB:=N3;have HSZ:=N149;have HRA:=N28;have ⟨HW,HTL⟩:=hh2 hW htl;rw [htn,htm] at T;have ⟨HT1,HR1⟩:=hh2 T R;have HBB:=hid (And.intro hba hbc);have i1:(0:Int)≤j:=by omega
 have i2:(j:Int) < L.th.n:=by omega
 have i6:(j:Int) < L.bs.n:=by have:=R.bs.1;have:=R.th.1;omega
 clear htl hD htt hr htn htm R hW htw hy hrc hrm hrl hro hrw hpc0 hpk hba hbc hbl T;unfold woV
 go_enter Tryz.func22,Tryz.ntmps22
 go_upto_region 1 with fail
 rw [←HW.out];obtain ⟨k5,-⟩:=HX.out 5 _ rfl;rw [HTL.out] at k5
 go_upto_region 2 with (first | (refine wpList_load_mid rfl 46 _ rfl tb (tq+j*13) rfl (thC t ta tn tc qa tm qc) _ HRA.out Tryz.underlying46 rfl (by kernel_rfl) ?_) | (refine a_c rfl 46 _ _ rfl W.heap.size (thC t ta tn tc qa tm qc).toArray rfl rfl _ (a_e thN W.heap.size rfl) rfl (by kernel_rfl) (a_L _ _ _ _ _ _ _) ?_;intro V HV))
 rw [HSZ.out];simp only [Act.put];have HX2:=N31;have HT2:=hid (show a_p V (w.heap.size+1) (thC t ta tn tc qa tm qc) by rw [HV.out,HSZ.out];exact a_q (a_e thN _ HSZ.out.symm) rfl);have HB2:=N27;have HS2:=hid (show V.heap.size=w.heap.size+2 by rw [HV.out,a_O];simp [HSZ.out]);have HR2:=hid (b_q HB2.out HR1.out);clear HV HX HB HSZ HRA HW k5 i2;obtain ⟨z10,-⟩:=HT2.out 10 _ rfl;obtain ⟨z0,-⟩:=HT2.out 0 _ rfl;obtain ⟨x0,-⟩:=HX2.out 0 _ rfl;rw [HPK.out] at z0;have hcn:X.code.length=L.co.n:=HR2.out.co.1
 by_cases st0:t.st=0
 ·have hs0:(t.st != 0)=false:=by simp [st0]
  have HST:=hid st0;clear st0
  by_cases hpc:L.co.n≤pk
  ·have i3:(L.co.n:Int)≤pk:=by omega
   go_wp2_with fail
   go_ret
   refine a_k (s:=true) ?_ HB2.out;rw [←HY.out,n_A,if_neg (by rw [HST.out];simp),if_pos (by rw [HPK.out];omega)]
  ·have i3:(pk:Int) < L.co.n:=by omega
   have i4:(0:Int)≤pk:=by omega
   have i5:¬ ((L.co.n:Int)≤pk):=by omega
   obtain ⟨cb,co,op,A,B,C,hca,hci,y0,y1,y2,y3⟩:=l_0 (d_9 HR2.out.co) (show pk < L.co.n by omega)
   have HRI:=hid (show V.rangeAt cb (co+pk*4) [.int .i64 op,.int .i64 A,.int .i64 B,.int .i64 C] from fun x v hx=>by
    match x,hx with
    | 0,hx=>cases hx;exact y0
    | 1,hx=>cases hx;exact y1
    | 2,hx=>cases hx;exact y2
    | 3,hx=>cases hx;exact y3)
   rw [hca] at x0;have HIN:=N201
   have HYG:=hid (show k_C X t (bfW X j) (op,A,B,C)=y by
    rw [←HY.out,n_A,if_neg (by rw [HST.out];simp),if_neg (by rw [HPK.out];omega),HPK.out,show inW X (pk:Int)=(op,A,B,C) by rw [inW,Int.toNat_natCast,List.getD_eq_getElem?_getD,hci];rfl])
   clear y0 y1 y2 y3 hci hca
   go_upto_region 7 with (first | (refine wpList_load_mid rfl 66 _ rfl cb (co+pk*4) rfl [.int .i64 op,.int .i64 A,.int .i64 B,.int .i64 C] _ HRI.out Tryz.underlying66 rfl (by kernel_rfl) ?_) | (refine a_c rfl 66 _ _ rfl V.heap.size #[.int .i64 op,.int .i64 A,.int .i64 B,.int .i64 C] rfl rfl _ (a_e [.int .i64 0,.int .i64 0,.int .i64 0,.int .i64 0] V.heap.size rfl) rfl (by kernel_rfl) (by simp [Value.oneCell']) ?_;intro U HU))
   rw [HS2.out];have HI3:=hid (show a_p U (w.heap.size+2) [.int .i64 op,.int .i64 A,.int .i64 B,.int .i64 C] by rw [HU.out,HS2.out];exact a_q (a_e [.int .i64 0,.int .i64 0,.int .i64 0,.int .i64 0] _ HS2.out.symm) rfl);have HX3:=N162;have HT3:=hid (show a_p U (w.heap.size+1) (thC t ta tn tc qa tm qc) by rw [HU.out];exact a_j (by have:=HS2.out;omega) (a_s _ HT2.out));have HB3:=N150;have HR3:=hid (b_q HB3.out HR1.out);have HF3:=hid (a_v (a_C HB3.out) HT1.out);have b0:=a_t HB3.out HBB.out.2;obtain ⟨x4,-⟩:=HX3.out 4 _ rfl;rw [HBB.out.1] at x4;obtain ⟨x3,-⟩:=HX3.out 3 _ rfl;obtain ⟨u0,-⟩:=HI3.out 0 _ rfl;have HOR:=hid (show 0≤op∧op < 27 from (d_T HIN.out).1);clear HU HX2 HT2 HB2 HR2 HS2 HRI z0 z10 x0 i3 i4 i5 hcn hs0 hpc
   rcases (show op=17∨(op=18∨op=19∨op=20∨op=21)∨op=22∨op=23∨(op≠17∧op≠18∧op≠19∧op≠20∧op≠21∧op≠22∧op≠23) by omega) with rfl | h | rfl | rfl | h
   ·have HYV:=hid (show decide (D=0∨(bl:Int) < D)=y by rw [←HYG.out,k_C,if_pos rfl,HD.out,HBL.out])
    by_cases d0:D=0
    ·subst d0
     go_wp2_with fail
     go_ret
     exact a_k (s:=true) (by rw [←HYV.out];simp) HB3.out
    ·have hd0:(D==0)=false:=by simpa using d0
     have HYW:=hid (show decide ((bl:Int) < D)=y by rw [←HYV.out];simp [d0])
     go_wp2_with fail
     go_ret
     exact a_k HYW.out.symm HB3.out
   ·have HYV:=hid (show decide (bl=0)=y by rw [←HYG.out,k_C,if_neg (by simp;omega),if_pos h,HBL.out]);have HYW:=hid (show ((bl:Int)==0)=y by rw [←HYV.out];by_cases e:bl=0 <;> simp [e])
    rcases h with rfl | rfl | rfl | rfl <;>
    ·go_wp2_with fail
     go_ret
     exact a_k HYW.out.symm HB3.out
   ·have HYV:=hid (show t.lf.all (fun n=>decide (n=0))=y by rw [←HYG.out,k_C,if_neg (by simp),if_neg (by simp),if_pos rfl])
    have HLN:=hid (show ∀ z∈t.lf,0≤z by
     have h:=HRT.out;simp only [a_R,b_6,Bool.and_eq_true,decide_eq_true_eq,List.all_eq_true] at h;exact fun z hz=>(h.2.2 z hz).1)
    have HM8:=hid (show tm≤8 by
     have h:=HRT.out;simp only [a_R,b_6,Bool.and_eq_true,decide_eq_true_eq,List.all_eq_true] at h;have:=h.2.1;have:=HTN.out.2;omega)
    obtain ⟨z12,-⟩:=HT3.out 12 _ rfl
    go_wp2_with fail
    clear z12 b0 x4 x3
    go_loopw [80] (fun i wr=>∃ k:Nat,k≤tm∧i=.int .i64 k∧Hid (∀ i z,i < k→t.lf[i]?=some z→z=0)∧wr=U) (fun i _=>tm - (intOf i).toNat)
    case atStart=>exact ⟨0,Nat.zero_le _,rfl,fun i z hi=>by omega,rfl⟩
    case round =>
     obtain ⟨k,hk,rfl,hz,rfl⟩:=hrel
     by_cases hlt:k < tm
     ·obtain ⟨b,o,z,hq,hx,hc⟩:=j_F (d_9 HF3.out.lf) hlt;subst hq;have i3:(k:Int) < tm:=by omega
      have i4:(0:Int)≤k:=by omega
      have hz0:=HLN.out z (List.mem_of_getElem? hx);have hm8:=HM8.out;have HXX:=hid hx;clear hx
      by_cases e:0 < z
      ·go_wp2_with fail
       go_ret
       refine a_k (s:=false) ?_ HB3.out;rw [←HYV.out,List.all_eq_false];exact ⟨z,List.mem_of_getElem? HXX.out,by simp;omega⟩
      ·obtain rfl:z=0:=by omega
       go_wp2_with fail
       go_roundw
       case rel =>
        refine ⟨k+1,by omega,by go_num,fun i z hi hz2=>?_,trivial⟩
        by_cases e2:i=k
        ·subst e2;rw [HXX.out] at hz2;cases hz2;rfl
        ·exact hz.out i z (by omega) hz2
       case measure=>simp [intOf];omega
     ·obtain rfl:k=tm:=by omega
      go_wp2_with fail
      go_ret
      refine a_k (s:=true) ?_ HB3.out;rw [←HYV.out,List.all_eq_true.2];intro z hz2;obtain ⟨i,hi,rfl⟩:=List.mem_iff_getElem.1 hz2;exact decide_eq_true (hz.out i _ (by have:=HTN.out.2;omega) (List.getElem?_eq_getElem hi))
   ·have HYV:=hid (show (decide (bl=0)&&(decide (a_I X.ws X.ts (rgt t B)≠0)||decide (b_L X.ws X.ts (rgt t B)≠rgt t A)))=y by rw [←HYG.out,k_C,if_neg (by simp),if_neg (by simp),if_neg (by simp),if_pos rfl,HBL.out]);have hg:=c_7 HIN.out (.inr (.inr (.inr (show (23:Int)≤23∧(23:Int)≤25 by decide))));obtain ⟨ra,hra,hra8⟩:=a_5 hg.1;obtain ⟨rb,hrb,hrb8⟩:=a_5 hg.2.1;simp only at hra hrb;subst hra hrb;rw [show rgt t (ra:Int)=t.r ra from rfl,show rgt t (rb:Int)=t.r rb from rfl] at HYV;obtain ⟨va,hva⟩:=mn (t.r ra);obtain ⟨vb,hvb⟩:=mn (t.r rb);rw [hva,hvb] at HYV;obtain ⟨lv,hlv⟩:=mn (b_L X.ws X.ts vb);obtain ⟨le,hle⟩:=mn (a_I X.ws X.ts vb)
    have HMK:=hid (show ∀ u,Below U.heap.size U u→Calls Tryz.prog 51 #[.agg #[.slice L.ws.a L.ws.n L.ws.c,.slice L.ts.a L.ts.n L.ts.c],.int .i64 vb] u (fun e w'=>e=.returned (.tuple #[.int .i64 lv,.int .i64 le])∧Below u.heap.size u w') from fun u hu=>by
     have h:=d_X L.ws.a L.ts.a L.ws.n L.ws.c L.ts.n L.ts.c X.ws X.ts vb u (a_r (a_C hu) HR3.out.ws).sl (a_r (a_C hu) HR3.out.ts).sl HM.out;rw [hlv,hle] at h;exact h)
    rw [hlv,hle] at HYV;have HVA:=hid hva;obtain ⟨v2,-⟩:=HI3.out 2 _ rfl;obtain ⟨zb,-⟩:=HT3.out (1+rb) _ (c_J t.r rb hrb8 _ _);rw [hvb] at zb;have i3:(0:Int)≤ra:=by omega
    have i4:(ra:Int) < 8:=by omega
    have i5:(0:Int)≤rb:=by omega
    have i6:(rb:Int) < 8:=by omega
    clear hva hvb hlv hle hg;have hG:=o_p w.heap.size L rb vb lv le
    go_upto_region 20 with fail
    clear b0 x4 x3 u0;refine d_K [some 91,some 92,some 93,some 94,some 95,some 96,some 97,some 98,some 99,some 90,some 100,some 101,some 10,some 11] (fun w'=>Below U.heap.size U w') (t_M w.heap.size L rb vb lv le) 100 100 (fun _ _ _=>True) (by kernel_rfl) (by kernel_rfl) (by decide) rfl ((Below.refl _ _).drew) ?_ ?_
    ·show StepsL _ _ _ _ _ _ _
     refine InvD.c (fun _ _ w1 C _ hK=>oR C hK (h:=by simp [execOp,go_sem,C.o 2 (.pointer (some ⟨w.heap.size,0,none⟩))])) ?_;refine InvD.c (fun _ _ w1 C _ hK=>oR C hK (h:=by simp [execOp,go_sem,C.i 0])) ?_;refine InvD.c (fun a1 vals w1 C K hK=>?_) ?_
     ·have e0:=C.i 1;exact a_i rfl (wp_load_mid 26 _ rfl (w.heap.size) (1) ((a_P a1 _).symm.trans e0) [.slice L.ws.a L.ws.n L.ws.c,.slice L.ts.a L.ts.n L.ts.c] _ (mem_range (a_h C.base HX3.out)) Tryz.underlying26 rfl (by kernel_rfl) (d_e hK C rfl rfl))
     refine InvD.c (fun _ _ w1 C _ hK=>oR C hK (h:=by simp [execOp,go_sem,C.o 6 (.pointer (some ⟨w.heap.size+2,0,none⟩))])) ?_;refine InvD.c (fun _ _ w1 C _ hK=>oR C hK (h:=by simp [execOp,go_sem,C.i 3,a_t C.base v2])) ?_;refine InvD.c (fun _ _ w1 C _ hK=>oR C hK (h:=by simp [execOp,go_sem,C.o 5 (.pointer (some ⟨w.heap.size+1,0,none⟩))])) ?_;refine InvD.c (fun _ _ w1 C _ hK=>oR C hK (h:=by simp [execOp,go_sem,C.i 4,C.i 5,i5,i6])) ?_;refine InvD.c (fun _ _ w1 C _ hK=>oR C hK (h:=by simp [execOp,go_sem,C.i 6,a_t C.base zb])) ?_;refine InvD.c (fun a1 vals w1 C K hK=>?_) ?_
     ·have e0:=C.i 2;have e1:=C.i 7;rw [a_P] at e0 e1;refine a_i rfl (a_Q _ _ _ rfl 51 rfl [.agg #[.slice L.ws.a L.ws.n L.ws.c,.slice L.ts.a L.ts.n L.ts.c],.int .i64 vb] (by simp only [List.map_cons,List.map_nil,e0,e1]) (by kernel_rfl) ((HMK.out w1 C.base).mono ?_));exact J81
     refine InvD.c (fun _ _ w1 C _ hK=>oR C hK (h:=by simp [execOp,go_sem,C.i 8])) ?_;refine InvD.c (fun _ _ w1 C _ hK=>oR C hK (h:=by simp [execOp,go_sem,C.i 9])) ?_;refine InvD.c (fun _ _ w1 C _ hK=>oR C hK (h:=by simp [execOp,go_sem,C.i 9])) ?_;refine InvD.c (fun _ _ w1 C _ hK=>oR C hK (h:=by simp [execOp,go_sem,C.i 10])) ?_;refine InvD.c (fun _ _ w1 C _ hK=>oR C hK (h:=by simp [execOp,go_sem,C.i 11])) ?_;exact StepsL.nil
    ·intro vals w1 hb hv hbo;have y10:vals 12=.int .i64 lv:=List.head_eq_of_cons_eq (hv 12 (by decide));have y11:vals 13=.int .i64 le:=List.head_eq_of_cons_eq (hv 13 (by decide));simp only [c_N,Act.put,sA,sB,sC,y10,y11];have HT4:=hid (a_h hb HT3.out);have HI4:=hid (a_h hb HI3.out);have HB4:=hid (a_a HB3.out hb);clear hb hv hbo y10 y11 v2 zb hG HMK i5 i6;obtain ⟨v1,-⟩:=HI4.out 1 _ rfl;obtain ⟨za,-⟩:=HT4.out (1+ra) _ (c_J t.r ra hra8 _ _);rw [HVA.out] at za
     by_cases hb0:bl=0
     ·subst hb0
      by_cases e0:le=0
      ·subst e0;have HYW:=hid (show (lv != va)=y by rw [←HYV.out];by_cases e:lv=va <;> simp [e])
       go_wp2_with fail
       go_ret
       exact a_k HYW.out.symm HB4.out
      ·have hk0:(le != 0)=true:=by simpa using e0
       go_wp2_with fail
       go_ret
       exact a_k (s:=true) (by rw [←HYV.out];simp [e0]) HB4.out
     ·have hk0:((bl:Int)==0)=false:=by simp;omega
      go_wp2_with fail
      go_ret
      exact a_k (s:=false) (by rw [←HYV.out];simp [hb0]) HB4.out
   ·have HYV:=hid (show true=y by rw [←HYG.out,k_C,if_neg h.1,if_neg (by have:=h;omega),if_neg (by have:=h;omega),if_neg (by have:=h;omega)]);have q17:(op==17)=false:=by simp;omega
    have q18:(op==18)=false:=by simp;omega
    have q19:(op==19)=false:=by simp;omega
    have q20:(op==20)=false:=by simp;omega
    have q21:(op==21)=false:=by simp;omega
    have q22:(op==22)=false:=by simp;omega
    have q23:(op==23)=false:=by simp;omega
    clear h
    go_wp2_with fail
    go_ret
    exact a_k (s:=true) HYV.out.symm HB3.out
 ·have hs0:(t.st != 0)=true:=by simpa using st0
  have HST:=hid st0;clear st0
  go_wp2_with fail
  go_ret
  exact a_k (s:=false) (by rw [←HY.out,n_A,if_pos HST.out]) HB2.out
def g_2 (bs:List (List (Int×Int))) (k:Nat):List Int:=(bs.take k).map fun b=>(b.length:Int)
theorem m_D {bs:List (List (Int×Int))} {k:Nat} (h:k < bs.length):g_2 bs (k+1)=g_2 bs k++(((bs.getD k []).length:Nat):Int)::[]:=by
 rw [g_2,List.take_succ_eq_append_getElem h,List.map_append,List.getD_eq_getElem?_getD,List.getElem?_eq_getElem h];rfl
theorem n_X (X:Wo):g_2 X.bs X.bs.length=b_m X:=by rw [g_2,List.take_length];rfl
theorem u_b:(Tryz.prog.info? 3).map (fun i=>(i.zero,i.size,i.bytes))=some (some (.int .i64 0),1,8):=by kernel_rfl
theorem u_G (w:World) (g:Nat) (hg:g=w.heap.size) (x:Value) (t:TypeId):∀ j u,[x][j]?=some u→(w.alloc (.cells #[x] t)).cell? ((⟨g,0,none⟩:Addr).add j)=some u:=by
 intro j u hu;rw [Gen.add_plain,Nat.zero_add];exact (a_e (w:=w) [x] (t:=t) g hg j u hu).1
theorem p_C {k:Nat} {w:World} {B:Nat} {e:TypeId} {v:Value} {n:Nat} {xs:List Value} (h:w.ownsRow B e k v n xs):∃ a c,v=.slice a n c:=by
 exact J71
theorem m_G (Q:Nat→Prop) (L:WoL) (X:Wo) (j:Nat) (w:World) (R:RWo Q w L X) (hj:j < L.th.n) (hQ:∀ b,w.heap.size≤b→Q b) (hn:L.th.n≤1000) (hbm:L.bs.n≤1000) (hpc:0≤(thW X j).pc∧(thW X j).pc≤1000) :
  Calls Tryz.prog 58 #[woV L X.D,.int .i64 j] w (b_D Q (g_B X j (thW X j)) w):=by
 obtain ⟨Y,hY⟩:=mn (g_B X j (thW X j));rw [hY];obtain ⟨D,hD⟩:=mn (X.D);rw [hD];obtain ⟨tb,tq,t,ta,tc,qa,qc,htl,htt,-,T,hr⟩:=c_3 R.th hj;have htw:=N54;rw [htw] at hY;have HTW:=hid htw;rw [htw] at hpc;have ⟨HP,HBM⟩:=hh2 hpc hbm;clear hpc hbm;obtain ⟨tn,htn⟩:=mn (t.fs.length);obtain ⟨tm,htm⟩:=mn (t.lf.length);have HTN:=hid (And.intro htn htm);obtain ⟨Q1,hQ1⟩:∃ Q1:Nat→Prop,Q1=fun b=>Q b∧(b < w.heap.size∨w.heap.size+3≤b):=⟨_,rfl⟩
 have HQ1:=hid hQ1;have HQ2:=N30;have HR1:=N41;have HT1:=N36;obtain ⟨W,hW⟩:=nm ((w.alloc (Obj.cells (woC L D).toArray 33)).alloc (Obj.cells woZ.toArray 33));have HX:=N53;have HZ:=N64;have HB:=N3;have HSZ:=N43;have HRA:=N28;have ⟨HW,HY,HTL,HD,HN⟩:=hh5 hW hY htl hD hn;rw [htn,htm] at HT1;have i1:(0:Int)≤j:=by omega
 have i2:(j:Int) < L.th.n:=by omega
 clear htl hY hD htt T hr htn htm hQ1 R hW htw hQ hn;unfold woV
 go_enter Tryz.func58,Tryz.ntmps58
 go_upto_region 1 with fail
 rw [←HW.out];obtain ⟨k5,-⟩:=HX.out 5 _ rfl;rw [HTL.out] at k5
 go_upto_region 2 with (first | (refine wpList_load_mid rfl 46 _ rfl tb (tq+j*13) rfl (thC t ta tn tc qa tm qc) _ HRA.out Tryz.underlying46 rfl (by kernel_rfl) ?_) | (refine a_c rfl 46 _ _ rfl W.heap.size (thC t ta tn tc qa tm qc).toArray rfl rfl _ (a_e thN W.heap.size rfl) rfl (by kernel_rfl) (a_L _ _ _ _ _ _ _) ?_;intro V HV))
 rw [HSZ.out];simp only [Act.put];have HX2:=N31;have HZ2:=N75;have HT2:=N91;have HB2:=N27;have HS2:=N119;clear HV HX HZ HB HSZ HRA HW k5 i1 i2;have HT3:=N65;have HR3:=N109;obtain ⟨c12,g12⟩:=HT2.out 12 _ rfl
 by_cases ht0:0 < tm
 ·have i3:(0:Int) < tm:=by omega
  have HYF:=hid (show b_k X j (⟨t.pc+1,t.r,t.fs,t.st,t.ft,[]⟩:Thr)=Y by rw [←HY.out,g_B,if_neg (by have:=HTN.out.2;omega)];rfl);have hp1:0≤t.pc:=HP.out.1;have hp2:t.pc≤1000:=HP.out.2;obtain ⟨z0,f0⟩:=HT2.out 0 _ rfl;obtain ⟨V2,hV2⟩:=nm (((V.setCell ⟨(w.heap.size+2),12,none⟩ (.slice none 0 0)).setCell ⟨(w.heap.size+2),0,none⟩ (.int .i64 (t.pc+1))));have HX2s:=hid (show a_p V2 (w.heap.size) _ by rw [hV2];exact (a_l (g':=(w.heap.size+2)) (o:=0) (a_l (g':=(w.heap.size+2)) (o:=12) HX2.out (by omega) (.slice none 0 0)) (by omega) (.int .i64 (t.pc+1))));have HZ2s:=hid (show a_p V2 (w.heap.size+1) _ by rw [hV2];exact (a_l (g':=(w.heap.size+2)) (o:=0) (a_l (g':=(w.heap.size+2)) (o:=12) HZ2.out (by omega) (.slice none 0 0)) (by omega) (.int .i64 (t.pc+1))));have HT2s:=hid (show a_p V2 ((w.heap.size+2)) (thC (⟨t.pc+1,t.r,t.fs,t.st,t.ft,[]⟩:Thr) ta tn tc none 0 0) by have h:=(a_y (a_y HT2.out 12 (by simp) (.slice none 0 0)) 0 (by simp) (.int .i64 (t.pc+1)));rw [hV2];exact h);have hkV2:Kept Q1 V V2:=by rw [hV2];exact (a_3 (a_U _ _ _ (fun b hb=>by show b≠(w.heap.size+2);have:=HQ2.out.2.1 b hb;omega)) (a_U _ _ _ (fun b hb=>by show b≠(w.heap.size+2);have:=HQ2.out.2.1 b hb;omega)))
  have HB2s:=hid (show Below w.heap.size w V2 by rw [hV2];exact ((HB2.out.setCell (p:=⟨(w.heap.size+2),12,none⟩) (by show _≤(w.heap.size+2);omega) _).setCell (p:=⟨(w.heap.size+2),0,none⟩) (by show _≤(w.heap.size+2);omega) _));have HZV2:=hid (show V2.heap.size=V.heap.size by rw [hV2];simp);have HV2:=hid hV2;clear hV2
  go_upto_region 5 with fail
  rw [←HV2.out];clear c12 g12 z0 f0 hp1 hp2 i3
  have h0:Calls Tryz.prog 53 #[woV L D,.int .i64 j,thV ((⟨t.pc+1,t.r,t.fs,t.st,t.ft,[]⟩:Thr)) ta tn tc none 0 0] V2 (b_D Q1 Y V2):=by
   have h:=c_U Q1 L X j ((⟨t.pc+1,t.r,t.fs,t.st,t.ft,[]⟩:Thr)) ta tc none 0 V2 (a_z hkV2 HR3.out) (by rw [show ((⟨t.pc+1,t.r,t.fs,t.st,t.ft,[]⟩:Thr)).fs.length=tn from HTN.out.1,show ((⟨t.pc+1,t.r,t.fs,t.st,t.ft,[]⟩:Thr)).lf.length=0 from rfl];exact ⟨(a_v hkV2 HT3.out).fcap,(a_v hkV2 HT3.out).fs,b_W,d_h⟩) (fun b hb=>HQ2.out.2.2 b (by have:=HZV2.out;have:=HS2.out;omega)) HN.out;rw [show ((⟨t.pc+1,t.r,t.fs,t.st,t.ft,[]⟩:Thr)).fs.length=tn from HTN.out.1,show ((⟨t.pc+1,t.r,t.fs,t.st,t.ft,[]⟩:Thr)).lf.length=0 from rfl,HD.out,HYF.out] at h;exact h
  have HYD:=N94;have HC:=hid h0;clear h0
  go_wp2_with (first | (refine wpList_load_mid rfl 33 _ rfl (w.heap.size) 0 rfl (woC L D) _ (a_f HX2s.out) Tryz.underlying33 rfl (by kernel_rfl) ?_) | (refine wpList_load_mid rfl 46 _ rfl (w.heap.size+2) 0 rfl (thC ((⟨t.pc+1,t.r,t.fs,t.st,t.ft,[]⟩:Thr)) ta tn tc none 0 0) _ (a_f HT2s.out) Tryz.underlying46 rfl (by kernel_rfl) ?_))
  refine HC.out.mono ?_;rintro e9 w9 ⟨L9,rfl,R9,hb9⟩;have HZ9:=hid (a_h hb9 HZ2s.out);have HB9:=hid (a_a HB2s.out hb9);have HR9:=hid R9;clear hb9 R9 HC;rw [HYD.out]
  go_wp2_with (refine a_c rfl 33 _ _ rfl (w.heap.size+1) (woC L9 D).toArray rfl rfl _ HZ9.out rfl (by kernel_rfl) (b_p _ _) ?_;intro U HU)
  have HZ10:=N26;refine a_X ⟨w.heap.size+1,0,none⟩ rfl rfl rfl (a_E HZ10.out 33 Tryz.underlying33 rfl (by kernel_rfl)) ?_;have hkU:=N8;exact a_Z (L:=L9) (by rw [HYD.out]) (a_D HQ2.out.1 (a_z hkU HR9.out)) (by rw [HU.out];exact a_g (by omega) HB9.out)
 ·have ht1:t.lf.length=0:=by have:=HTN.out.2;omega
  obtain rfl:tm=0:=by omega
  have HYF:=hid (show b_k X j (⟨t.pc,t.r,t.fs,t.st,t.ft,b_m X⟩:Thr)=Y by rw [←HY.out,g_B,if_pos ht1]);obtain ⟨j0,ki,kz0,kz1,kz2⟩:=info_parts u_b;have HJ:=N73;have HBL:=hid HR3.out.bs.1;obtain ⟨bn,hbn⟩:=mn (L.bs.n);obtain ⟨ba,hba⟩:=mn (L.bs.a);obtain ⟨bc,hbc⟩:=mn (L.bs.c);have HBN:=hid (show bn≤1000 by rw [←hbn];exact HBM.out);have HBR:=hid (show BlP Q1 V ba bn X.bs by rw [←hbn,←hba];exact HR3.out.bs);obtain ⟨x4,-⟩:=(a_s (Obj.cells #[] 3) HX2.out) 4 _ rfl;rw [hba,hbn,hbc] at x4;have HBL2:=hid (show X.bs.length=bn by rw [HBL.out,hbn]);clear ki kz0 kz1 kz2 ht1 ht0 hba hbn hbc HBL
  go_wp2_with fail
  clear c12 g12 x4
  go_loopw [6,32] (fun v i wr=>∃ (k:Nat) (va:Option Addr) (vc:Nat),k≤bn∧i=.int .i64 k∧v=.slice va k vc∧Hid (wr.ownsRow V.heap.size 3 1 (.slice va k vc) k ((g_2 X.bs k).map (.int .i64)))∧Below V.heap.size V wr) (fun _ i _=>bn - (intOf i).toNat)
  case atStart=>exact ⟨0,_,_,Nat.zero_le _,rfl,rfl,(show V.alloc (Obj.cells #[] 3) |>.ownsRow V.heap.size 3 1 (.slice (some ⟨V.heap.size,0,none⟩) 0 0) 0 [] from World.ownsRow_lit V #[] 0 (Nat.le_refl _) (by decide) rfl),(Below.refl _ _).alloc (Nat.le_refl _) _⟩
  case round =>
   obtain ⟨k,va,vc,hk,rfl,rfl,ho,hb⟩:=hrel;have hsz:=hb.size;have HB5:=hid hb
   by_cases hlt:k < bn
   ·obtain ⟨bb,oo,q,c,hba,h1,-,-⟩:=f_p (a_G (a_C HB5.out) HBR.out) hlt;subst hba;have HSS:=hid (show g_2 X.bs (k+1)=g_2 X.bs k++(((X.bs.getD k []).length:Nat):Int)::[] from m_D (by rw [HBL2.out];exact hlt));obtain ⟨m,hm⟩:=mn ((X.bs.getD k []).length);rw [hm] at h1 HSS;have i2:(0:Int)≤k:=by omega
    have i3:(k:Int) < bn:=by omega
    obtain ⟨rw0,hrw0⟩:=nm ((g_2 X.bs k).map (Value.int .i64));have HOR:=hid (show wr.ownsRow V.heap.size 3 1 (.slice va k vc) k rw0 by rw [hrw0];exact ho.out);have HRW:=hid hrw0;have HKN:=hid (show k+1≤1000 by have:=HBN.out;omega);clear hrw0 hb hm
    go_wp2_with (at_builtin;refine wpList_append_own _ rfl (.tmp 36) (.tmp 39) 23 rfl V.heap.size 3 j0 (.int .i64 0) 1 8 Tryz.underlying23 HJ.out.1 HJ.out.2.1 HJ.out.2.2.1 HJ.out.2.2.2 rfl (by decide) (.slice va k vc) k rw0 rfl (HOR.out.alloc _) ⟨wr.heap.size,0,none⟩ 1 1 [.int .i64 m] rfl rfl (u_G _ _ rfl _ _) (by simp [Value.oneCell']) (by have:=HKN.out;unfold maxLen;omega) (by have:=HKN.out;omega) (by simp;omega) ?_)
    intro v4 w4 hown hgrow _;obtain ⟨va4,vc4,rfl⟩:=p_C hown;have HB6:=hid (show Below V.heap.size V w4 from (HB5.out.alloc hsz _).grown hgrow (by simp;omega) (fun g hr=>(HOR.out.lt g hr).1));have HO4:=hid (show w4.ownsRow V.heap.size 3 1 (.slice va4 (k+1) vc4) (k+1) ((g_2 X.bs (k+1)).map (.int .i64)) by rw [HSS.out,List.map_append,←HRW.out];exact hown);clear hown hgrow;have hkn:=HKN.out;have hwk:=N174
    go_wp2_with fail
    go_roundw
    case rel=>exact ⟨k+1,va4,vc4,by omega,by go_num,rfl,HO4.out,HB6.out⟩
    case measure=>simp [intOf];omega
   ·obtain rfl:k=bn:=by omega
    obtain ⟨W3,hW3⟩:=nm (wr);subst hW3;obtain ⟨va9,vc9,hv9,h91,h92,h93,V9⟩:=e_G (r:=repInt) (Q:=Q1) ho.out (h_e (.int .i64) (g_2 X.bs k)) (fun b h _=>HQ2.out.2.2 b (by have:=HS2.out;omega))
    cases hv9
    have HL9:=hid (show Cap va k vc∧Vs repInt Q1 W3 va k (b_m X) from ⟨⟨h91,h92,h93⟩,by rw [←n_X,HBL2.out];exact V9⟩);have HWL:=hid (show (b_m X).length=k from HL9.out.2.1);have HX3:=hid (a_h HB5.out HX2.out);have HZ3:=hid (a_h HB5.out HZ2.out);have HT5:=hid (a_h HB5.out HT2.out);have HB3:=hid (a_a HB2.out HB5.out);have HR5:=hid (b_q HB5.out HR3.out);have HT4:=hid (a_v (a_C HB5.out) HT3.out);have HS3:=hid (show w.heap.size+3≤W3.heap.size by have:=HS2.out;omega);clear h91 h92 h93 V9 hb hsz ho HX2 HZ2 HT2 HB2 HR3 HT3 HS2;obtain ⟨c12,g12⟩:=HT5.out 12 _ rfl;obtain ⟨V2,hV2⟩:=nm ((W3.setCell ⟨(w.heap.size+2),12,none⟩ (.slice va k vc)));have HX3s:=hid (show a_p V2 (w.heap.size) _ by rw [hV2];exact (a_l (g':=(w.heap.size+2)) (o:=12) HX3.out (by omega) (.slice va k vc)));have HZ3s:=hid (show a_p V2 (w.heap.size+1) _ by rw [hV2];exact (a_l (g':=(w.heap.size+2)) (o:=12) HZ3.out (by omega) (.slice va k vc)));have HT5s:=hid (show a_p V2 ((w.heap.size+2)) (thC (⟨t.pc,t.r,t.fs,t.st,t.ft,b_m X⟩:Thr) ta tn tc va k vc) by have h:=(a_y HT5.out 12 (by simp) (.slice va k vc));rw [hV2];exact h);have hkV2:Kept Q1 W3 V2:=by rw [hV2];exact (a_U _ _ _ (fun b hb=>by show b≠(w.heap.size+2);have:=HQ2.out.2.1 b hb;omega))
    have HB3s:=hid (show Below w.heap.size w V2 by rw [hV2];exact (HB3.out.setCell (p:=⟨(w.heap.size+2),12,none⟩) (by show _≤(w.heap.size+2);omega) _));have HZV2:=hid (show V2.heap.size=W3.heap.size by rw [hV2];simp);have HV2:=hid hV2;clear hV2
    go_upto_region 13 with fail
    rw [←HV2.out];clear c12 g12
    have h0:Calls Tryz.prog 53 #[woV L D,.int .i64 j,thV ((⟨t.pc,t.r,t.fs,t.st,t.ft,b_m X⟩:Thr)) ta tn tc va k vc] V2 (b_D Q1 Y V2):=by
     have h:=c_U Q1 L X j ((⟨t.pc,t.r,t.fs,t.st,t.ft,b_m X⟩:Thr)) ta tc va vc V2 (a_z hkV2 HR5.out) (by rw [show ((⟨t.pc,t.r,t.fs,t.st,t.ft,b_m X⟩:Thr)).fs.length=tn from HTN.out.1,show ((⟨t.pc,t.r,t.fs,t.st,t.ft,b_m X⟩:Thr)).lf.length=k from HWL.out];exact ⟨(a_v hkV2 HT4.out).fcap,(a_v hkV2 HT4.out).fs,HL9.out.1,a_B hkV2 HL9.out.2⟩) (fun b hb=>HQ2.out.2.2 b (by have:=HZV2.out;have:=HS3.out;omega)) HN.out;rw [show ((⟨t.pc,t.r,t.fs,t.st,t.ft,b_m X⟩:Thr)).fs.length=tn from HTN.out.1,show ((⟨t.pc,t.r,t.fs,t.st,t.ft,b_m X⟩:Thr)).lf.length=k from HWL.out,HD.out,HYF.out] at h;exact h
    have HYD:=N94;have HC:=hid h0;clear h0
    go_wp2_with (first | (refine wpList_load_mid rfl 33 _ rfl (w.heap.size) 0 rfl (woC L D) _ (a_f HX3s.out) Tryz.underlying33 rfl (by kernel_rfl) ?_) | (refine wpList_load_mid rfl 46 _ rfl (w.heap.size+2) 0 rfl (thC ((⟨t.pc,t.r,t.fs,t.st,t.ft,b_m X⟩:Thr)) ta tn tc va k vc) _ (a_f HT5s.out) Tryz.underlying46 rfl (by kernel_rfl) ?_))
    refine HC.out.mono ?_;rintro e9 w9 ⟨L9,rfl,R9,hb9⟩;have HZ9:=hid (a_h hb9 HZ3s.out);have HB9:=hid (a_a HB3s.out hb9);have HR9:=hid R9;clear hb9 R9 HC;rw [HYD.out]
    go_wp2_with (refine a_c rfl 33 _ _ rfl (w.heap.size+1) (woC L9 D).toArray rfl rfl _ HZ9.out rfl (by kernel_rfl) (b_p _ _) ?_;intro U HU)
    have HZ10:=N26;refine a_X ⟨w.heap.size+1,0,none⟩ rfl rfl rfl (a_E HZ10.out 33 Tryz.underlying33 rfl (by kernel_rfl)) ?_;have hkU:=N8;exact a_Z (L:=L9) (by rw [HYD.out]) (a_D HQ2.out.1 (a_z hkU HR9.out)) (by rw [HU.out];exact a_g (by omega) HB9.out)
end Go.Proofs.YtogdpojnbgeknaaGreatDoor
