import Derived.Test.YtogdpojnbgeknaaGreatDoorT11
import Derived.Deep.RegionHeld3
import Derived.Deep.DeepCutAuto
import Derived.Test.YtogdpojnbgeknaaGreatDoorT0
set_option maxRecDepth 100000
set_option maxHeartbeats 16000000
namespace Go.Proofs.YtogdpojnbgeknaaGreatDoor
open Go.ChangeShapes Go.WideShapes Go.ChangeAt Go.RowKit
def PlQ (Q:Nat→Prop) (w:World) (a:Option Addr) (n:Nat) (ps:List (Int×Int)):Prop:=ps.length=n∧(n=0∨∃ b o,a=some ⟨b,o,none⟩∧Q b∧p_V w b o ps)
theorem PlQ.pl {Q:Nat→Prop} {w:World} {a:Option Addr} {n:Nat} {ps:List (Int×Int)} (h:PlQ Q w a n ps):Pl w a n ps:=⟨h.1,h.2.imp id fun ⟨b,o,e,_,r⟩=>⟨b,o,e,r⟩⟩
theorem o_8 {Q:Nat→Prop} {F:Nat} {w:World} {a:Option Addr} {n:Nat} {ps:List (Int×Int)} (hQ:∀ b,F≤b→b < w.heap.size→Q b) (h:PlF F w a n ps):PlQ Q w a n ps:=by
 refine ⟨h.1,?_⟩
 by_cases h0:n=0
 ·exact .inl h0
 ·obtain ⟨b,o,e,hf,r⟩:=h.2.resolve_left h0;have:=b_c (r 0 (by have:=h.1;omega)).1;exact .inr ⟨b,o,e,hQ b hf this,r⟩
theorem q_U {Q Q':Nat→Prop} {w:World} {a:Option Addr} {n:Nat} {ps:List (Int×Int)} (hQ:∀ b,Q b→Q' b) (h:PlQ Q w a n ps):PlQ Q' w a n ps:=⟨h.1,h.2.imp id fun ⟨b,o,e,hf,r⟩=>⟨b,o,e,hQ b hf,r⟩⟩
theorem g_I {Q:Nat→Prop} {w w':World} {a:Option Addr} {n:Nat} {ps:List (Int×Int)} (hk:∀ (b o:Nat) (v:Value),Q b→w.cell? ⟨b,o,none⟩=some v→w'.cell? ⟨b,o,none⟩=some v) (h:PlQ Q w a n ps):PlQ Q w' a n ps:=
 ⟨h.1,h.2.imp id fun ⟨b,o,e,hq,r⟩=>⟨b,o,e,hq,fun i hi=>⟨hk _ _ _ hq (r i hi).1,hk _ _ _ hq (r i hi).2⟩⟩⟩
theorem a_r {Q:Nat→Prop} {w w':World} {a:Option Addr} {n:Nat} {zs:List Int} (hk:∀ (b o:Nat) (v:Value),Q b→w.cell? ⟨b,o,none⟩=some v→w'.cell? ⟨b,o,none⟩=some v) (h:SlP Q w a n zs):SlP Q w' a n zs:=
 ⟨h.1,h.2.imp id fun ⟨b,o,e,hq,r⟩=>⟨b,o,e,hq,fun i hi=>hk _ _ _ hq (r i hi)⟩⟩
theorem u_x {Q:Nat→Prop} {w w':World} {a:Option Addr} {n:Nat} {ps:List (Int×Int)} (hb:Below w.heap.size w w') (h:PlQ Q w a n ps):PlQ Q w' a n ps:=g_I (fun _ _ _ _ hv=>a_u hb hv) h
theorem a_2 {w:World} {p:Addr} {x:Value} {Q:Nat→Prop} (hp:∀ b,Q b→b≠p.block):∀ (b o:Nat) (v:Value),Q b→w.cell? ⟨b,o,none⟩=some v→(w.setCell p x).cell? ⟨b,o,none⟩=some v:=by
 intro b o v hq hv;rw [World.cell?_setCell_other]
 ·exact hv
 ·intro e;exact hp b hq (by rw [e])
def BCellQ (Q:Nat→Prop) (w:World) (a:Addr) (b:List (Int×Int)):Prop:=∃ q c,w.cell? a=some (.slice q b.length c)∧d_v q b.length c∧PlQ Q w q b.length b
theorem BCellQ.cell {Q:Nat→Prop} {w:World} {a:Addr} {b:List (Int×Int)} (h:BCellQ Q w a b):m_i w a b:=by
 obtain ⟨q,c,h1,h2,h3⟩:=h;exact ⟨q,c,h1,h2,h3.pl⟩
theorem d_K {Q:Nat→Prop} {w w':World} {a:Addr} {b:List (Int×Int)} (ha:∀ v,w.cell? a=some v→w'.cell? a=some v) (hk:∀ (b o:Nat) (v:Value),Q b→w.cell? ⟨b,o,none⟩=some v→w'.cell? ⟨b,o,none⟩=some v) (h:BCellQ Q w a b):BCellQ Q w' a b:=by
 obtain ⟨q,c,h1,h2,h3⟩:=h;exact ⟨q,c,ha _ h1,h2,g_I hk h3⟩
theorem f_n {Q Q':Nat→Prop} (hQ:∀ b,Q b→Q' b) {w:World} {a:Addr} {b:List (Int×Int)} (h:BCellQ Q w a b):BCellQ Q' w a b:=by
 obtain ⟨q,c,h1,h2,h3⟩:=h;exact ⟨q,c,h1,h2,q_U hQ h3⟩
def BlP (Q:Nat→Prop) (w:World) (a:Option Addr) (n:Nat) (bs:List (List (Int×Int))):Prop:=bs.length=n∧(n=0∨∃ b o,a=some ⟨b,o,none⟩∧Q b∧∀ i,i < bs.length→BCellQ Q w ⟨b,o+i,none⟩ (bs.getD i []))
theorem BlP.bl {Q:Nat→Prop} {w:World} {a:Option Addr} {n:Nat} {bs:List (List (Int×Int))} (h:BlP Q w a n bs):Bl w a n bs:=⟨h.1,h.2.imp id fun ⟨b,o,e,_,r⟩=>⟨b,o,e,fun i hi=>(r i hi).cell⟩⟩
theorem g_V (Q:Nat→Prop) (w:World):BlP Q w none 0 []:=⟨rfl,.inl rfl⟩
theorem a_G {Q:Nat→Prop} {w w':World} {a:Option Addr} {n:Nat} {bs:List (List (Int×Int))} (hk:∀ (b o:Nat) (v:Value),Q b→w.cell? ⟨b,o,none⟩=some v→w'.cell? ⟨b,o,none⟩=some v) (h:BlP Q w a n bs):BlP Q w' a n bs:=
 ⟨h.1,h.2.imp id fun ⟨b,o,e,hq,r⟩=>⟨b,o,e,hq,fun i hi=>d_K (fun _ hv=>hk _ _ _ hq hv) hk (r i hi)⟩⟩
theorem a_H {Q Q':Nat→Prop} (hQ:∀ b,Q b→Q' b) {w:World} {a:Option Addr} {n:Nat} {bs:List (List (Int×Int))} (h:BlP Q w a n bs):BlP Q' w a n bs:=
 ⟨h.1,h.2.imp id fun ⟨b,o,e,hq,r⟩=>⟨b,o,e,hQ b hq,fun i hi=>f_n hQ (r i hi)⟩⟩
theorem n_p {Q:Nat→Prop} {w w':World} {a:Option Addr} {n:Nat} {bs:List (List (Int×Int))} (hb:Below w.heap.size w w') (h:BlP Q w a n bs):BlP Q w' a n bs:=a_G (fun _ _ _ _ hv=>a_u hb hv) h
def i_V (F g k l:Nat) (bs:List (List (Int×Int))) (w:World):Prop:=bs.length=l∧F≤g∧g < w.heap.size∧(∀ i,i < k→BCellQ (fun b=>F≤b∧b≠g) w ⟨g,i,none⟩ (bs.getD i []))∧(∀ i,k≤i→i < l→w.cell? ⟨g,i,none⟩=some (.slice none 0 0))∧∀ i,i < l→w.frozen? ⟨g,i,none⟩=false
theorem i_9 {F g k l:Nat} {bs:List (List (Int×Int))} {w:World} (h:i_V F g k l bs w) {i:Nat} (hi:i < l):(w.cell? ⟨g,i,none⟩).isSome=true:=by
 obtain ⟨h1,h2,h3,h4,h5,h6⟩:=h
 by_cases e:i < k
 ·obtain ⟨q,c,e,_⟩:=h4 i e;rw [e];rfl
 ·rw [h5 i (by omega) hi];rfl
theorem r_I {F g k l:Nat} {bs:List (List (Int×Int))} {w w':World} (hb:Below w.heap.size w w') (h:i_V F g k l bs w):i_V F g k l bs w':=by
 obtain ⟨h1,h2,h3,h4,h5,h6⟩:=h;have:=hb.size;exact ⟨h1,h2,by omega,fun i hi=>d_K (fun _ hv=>a_u hb hv) (fun _ _ _ _ hv=>a_u hb hv) (h4 i hi),fun i hk hi=>a_u hb (h5 i hk hi),fun i hi=>(hb.frozen (p:=⟨g,i,none⟩) h3).trans (h6 i hi)⟩
theorem q_b {F g k l:Nat} {bs:List (List (Int×Int))} {w:World} (h:i_V F g k l bs w) (j:Nat) (hj:j < l) (hjk:j≤k) (b:List (Int×Int)) {p:Option Addr} {m c:Nat} (hp:PlQ (fun b=>F≤b∧b≠g) w p m b) (hc:d_v p m c) (k':Nat) (hk':k'=if j=k then k+1 else k) (bs':List (List (Int×Int))) (hbs:bs'.length=l) (hb1:bs'.getD j []=b) (hb2:∀ i,i < k→i≠j→bs'.getD i []=bs.getD i []) :
  i_V F g k' l bs' (w.setCell ⟨g,j,none⟩ (.slice p m c)):=by
 have hs:=i_9 h hj;obtain ⟨h1,h2,h3,h4,h5,h6⟩:=h;have hkp:∀ (b o:Nat) (v:Value),(F≤b∧b≠g)→w.cell? ⟨b,o,none⟩=some v→(w.setCell ⟨g,j,none⟩ (.slice p m c)).cell? ⟨b,o,none⟩=some v:=a_2 (Q:=fun b=>F≤b∧b≠g) (fun b hb=>hb.2)
 have hne:∀ i,i≠j→∀ v,w.cell? ⟨g,i,none⟩=some v→(w.setCell ⟨g,j,none⟩ (.slice p m c)).cell? ⟨g,i,none⟩=some v:=by
  intro i hi v hv;rw [World.cell?_setCell_other]
  ·exact hv
  ·intro e;exact hi (congrArg Addr.off e).symm
 refine ⟨hbs,h2,by simpa using h3,fun i hi=>?_,fun i hk hi=>?_,fun i hi=>by rw [World.frozen?_setCell];exact h6 i hi⟩
 ·by_cases e:i=j
  ·subst e;obtain rfl:b.length=m:=hp.1;rw [hb1];exact ⟨p,c,World.cell?_setCell_same' _ _ _ hs,hc,g_I hkp hp⟩
  ·have hik:i < k:=by rw [hk'] at hi;split at hi <;> omega
   rw [hb2 i hik e];exact d_K (hne i e) hkp (h4 i hik)
 ·refine hne i ?_ _ (h5 i ?_ hi)
  ·rw [hk'] at hk;split at hk <;> omega
  ·rw [hk'] at hk;split at hk <;> omega
theorem i_n {F g l:Nat} {bs:List (List (Int×Int))} {w:World} (h:i_V F g l l bs w):BlP (fun b=>F≤b) w (some ⟨g,0,none⟩) l bs:=by
 obtain ⟨h1,h2,h3,h4,h5,h6⟩:=h;refine ⟨h1,.inr ⟨g,0,rfl,h2,fun i hi=>?_⟩⟩;rw [Nat.zero_add];exact f_n (fun b hb=>hb.1) (h4 i (by omega))
theorem Tryz.info55:(Tryz.prog.info? 55).map (fun i=>(i.zero,i.size,i.bytes))=some (some (.slice none 0 0),1,24):=by kernel_rfl
def Nb (l:Nat):Array Value:=madeCells #[.slice none 0 0] l
theorem r_A (l i:Nat) (h:i < l):(Nb l)[i]?=some (.slice none 0 0):=by
 unfold Nb madeCells;simp [h,Nat.mod_one]
theorem j_m (n:Nat) (h:n≤1000) (w:World):(Instr.makeSlice 28 (.int .i64 n) (.int .i64 n)).run Tryz.prog w=.ok (.slice (some ⟨w.heap.size,0,none⟩) n n) (w.alloc (.cells (Nb n) 55)):=by
 obtain ⟨i0,hi,hz0,hz1,hz2⟩:=info_parts Tryz.info55;have:=run_make (P:=Tryz.prog) w 28 55 i0 (.slice none 0 0) Tryz.underlying28 hi hz0 .i64 .i64 n n (by omega) (by omega) (by rw [hz2];omega) (by omega);rw [this];simp [hz1,Nb,Value.cells]
theorem q_a (F l:Nat) (bs:List (List (Int×Int))) (w:World) (hl:bs.length=l) (hF:F≤w.heap.size):i_V F w.heap.size 0 l bs (w.alloc (.cells (Nb l) 55)):=
 ⟨hl,hF,by simp,fun i hi=>by omega,fun i _ hi=>a_W _ _ _ rfl (r_A l i hi),fun i hi=>c_m _ _ rfl⟩
theorem h_T (a:Option Addr) (n c:Nat) (ps:List (Int×Int)) (w:World) (S:Pl w a n ps) (hcap:d_v a n c) (hn:n≤1000) :
  Calls Tryz.prog 89 #[.slice a n c] w (h_L ps w):=by
 have Hn:=Lib.hid S.1
 cases a with
 | none =>
  obtain rfl:c=0:=hcap.2.2 rfl;obtain rfl:n=0:=by have:=hcap.1;omega
  obtain rfl:ps=[]:=List.eq_nil_of_length_eq_zero Hn.out;have q:=fun w=>i_q 55 59 none 0 0 Tryz.underlying55 w
  clear hcap
  go_enter Tryz.func89,Tryz.ntmps89
  go_wp2
  go_ret
  exact ⟨none,0,rfl,d_7,o_7 _ _,Below.refl _ _⟩
 | some p =>
  have HC:Hid (∀ W,Below w.heap.size w W→∀ j u,(b_H ps)[j]?=some u→W.cell? (p.add j)=some u):=by
   intro W hW j u hu;have hj:=N140;obtain ⟨b,o,e,R⟩:=S.2.resolve_left (by rw [←Hn.out];omega)
   cases e
   rw [f_D];exact f_v (q_W hW R) j u hu
  obtain ⟨i0,hi,hz0,hz1,hz2⟩:=N184;have HI:=N44;have q:=fun w=>i_q 55 59 (some p) n c Tryz.underlying55 w
  have h1:=hcap.1;have h2:=hcap.2.1;clear hi hz0 hz1 hz2 hcap S
  go_enter Tryz.func89,Tryz.ntmps89
  go_wp2_with (at_builtin;refine wpList_append_own _ rfl _ _ 55 rfl w.heap.size 59 i0 (.agg #[.int .i64 0,.int .i64 0]) 2 16 Tryz.underlying55 HI.out.1 HI.out.2.1 HI.out.2.2.1 HI.out.2.2.2 rfl (by decide) _ 0 [] rfl (World.ownsRow_made w #[] 0 (Nat.le_refl _) (by decide) (by simp)) p n c (b_H ps) rfl ?c1 ?c2 ?c3 ?c4 ?c5 ?c6 ?_)
  case c1=>rw [b_0,Hn.out]
  case c2=>exact HC.out _ (by go_grown)
  case c3=>exact d_h _
  case c4=>unfold maxLen;omega
  case c5=>omega
  case c6=>simp
  intro v' w1 hown' hgrow _;have hb':=((Below.refl w.heap.size w).alloc (Nat.le_refl _) (.cells #[] 59)).grown hgrow (by simp) (fun r hr=>by cases hr;simp);have ⟨HO,HB⟩:=hh2 hown' hb';clear hown' hb' hgrow
  go_wp2
  go_ret
  exact i_o Hn.out HO.out HB.out
theorem g_F {F g k l:Nat} {bs:List (List (Int×Int))} {w:World} (h:i_V F g k l bs w) {p:Addr} (hp:p.block < F) (v:Value):i_V F g k l bs (w.setCell p v):=by
 obtain ⟨h1,h2,h3,h4,h5,h6⟩:=h;have hk:∀ (b o:Nat) (u:Value),F≤b→w.cell? ⟨b,o,none⟩=some u→(w.setCell p v).cell? ⟨b,o,none⟩=some u:=a_2 (Q:=fun b=>F≤b) (fun b hb=>by omega);exact ⟨h1,h2,by simpa using h3,fun i hi=>d_K (hk g i · h2) (fun b o u hq=>hk b o u hq.1) (h4 i hi),fun i hi hl=>hk _ _ _ h2 (h5 i hi hl),fun i hi=>by rw [World.frozen?_setCell];exact h6 i hi⟩
theorem j_a {F F' g k l:Nat} {bs:List (List (Int×Int))} {w:World} (hF:F'≤F) (h:i_V F g k l bs w):i_V F' g k l bs w:=by
 obtain ⟨h1,h2,h3,h4,h5,h6⟩:=h;exact ⟨h1,by omega,h3,fun i hi=>f_n (fun b hb=>⟨by omega,hb.2⟩) (h4 i hi),h5,h6⟩
theorem f_S {F F':Nat} {w:World} {a:Option Addr} {n:Nat} {zs:List Int} (hF:F'≤F) (h:SlF F w a n zs):SlF F' w a n zs:=⟨h.1,h.2.imp id fun ⟨b,o,e,hq,r⟩=>⟨b,o,e,by omega,r⟩⟩
theorem s_2 {w:World} {g:Nat} (x y z u:Value) (h0:(w.cell? ⟨g,0,none⟩).isSome=true) (h1:(w.cell? ⟨g,1,none⟩).isSome=true) (h2:(w.cell? ⟨g,2,none⟩).isSome=true) (h3:(w.cell? ⟨g,3,none⟩).isSome=true) :
  ((((w.setCell ⟨g,0,none⟩ x).setCell ⟨g,1,none⟩ y).setCell ⟨g,2,none⟩ z).setCell ⟨g,3,none⟩ u).cell? ⟨g,0,none⟩=some x∧((((w.setCell ⟨g,0,none⟩ x).setCell ⟨g,1,none⟩ y).setCell ⟨g,2,none⟩ z).setCell ⟨g,3,none⟩ u).cell? ⟨g,1,none⟩=some y ∧
  ((((w.setCell ⟨g,0,none⟩ x).setCell ⟨g,1,none⟩ y).setCell ⟨g,2,none⟩ z).setCell ⟨g,3,none⟩ u).cell? ⟨g,2,none⟩=some z∧((((w.setCell ⟨g,0,none⟩ x).setCell ⟨g,1,none⟩ y).setCell ⟨g,2,none⟩ z).setCell ⟨g,3,none⟩ u).cell? ⟨g,3,none⟩=some u:=by
 have ne:∀ {i j:Nat},i≠j→(⟨g,j,none⟩:Addr)≠⟨g,i,none⟩:=fun h e=>h (congrArg Addr.off e).symm
 have st:∀ {W:World} {i j:Nat} {v:Value},i≠j→(W.setCell ⟨g,j,none⟩ v).cell? ⟨g,i,none⟩=W.cell? ⟨g,i,none⟩:=fun h=>World.cell?_setCell_other _ _ _ _ (ne h)
 refine ⟨?_,?_,?_,?_⟩
 ·rw [st (by decide),st (by decide),st (by decide)];exact World.cell?_setCell_same' _ _ _ h0
 ·rw [st (by decide),st (by decide)];exact World.cell?_setCell_same' _ _ _ (by rw [st (by decide)];exact h1)
 ·rw [st (by decide)];exact World.cell?_setCell_same' _ _ _ (by rw [st (by decide),st (by decide)];exact h2)
 ·exact World.cell?_setCell_same' _ _ _ (by rw [st (by decide),st (by decide),st (by decide)];exact h3)
def r_2 (w1:World) (n n':Nat) (ws ts:List Int) (s3 s4:Value) (wx:World):Prop:=∃ p d p' d',s3=.slice p n d∧s4=.slice p' n' d'∧SlF w1.heap.size wx p n ws∧SlF w1.heap.size wx p' n' ts∧Below w1.heap.size w1 wx
def l_n (ws ts:List Int) (D:Int) (bs:List (List (Int×Int))) (w:World) (e:Ending) (w':World):Prop:=
 ∃ p n d p' n' d' g m,e=.returned (.agg #[.slice p n d,.slice p' n' d',.int .i64 D,.slice (some ⟨g,0,none⟩) m m])∧SlP (fun b=>w.heap.size≤b∧b≠g) w' p n ws∧SlP (fun b=>w.heap.size≤b∧b≠g) w' p' n' ts∧i_V w.heap.size g m m bs w'∧Below w.heap.size w w'
theorem l_O (w:World) (b:Nat) (x y z u:Value) (k0:w.cell? ⟨b,0,none⟩=some x) (k1:w.cell? ⟨b,1,none⟩=some y) (k2:w.cell? ⟨b,2,none⟩=some z) (k3:w.cell? ⟨b,3,none⟩=some u):(loadVar 109 ⟨b,0,none⟩).run Tryz.prog w=.ok (.agg #[x,y,z,u]) w:=by
 simp [go_sem,k0,k1,k2,k3]
theorem a_7 (w:World) (b:Nat) (x y z u:Value) (k0:w.cell? ⟨b,0,none⟩=some x) (k1:w.cell? ⟨b,1,none⟩=some y) (k2:w.cell? ⟨b,2,none⟩=some z) (k3:w.cell? ⟨b,3,none⟩=some u):(loadVar 30 ⟨b,0,none⟩).run Tryz.prog w=.ok (.agg #[x,y,z,u]) w:=by
 simp [go_sem,k0,k1,k2,k3]
theorem k_L {ws ts:List Int} {D:Int} {bs:List (List (Int×Int))} {w wc wr:World} {p p':Option Addr} {n n' d d' m:Nat} {x y z u:Value}
  (u1:SlF (w.heap.size+2) wc p n ws) (u2:SlF (w.heap.size+2) wc p' n' ts) (hb:Below wc.heap.size wc wr) (O:i_V (w.heap.size+2) wc.heap.size m m bs wr) (hb0:Below w.heap.size w wc) :
  l_n ws ts D bs w (.returned (.agg #[.slice p n d,.slice p' n' d',.int .i64 D,.slice (some ⟨wc.heap.size,0,none⟩) m m])) ((((wr.setCell ⟨w.heap.size+1,0,none⟩ x).setCell ⟨w.heap.size+1,1,none⟩ y).setCell ⟨w.heap.size+1,2,none⟩ z).setCell ⟨w.heap.size+1,3,none⟩ u):=by
 have hz:=hb0.size;have hF:w.heap.size+2≤wc.heap.size:=O.2.1
 have hk:∀ (b o:Nat) (v:Value),(w.heap.size+2≤b∧b < wc.heap.size)→wc.cell? ⟨b,o,none⟩=some v→((((wr.setCell ⟨w.heap.size+1,0,none⟩ x).setCell ⟨w.heap.size+1,1,none⟩ y).setCell ⟨w.heap.size+1,2,none⟩ z).setCell ⟨w.heap.size+1,3,none⟩ u).cell? ⟨b,o,none⟩=some v:=by
  intro b o v hq hv;have ne:∀ j,(⟨w.heap.size+1,j,none⟩:Addr)≠⟨b,o,none⟩:=fun j e=>by have h:=congrArg Addr.block e;dsimp only at h;omega
  rw [World.cell?_setCell_other _ _ _ _ (ne _),World.cell?_setCell_other _ _ _ _ (ne _),World.cell?_setCell_other _ _ _ _ (ne _),World.cell?_setCell_other _ _ _ _ (ne _)];exact a_u hb hv
 have rw':∀ {a:Option Addr} {k:Nat} {zs:List Int},SlF (w.heap.size+2) wc a k zs→SlP (fun b=>w.heap.size+2≤b∧b < wc.heap.size) wc a k zs:=by
  intro a k zs h;refine ⟨h.1,?_⟩
  by_cases h0:k=0
  ·exact .inl h0
  ·obtain ⟨b,o,e,hf,r⟩:=h.2.resolve_left h0;exact .inr ⟨b,o,e,⟨hf,b_c (r 0 (by have:=h.1;omega))⟩,r⟩
 refine ⟨_,_,_,_,_,_,_,_,rfl,a_n (fun b hq=>⟨by omega,by omega⟩) (a_r hk (rw' u1)),a_n (fun b hq=>⟨by omega,by omega⟩) (a_r hk (rw' u2)),?_,?_⟩
 ·exact j_a (by omega) (g_F (g_F (g_F (g_F O (by simp) _) (by simp) _) (by simp) _) (by simp) _)
 ·exact ((((hb0.trans (hb.mono hz)).setCell (by simp) _).setCell (by simp) _).setCell (by simp) _).setCell (by simp) _
theorem e_j (a a' q:Option Addr) (n c n' c' l d:Nat) (ws ts:List Int) (D:Int) (bs:List (List (Int×Int))) (w:World) (S1:Sl w a n ws) (S2:Sl w a' n' ts) (S:Bl w q l bs) (hm:d_O ws ts D bs=true) :
  Calls Tryz.prog 67 #[.agg #[.slice a n c,.slice a' n' c',.int .i64 D,.slice q l d]] w (l_n ws ts D bs w):=by
 obtain ⟨m0,⟨m1,m2⟩,⟨m3,m4⟩,m5⟩:=a_X hm;obtain ⟨z0,z1,z2⟩:=c_s m0;have Hw:=Lib.hid S1.1;have Ht:=Lib.hid S2.1;have Hl:=Lib.hid S.1;have hn1:1≤n:=by rw [←Hw.out];exact z0
 have hn2:n≤160:=by rw [←Hw.out];exact z1
 have hn3:1≤n':=by rw [←Ht.out,z2];exact z0
 have hn4:n'≤160:=by rw [←Ht.out,z2];exact z1
 have hl1:1≤l:=by rw [←Hl.out];exact m1
 have hl2:l≤8:=by rw [←Hl.out];exact m2
 have H5:Hid (∀ i,i < l→(bs.getD i []).length≤8):=fun i hi=>by have:=(m5 i (by rw [Hl.out];exact hi)).1;omega
 clear m0 m1 m2 m3 m4 m5 z0 z1 z2 hm
 go_enter Tryz.func67,Tryz.ntmps67
 go_upto_region 1 with fail
 obtain ⟨W,hW⟩:=nm ((w.alloc (Obj.cells #[.slice a n c,.slice a' n' c',.int .i64 D,.slice q l d] 109)).alloc (Obj.cells #[.slice none 0 0,.slice none 0 0,.int .i64 0,.slice none 0 0] 109));have b0:=N2;have hWs:=N84;have k0:W.cell? ⟨w.heap.size,0,none⟩=some (.slice a n c):=by rw [hW];exact b_a _ (by simp)
 have k1:W.cell? ⟨w.heap.size,1,none⟩=some (.slice a' n' c'):=by rw [hW];exact b_a _ (by simp)
 have k2:W.cell? ⟨w.heap.size,2,none⟩=some (.int .i64 D):=by rw [hW];exact b_a _ (by simp)
 have k3:W.cell? ⟨w.heap.size,3,none⟩=some (.slice q l d):=by rw [hW];exact b_a _ (by simp)
 have r0:=N221;have r1:=N222;have r2:W.cell? ⟨w.heap.size+1,2,none⟩=some (.int .i64 0):=by rw [hW];simp
 have r3:W.cell? ⟨w.heap.size+1,3,none⟩=some (.slice none 0 0):=by rw [hW];simp
 have f0:∀ i,W.frozen? ⟨w.heap.size+1,i,none⟩=false:=by intro i;rw [hW];exact b_C (a_4 _ _ _ (by simp))
 rw [←hW];have ⟨HWs,HF0⟩:=hh2 hWs f0;have T1:=slB b0 S1;have T2:=slB b0 S2;have T:=blB b0 S;have HB0:=Lib.hid b0;clear hW hWs f0 b0 S1 S2 S
 go_cut [3,4] (fun s3 s4 wx=>r_2 W n n' ws ts s3 s4 wx)
 case first =>
  have hB0:=N107
  go_region_held3 (fun w'=>w'.cell? ⟨w.heap.size,0,none⟩=some (.slice a n c)∧w'.cell? ⟨w.heap.size,1,none⟩=some (.slice a' n' c')∧Below W.heap.size W w')
   (first | exact ⟨k0,k1,(Below.refl _ _).drew⟩ | (exact ⟨a_u (by assumption) k0,a_u (by assumption) k1,by assumption⟩))
   ((first | (go_at_call 85;refine (h_S a n c ws _ (slB (by assumption) T1) (by omega) (.inl (by omega))).mono ?_;rintro e wx ⟨p,d,rfl,u1,hbx⟩;rw [Hw.out] at u1 ⊢;have hbx':=a_b (by assumption) hbx) | (go_at_call 85;refine (h_S a' n' c' ts _ (slB (by assumption) T2) (by omega) (.inl (by omega))).mono ?_;rintro e wy ⟨p',d',rfl,u2,hby⟩;rw [Ht.out] at u2 ⊢;have hby':=a_b (by assumption) hby)))
  all_goals
   go_wp2_with fail
   go_meet
   first
    | exact ⟨_,_,_,_,rfl,rfl,j_J hby u1,f_S (hbx'.size) u2,hby'⟩
    | exact ⟨_,_,_,_,rfl,rfl,f_S (hby'.size) u1,j_J hbx u2,hbx'⟩
 case rest =>
  obtain ⟨p,d1,p',d2,rfl,rfl,u1,u2,hbx⟩:=hcut;replace u1:=f_S (F':=w.heap.size+2) (by rw [HWs.out];exact Nat.le_refl _) u1;replace u2:=f_S (F':=w.heap.size+2) (by rw [HWs.out];exact Nat.le_refl _) u2;have hmk:=j_m l (by omega);have hsz:w.heap.size+2≤wc.heap.size:=by have:=hbx.size;rw [HWs.out] at this;exact this
  have HBX:=Lib.hid (a_b HB0.out hbx);replace k0:=a_u hbx k0;replace k1:=a_u hbx k1;replace k2:=a_u hbx k2;replace k3:=a_u hbx k3;have f0:=b_8 hbx r0 (HF0.out 0);have f1:=b_8 hbx r1 (HF0.out 1);have f2:=b_8 hbx r2 (HF0.out 2);have f3:=b_8 hbx r3 (HF0.out 3);replace r0:=a_u hbx r0;replace r1:=a_u hbx r1;replace r2:=a_u hbx r2;replace r3:=a_u hbx r3;replace T:=blB hbx T;have a3:=b_a (Obj.cells (Nb l) 55) k3;have ⟨U1,U2⟩:=hh2 u1 u2;clear hbx T1 T2 u1 u2 HWs HF0 HB0
  go_wp2_with fail
  go_loopw [27] (fun i wr=>∃ k:Nat,k≤l∧i=.int .i64 k∧Hid (i_V (w.heap.size+2) wc.heap.size k l bs wr)∧Below wc.heap.size wc wr) (fun i _=>l - (intOf i).toNat)
  case atStart=>exact ⟨0,by omega,rfl,q_a _ _ _ _ Hl.out hsz,(Below.refl _ _).alloc (Nat.le_refl _) _⟩
  case round =>
   obtain ⟨k,hk,rfl,hr,hb⟩:=hrel;have k0':=a_u hb k0;have k1':=a_u hb k1;have k2':=a_u hb k2;have k3':=a_u hb k3;have HB:=Lib.hid hb
   by_cases hlt:k < l
   ·obtain ⟨b,o,y,yc,rfl,g0,hcap,hp⟩:=k_a (blB hb T) hlt;have h8:=H5.out k hlt;obtain ⟨x,hx⟩:=mn (bs.getD k []);rw [hx] at g0 hp hcap h8;have HX:=Lib.hid hx;obtain ⟨m,hm⟩:=mn (x.length);rw [hm] at g0 hp hcap h8;have HM:=Lib.hid hm;have i1:(0:Int)≤k:=by omega
    have i2:(k:Int) < l:=by omega
    have HC:=Lib.hid hcap;clear hx hm hb hcap
    go_wp2_with (go_at_call 89;refine (h_T y m yc x _ hp HC.out (by omega)).mono ?_;rintro e w2 ⟨y2,c2,rfl,hc2,hp2,hb2⟩;rw [HM.out] at hc2 hp2 ⊢;have O2:=r_I hb2 hr.out;have G0:=O2.2.2.2.2.1 k (Nat.le_refl _) hlt;have G1:=O2.2.2.2.2.2 k hlt;have HO2:=Lib.hid O2;have HB2:=Lib.hid hb2;have HP2:=Lib.hid hp2;have HC2:=Lib.hid hc2;clear O2 hb2 hp2 hc2)
    have hsr:=hr.out.2.2.1
    go_roundw
    case rel =>
     refine ⟨k+1,by omega,by go_num,q_b HO2.out k hlt (Nat.le_refl _) x (o_8 (F:=wr.heap.size) (fun b h1 h2=>⟨by omega,by omega⟩) HP2.out) HC2.out _ (by simp) bs Hl.out HX.out (fun _ _ _=>rfl),(a_b HB.out HB2.out).setCell (Nat.le_refl _) _⟩
    case measure=>simp [intOf];omega
   ·obtain rfl:k=l:=by omega
    have r0':=a_u hb r0;have r1':=a_u hb r1;have r2':=a_u hb r2;have r3':=a_u hb r3;have f0':=b_8 hb r0 f0;have f1':=b_8 hb r1 f1;have f2':=b_8 hb r2 f2;have f3':=b_8 hb r3 f3;clear hb r0 r1 r2 r3 f0 f1 f2 f3 k0 k1 k2 k3
    go_wp2
    have R4:=s_2 (w:=wr) (g:=w.heap.size+1) (.slice p n d1) (.slice p' n' d2) (.int .i64 D) (.slice (some ⟨wc.heap.size,0,none⟩) k k) (by rw [r0'];rfl) (by rw [r1'];rfl) (by rw [r2'];rfl) (by rw [r3'];rfl);refine a_V ⟨w.heap.size+1,0,none⟩ rfl rfl rfl (l_O _ _ _ _ _ _ R4.1 R4.2.1 R4.2.2.1 R4.2.2.2) ?_;exact k_L U1.out U2.out HB.out hr.out HBX.out
end Go.Proofs.YtogdpojnbgeknaaGreatDoor
