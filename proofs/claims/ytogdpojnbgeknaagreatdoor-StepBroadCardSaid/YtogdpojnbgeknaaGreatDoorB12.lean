import Derived.Test.YtogdpojnbgeknaaGreatDoorB11
import Derived.Test.YtogdpojnbgeknaaGreatDoorB3
import Derived.Test.YtogdpojnbgeknaaGreatDoorB8
import Derived.Test.YtogdpojnbgeknaaGreatDoorB9
import Derived.Test.YtogdpojnbgeknaaGreatDoorB10
import Derived.Test.YtogdpojnbgeknaaGreatDoorB0
import Derived.Test.YtogdpojnbgeknaaGreatDoorB1
import Derived.Test.YtogdpojnbgeknaaGreatDoorB6
set_option maxRecDepth 100000
set_option maxHeartbeats 16000000
namespace Go.Proofs.YtogdpojnbgeknaaGreatDoor
open Go.ChangeShapes Go.WideShapes Go.ChangeAt Go.RowKit
open Gen
theorem h_G {α:Type} {r:Rep α} {Q:Nat→Prop} {w:World} {a:Option Addr} {n:Nat} {ys:List α} (h:Vs r Q w a n ys):∃ cs,d_p r Q w cs ys∧∀ p,a=some p→∀ j u,cs[j]?=some u→w.cell? (p.add j)=some u:=by
 obtain ⟨h1,h2⟩:=h
 rcases h2 with h2 | ⟨b,o,e,-,f⟩
 ·obtain rfl:ys=[]:=List.eq_nil_of_length_eq_zero (by omega);exact ⟨[],rfl,fun p _ j u hj=>by simp at hj⟩
 ·have key:∀ k,k≤ys.length→∃ cs,d_p r Q w cs (ys.take k)∧∀ j u,cs[j]?=some u→w.cell? ⟨b,o+j,none⟩=some u:=by
   intro k
   induction k with
   | zero=>exact fun _=>⟨[],rfl,fun j u hj=>by simp at hj⟩
   | succ k ih =>
    intro hk;obtain ⟨cs,i1,i2⟩:=ih (by omega);obtain ⟨c,j1,j2⟩:=f k ys[k] (List.getElem?_eq_getElem hk);refine ⟨cs++c,?_,fun j u hj=>?_⟩
    ·rw [List.take_succ_eq_append_getElem hk];exact e_V j1 i1
    ·have hl:=b_f i1;rw [List.length_take,Nat.min_eq_left (by omega)] at hl
     by_cases hjc:j < cs.length
     ·rw [List.getElem?_append_left hjc] at hj;exact i2 j u hj
     ·rw [List.getElem?_append_right (by omega)] at hj;have:=j2 _ u hj;rw [show o+j=o+k*r.k+(j - cs.length) by omega];exact this
  obtain ⟨cs,i1,i2⟩:=key ys.length (Nat.le_refl _);rw [List.take_length] at i1;refine ⟨cs,i1,fun p hp j u hj=>?_⟩;rw [e] at hp
  cases hp
  rw [Gen.add_plain];exact i2 j u hj
theorem g_e {α:Type} {r:Rep α} {Q:Nat→Prop} {w:World}:∀ {ys:List α} {cs:List Value},cs.length=ys.length*r.k→(∀ i y,ys[i]?=some y→∃ c,r.R Q w c y∧∀ j v,c[j]?=some v→cs[i*r.k+j]?=some v)→d_p r Q w cs ys
 | [],cs,hl,_=>List.eq_nil_of_length_eq_zero (by simpa using hl)
 | y::ys,cs,hl,h=>by
  obtain ⟨c,h1,h2⟩:=h 0 y rfl;have hc:=r.len h1;have hl2:cs.length=r.k+ys.length*r.k:=by rw [hl,List.length_cons,Nat.succ_mul,Nat.add_comm]
  have e:c=cs.take r.k:=by
   apply List.ext_getElem?
   intro j;rw [List.getElem?_take]
   by_cases hj:j < r.k
   ·rw [if_pos hj,List.getElem?_eq_getElem (show j < c.length by omega)];have:=h2 j _ (List.getElem?_eq_getElem (show j < c.length by omega));rw [Nat.zero_mul,Nat.zero_add] at this;exact this.symm
   ·rw [if_neg hj,List.getElem?_eq_none (by omega)]
  refine ⟨cs.take r.k,cs.drop r.k,(List.take_append_drop _ _).symm,e▸h1,g_e (by rw [List.length_drop];omega) (fun i z hz=>?_)⟩;obtain ⟨d,d1,d2⟩:=h (i+1) z (by simpa using hz);refine ⟨d,d1,fun j v hj=>?_⟩;rw [List.getElem?_drop,show r.k+(i*r.k+j)=(i+1)*r.k+j by rw [Nat.succ_mul];omega];exact d2 j v hj
theorem h_f {Q:Nat→Prop} {w:World}:∀ {ts:List Thr} {cs:List Value},d_p repTh Q w cs ts→∀ u∈cs,u.oneCell'=true
 | [],cs,h=>by rw [show cs=[] from h];intro u hu;cases hu
 | _::_,_,⟨c,d,e,⟨_,_,_,_,h1,_⟩,h2⟩=>by
  intro u hu;rw [e] at hu
  rcases List.mem_append.1 hu with h3 | h3
  ·rw [h1] at h3;exact h_l _ _ _ _ _ _ _ u h3
  ·exact h_f h2 u h3
theorem e_T {Q:Nat→Prop} {w:World}:∀ {is:List Ins} {cs:List Value},d_p repIns Q w cs is→∀ u∈cs,u.oneCell'=true
 | [],cs,h=>by rw [show cs=[] from h];intro u hu;cases hu
 | i::_,_,⟨c,d,e,h1,h2⟩=>by
  intro u hu;rw [e] at hu
  rcases List.mem_append.1 hu with h3 | h3
  ·rw [show c=d_S i from h1] at h3;simp [d_S] at h3;rcases h3 with rfl | rfl | rfl | rfl <;> rfl
  ·exact e_T h2 u h3
theorem m_p {w:World} {a:Option Addr} {n:Nat} {zs:List Int} (h:Sl w a n zs):∀ p,a=some p→∀ j u,(zs.map (Value.int .i64))[j]?=some u→w.cell? (p.add j)=some u:=by
 intro p hp j u hj
 rcases h.2 with h2 | ⟨b,o,e,R⟩
 ·have:zs=[]:=List.eq_nil_of_length_eq_zero (by have:=h.1;omega);subst this;simp at hj
 ·rw [e] at hp;cases hp;rw [Gen.add_plain];have hl:j < zs.length:=by have:=(List.getElem?_eq_some_iff.1 hj).1;simpa using this
  rw [R j hl];rw [List.getElem?_map,List.getElem?_eq_getElem hl] at hj;rw [List.getD_eq_getElem?_getD,List.getElem?_eq_getElem hl];exact hj
theorem o_Q (zs:List Int):∀ u∈zs.map (Value.int .i64),u.oneCell'=true:=by
 intro u hu;obtain ⟨z,_,rfl⟩:=List.mem_map.1 hu
 rfl
def BAt (Q:Nat→Prop) (w:World) (cs:List Value) (i:Nat) (b:List (Int×Int)):Prop:=∃ q c,cs[i]?=some (.slice q b.length c)∧d_A q b.length c∧PlQ Q w q b.length b
theorem s_B {Q:Nat→Prop} {w:World} {a:Option Addr} {n:Nat} {bs:List (List (Int×Int))} (h:BlP Q w a n bs):∃ cs:List Value,cs.length=n∧(∀ p,a=some p→∀ j u,cs[j]?=some u→w.cell? (p.add j)=some u)∧(∀ i b,bs[i]?=some b→BAt Q w cs i b)∧∀ u∈cs,u.oneCell'=true:=by
 obtain ⟨h1,h2⟩:=h
 rcases h2 with h2 | ⟨b,o,e,-,f⟩
 ·obtain rfl:bs=[]:=List.eq_nil_of_length_eq_zero (by omega);exact ⟨[],by simp;omega,fun p _ j u hj=>by simp at hj,fun i b hb=>by simp at hb,fun u hu=>by cases hu⟩
 ·have hc:∀ i,i < n→∃ q c,w.cell? ⟨b,o+i,none⟩=some (.slice q (bs.getD i []).length c)∧d_A q (bs.getD i []).length c∧PlQ Q w q (bs.getD i []).length (bs.getD i []):=fun i hi=>f i (by omega)
  refine ⟨(List.range n).map (fun i=>(w.cell? ⟨b,o+i,none⟩).getD undef),by simp,fun p hp j u hj=>?_,fun i y hy=>?_,fun u hu=>?_⟩
  ·rw [e] at hp;cases hp;have hj2:j < n:=by have:=(List.getElem?_eq_some_iff.1 hj).1;simpa using this
   obtain ⟨q,c,k1,-,-⟩:=hc j hj2;rw [List.getElem?_map,List.getElem?_range hj2] at hj;rw [Gen.add_plain,k1]
   simpa [k1] using hj
  ·have hi:=(List.getElem?_eq_some_iff.1 hy).1;obtain ⟨q,c,k1,k2,k3⟩:=hc i (by omega);have e2:bs.getD i []=y:=by rw [List.getD_eq_getElem?_getD,hy];rfl
   rw [e2] at k1 k2 k3;exact ⟨q,c,by rw [List.getElem?_map,List.getElem?_range (by omega)];simp [k1],k2,k3⟩
  ·obtain ⟨i,hi,rfl⟩:=List.mem_map.1 hu;obtain ⟨q,c,k1,-,-⟩:=hc i (by simpa using hi);rw [k1];rfl
def n_I (k:Nat) (Qn Qo:Nat→Prop) (w:World) (ts:List Thr) (TC:List Value):Prop:=TC.length=ts.length*13∧∀ i t,ts[i]?=some t→∃ fa fc la lc,(∀ j v,(thC t fa t.fs.length fc la t.lf.length lc)[j]?=some v→TC[i*13+j]?=some v)∧ThQ (if i < k then Qn else Qo) w fa t.fs.length fc la t.lf.length lc t
def p_0 (k:Nat) (Qn Qo:Nat→Prop) (w:World) (bs:List (List (Int×Int))) (BC:List Value):Prop:=BC.length=bs.length∧∀ i b,bs[i]?=some b→BAt (if i < k then Qn else Qo) w BC i b
theorem f_U {k:Nat} {Qn Qo:Nat→Prop} {w w':World} {ts:List Thr} {TC:List Value} (h1:Kept Qn w w') (h2:Kept Qo w w') (h:n_I k Qn Qo w ts TC):n_I k Qn Qo w' ts TC:=⟨h.1,fun i t ht=>by
 obtain ⟨fa,fc,la,lc,a,b⟩:=h.2 i t ht;refine ⟨fa,fc,la,lc,a,a_v ?_ b⟩
 split
 ·exact h1
 ·exact h2⟩
theorem f_T {k:Nat} {Qn Qo:Nat→Prop} {w w':World} {bs:List (List (Int×Int))} {BC:List Value} (h1:Kept Qn w w') (h2:Kept Qo w w') (h:p_0 k Qn Qo w bs BC):p_0 k Qn Qo w' bs BC:=⟨h.1,fun i t ht=>by
 obtain ⟨q,c,a,b,d⟩:=h.2 i t ht;refine ⟨q,c,a,b,d.1,d.2.imp id fun ⟨b,o,e,hq,r⟩=>⟨b,o,e,hq,fun j hj=>?_⟩⟩
 split at hq
 ·exact ⟨h1 _ _ _ hq (r j hj).1,h1 _ _ _ hq (r j hj).2⟩
 ·exact ⟨h2 _ _ _ hq (r j hj).1,h2 _ _ _ hq (r j hj).2⟩⟩
theorem q_6 {k:Nat} {Qn Qo:Nat→Prop} {w:World} {ts:List Thr} {TC:List Value} {t:Thr} {a b:Option Addr} {c d:Nat} (h:n_I k Qn Qo w ts TC) (ht:ts[k]?=some t) (ca:Cap a t.fs.length c) (va:Vs repFr Qn w a t.fs.length t.fs) (cb:Cap b t.lf.length d) (vb:Vs repInt Qn w b t.lf.length t.lf) :
  n_I (k+1) Qn Qo w ts ((TC.set (k*13+9) (.slice a t.fs.length c)).set (k*13+12) (.slice b t.lf.length d)):=by
 have hk:=(List.getElem?_eq_some_iff.1 ht).1;refine ⟨by simp [h.1],fun i u hu=>?_⟩;obtain ⟨fa,fc,la,lc,h1,h2⟩:=h.2 i u hu;have hi:=(List.getElem?_eq_some_iff.1 hu).1
 by_cases e:i=k
 ·subst e;rw [ht] at hu;cases hu;refine ⟨a,c,b,d,fun j v hj=>?_,by rw [if_pos (by omega)];exact ⟨ca,va,cb,vb⟩⟩;have hj13:j < 13:=(List.getElem?_eq_some_iff.1 hj).1;have hl:=h.1;rw [List.getElem?_set,List.getElem?_set]
  by_cases e12:j=12
  ·subst e12;rw [if_pos rfl,if_pos (by simp;omega)];exact hj
  ·rw [if_neg (by omega)]
   by_cases e9:j=9
   ·subst e9;rw [if_pos rfl,if_pos (by omega)];exact hj
   ·rw [if_neg (by omega)];refine h1 j v ?_;rw [←hj]
    rcases (show j=0∨j=1∨j=2∨j=3∨j=4∨j=5∨j=6∨j=7∨j=8∨j=10∨j=11 by omega) with rfl | rfl | rfl | rfl | rfl | rfl | rfl | rfl | rfl | rfl | rfl <;> rfl
 ·refine ⟨fa,fc,la,lc,fun j v hj=>?_,?_⟩
  ·have hj13:j < 13:=(List.getElem?_eq_some_iff.1 hj).1;rw [List.getElem?_set,List.getElem?_set,if_neg (by omega),if_neg (by omega)];exact h1 j v hj
  ·by_cases e2:i < k
   ·rw [if_pos e2] at h2;rw [if_pos (by omega)];exact h2
   ·rw [if_neg e2] at h2;rw [if_neg (by omega)];exact h2
theorem q_4 {k:Nat} {Qn Qo:Nat→Prop} {w:World} {bs:List (List (Int×Int))} {BC:List Value} {x:List (Int×Int)} {q:Option Addr} {c:Nat} (h:p_0 k Qn Qo w bs BC) (hx:bs[k]?=some x) (hc:d_A q x.length c) (hp:PlQ Qn w q x.length x) :
  p_0 (k+1) Qn Qo w bs (BC.set k (.slice q x.length c)):=by
 have hk:=(List.getElem?_eq_some_iff.1 hx).1;refine ⟨by simp [h.1],fun i u hu=>?_⟩
 by_cases e:i=k
 ·subst e;rw [hx] at hu;cases hu;exact ⟨q,c,by rw [List.getElem?_set_self (by rw [h.1];exact hk)],hc,by rw [if_pos (by omega)];exact hp⟩
 ·obtain ⟨q2,c2,h1,h2,h3⟩:=h.2 i u hu;refine ⟨q2,c2,by rw [List.getElem?_set_ne (fun h=>e h.symm)];exact h1,h2,?_⟩
  by_cases e2:i < k
  ·rw [if_pos e2] at h3;rw [if_pos (by omega)];exact h3
  ·rw [if_neg e2] at h3;rw [if_neg (by omega)];exact h3
theorem o_T {k:Nat} {Q Qn Qo:Nat→Prop} {w:World} {ts:List Thr} {TC:List Value} (h:n_I k Qn Qo w ts TC) (hk:ts.length≤k) (hQ:∀ b,Qn b→Q b):d_p repTh Q w TC ts:=
 g_e (r:=repTh) h.1 fun i t ht=>by
  obtain ⟨fa,fc,la,lc,a,b⟩:=h.2 i t ht;have hi:=(List.getElem?_eq_some_iff.1 ht).1;rw [if_pos (by omega)] at b;exact ⟨_,⟨fa,fc,la,lc,rfl,b_t hQ b⟩,a⟩
theorem s_1 {k:Nat} {Q Qn Qo:Nat→Prop} {w:World} {bs:List (List (Int×Int))} {BC:List Value} {g:Nat} (h:p_0 k Qn Qo w bs BC) (hk:bs.length≤k) (hQ:∀ b,Qn b→Q b) (hg:Q g) (hv:a_p w g BC):BlP Q w (some ⟨g,0,none⟩) bs.length bs:=
 ⟨rfl,.inr ⟨g,0,rfl,hg,fun i hi=>by
  obtain ⟨q,c,a,b,d⟩:=h.2 i _ (List.getElem?_eq_getElem hi);rw [if_pos (by omega)] at d;have e:bs.getD i []=bs[i]:=by rw [List.getD_eq_getElem?_getD,List.getElem?_eq_getElem hi];rfl
  rw [e];refine ⟨q,c,?_,b,d.1,d.2.imp id fun ⟨b,o,e,hq,r⟩=>⟨b,o,e,hQ _ hq,r⟩⟩;rw [Nat.zero_add];exact (hv i _ a).1⟩⟩
end Go.Proofs.YtogdpojnbgeknaaGreatDoor
namespace Go.Proofs.YtogdpojnbgeknaaGreatDoor
open Go.ChangeShapes Go.WideShapes Go.ChangeAt Go.RowKit
open Gen
section
variable {P:Program} {ops:Array Oper} {Q:Exit→Act→World→Prop}
def InvZ (n:Nat) (Q:Exit→Act→World→Prop) (l:List (Option Tmp)) (B:World→Prop) (S:b_v) (pi pj:Nat) (p:e_H) (a0:Act) (w0:World) (listed:Array Bool) (a:Act) (w:World):Prop:=
 (Up listed n→∀ i,i < n→Up listed i)∧(Up listed n→Q .normal a w)∧(¬ Up listed n→InvD l B S pi pj p a0 w0 listed a w)
theorem s_W {n k:Nat} {l:List (Option Tmp)} {B:World→Prop} {S:b_v} {pi pj:Nat} {p:e_H} {a0 a:Act} {w0 w:World} {listed:Array Bool} (hkn:k < n) (hnu:¬ Up listed n) (h:InvD l B S pi pj p a0 w0 (listed.setIfInBounds k true) a w):InvZ n Q l B S pi pj p a0 w0 (listed.setIfInBounds k true) a w:=
 ⟨fun hu=>absurd (a_b hu (by omega)) hnu,fun hu=>absurd (a_b hu (by omega)) hnu,fun _=>h⟩
theorem InvZ.cons {l:List (Option Tmp)} {B:World→Prop} {S:b_v} {pi pj:Nat} {p:e_H} {a0:Act} {w0:World} {k:Nat} {o:Oper} {rest:List Oper} {ws:List Nat}
  {n:Nat} (hkn:Nat.blt k n=true) (hw:c_D .any o=ws) (hl:l[k]?=some o.dst) (hn:decide (b_N l).Nodup=true) (hd:ws.all (fun j=>decide (j < l.length))=true)
  (hD:(a_V S k).all (fun i=>(k::(ws++ws.flatMap (a_V S))).contains i)=true)
  (h:∀ a1 vals w1,a1.defers=a0.defers→CameD l B S pi pj p a0 ws a1 vals w1→∀ K:Act→World→Prop,g_Y S pi pj p B k vals o.dst a1 w1 K →
   if Region.wanted o (yielded ops a1.tmps)=true then Oper.wp P o a1 w1 K Q else K (a1.put o.dst undef) w1)
  (hs:StepsL P .any ops Q (InvZ n Q l B S pi pj p a0 w0) (k+1) rest):StepsL P .any ops Q (InvZ n Q l B S pi pj p a0 w0) k (o::rest):=by
 have hn:=of_decide_eq_true hn;refine StepsL.cons hw (fun listed a1 w1 hI hu hu2 K hK=>?_) hs;have hkn:=N248;have hnu:=N219;obtain ⟨vals,rfl,hb,hv,hp⟩:=hI.2.2 hnu;have hlt:=N52
 have hall:∀ i,i∈ws++ws.flatMap (a_V S)→Up listed i:=fun i hi=>by
  exact J55
 refine h _ vals w1 (c_X _ _ _ _) ⟨fun j t hj ht=>?_,fun t ht=>?_,hb,fun j hj=>(hv j (hlt j hj) (hu2 j hj)).2,fun h1 h2 l1 l2=>hp l1 l2 (hall _ h1) (hall _ h2)⟩ K (fun v w2 h1 h2 h3 h4 h5 h6 h7=>?_)
 ·exact J35
 ·exact J21
 ·refine hK.out _ _ (s_W hkn hnu ⟨fun i=>if i=k then v else vals i,e_v hn hl v,h2,fun j hjl hj=>?_,fun l1 l2 u1 u2=>?_⟩)
  by_cases e:j=k
  ·subst e;refine ⟨fun i hi=>?_,h1⟩;exact J37
  ·exact J33
  ·exact J18
def isW (k:Nat) (ds:List Nat) (x:Value):List Nat×(List Value→World→Prop):=(k::ds,fun l _=>l.head?=some x)
theorem a_2 {k:Nat} {ds:List Nat} {x:Value} {S:b_v} (hs:c_q S):c_q (isW k ds x::S):=a_w (fun _ _ _ _ h=>h) hs
theorem CameD.isw {l:List (Option Tmp)} {B:World→Prop} {S:b_v} {pi pj:Nat} {p:e_H} {a0 a1:Act} {ws:List Nat} {vals:Nat→Value} {w1:World} (C:CameD l B S pi pj p a0 ws a1 vals w1) (j t:Nat) (ds:List Nat) (x:Value) (hj:l[j]?=some (some t)) (hs:Nat.blt t a0.tmps.size=true) (hm:ws.contains j=true) (he:S[j]?=some (isW j ds x)):a1.tmps[t]?.getD undef=x:=by
 have h:=C.says j hm;rw [b_E,a_V,List.getD_eq_getElem?_getD,he] at h;rw [C.t j t hj hs]
 simpa [isW] using h
theorem e_Y {S:b_v} {k:Nat} {ds:List Nat} {x:Value} {vals:Nat→Value} {w:World} (he:S[k]?=some (isW k ds x)) (h:b_E S k ((a_V S k).map vals) w):vals k=x:=by
 rw [b_E,a_V,List.getD_eq_getElem?_getD,he] at h
 simpa [isW] using h
theorem c_i {S:b_v} {k:Nat} {d:List Nat} {f:List Value→World→Prop} {vals:Nat→Value} {w:World} (he:S[k]?=some (d,f)) (h:b_E S k ((a_V S k).map vals) w):f (d.map vals) w:=by
 rw [b_E,a_V,List.getD_eq_getElem?_getD,he] at h;exact h
theorem InvZ.last {l:List (Option Tmp)} {B:World→Prop} {S:b_v} {pi pj:Nat} {p:e_H} {a0:Act} {w0:World} {n:Nat} {o:Oper} (hl:l.length=n) (hw:(List.range n).all (fun i=>(c_D .any o).contains i||(c_D .any o).any (fun j=>Nat.blt j n&&(a_V S j).contains i))=true)
  (hnd:decide (b_N l).Nodup=true) (h:∀ vals w1 aE,Hid (aE=c_N a0 l vals 0)→(∀ j t,l[j]?=some (some t)→Nat.blt t a0.tmps.size=true→aE.eval (.tmp t)=vals j)→B w1→(∀ k,k < l.length→b_E S k ((a_V S k).map vals) w1)→(pi < l.length→pj < l.length→p (vals pi) (vals pj) w1)→∀ K:Act→World→Prop,(∀ a2 w2,Q .normal a2 w2→K a2 w2) →
   if Region.wanted o (yielded ops aE.tmps)=true then Oper.wp P o aE w1 K Q else K (aE.put o.dst undef) w1):StepsL P .any ops Q (InvZ n Q l B S pi pj p a0 w0) n [o]:=by
 refine StepsL.cons rfl (fun listed a1 w1 hI hu hu2 K hK=>?_) StepsL.nil;obtain ⟨vals,rfl,hb,hv,hp⟩:=hI.2.2 hu
 have hall:∀ i,i < n→Up listed i:=fun i hi=>by
  exact J41
 refine h vals w1 _ (Lib.hid rfl) (fun j t hj ht=>?_) hb (fun k hk=>(hv k hk (hall k (by omega))).2) (fun l1 l2=>hp l1 l2 (hall _ (by omega)) (hall _ (by omega))) K (fun a2 w2 hq=>hK.out _ _ ⟨fun _ i hi=>a_o (hall i hi),fun _=>hq,fun hn=>absurd d_Z hn⟩);exact J60
theorem c_I {id:Nat} {ol:List Oper} {a:Act} {w:World} (n:Nat) (l:List (Option Tmp)) (B:World→Prop) (S:b_v) (pi pj:Nat) (p:e_H) (hm:P.follows .mixedOrders=true) (hb:i_z .any ol.toArray=true) (hn:decide (b_N l).Nodup=true) (hl:l.length=n) (hlen:ol.length=n+1)
  (h0:B w.drew) (hs:StepsL P .any ol.toArray Q (InvZ n Q l B S pi pj p a w) 0 ol):(Code.region id ol.toArray true).wp P Q a w:=by
 refine b_u (InvZ n Q l B S pi pj p) hm hb (fun listed hl2=>⟨fun hu=>absurd hu (hl2 n (by omega)),fun hu=>absurd hu (hl2 n (by omega)),fun _=>⟨e_M a l,(putL_first (of_decide_eq_true hn)).symm,h0,fun k hkl hk=>absurd hk (hl2 k (by omega)),fun l1 _ u1 _=>absurd u1 (hl2 _ (by omega))⟩⟩) hs (fun listed a' w' hI hu=>hI.2.1 (hu n))
theorem f_7 {o:Oper} {a:Act} {w:World} {K:Act→World→Prop} (x:Operand) (args:Array Operand) (aT:Array TypeId) (ho:o.op=Op.call { callee:=.value x,args:=args,argTypes:=aT })
  (f:FuncId) (hx:a.eval x=.func (.func f) #[] #[]) (vs:List Value) (hv:args.toList.map a.eval=vs) (hf:(P.funcs[f]?).map (fun fn=>(fn.name=="runtime.NumGoroutine",fn.body.isNone))=some (false,false))
  (h:Calls P f vs.toArray w (fun e w'=>(∃ v,e=.returned v∧K (a.put o.dst v) w')∨(∃ c,e=.panicked c∧Q (.panic c) a w'))):Oper.wp P o a w K Q:=by
 have e:(execOp a.eval o).run P w=.ok (.enter f vs.toArray) w:=by
  exact J52
 unfold Oper.wp;rw [e,Oper.upon_enter]
 exact h.mono (by
  rintro e w' (⟨v,rfl,hK⟩ | ⟨c,rfl,hK⟩)
  ·exact hK
  ·exact hK)
theorem g_U {listed:Array Bool} {k m:Nat}:(listed.setIfInBounds k true).getD m true=(listed.getD m true||(k==m)):=by
 by_cases e:k=m
 ·subst e;have:=@d_Z listed k;unfold Up at this;rw [this];simp
 ·have h:=@up_set listed k m;unfold Up at h;have e2:(k==m)=false:=by simpa using e
  rw [e2,Bool.or_false,Bool.eq_iff_iff,h];exact ⟨fun h=>h.resolve_left (fun h=>e h.symm),.inr⟩
def InvY (n m:Nat) (Q:Exit→Act→World→Prop) (l:List (Option Tmp)) (B:Bool→World→Prop) (S:b_v) (pi pj:Nat) (p:e_H) (a0:Act) (w0:World) (listed:Array Bool) (a:Act) (w:World):Prop:=
 (Up listed n→∀ i,i < n→Up listed i)∧(Up listed n→Q .normal a w)∧(¬ Up listed n→InvD l (B (listed.getD m true)) S pi pj p a0 w0 listed a w)
theorem s_V {n m k:Nat} {l:List (Option Tmp)} {B:Bool→World→Prop} {S:b_v} {pi pj:Nat} {p:e_H} {a0 a:Act} {w0 w:World} {listed:Array Bool} (hkn:k < n) (hnu:¬ Up listed n) (h:InvD l (B ((listed.setIfInBounds k true).getD m true)) S pi pj p a0 w0 (listed.setIfInBounds k true) a w):InvY n m Q l B S pi pj p a0 w0 (listed.setIfInBounds k true) a w:=
 ⟨fun hu=>absurd (a_b hu (by omega)) hnu,fun hu=>absurd (a_b hu (by omega)) hnu,fun _=>h⟩
theorem InvY.cons {l:List (Option Tmp)} {B:Bool→World→Prop} {S:b_v} {pi pj:Nat} {p:e_H} {a0:Act} {w0:World} {k:Nat} {o:Oper} {rest:List Oper} {ws:List Nat}
  {n m:Nat} (hkn:Nat.blt k n=true) (hw:c_D .any o=ws) (hl:l[k]?=some o.dst) (hn:decide (b_N l).Nodup=true) (hd:ws.all (fun j=>decide (j < l.length))=true)
  (hD:(a_V S k).all (fun i=>(k::(ws++ws.flatMap (a_V S))).contains i)=true)
  (h:∀ a1 vals w1 bl,(k=m→bl=false)→a1.defers=a0.defers→CameD l (B bl) S pi pj p a0 ws a1 vals w1→∀ K:Act→World→Prop,g_Y S pi pj p (cond (k==m) (B true) (B bl)) k vals o.dst a1 w1 K →
   if Region.wanted o (yielded ops a1.tmps)=true then Oper.wp P o a1 w1 K Q else K (a1.put o.dst undef) w1)
  (hs:StepsL P .any ops Q (InvY n m Q l B S pi pj p a0 w0) (k+1) rest):StepsL P .any ops Q (InvY n m Q l B S pi pj p a0 w0) k (o::rest):=by
 have hn:=of_decide_eq_true hn;refine StepsL.cons hw (fun listed a1 w1 hI hu hu2 K hK=>?_) hs;have hkn:=N248;have hnu:=N219;obtain ⟨vals,rfl,hb,hv,hp⟩:=hI.2.2 hnu;have hlt:=N52
 have hall:∀ i,i∈ws++ws.flatMap (a_V S)→Up listed i:=fun i hi=>by
  exact J55
 refine h _ vals w1 (listed.getD m true) (fun e=>by subst e;cases hx:listed.getD k true with | false=>rfl | true=>exact absurd hx hu) (c_X _ _ _ _) ⟨fun j t hj ht=>?_,fun t ht=>?_,hb,fun j hj=>(hv j (hlt j hj) (hu2 j hj)).2,fun h1 h2 l1 l2=>hp l1 l2 (hall _ h1) (hall _ h2)⟩ K (fun v w2 h1 h2 h3 h4 h5 h6 h7=>?_)
 ·exact J35
 ·exact J21
 ·refine hK.out _ _ (s_V hkn hnu ⟨fun i=>if i=k then v else vals i,e_v hn hl v,(by
   rw [g_U]
   cases hkm:(k==m) with
   | false=>rw [hkm] at h2;rw [Bool.or_false];exact h2
   | true=>rw [hkm] at h2;rw [Bool.or_true];exact h2),fun j hjl hj=>?_,fun l1 l2 u1 u2=>?_⟩)
  by_cases e:j=k
  ·subst e;refine ⟨fun i hi=>?_,h1⟩;exact J37
  ·exact J33
  ·exact J18
theorem InvY.last {l:List (Option Tmp)} {B:Bool→World→Prop} {S:b_v} {pi pj:Nat} {p:e_H} {a0:Act} {w0:World} {n m:Nat} {o:Oper} (hl:l.length=n) (hw:(List.range n).all (fun i=>(c_D .any o).contains i||(c_D .any o).any (fun j=>Nat.blt j n&&(a_V S j).contains i))=true)
  (hnd:decide (b_N l).Nodup=true) (h:∀ vals w1 aE,Hid (aE=c_N a0 l vals 0)→(∀ j t,l[j]?=some (some t)→Nat.blt t a0.tmps.size=true→aE.eval (.tmp t)=vals j)→(∃ bl,B bl w1)→(∀ k,k < l.length→b_E S k ((a_V S k).map vals) w1)→(pi < l.length→pj < l.length→p (vals pi) (vals pj) w1)→∀ K:Act→World→Prop,(∀ a2 w2,Q .normal a2 w2→K a2 w2) →
   if Region.wanted o (yielded ops aE.tmps)=true then Oper.wp P o aE w1 K Q else K (aE.put o.dst undef) w1):StepsL P .any ops Q (InvY n m Q l B S pi pj p a0 w0) n [o]:=by
 refine StepsL.cons rfl (fun listed a1 w1 hI hu hu2 K hK=>?_) StepsL.nil;obtain ⟨vals,rfl,hb,hv,hp⟩:=hI.2.2 hu
 have hall:∀ i,i < n→Up listed i:=fun i hi=>by
  exact J41
 refine h vals w1 _ (Lib.hid rfl) (fun j t hj ht=>?_) ⟨_,hb⟩ (fun k hk=>(hv k hk (hall k (by omega))).2) (fun l1 l2=>hp l1 l2 (hall _ (by omega)) (hall _ (by omega))) K (fun a2 w2 hq=>hK.out _ _ ⟨fun _ i hi=>a_o (hall i hi),fun _=>hq,fun hn=>absurd d_Z hn⟩);exact J60
theorem h_V {id:Nat} {ol:List Oper} {a:Act} {w:World} (n m:Nat) (hmn:Nat.blt m n=true) (l:List (Option Tmp)) (B:Bool→World→Prop) (S:b_v) (pi pj:Nat) (p:e_H) (hm:P.follows .mixedOrders=true) (hb:i_z .any ol.toArray=true) (hn:decide (b_N l).Nodup=true) (hl:l.length=n) (hlen:ol.length=n+1)
  (h0:B false w.drew) (hs:StepsL P .any ol.toArray Q (InvY n m Q l B S pi pj p a w) 0 ol):(Code.region id ol.toArray true).wp P Q a w:=by
 refine b_u (InvY n m Q l B S pi pj p) hm hb (fun listed hl2=>⟨fun hu=>absurd hu (hl2 n (by omega)),fun hu=>absurd hu (hl2 n (by omega)),fun _=>⟨e_M a l,(putL_first (of_decide_eq_true hn)).symm,(by cases hx:listed.getD m true with | false=>exact h0 | true=>exact absurd hx (hl2 m (by have:=(Nat.blt_eq▸hmn:m < n);omega))),fun k hkl hk=>absurd hk (hl2 k (by omega)),fun l1 _ u1 _=>absurd u1 (hl2 _ (by omega))⟩⟩) hs (fun listed a' w' hI hu=>hI.2.1 (hu n))
def InvU (n m:Nat) (D:List Nat) (Q:Exit→Act→World→Prop) (l:List (Option Tmp)) (B:Bool→World→Prop) (S:b_v) (pi pj:Nat) (p:e_H) (a0:Act) (w0:World) (listed:Array Bool) (a:Act) (w:World):Prop:=
 (Up listed n→∀ i,i < n→Up listed i)∧(Up listed m→∀ i∈D,Up listed i)∧(Up listed n→Q .normal a w)∧(¬ Up listed n→InvD l (B (listed.getD m true)) S pi pj p a0 w0 listed a w)
theorem s_U {n m k:Nat} {D:List Nat} {l:List (Option Tmp)} {B:Bool→World→Prop} {S:b_v} {pi pj:Nat} {p:e_H} {a0 a:Act} {w0 w:World} {listed:Array Bool} (hkn:k < n) (hnu:¬ Up listed n) (hm:Up (listed.setIfInBounds k true) m→∀ i∈D,Up (listed.setIfInBounds k true) i) (h:InvD l (B ((listed.setIfInBounds k true).getD m true)) S pi pj p a0 w0 (listed.setIfInBounds k true) a w):InvU n m D Q l B S pi pj p a0 w0 (listed.setIfInBounds k true) a w:=
 ⟨fun hu=>absurd (a_b hu (by omega)) hnu,hm,fun hu=>absurd (a_b hu (by omega)) hnu,fun _=>h⟩
theorem InvU.cons {l:List (Option Tmp)} {B:Bool→World→Prop} {S:b_v} {pi pj:Nat} {p:e_H} {a0:Act} {w0:World} {k:Nat} {o:Oper} {rest:List Oper} {ws:List Nat}
  {n m:Nat} {D:List Nat} (hkn:Nat.blt k n=true) (hln:l.length=n) (hw:c_D .any o=ws) (hl:l[k]?=some o.dst) (hn:decide (b_N l).Nodup=true) (hd:ws.all (fun j=>decide (j < l.length))=true)
  (hD:(a_V S k).all (fun i=>(k::(ws++ws.flatMap (a_V S))).contains i)=true)
  (hkm:(k != m||D.all (fun i=>ws.contains i||ws.any (fun j=>Nat.blt j n&&(a_V S j).contains i)))=true)
  (h:∀ a1 vals w1 bl,((k==m||D.contains k)=true→bl=false)→a1.defers=a0.defers→CameD l (B bl) S pi pj p a0 ws a1 vals w1→∀ K:Act→World→Prop,g_Y S pi pj p (cond (k==m) (B true) (B bl)) k vals o.dst a1 w1 K →
   if Region.wanted o (yielded ops a1.tmps)=true then Oper.wp P o a1 w1 K Q else K (a1.put o.dst undef) w1)
  (hs:StepsL P .any ops Q (InvU n m D Q l B S pi pj p a0 w0) (k+1) rest):StepsL P .any ops Q (InvU n m D Q l B S pi pj p a0 w0) k (o::rest):=by
 have hn:=of_decide_eq_true hn;refine StepsL.cons hw (fun listed a1 w1 hI hu hu2 K hK=>?_) hs;have hkn:=N248;have hnu:=N219;obtain ⟨vals,rfl,hb,hv,hp⟩:=hI.2.2.2 hnu;have hlt:=N52
 have hall:∀ i,i∈ws++ws.flatMap (a_V S)→Up listed i:=fun i hi=>by
  exact J55
 have hmn:Up (listed.setIfInBounds k true) m→∀ i∈D,Up (listed.setIfInBounds k true) i:=fun hum i hi=>by
  by_cases e:m=k
  ·subst e
   rcases Bool.or_eq_true_iff.1 hkm with h1 | h1
   ·exact absurd h1 (by simp)
   ·have h2:=List.all_eq_true.1 h1 i hi
    rcases Bool.or_eq_true_iff.1 h2 with h3 | h3
    ·exact a_o (hu2 i (List.contains_iff_mem.1 h3))
    ·obtain ⟨j,hj,h4⟩:=List.any_eq_true.1 h3;simp only [Bool.and_eq_true] at h4;have hjn:j < n:=by simpa [Nat.blt_eq] using h4.1
     exact a_o ((hv j (by omega) (hu2 j hj)).1 i (List.contains_iff_mem.1 h4.2))
  ·exact a_o (hI.2.1 (a_b hum e) i hi)
 refine h _ vals w1 (listed.getD m true) (fun e=>by
  cases hx:listed.getD m true with
  | false=>rfl
  | true =>
   rcases Bool.or_eq_true_iff.1 e with h1 | h1
   ·have h1:k=m:=by simpa using h1
    subst h1;exact absurd hx hu
   ·exact absurd (hI.2.1 hx k (List.contains_iff_mem.1 h1)) hu) (c_X _ _ _ _) ⟨fun j t hj ht=>?_,fun t ht=>?_,hb,fun j hj=>(hv j (hlt j hj) (hu2 j hj)).2,fun h1 h2 l1 l2=>hp l1 l2 (hall _ h1) (hall _ h2)⟩ K (fun v w2 h1 h2 h3 h4 h5 h6 h7=>?_)
 ·exact J35
 ·exact J21
 ·refine hK.out _ _ (s_U hkn hnu hmn ⟨fun i=>if i=k then v else vals i,e_v hn hl v,(by
   rw [g_U]
   cases hkm:(k==m) with
   | false=>rw [hkm] at h2;rw [Bool.or_false];exact h2
   | true=>rw [hkm] at h2;rw [Bool.or_true];exact h2),fun j hjl hj=>?_,fun l1 l2 u1 u2=>?_⟩)
  by_cases e:j=k
  ·subst e;refine ⟨fun i hi=>?_,h1⟩;exact J37
  ·exact J33
  ·exact J18
theorem InvU.last {l:List (Option Tmp)} {B:Bool→World→Prop} {S:b_v} {pi pj:Nat} {p:e_H} {a0:Act} {w0:World} {n m:Nat} {D:List Nat} {o:Oper} (hmn:D.all (fun i=>Nat.blt i n)=true) (hl:l.length=n) (hw:(List.range n).all (fun i=>(c_D .any o).contains i||(c_D .any o).any (fun j=>Nat.blt j n&&(a_V S j).contains i))=true)
  (hnd:decide (b_N l).Nodup=true) (h:∀ vals w1 aE,Hid (aE=c_N a0 l vals 0)→(∀ j t,l[j]?=some (some t)→Nat.blt t a0.tmps.size=true→aE.eval (.tmp t)=vals j)→(∃ bl,B bl w1)→(∀ k,k < l.length→b_E S k ((a_V S k).map vals) w1)→(pi < l.length→pj < l.length→p (vals pi) (vals pj) w1)→∀ K:Act→World→Prop,(∀ a2 w2,Q .normal a2 w2→K a2 w2) →
   if Region.wanted o (yielded ops aE.tmps)=true then Oper.wp P o aE w1 K Q else K (aE.put o.dst undef) w1):StepsL P .any ops Q (InvU n m D Q l B S pi pj p a0 w0) n [o]:=by
 refine StepsL.cons rfl (fun listed a1 w1 hI hu hu2 K hK=>?_) StepsL.nil;obtain ⟨vals,rfl,hb,hv,hp⟩:=hI.2.2.2 hu
 have hall:∀ i,i < n→Up listed i:=fun i hi=>by
  exact J41
 refine h vals w1 _ (Lib.hid rfl) (fun j t hj ht=>?_) ⟨_,hb⟩ (fun k hk=>(hv k hk (hall k (by omega))).2) (fun l1 l2=>hp l1 l2 (hall _ (by omega)) (hall _ (by omega))) K (fun a2 w2 hq=>hK.out _ _ ⟨fun _ i hi=>a_o (hall i hi),fun _ i hi=>a_o (hall i (by have:=List.all_eq_true.1 hmn i hi;simpa [Nat.blt_eq] using this)),fun _=>hq,fun hn=>absurd d_Z hn⟩);exact J60
theorem h_U {id:Nat} {ol:List Oper} {a:Act} {w:World} (n m:Nat) (D:List Nat) (hmn:Nat.blt m n=true) (l:List (Option Tmp)) (B:Bool→World→Prop) (S:b_v) (pi pj:Nat) (p:e_H) (hm:P.follows .mixedOrders=true) (hb:i_z .any ol.toArray=true) (hn:decide (b_N l).Nodup=true) (hl:l.length=n) (hlen:ol.length=n+1)
  (h0:B false w.drew) (hs:StepsL P .any ol.toArray Q (InvU n m D Q l B S pi pj p a w) 0 ol):(Code.region id ol.toArray true).wp P Q a w:=by
 refine b_u (InvU n m D Q l B S pi pj p) hm hb (fun listed hl2=>⟨fun hu=>absurd hu (hl2 n (by omega)),fun hu=>absurd hu (hl2 m (by have:=(Nat.blt_eq▸hmn:m < n);omega)),fun hu=>absurd hu (hl2 n (by omega)),fun _=>⟨e_M a l,(putL_first (of_decide_eq_true hn)).symm,(by cases hx:listed.getD m true with | false=>exact h0 | true=>exact absurd hx (hl2 m (by have:=(Nat.blt_eq▸hmn:m < n);omega))),fun k hkl hk=>absurd hk (hl2 k (by omega)),fun l1 _ u1 _=>absurd u1 (hl2 _ (by omega))⟩⟩) hs (fun listed a' w' hI hu=>hI.2.2.1 (hu n))
theorem g_y {o:Oper} {a:Act} {w w':World} {K:Act→World→Prop} (h:(execOp a.eval o).run P w=.ok .skip w') (hk:K (a.put o.dst undef) w'):Oper.wp P o a w K Q:=by
 unfold Oper.wp;rw [h];exact hk
theorem e_D {o:Oper} {a:Act} {w:World} {K:Act→World→Prop} (ty:TypeId) (x y:Operand) (ho:o.op=.store ty x y) (g f:Nat) (cells:Array Value) (hx:a.eval x=.pointer (some ⟨g,f,none⟩)) (hy:a.eval y=.agg cells)
  (vs:List Value) (hv:a_p w g vs) (hl:f+cells.size≤vs.length) (hi:(P.info? ty).map (·.size)=some cells.size) (h1:cells.all (·.oneCell')=true)
  (h:∀ U,Hid (U=d_u w g f cells.toList)→K (a.put o.dst undef) U):Oper.wp P o a w K Q:=
 wp_store_mid ty x y ho g f cells hx hy (fun j hj=>by
  have hv':=N213;obtain ⟨h1,h2⟩:=hv _ _ hv';exact ⟨by rw [h1];rfl,h2⟩) hi h1 (h _ (Lib.hid (f_e _ _ _ _)))
end
theorem InvZ.c {l:List (Option Tmp)} {B:World→Prop} {S:b_v} {pi pj:Nat} {p:e_H} {a0:Act} {w0:World} {k:Nat} {o:Oper} {rest:List Oper} {P:Program} {ops:Array Oper} {Q:Exit→Act→World→Prop} {n:Nat}
  (h:∀ a1 vals w1,a1.defers=a0.defers→CameD l B S pi pj p a0 (c_D .any o) a1 vals w1→∀ K:Act→World→Prop,g_Y S pi pj p B k vals o.dst a1 w1 K→if Region.wanted o (yielded ops a1.tmps)=true then Oper.wp P o a1 w1 K Q else K (a1.put o.dst undef) w1)
  (hs:StepsL P .any ops Q (InvZ n Q l B S pi pj p a0 w0) (k+1) rest) (hkn:Nat.blt k n=true:=by exact rfl) (hl:l[k]?=some o.dst:=by exact rfl) (hn:decide (b_N l).Nodup=true:=by exact rfl) (hd:(c_D .any o).all (fun j=>decide (j < l.length))=true:=by exact rfl)
  (hD:(a_V S k).all (fun i=>(k::(c_D .any o++(c_D .any o).flatMap (a_V S))).contains i)=true:=by exact rfl):StepsL P .any ops Q (InvZ n Q l B S pi pj p a0 w0) k (o::rest):=InvZ.cons hkn rfl hl hn hd hD h hs
theorem InvY.c {l:List (Option Tmp)} {B:Bool→World→Prop} {S:b_v} {pi pj:Nat} {p:e_H} {a0:Act} {w0:World} {k:Nat} {o:Oper} {rest:List Oper} {P:Program} {ops:Array Oper} {Q:Exit→Act→World→Prop} {n m:Nat}
  (h:∀ a1 vals w1,∀ bl,(k=m→bl=false)→a1.defers=a0.defers→CameD l (B bl) S pi pj p a0 (c_D .any o) a1 vals w1→∀ K:Act→World→Prop,g_Y S pi pj p (cond (k==m) (B true) (B bl)) k vals o.dst a1 w1 K→if Region.wanted o (yielded ops a1.tmps)=true then Oper.wp P o a1 w1 K Q else K (a1.put o.dst undef) w1)
  (hs:StepsL P .any ops Q (InvY n m Q l B S pi pj p a0 w0) (k+1) rest) (hkn:Nat.blt k n=true:=by exact rfl) (hl:l[k]?=some o.dst:=by exact rfl) (hn:decide (b_N l).Nodup=true:=by exact rfl) (hd:(c_D .any o).all (fun j=>decide (j < l.length))=true:=by exact rfl)
  (hD:(a_V S k).all (fun i=>(k::(c_D .any o++(c_D .any o).flatMap (a_V S))).contains i)=true:=by exact rfl):StepsL P .any ops Q (InvY n m Q l B S pi pj p a0 w0) k (o::rest):=InvY.cons hkn rfl hl hn hd hD h hs
theorem InvU.c {l:List (Option Tmp)} {B:Bool→World→Prop} {S:b_v} {pi pj:Nat} {p:e_H} {a0:Act} {w0:World} {k:Nat} {o:Oper} {rest:List Oper} {P:Program} {ops:Array Oper} {Q:Exit→Act→World→Prop} {n m:Nat} {D:List Nat}
  (h:∀ a1 vals w1,∀ bl,((k==m||D.contains k)=true→bl=false)→a1.defers=a0.defers→CameD l (B bl) S pi pj p a0 (c_D .any o) a1 vals w1→∀ K:Act→World→Prop,g_Y S pi pj p (cond (k==m) (B true) (B bl)) k vals o.dst a1 w1 K→if Region.wanted o (yielded ops a1.tmps)=true then Oper.wp P o a1 w1 K Q else K (a1.put o.dst undef) w1)
  (hs:StepsL P .any ops Q (InvU n m D Q l B S pi pj p a0 w0) (k+1) rest) (hkn:Nat.blt k n=true:=by exact rfl) (hln:l.length=n:=by exact rfl) (hl:l[k]?=some o.dst:=by exact rfl) (hn:decide (b_N l).Nodup=true:=by exact rfl) (hd:(c_D .any o).all (fun j=>decide (j < l.length))=true:=by exact rfl)
  (hD:(a_V S k).all (fun i=>(k::(c_D .any o++(c_D .any o).flatMap (a_V S))).contains i)=true:=by exact rfl) (hkm:(k != m||D.all (fun i=>(c_D .any o).contains i||(c_D .any o).any (fun j=>Nat.blt j n&&(a_V S j).contains i)))=true:=by exact rfl):StepsL P .any ops Q (InvU n m D Q l B S pi pj p a0 w0) k (o::rest):=InvU.cons hkn hln rfl hl hn hd hD hkm h hs
end Go.Proofs.YtogdpojnbgeknaaGreatDoor
namespace Go.Proofs.YtogdpojnbgeknaaGreatDoor
open Go.ChangeShapes Go.WideShapes Go.ChangeAt Go.RowKit
open Gen
open Lib (hid)
abbrev woK:List Value:=[.slice none 0 0,.slice none 0 0,.slice none 0 0,.int .i64 0,.slice none 0 0,.slice none 0 0,.slice none 0 0,.int .i64 0]
structure Wk0 (Q:Nat→Prop) (w:World) (F b:Nat) (L:WoL) (X:Wo):Prop where
 hb:L.th.a=some ⟨b,0,none⟩
 tc:∃ TC,a_p w b TC∧d_p repTh Q w TC X.th
 co:Vs repIns Q w L.co.a L.co.n X.code
 ws:SlP Q w L.ws.a L.ws.n X.ws
 ts:SlP Q w L.ts.a L.ts.n X.ts
 bs:BlP Q w L.bs.a L.bs.n X.bs
 ev:∃ cs,w.ownsRow 0 101 6 (.slice L.ev.a L.ev.n L.ev.c) L.ev.n cs∧d_p repEv Q w cs X.ev
 evo:∀ c,(Value.slice L.ev.a L.ev.n L.ev.c).ownBlock=some c→F≤c∧c≠b∧¬ Q c
 cco:L.co.ok
 cth:L.th.ok
 cev:L.ev.ok
 hn:X.th.length=L.th.n
 hQ:∀ c,Q c→F≤c∧c≠b
 hF:F≤b
 new:∀ c,w.heap.size≤c→Q c
def m_A (X:Wo) (k:Int) (w:World) (e:Ending) (w':World):Prop:=∃ Q L' b,e=.returned (wkV L' X.D k)∧Wk0 Q w' w.heap.size b L' X∧Below w.heap.size w w'
theorem g_m {w:World} {B:Nat} {e:TypeId} {sz n:Nat} {v:Value} {cs:List Value} (h:w.ownsRow B e sz v n cs):w.ownsRow 0 e sz v n cs:=by
 obtain ⟨h1,h2 | ⟨g,cap,cur,a,b,c⟩⟩:=h
 ·exact ⟨h1,.inl h2⟩
 ·exact ⟨h1,.inr ⟨g,cap,cur,a,Nat.zero_le _,c⟩⟩
theorem m_a {w:World} {B:Nat} {e:TypeId} {sz n c:Nat} {a:Option Addr} {cs:List Value} (h:w.ownsRow B e sz (.slice a n c) n cs) (hn:1≤n):∃ g,a=some ⟨g,0,none⟩:=by
 rcases h.2 with ⟨_,h1⟩ | ⟨g,cap,cur,h1,-⟩
 ·omega
 ·cases h1;exact ⟨g,rfl⟩
theorem h_c {Q:Nat→Prop} {w:World}:∀ {es:List Ev} {cs:List Value},d_p repEv Q w cs es→∀ u∈cs,u.oneCell'=true
 | [],cs,h=>by rw [show cs=[] from h];intro u hu;cases hu
 | i::_,_,⟨c,d,e,h1,h2⟩=>by
  intro u hu;rw [e] at hu
  rcases List.mem_append.1 hu with h3 | h3
  ·rw [show c=j_E i from h1] at h3;simp [j_E] at h3;rcases h3 with rfl | rfl | rfl | rfl | rfl | rfl <;> rfl
  ·exact h_c h2 u h3
theorem m_0 {Qn Qo:Nat→Prop} {w:World} {ts:List Thr} {TC:List Value} (h:d_p repTh Qo w TC ts):n_I 0 Qn Qo w ts TC:=⟨b_f h,fun i t ht=>by
 obtain ⟨c,⟨fa,fc,la,lc,rfl,T⟩,hc⟩:=f_B h i t ht;exact ⟨fa,fc,la,lc,hc,by rw [if_neg (Nat.not_lt_zero _)];exact T⟩⟩
theorem m_n {Q:Nat→Prop} {w:World} {a:Option Addr} {n:Nat} {zs:List Int} (h:SlP Q w a n zs) (e:a=none):n=0:=by
 exact J107
theorem q_o {Q:Nat→Prop} {w:World} {a:Option Addr} {n:Nat} {bs:List (List (Int×Int))} (h:BlP Q w a n bs) (e:a=none):n=0:=by
 exact J107
theorem i_R {S:Nat→Prop} {w w':World} {B n c sz:Nat} {a:Option Addr} {e:TypeId} {cs:List Value} (h:Bel S w w') (ho:w.ownsRow B e sz (.slice a n c) n cs) (hne:∀ q,(Value.slice a n c).ownBlock=some q→¬ S q):w'.ownsRow B e sz (.slice a n c) n cs:=by
 obtain ⟨h1,h2 | ⟨g,cap,cur,a1,b1,c1,d1⟩⟩:=ho
 ·exact ⟨h1,.inl h2⟩
 ·have hg:(Value.slice a n c).ownBlock=some g:=by rw [a1];rfl
  have hlt:g < w.heap.size:=by
   rcases Nat.lt_or_ge g w.heap.size with h | h
   ·exact h
   ·rw [Array.getElem?_eq_none h] at c1;cases c1
  exact ⟨h1,.inr ⟨g,cap,cur,a1,b1,(h.block g hlt (hne g hg)).trans c1,d1⟩⟩
theorem j_c {α:Type} {r:Rep α} {Q:Nat→Prop} {w:World} {g:Nat} {cs:List Value} {ys:List α} (h:a_p w g cs) (hf:d_p r Q w cs ys) (hq:Q g):Vs r Q w (some ⟨g,0,none⟩) ys.length ys:=
 ⟨rfl,.inr ⟨g,0,rfl,hq,fun i y hy=>by
  obtain ⟨c,h1,h2⟩:=f_B hf i y hy;exact ⟨c,h1,fun j v hj=>by rw [Nat.zero_add];exact (h _ _ (h2 j v hj)).1⟩⟩⟩
theorem p_l {α:Type} {r:Rep α} {Q:Nat→Prop} {w:World} {B n c sz:Nat} {a:Option Addr} {e:TypeId} {cs:List Value} {ys:List α} (ho:w.ownsRow B e sz (.slice a n c) n cs) (hf:d_p r Q w cs ys) (hn:ys.length=n) (hQ:∀ q,(Value.slice a n c).ownBlock=some q→Q q):Vs r Q w a n ys:=by
 rcases ho.2 with ⟨h1,rfl⟩ | ⟨g,cap,cur,h1,-⟩
 ·cases h1
  have:ys=[]:=List.eq_nil_of_length_eq_zero hn;subst this;exact d_h
 ·cases h1
  have:=j_c (g_R ho) hf (hQ g rfl);rw [hn] at this;exact this
theorem s_a {Q:Nat→Prop} {w:World} {B n c sz:Nat} {a:Option Addr} {e:TypeId} {zs:List Int} (ho:w.ownsRow B e sz (.slice a n c) n (zs.map (Value.int .i64))) (hn:zs.length=n) (hQ:∀ q,(Value.slice a n c).ownBlock=some q→Q q):SlP Q w a n zs:=by
 refine ⟨hn,?_⟩
 rcases ho.2 with ⟨h1,rfl⟩ | ⟨g,cap,cur,h1,-⟩
 ·exact .inl rfl
 ·cases h1
  refine .inr ⟨g,0,rfl,hQ g rfl,fun i hi=>?_⟩;rw [Nat.zero_add];refine (g_R ho i _ ?_).1;rw [List.getElem?_map,List.getElem?_eq_getElem hi,List.getD_eq_getElem?_getD,List.getElem?_eq_getElem hi];rfl
theorem h_b {α:Type} {k:Nat} {hk:0 < k} {f:α→List Value} {hf:∀ y,(f y).length=k} {Q Q':Nat→Prop} {w w':World}:∀ {ys:List α} {cs:List Value},d_p (r_p k hk f hf) Q w cs ys→d_p (r_p k hk f hf) Q' w' cs ys
 | [],_,h=>h
 | _::_,_,⟨c,d,e,h1,h2⟩=>⟨c,d,e,h1,h_b h2⟩
theorem l_1 {S Q:Nat→Prop} {w w':World} (h:Bel S w w') (hQ:∀ b,Q b→¬ S b):Kept Q w w':=fun b o v hq hv=>by
 have hb:=h.block b (b_Q hv) (hQ b hq);exact (World.cell?_of_block (a:=⟨b,o,none⟩) hb).trans hv
theorem i_S {Q:Nat→Prop} {w w':World} {a:Option Addr} {n:Nat} {ps:List (Int×Int)} (hk:Kept Q w w') (h:PlQ Q w a n ps):PlQ Q w' a n ps:=⟨h.1,h.2.imp id fun ⟨b,o,e,hq,r⟩=>⟨b,o,e,hq,fun j hj=>⟨hk _ _ _ hq (r j hj).1,hk _ _ _ hq (r j hj).2⟩⟩⟩
theorem q_5 {Q Qn Qo:Nat→Prop} {w:World} {ts:List Thr} {TC:List Value} (h:n_I 0 Q Qo w ts TC):n_I 0 Qn Qo w ts TC:=⟨h.1,fun i t ht=>by
 obtain ⟨fa,fc,la,lc,a,b⟩:=h.2 i t ht;rw [if_neg (Nat.not_lt_zero _)] at b;exact ⟨fa,fc,la,lc,a,by rw [if_neg (Nat.not_lt_zero _)];exact b⟩⟩
theorem q_3 {Q Qn Qo:Nat→Prop} {w:World} {bs:List (List (Int×Int))} {BC:List Value} (h:p_0 0 Q Qo w bs BC):p_0 0 Qn Qo w bs BC:=⟨h.1,fun i t ht=>by
 obtain ⟨q,c,a,b,d⟩:=h.2 i t ht;rw [if_neg (Nat.not_lt_zero _)] at d;exact ⟨q,c,a,b,by rw [if_neg (Nat.not_lt_zero _)];exact d⟩⟩
def q_d (bt kk hi:Nat) (t:Thr) (fa la:Option Addr) (fc lc:Nat) (TC:List Value):b_v:=[isV 0 (.pointer (some ⟨bt,kk,none⟩)),isV 1 (.pointer (some ⟨bt,kk,none⟩)),isV 2 (.pointer (some ⟨bt,kk,none⟩)),isV 3 (.pointer (some ⟨bt,kk,none⟩)),isV 4 (.pointer (some ⟨bt,kk+9,none⟩)),isV 5 (.slice fa t.fs.length fc),([6],fun vz w=>∃ (a:Option Addr) (c:Nat),vz=[.slice a t.fs.length c]∧Cap a t.fs.length c∧Vs repFr (fun b=>hi≤b) w a t.fs.length t.fs),isV 7 (.pointer (some ⟨bt,kk,none⟩)),isW 8 [7] (.pointer (some ⟨bt,kk,none⟩)),isW 9 [8,7] (.pointer (some ⟨bt,kk+12,none⟩)),isW 10 [9,8,7] (.slice la t.lf.length lc),([11],fun vz w=>∃ (a:Option Addr) (c:Nat),vz=[.slice a t.lf.length c]∧Cap a t.lf.length c∧Vs repInt (fun b=>hi≤b) w a t.lf.length t.lf),isW 12 [] (.pointer (some ⟨bt,kk,none⟩)),isW 13 [12] (.pointer (some ⟨bt,kk+9,none⟩)),([14,6],fun vz w=>∃ x a c,vz=[x,.slice a t.fs.length c]∧a_p w bt (TC.set (kk+9) (.slice a t.fs.length c))),isW 15 [] (.pointer (some ⟨bt,kk,none⟩)),isW 16 [15] (.pointer (some ⟨bt,kk+12,none⟩))]
theorem o_r (bt kk hi:Nat) (t:Thr) (fa la:Option Addr) (fc lc:Nat) (TC:List Value):c_q (q_d bt kk hi  t  fa la  fc lc  TC ):=a_d<|a_d<|a_d<|a_d<|a_d<|a_d<|a_w (fun _ _ _ hb h=>by obtain ⟨a,c,h1,h2,h3⟩:=h;exact ⟨a,c,h1,h2,a_B (a_C hb) h3⟩)<|a_d<|a_2<|a_2<|a_2<|a_w (fun _ _ _ hb h=>by obtain ⟨a,c,h1,h2,h3⟩:=h;exact ⟨a,c,h1,h2,a_B (a_C hb) h3⟩)<|a_2<|a_2<|a_w (fun _ _ _ hb h=>by obtain ⟨x,a,c,h1,h2⟩:=h;exact ⟨x,a,c,h1,a_h hb h2⟩)<|a_2<|a_2<|b_B
theorem q_E (bt kk hi:Nat) (t:Thr) (fa la:Option Addr) (fc lc:Nat) (TC:List Value):∀ jz args wz wz',jz≠6→jz≠11→jz≠14→b_E (q_d bt kk hi  t  fa la  fc lc  TC ) jz args wz→b_E (q_d bt kk hi  t  fa la  fc lc  TC ) jz args wz':=by
 intro jz args wz wz' n0 n1 n2 h
 match jz with
 | 0=>exact h
 | 1=>exact h
 | 2=>exact h
 | 3=>exact h
 | 4=>exact h
 | 5=>exact h
 | 6=>exact absurd rfl n0
 | 7=>exact h
 | 8=>exact h
 | 9=>exact h
 | 10=>exact h
 | 11=>exact absurd rfl n1
 | 12=>exact h
 | 13=>exact h
 | 14=>exact absurd rfl n2
 | 15=>exact h
 | 16=>exact h
 | _+17=>exact trivial
def t_N (g bb k n c5 hi:Nat) (q:Option Addr) (cq:Nat) (b:List (Int×Int)):b_v:=[isV 0 (.pointer (some ⟨g,0,none⟩)),isV 1 (.pointer (some ⟨g,1,none⟩)),isV 2 (.pointer (some ⟨g,4,none⟩)),isV 3 (.slice (some ⟨bb,0,none⟩) n c5),isV 4 (.int .i64 (k:Int)),isV 5 (.pointer (some ⟨g,0,none⟩)),isV 6 (.pointer (some ⟨g,1,none⟩)),isV 7 (.pointer (some ⟨g,4,none⟩)),isV 8 (.slice (some ⟨bb,0,none⟩) n c5),isV 9 (.int .i64 (k:Int)),isV 10 (.pointer (some ⟨bb,k,none⟩)),isV 11 (.slice q b.length cq),([12],fun vz w=>∃ (a:Option Addr) (c:Nat),vz=[.slice a b.length c]∧d_A a b.length c∧PlQ (fun x=>hi≤x) w a b.length b),isW 13 [] (.pointer (some ⟨bb,k,none⟩))]
theorem o_q (g bb k n c5 hi:Nat) (q:Option Addr) (cq:Nat) (b:List (Int×Int)):c_q (t_N g bb k n c5 hi  q  cq  b ):=a_d<|a_d<|a_d<|a_d<|a_d<|a_d<|a_d<|a_d<|a_d<|a_d<|a_d<|a_d<|a_w (fun _ _ _ hb h=>by obtain ⟨a,c,h1,h2,h3⟩:=h;exact ⟨a,c,h1,h2,i_S (a_C hb) h3⟩)<|a_2<|b_B
theorem k_H (L:WoL) (X:Wo) (k:Int) (w:World) (R:RWo Any w L X) (h1n:1≤L.th.n) (h8:L.th.n≤8) (hbn:L.bs.n=L.th.n) (hco:L.co.n≤1000) (hws:L.ws.n≤1000) (hts:L.ts.n≤1000) (hev:L.ev.n≤200000) (hfr:∀ t∈X.th,t.fs.length≤1000∧t.lf.length≤1000) (hbu:∀ b∈X.bs,b.length≤1000) :
  Calls Tryz.prog 43 #[wkV L X.D k] w (m_A X k w):=by
 obtain ⟨D,hD⟩:=mn (X.D);rw [hD];have HD:=hid hD;have R0:=c_h R;obtain ⟨ccs,hc1,hc2⟩:=h_G R0.co;obtain ⟨ecs,he1,he2⟩:=h_G R0.ev;obtain ⟨tcs,ht1,ht2⟩:=h_G R0.th;obtain ⟨bcs,hb1,hb2,hb3,hb4⟩:=s_B R0.bs;obtain ⟨wcs,hw1⟩:=nm (X.ws.map (Value.int .i64));obtain ⟨zcs,hz1⟩:=nm (X.ts.map (Value.int .i64))
 have none_n:∀ {α:Type} {r:Rep α} {Q:Nat→Prop} {a:Option Addr} {n:Nat} {ys:List α},Vs r Q w a n ys→a=none→n=0:=fun h e=>by
  exact J107
 have HLco:=hid (show ccs.length=L.co.n*4 by rw [b_f hc1,R0.co.1];rfl);have HSco:=hid hc2;have HOco:=hid (e_T hc1);have HAco:=hid (show (L.co.a=none→L.co.n=0)∧L.co.n≤1000000 from ⟨none_n R0.co,by omega⟩);have HLev:=hid (show ecs.length=L.ev.n*6 by rw [b_f he1,R0.ev.1];rfl);have HSev:=hid he2;have HOev:=hid (h_c he1);have HAev:=hid (show (L.ev.a=none→L.ev.n=0)∧L.ev.n≤1000000 from ⟨none_n R0.ev,by omega⟩);have HLth:=hid (show tcs.length=L.th.n*13 by rw [b_f ht1,R0.th.1];rfl);have HSth:=hid ht2;have HOth:=hid (h_f ht1);have HAth:=hid (show (L.th.a=none→L.th.n=0)∧L.th.n≤1000000 from ⟨none_n R0.th,by omega⟩);have HLws:=hid (show wcs.length=L.ws.n*1 by rw [hw1,List.length_map,R0.ws.1,Nat.mul_one]);have HSws:=hid (show ∀ p,L.ws.a=some p→∀ j u,wcs[j]?=some u→w.cell? (p.add j)=some u by rw [hw1];exact m_p R0.ws.sl);have HOws:=hid (show ∀ u∈wcs,u.oneCell'=true by rw [hw1];exact o_Q _);have HAws:=hid (show (L.ws.a=none→L.ws.n=0)∧L.ws.n≤1000000 from ⟨m_n R0.ws,by omega⟩);have HLts:=hid (show zcs.length=L.ts.n*1 by rw [hz1,List.length_map,R0.ts.1,Nat.mul_one]);have HSts:=hid (show ∀ p,L.ts.a=some p→∀ j u,zcs[j]?=some u→w.cell? (p.add j)=some u by rw [hz1];exact m_p R0.ts.sl);have HOts:=hid (show ∀ u∈zcs,u.oneCell'=true by rw [hz1];exact o_Q _);have HAts:=hid (show (L.ts.a=none→L.ts.n=0)∧L.ts.n≤1000000 from ⟨m_n R0.ts,by omega⟩);have HLbs:=hid (show bcs.length=L.bs.n*1 by rw [hb1,Nat.mul_one]);have ⟨HSbs,HObs⟩:=hh2 hb2 hb4;have HAbs:=hid (show (L.bs.a=none→L.bs.n=0)∧L.bs.n≤1000000 from ⟨q_o R0.bs,by omega⟩)
 have ⟨HFC,HFE⟩:=hh2 hc1 he1;have HMT0:=hid (show n_I 0 (fun b=>b < 0) (fun b=>b < w.heap.size) w X.th tcs from m_0 (c_n (fun _ h=>h.2) ht1))
 have HMB0:=hid (show p_0 0 (fun b=>b < 0) (fun b=>b < w.heap.size) w X.bs bcs from ⟨by rw [hb1,R0.bs.1],fun i b hb=>by
  obtain ⟨q,c,k1,k2,k3⟩:=hb3 i b hb;rw [if_neg (Nat.not_lt_zero _)];exact ⟨q,c,k1,k2,k3.1,k3.2.imp id fun ⟨b,o,e,hq,r⟩=>⟨b,o,e,hq.2,r⟩⟩⟩)
 have HWC:=hid (And.intro hw1 hz1);have ⟨HFR,HBUF,HBN,H1N,HN8⟩:=hh5 hfr hbu hbn h1n h8;have HXL:=hid (show X.th.length=L.th.n∧X.bs.length=L.th.n∧X.code.length=L.co.n∧X.ws.length=L.ws.n∧X.ts.length=L.ts.n from ⟨R0.th.1,R0.bs.1.trans hbn,R0.co.1,R0.ws.1,R0.ts.1⟩);obtain ⟨W,hW⟩:=nm ((w.alloc (Obj.cells (wkC L D k).toArray 80)).alloc (Obj.cells woK.toArray 80));have HX0:=hid (show a_p W w.heap.size [.slice L.co.a L.co.n L.co.c,.slice L.ws.a L.ws.n L.ws.c,.slice L.ts.a L.ts.n L.ts.c,.int .i64 D,.slice L.bs.a L.bs.n L.bs.c,.slice L.th.a L.th.n L.th.c,.slice L.ev.a L.ev.n L.ev.c,.int .i64 k] by rw [hW];exact a_s _ (a_e (wkC L D k) _ rfl));have HZ0:=N240;have HB0:=N3;have HS0:=N43;have HW:=hid hW;clear R R0 hc1 hc2 he1 he2 ht1 ht2 hb1 hb2 hb3 hb4 hw1 hz1 none_n hD hW hfr hbu h1n h8 hbn hco hws hts hev
 go_enter Tryz.func43,Tryz.ntmps43
 go_upto_region 1 with fail
 rw [←HW.out];obtain ⟨x0,-⟩:=HX0.out 0 _ rfl;have HC:=hid (g_D L.co.a L.co.n L.co.c ccs W HLco.out (fun p hp j u hj=>a_t HB0.out (HSco.out p hp j u hj)) HOco.out HAco.out.1 HAco.out.2)
 go_wp2_with fail
 refine HC.out.mono ?_;clear HC x0;rintro e0 v0 ⟨aco,cco,rfl,capco,ownco,hb0⟩;obtain ⟨x0,f0⟩:=a_h hb0 HX0.out 0 _ rfl;obtain ⟨U1,hU1⟩:=nm (v0.setCell ⟨w.heap.size,0,none⟩ (.slice aco L.co.n cco));have HX1:=hid (show a_p U1 w.heap.size [.slice aco L.co.n cco,.slice L.ws.a L.ws.n L.ws.c,.slice L.ts.a L.ts.n L.ts.c,.int .i64 D,.slice L.bs.a L.bs.n L.bs.c,.slice L.th.a L.th.n L.th.c,.slice L.ev.a L.ev.n L.ev.c,.int .i64 k] by rw [hU1];have h:=a_y (a_h hb0 HX0.out) 0 (by simp) (.slice aco L.co.n cco);exact h);have HB1:=hid (show Below w.heap.size w U1 by rw [hU1];exact (a_a HB0.out hb0).setCell (p:=⟨w.heap.size,0,none⟩) (Nat.le_refl _) _);have HZ1:=hid (show a_p U1 (w.heap.size+1) woK by rw [hU1];exact a_l (a_h hb0 HZ0.out) (by omega) _);have HS1:=hid (show W.heap.size≤U1.heap.size by rw [hU1];simp;exact hb0.size);have HNco:=hid (show ∀ q,(Value.slice aco L.co.n cco).ownBlock=some q→W.heap.size≤q∧q < U1.heap.size by intro q hq;rw [hU1];simp;exact b_b ownco hq);have HCco:=hid capco
 have HWco:=hid (show U1.ownsRow 0 66 4 (.slice aco L.co.n cco) L.co.n ccs by
  rw [hU1];exact a_0 (us:=[.slice aco L.co.n cco]) (k:=0) (g:=w.heap.size) (fun h=>by have:=(b_b ownco h).1;have:=HS0.out;omega) (g_m ownco))
 clear capco ownco hb0 HX0 HZ0;have HU1:=hid hU1;clear hU1
 go_upto_region 2 with fail
 rw [←HU1.out];clear x0 f0 HU1;obtain ⟨x6,-⟩:=HX1.out 6 _ rfl;have HC:=hid (k_F L.ev.a L.ev.n L.ev.c ecs U1 HLev.out (fun p hp j u hj=>a_t HB1.out (HSev.out p hp j u hj)) HOev.out HAev.out.1 HAev.out.2)
 go_wp2_with fail
 refine HC.out.mono ?_;clear HC x6;rintro e1 v1 ⟨aev,cev,rfl,capev,ownev,hb1⟩;obtain ⟨x6,f6⟩:=a_h hb1 HX1.out 6 _ rfl;obtain ⟨U2,hU2⟩:=nm (v1.setCell ⟨w.heap.size,6,none⟩ (.slice aev L.ev.n cev));have HX2:=hid (show a_p U2 w.heap.size [.slice aco L.co.n cco,.slice L.ws.a L.ws.n L.ws.c,.slice L.ts.a L.ts.n L.ts.c,.int .i64 D,.slice L.bs.a L.bs.n L.bs.c,.slice L.th.a L.th.n L.th.c,.slice aev L.ev.n cev,.int .i64 k] by rw [hU2];have h:=a_y (a_h hb1 HX1.out) 6 (by simp) (.slice aev L.ev.n cev);exact h);have HB2:=hid (show Below w.heap.size w U2 by rw [hU2];exact (a_a HB1.out hb1).setCell (p:=⟨w.heap.size,6,none⟩) (Nat.le_refl _) _);have HZ2:=hid (show a_p U2 (w.heap.size+1) woK by rw [hU2];exact a_l (a_h hb1 HZ1.out) (by omega) _);have HS2:=hid (show U1.heap.size≤U2.heap.size by rw [hU2];simp;exact hb1.size);have HNev:=hid (show ∀ q,(Value.slice aev L.ev.n cev).ownBlock=some q→U1.heap.size≤q∧q < U2.heap.size by intro q hq;rw [hU2];simp;exact b_b ownev hq);have HCev:=hid capev
 have HWev:=hid (show U2.ownsRow 0 101 6 (.slice aev L.ev.n cev) L.ev.n ecs by
  rw [hU2];exact a_0 (us:=[.slice aev L.ev.n cev]) (k:=6) (g:=w.heap.size) (fun h=>by have:=(b_b ownev h).1;have:=HS0.out;have:=HS1.out;omega) (g_m ownev))
 replace HWco:=hid (show U2.ownsRow 0 66 4 (.slice aco L.co.n cco) L.co.n ccs by
  rw [hU2];exact a_0 (us:=[.slice aev L.ev.n cev]) (k:=6) (g:=w.heap.size) (fun h=>by have:=(HNco.out _ h).1;have:=HS0.out;have:=HS1.out;omega) (b_a HWco.out hb1))
 clear capev ownev hb1 HX1 HZ1;have HU2:=hid hU2;clear hU2
 go_upto_region 3 with fail
 rw [←HU2.out];clear x6 f6 HU2;obtain ⟨x1,-⟩:=HX2.out 1 _ rfl;have HC:=hid (g_9 L.ws.a L.ws.n L.ws.c wcs U2 HLws.out (fun p hp j u hj=>a_t HB2.out (HSws.out p hp j u hj)) HOws.out HAws.out.1 HAws.out.2)
 go_wp2_with fail
 refine HC.out.mono ?_;clear HC x1;rintro e2 v2 ⟨aws,cws,rfl,capws,ownws,hb2⟩;obtain ⟨x1,f1⟩:=a_h hb2 HX2.out 1 _ rfl;obtain ⟨U3,hU3⟩:=nm (v2.setCell ⟨w.heap.size,1,none⟩ (.slice aws L.ws.n cws));have HX3:=hid (show a_p U3 w.heap.size [.slice aco L.co.n cco,.slice aws L.ws.n cws,.slice L.ts.a L.ts.n L.ts.c,.int .i64 D,.slice L.bs.a L.bs.n L.bs.c,.slice L.th.a L.th.n L.th.c,.slice aev L.ev.n cev,.int .i64 k] by rw [hU3];have h:=a_y (a_h hb2 HX2.out) 1 (by simp) (.slice aws L.ws.n cws);exact h);have HB3:=hid (show Below w.heap.size w U3 by rw [hU3];exact (a_a HB2.out hb2).setCell (p:=⟨w.heap.size,1,none⟩) (Nat.le_refl _) _);have HZ3:=hid (show a_p U3 (w.heap.size+1) woK by rw [hU3];exact a_l (a_h hb2 HZ2.out) (by omega) _);have HS3:=hid (show U2.heap.size≤U3.heap.size by rw [hU3];simp;exact hb2.size);have HNws:=hid (show ∀ q,(Value.slice aws L.ws.n cws).ownBlock=some q→U2.heap.size≤q∧q < U3.heap.size by intro q hq;rw [hU3];simp;exact b_b ownws hq);have HCws:=hid capws
 have HWws:=hid (show U3.ownsRow 0 3 1 (.slice aws L.ws.n cws) L.ws.n wcs by
  rw [hU3];exact a_0 (us:=[.slice aws L.ws.n cws]) (k:=1) (g:=w.heap.size) (fun h=>by have:=(b_b ownws h).1;have:=HS0.out;have:=HS1.out;have:=HS2.out;omega) (g_m ownws))
 replace HWco:=hid (show U3.ownsRow 0 66 4 (.slice aco L.co.n cco) L.co.n ccs by
  rw [hU3];exact a_0 (us:=[.slice aws L.ws.n cws]) (k:=1) (g:=w.heap.size) (fun h=>by have:=(HNco.out _ h).1;have:=HS0.out;have:=HS1.out;have:=HS2.out;omega) (b_a HWco.out hb2))
 replace HWev:=hid (show U3.ownsRow 0 101 6 (.slice aev L.ev.n cev) L.ev.n ecs by
  rw [hU3];exact a_0 (us:=[.slice aws L.ws.n cws]) (k:=1) (g:=w.heap.size) (fun h=>by have:=(HNev.out _ h).1;have:=HS0.out;have:=HS1.out;have:=HS2.out;omega) (b_a HWev.out hb2))
 clear capws ownws hb2 HX2 HZ2;have HU3:=hid hU3;clear hU3
 go_upto_region 4 with fail
 rw [←HU3.out];clear x1 f1 HU3;obtain ⟨x2,-⟩:=HX3.out 2 _ rfl;have HC:=hid (g_9 L.ts.a L.ts.n L.ts.c zcs U3 HLts.out (fun p hp j u hj=>a_t HB3.out (HSts.out p hp j u hj)) HOts.out HAts.out.1 HAts.out.2)
 go_wp2_with fail
 refine HC.out.mono ?_;clear HC x2;rintro e3 v3 ⟨ats,cts,rfl,capts,ownts,hb3⟩;obtain ⟨x2,f2⟩:=a_h hb3 HX3.out 2 _ rfl;obtain ⟨U4,hU4⟩:=nm (v3.setCell ⟨w.heap.size,2,none⟩ (.slice ats L.ts.n cts));have HX4:=hid (show a_p U4 w.heap.size [.slice aco L.co.n cco,.slice aws L.ws.n cws,.slice ats L.ts.n cts,.int .i64 D,.slice L.bs.a L.bs.n L.bs.c,.slice L.th.a L.th.n L.th.c,.slice aev L.ev.n cev,.int .i64 k] by rw [hU4];have h:=a_y (a_h hb3 HX3.out) 2 (by simp) (.slice ats L.ts.n cts);exact h);have HB4:=hid (show Below w.heap.size w U4 by rw [hU4];exact (a_a HB3.out hb3).setCell (p:=⟨w.heap.size,2,none⟩) (Nat.le_refl _) _);have HZ4:=hid (show a_p U4 (w.heap.size+1) woK by rw [hU4];exact a_l (a_h hb3 HZ3.out) (by omega) _);have HS4:=hid (show U3.heap.size≤U4.heap.size by rw [hU4];simp;exact hb3.size);have HNts:=hid (show ∀ q,(Value.slice ats L.ts.n cts).ownBlock=some q→U3.heap.size≤q∧q < U4.heap.size by intro q hq;rw [hU4];simp;exact b_b ownts hq);have HCts:=hid capts
 have HWts:=hid (show U4.ownsRow 0 3 1 (.slice ats L.ts.n cts) L.ts.n zcs by
  rw [hU4];exact a_0 (us:=[.slice ats L.ts.n cts]) (k:=2) (g:=w.heap.size) (fun h=>by have:=(b_b ownts h).1;have:=HS0.out;have:=HS1.out;have:=HS2.out;have:=HS3.out;omega) (g_m ownts))
 replace HWco:=hid (show U4.ownsRow 0 66 4 (.slice aco L.co.n cco) L.co.n ccs by
  rw [hU4];exact a_0 (us:=[.slice ats L.ts.n cts]) (k:=2) (g:=w.heap.size) (fun h=>by have:=(HNco.out _ h).1;have:=HS0.out;have:=HS1.out;have:=HS2.out;have:=HS3.out;omega) (b_a HWco.out hb3))
 replace HWev:=hid (show U4.ownsRow 0 101 6 (.slice aev L.ev.n cev) L.ev.n ecs by
  rw [hU4];exact a_0 (us:=[.slice ats L.ts.n cts]) (k:=2) (g:=w.heap.size) (fun h=>by have:=(HNev.out _ h).1;have:=HS0.out;have:=HS1.out;have:=HS2.out;have:=HS3.out;omega) (b_a HWev.out hb3))
 replace HWws:=hid (show U4.ownsRow 0 3 1 (.slice aws L.ws.n cws) L.ws.n wcs by
  rw [hU4];exact a_0 (us:=[.slice ats L.ts.n cts]) (k:=2) (g:=w.heap.size) (fun h=>by have:=(HNws.out _ h).1;have:=HS0.out;have:=HS1.out;have:=HS2.out;have:=HS3.out;omega) (b_a HWws.out hb3))
 clear capts ownts hb3 HX3 HZ3;have HU4:=hid hU4;clear hU4
 go_upto_region 5 with fail
 rw [←HU4.out];clear x2 f2 HU4;obtain ⟨x4,-⟩:=HX4.out 4 _ rfl;have HC:=hid (j_x L.bs.a L.bs.n L.bs.c bcs U4 HLbs.out (fun p hp j u hj=>a_t HB4.out (HSbs.out p hp j u hj)) HObs.out HAbs.out.1 HAbs.out.2)
 go_wp2_with fail
 refine HC.out.mono ?_;clear HC x4;rintro e4 v4 ⟨abs,cbs,rfl,capbs,ownbs,hb4⟩;obtain ⟨x4,f4⟩:=a_h hb4 HX4.out 4 _ rfl;obtain ⟨U5,hU5⟩:=nm (v4.setCell ⟨w.heap.size,4,none⟩ (.slice abs L.bs.n cbs));have HX5:=hid (show a_p U5 w.heap.size [.slice aco L.co.n cco,.slice aws L.ws.n cws,.slice ats L.ts.n cts,.int .i64 D,.slice abs L.bs.n cbs,.slice L.th.a L.th.n L.th.c,.slice aev L.ev.n cev,.int .i64 k] by rw [hU5];have h:=a_y (a_h hb4 HX4.out) 4 (by simp) (.slice abs L.bs.n cbs);exact h);have HB5:=hid (show Below w.heap.size w U5 by rw [hU5];exact (a_a HB4.out hb4).setCell (p:=⟨w.heap.size,4,none⟩) (Nat.le_refl _) _);have HZ5:=hid (show a_p U5 (w.heap.size+1) woK by rw [hU5];exact a_l (a_h hb4 HZ4.out) (by omega) _);have HS5:=hid (show U4.heap.size≤U5.heap.size by rw [hU5];simp;exact hb4.size);have HNbs:=hid (show ∀ q,(Value.slice abs L.bs.n cbs).ownBlock=some q→U4.heap.size≤q∧q < U5.heap.size by intro q hq;rw [hU5];simp;exact b_b ownbs hq);have HCbs:=hid capbs
 have HWbs:=hid (show U5.ownsRow 0 55 1 (.slice abs L.bs.n cbs) L.bs.n bcs by
  rw [hU5];exact a_0 (us:=[.slice abs L.bs.n cbs]) (k:=4) (g:=w.heap.size) (fun h=>by have:=(b_b ownbs h).1;have:=HS0.out;have:=HS1.out;have:=HS2.out;have:=HS3.out;have:=HS4.out;omega) (g_m ownbs))
 replace HWco:=hid (show U5.ownsRow 0 66 4 (.slice aco L.co.n cco) L.co.n ccs by
  rw [hU5];exact a_0 (us:=[.slice abs L.bs.n cbs]) (k:=4) (g:=w.heap.size) (fun h=>by have:=(HNco.out _ h).1;have:=HS0.out;have:=HS1.out;have:=HS2.out;have:=HS3.out;have:=HS4.out;omega) (b_a HWco.out hb4))
 replace HWev:=hid (show U5.ownsRow 0 101 6 (.slice aev L.ev.n cev) L.ev.n ecs by
  rw [hU5];exact a_0 (us:=[.slice abs L.bs.n cbs]) (k:=4) (g:=w.heap.size) (fun h=>by have:=(HNev.out _ h).1;have:=HS0.out;have:=HS1.out;have:=HS2.out;have:=HS3.out;have:=HS4.out;omega) (b_a HWev.out hb4))
 replace HWws:=hid (show U5.ownsRow 0 3 1 (.slice aws L.ws.n cws) L.ws.n wcs by
  rw [hU5];exact a_0 (us:=[.slice abs L.bs.n cbs]) (k:=4) (g:=w.heap.size) (fun h=>by have:=(HNws.out _ h).1;have:=HS0.out;have:=HS1.out;have:=HS2.out;have:=HS3.out;have:=HS4.out;omega) (b_a HWws.out hb4))
 replace HWts:=hid (show U5.ownsRow 0 3 1 (.slice ats L.ts.n cts) L.ts.n zcs by
  rw [hU5];exact a_0 (us:=[.slice abs L.bs.n cbs]) (k:=4) (g:=w.heap.size) (fun h=>by have:=(HNts.out _ h).1;have:=HS0.out;have:=HS1.out;have:=HS2.out;have:=HS3.out;have:=HS4.out;omega) (b_a HWts.out hb4))
 clear capbs ownbs hb4 HX4 HZ4;have HU5:=hid hU5;clear hU5
 go_upto_region 6 with fail
 rw [←HU5.out];clear x4 f4 HU5;obtain ⟨x5,-⟩:=HX5.out 5 _ rfl;have HC:=hid (k_G L.th.a L.th.n L.th.c tcs U5 HLth.out (fun p hp j u hj=>a_t HB5.out (HSth.out p hp j u hj)) HOth.out HAth.out.1 HAth.out.2)
 go_wp2_with fail
 refine HC.out.mono ?_;clear HC x5;rintro e5 v5 ⟨ath,cth,rfl,capth,ownth,hb5⟩;obtain ⟨x5,f5⟩:=a_h hb5 HX5.out 5 _ rfl;obtain ⟨U6,hU6⟩:=nm (v5.setCell ⟨w.heap.size,5,none⟩ (.slice ath L.th.n cth));have HX6:=hid (show a_p U6 w.heap.size [.slice aco L.co.n cco,.slice aws L.ws.n cws,.slice ats L.ts.n cts,.int .i64 D,.slice abs L.bs.n cbs,.slice ath L.th.n cth,.slice aev L.ev.n cev,.int .i64 k] by rw [hU6];have h:=a_y (a_h hb5 HX5.out) 5 (by simp) (.slice ath L.th.n cth);exact h);have HB6:=hid (show Below w.heap.size w U6 by rw [hU6];exact (a_a HB5.out hb5).setCell (p:=⟨w.heap.size,5,none⟩) (Nat.le_refl _) _);have HZ6:=hid (show a_p U6 (w.heap.size+1) woK by rw [hU6];exact a_l (a_h hb5 HZ5.out) (by omega) _);have HS6:=hid (show U5.heap.size≤U6.heap.size by rw [hU6];simp;exact hb5.size);have HNth:=hid (show ∀ q,(Value.slice ath L.th.n cth).ownBlock=some q→U5.heap.size≤q∧q < U6.heap.size by intro q hq;rw [hU6];simp;exact b_b ownth hq);have HCth:=hid capth
 have HWth:=hid (show U6.ownsRow 0 46 13 (.slice ath L.th.n cth) L.th.n tcs by
  rw [hU6];exact a_0 (us:=[.slice ath L.th.n cth]) (k:=5) (g:=w.heap.size) (fun h=>by have:=(b_b ownth h).1;have:=HS0.out;have:=HS1.out;have:=HS2.out;have:=HS3.out;have:=HS4.out;have:=HS5.out;omega) (g_m ownth))
 replace HWco:=hid (show U6.ownsRow 0 66 4 (.slice aco L.co.n cco) L.co.n ccs by
  rw [hU6];exact a_0 (us:=[.slice ath L.th.n cth]) (k:=5) (g:=w.heap.size) (fun h=>by have:=(HNco.out _ h).1;have:=HS0.out;have:=HS1.out;have:=HS2.out;have:=HS3.out;have:=HS4.out;have:=HS5.out;omega) (b_a HWco.out hb5))
 replace HWev:=hid (show U6.ownsRow 0 101 6 (.slice aev L.ev.n cev) L.ev.n ecs by
  rw [hU6];exact a_0 (us:=[.slice ath L.th.n cth]) (k:=5) (g:=w.heap.size) (fun h=>by have:=(HNev.out _ h).1;have:=HS0.out;have:=HS1.out;have:=HS2.out;have:=HS3.out;have:=HS4.out;have:=HS5.out;omega) (b_a HWev.out hb5))
 replace HWws:=hid (show U6.ownsRow 0 3 1 (.slice aws L.ws.n cws) L.ws.n wcs by
  rw [hU6];exact a_0 (us:=[.slice ath L.th.n cth]) (k:=5) (g:=w.heap.size) (fun h=>by have:=(HNws.out _ h).1;have:=HS0.out;have:=HS1.out;have:=HS2.out;have:=HS3.out;have:=HS4.out;have:=HS5.out;omega) (b_a HWws.out hb5))
 replace HWts:=hid (show U6.ownsRow 0 3 1 (.slice ats L.ts.n cts) L.ts.n zcs by
  rw [hU6];exact a_0 (us:=[.slice ath L.th.n cth]) (k:=5) (g:=w.heap.size) (fun h=>by have:=(HNts.out _ h).1;have:=HS0.out;have:=HS1.out;have:=HS2.out;have:=HS3.out;have:=HS4.out;have:=HS5.out;omega) (b_a HWts.out hb5))
 replace HWbs:=hid (show U6.ownsRow 0 55 1 (.slice abs L.bs.n cbs) L.bs.n bcs by
  rw [hU6];exact a_0 (us:=[.slice ath L.th.n cth]) (k:=5) (g:=w.heap.size) (fun h=>by have:=(HNbs.out _ h).1;have:=HS0.out;have:=HS1.out;have:=HS2.out;have:=HS3.out;have:=HS4.out;have:=HS5.out;omega) (b_a HWbs.out hb5))
 clear capth ownth hb5 HX5 HZ5;have HU6:=hid hU6;clear hU6
 go_upto_region 7 with fail
 rw [←HU6.out];clear x5 f5 HU6;obtain ⟨bt,hbt⟩:=m_a HWth.out H1N.out;obtain ⟨bb,hbb⟩:=m_a HWbs.out (by rw [HBN.out];exact H1N.out);subst hbt hbb;obtain ⟨hi,hhi⟩:=mn (U6.heap.size);obtain ⟨lo,hlo⟩:=mn (w.heap.size);have HBB:=hid (show W.heap.size≤bb∧bb < hi∧bb≠bt by have h1:=HNbs.out bb rfl;have h2:=HNth.out bt rfl;have:=HS1.out;have:=HS2.out;have:=HS3.out;have:=HS4.out;have:=HS5.out;have:=HS6.out;omega);have HBT:=hid (show lo+2≤bt∧bt < hi∧bb≠bt by have h1:=HNbs.out bb rfl;have h2:=HNth.out bt rfl;have:=HS0.out;have:=HS1.out;have:=HS2.out;have:=HS3.out;have:=HS4.out;have:=HS5.out;omega);replace HBB:=hid (show lo+2≤bb∧bb < hi∧bb≠bt by have:=HBB.out;have:=HS0.out;omega);have ⟨HGL,HGH⟩:=hh2 hlo hhi;obtain ⟨x5,-⟩:=HX6.out 5 _ rfl;clear hhi hlo
 go_wp2_with fail
 clear x5
 go_loopw [55] (fun i wr=>∃ (k2:Nat) (TC BC:List Value),k2≤L.th.n∧i=.int .i64 k2∧Hid (a_p wr bt TC)∧Hid (a_p wr bb BC)∧Hid (n_I k2 (fun b=>hi≤b) (fun b=>b < lo) wr X.th TC)∧Hid (p_0 k2 (fun b=>hi≤b) (fun b=>b < lo) wr X.bs BC)∧Hid (Bel (fun c=>c=bt∨c=bb) U6 wr)) (fun i _=>L.th.n - (intOf i).toNat)
 case atStart =>
  have hk:Kept (fun b=>b < lo) w U6:=by rw [←HGL.out];exact c_r HB6.out (fun _ h=>h)
  have hk0:Kept (fun b=>b < 0) w U6:=fun b _ _ h=>absurd h (Nat.not_lt_zero _)
  rw [HGL.out] at HMT0 HMB0;exact ⟨0,tcs,bcs,by omega,rfl,g_R HWth.out,g_R HWbs.out,q_5 (f_U hk0 hk HMT0.out),q_3 (f_T hk0 hk HMB0.out),d_r (Below.refl _ _)⟩
 case round =>
  obtain ⟨k2,TC,BC,hk2,rfl,hvt,hvb,hmt,hmb,hbe⟩:=hrel;have HVT:=hvt;have HVB:=hvb;have HMT:=hmt;have HMB:=hmb;have HBE:=hbe;have HXV:=hid (HBE.out.varN (fun e=>by have:=HBT.out;have:=HBB.out;have:=HGL.out;omega) HX6.out);have HZV:=hid (HBE.out.varN (fun e=>by have:=HBT.out;have:=HBB.out;have:=HGL.out;omega) HZ6.out);clear hvt hvb hmt hmb hbe
  by_cases hlt:k2 < L.th.n
  ·obtain ⟨x5,-⟩:=HXV.out 5 _ rfl;have i1:(0:Int)≤k2:=by omega
   have i2:(k2:Int) < L.th.n:=by omega
   have hkt:k2 < X.th.length:=by have:=HXL.out;omega
   have hkb:k2 < X.bs.length:=by have:=HXL.out;omega
   obtain ⟨t,ht⟩:∃ t,X.th[k2]?=some t:=⟨_,List.getElem?_eq_getElem hkt⟩;obtain ⟨bf,hbf⟩:∃ t,X.bs[k2]?=some t:=⟨_,List.getElem?_eq_getElem hkb⟩;have ⟨HTT,HBX,HBL⟩:=hh3 ht hbf hkb;have HBF:=hid (HBUF.out bf (List.mem_of_getElem? hbf));have HTN:=hid (HFR.out t (List.mem_of_getElem? ht));obtain ⟨fa,fc,la,lc,hc,hq⟩:=HMT.out.2 k2 t ht;rw [if_neg (Nat.lt_irrefl _)] at hq;have HTQ:=hid hq;have HTL:=hid (show k2*13+13≤TC.length by rw [HMT.out.1];omega);obtain ⟨z9,-⟩:=HVT.out _ _ (hc 9 _ rfl);obtain ⟨z12,-⟩:=HVT.out _ _ (hc 12 _ rfl);obtain ⟨V,hV⟩:=nm (wr);subst hV;have HHI:=hid (show hi≤V.heap.size by rw [←HGH.out];exact HBE.out.size);have hG:=o_r bt (k2*13) hi t fa la fc lc TC;clear hkt hkb ht hbf hc hq
   go_upto_region 11 with fail
   clear x5;refine h_U 17 14 [5,6,10,11,4] rfl [some 63,some 64,some 65,some 66,some 67,some 68,some 69,some 70,some 71,some 72,some 73,some 74,some 75,some 76,none,some 77,some 78] (fun bl w'=>(bl=false→Below V.heap.size V w')∧Bel (fun c=>c=bt) V w') (q_d bt (k2*13) hi t fa la fc lc TC) 100 100 (fun _ _ _=>True) (by kernel_rfl) (by kernel_rfl) (by decide) rfl rfl (⟨fun _=>(Below.refl _ _).drew,d_r (Below.refl _ _).drew⟩) ?_
   show StepsL _ _ _ _ _ _ _
   refine InvU.c (fun _ _ w1 _ hbl _ C _ hK=>oR C hK (h:=by simp [execOp,go_sem,C.o 4 (.pointer (some ⟨bt,k2*13,none⟩))])) ?_;refine InvU.c (fun _ _ w1 _ hbl _ C _ hK=>oR C hK (h:=by simp [execOp,go_sem,C.o 4 (.pointer (some ⟨bt,k2*13,none⟩))])) ?_;refine InvU.c (fun _ _ w1 _ hbl _ C _ hK=>oR C hK (h:=by simp [execOp,go_sem,C.o 4 (.pointer (some ⟨bt,k2*13,none⟩))])) ?_;refine InvU.c (fun _ _ w1 _ hbl _ C _ hK=>oR C hK (h:=by simp [execOp,go_sem,C.i 2])) ?_;refine InvU.c (fun _ _ w1 _ hbl _ C _ hK=>oR C hK (h:=by simp [execOp,go_sem,C.i 3])) ?_;refine InvU.c (fun a1 vals w1 bl hbl hdf C K hK=>?_) ?_
   ·have e0:=C.i 4;have kc:=a_t (C.base.1 (hbl rfl)) z9;refine a_i rfl (a_A (v:=.slice fa t.fs.length fc) ?_ (d_e hK C rfl rfl));simp [execOp,go_sem,e0,kc]
   refine InvU.c (fun a1 vals w1 bl hbl hdf C K hK=>?_) ?_
   ·have e0:=C.i 5;rw [a_P] at e0;have hb1:=C.base.1 (hbl rfl);refine a_i rfl (a_Q _ _ _ rfl 88 rfl [.slice fa t.fs.length fc] (by simp only [List.map_cons,List.map_nil,e0]) (by kernel_rfl) ((f_z fa t.fs.length fc t.fs w1 (d_9 (a_B (a_C hb1) HTQ.out.fs)) HTQ.out.fcap HTN.out.1).mono ?_));exact J64
   refine InvU.c (fun _ _ w1 _ hbl _ C _ hK=>oR C hK (h:=by simp [execOp,go_sem,C.o 4 (.pointer (some ⟨bt,k2*13,none⟩))])) ?_;refine InvU.c (fun _ _ w1 _ hbl _ C _ hK=>oR C hK (h:=by simp [execOp,go_sem,C.i 7])) ?_;refine InvU.c (fun a1 vals w1 bl hbl hdf C K hK=>?_) ?_
   ·have e0:=C.isw 8 71 [7] (.pointer (some ⟨bt,k2*13,none⟩)) rfl rfl rfl rfl;exact J114
   refine InvU.c (fun a1 vals w1 bl hbl hdf C K hK=>?_) ?_
   ·have e0:=C.isw 9 72 [8,7] (.pointer (some ⟨bt,k2*13+12,none⟩)) rfl rfl rfl rfl;refine a_i rfl (a_A (v:=.slice la t.lf.length lc) ?_ (d_e hK C rfl rfl));simp [execOp,go_sem,e0,a_t (C.base.1 (hbl rfl)) z12]
   refine InvU.c (fun a1 vals w1 bl hbl hdf C K hK=>?_) ?_
   ·have e0:=C.isw 10 73 [9,8,7] (.slice la t.lf.length lc) rfl rfl rfl rfl;rw [a_P] at e0;have hb1:=C.base.1 (hbl rfl);refine a_i rfl (a_Q _ _ _ rfl 85 rfl [.slice la t.lf.length lc] (by simp only [List.map_cons,List.map_nil,e0]) (by kernel_rfl) ((f_A la t.lf.length lc t.lf w1 (d_9 (a_B (a_C hb1) HTQ.out.lf)) HTQ.out.lcap HTN.out.2).mono ?_));exact J64
   refine InvU.c (fun _ _ w1 _ hbl _ C _ hK=>oR C hK (h:=by simp [execOp,go_sem,C.i 0])) ?_;refine InvU.c (fun a1 vals w1 bl hbl hdf C K hK=>?_) ?_
   ·have e0:=C.isw 12 75 [] (.pointer (some ⟨bt,k2*13,none⟩)) rfl rfl rfl rfl;refine a_i rfl (a_A (v:=.pointer (some ⟨bt,k2*13+9,none⟩)) ?_ (d_e hK C rfl rfl));simp [execOp,go_sem,e0]
   refine InvU.c (fun a1 vals w1 bl hbl hdf C K hK=>?_) ?_
   ·have e0:=C.isw 13 76 [12] (.pointer (some ⟨bt,k2*13+9,none⟩)) rfl rfl rfl rfl;have e1:=C.t 6 69 rfl rfl;obtain ⟨a,c,h1,h2,h3⟩:=C.says 6 rfl;have h1:vals 6=_:=List.head_eq_of_cons_eq h1;rw [h1] at e1;have hb1:=C.base.1 (hbl rfl);have hv:=a_h hb1 HVT.out;have hl:k2*13+9 < TC.length:=by have:=HTL.out;omega
    obtain ⟨zz,zf⟩:=hv _ _ (List.getElem?_eq_getElem hl);refine a_i rfl (g_y (w':=w1.setCell ⟨bt,k2*13+9,none⟩ (.slice a t.fs.length c)) ?_ (hK undef _ ⟨undef,a,c,?_,a_y hv _ hl _⟩ ⟨fun h=>absurd h (by decide),C.base.2.setCell (p:=⟨bt,k2*13+9,none⟩) rfl _⟩ (fun j hj h=>?_) (fun _ _ h=>h) (fun e=>absurd e (by decide)) (fun e=>absurd e (by decide)) (fun e=>absurd e (by decide))))
    ·simp [execOp,go_sem,e0,e1,zz,zf]
    ·show [undef,vals 6]=_
     rw [h1]
    ·have hkk:∀ x:Nat,hi≤x→x≠bt:=fun x hx e=>by have:=HBT.out;omega
     by_cases j1:j=6
     ·subst j1;obtain ⟨a,c,k1,k2,k3⟩:=h;exact ⟨a,c,k1,k2,a_B (a_U _ _ _ (fun b hb=>hkk b hb)) k3⟩
     ·by_cases j2:j=11
      ·subst j2;obtain ⟨a,c,k1,k2,k3⟩:=h;exact ⟨a,c,k1,k2,a_B (a_U _ _ _ (fun b hb=>hkk b hb)) k3⟩
      ·exact q_E _ _ _ _ _ _ _ _ _ _ _ _ _ j1 j2 hj h
   refine InvU.c (fun _ _ w1 _ hbl _ C _ hK=>oR C hK (h:=by simp [execOp,go_sem,C.i 1])) ?_;refine InvU.c (fun a1 vals w1 bl hbl hdf C K hK=>?_) ?_
   ·have e0:=C.isw 15 77 [] (.pointer (some ⟨bt,k2*13,none⟩)) rfl rfl rfl rfl;exact J114
   refine InvU.last (n:=17) (m:=14) (D:=[5,6,10,11,4]) (by decide) ?_ ?_ ?_ ?_
   ·rfl
   ·kernel_rfl
   ·decide
   ·intro vals w1 aE hae hval hb hv hbo K hK;obtain ⟨x,a,c,h1,hvA⟩:=c_i (k:=14) rfl (hv 14 (by decide));obtain ⟨a2,c2,g1,g2,g3⟩:=c_i (k:=6) rfl (hv 6 (by decide));obtain ⟨d,f,k1,k3,k4⟩:=c_i (k:=11) rfl (hv 11 (by decide));have g1:vals 6=.slice a2 t.fs.length c2:=List.head_eq_of_cons_eq g1;have h1:vals 6=.slice a t.fs.length c:=List.head_eq_of_cons_eq (List.tail_eq_of_cons_eq h1);rw [g1] at h1
    cases h1
    have y74:vals 11=.slice d t.lf.length f:=List.head_eq_of_cons_eq k1;have y78:vals 16=.pointer (some ⟨bt,k2*13+12,none⟩):=e_Y rfl (hv 16 (by decide));obtain ⟨bl,-,hbe⟩:=hb;have q1:=(hval 16 78 rfl rfl).trans y78;have q2:=(hval 11 74 rfl rfl).trans y74;have hl:k2*13+12 < (TC.set (k2*13+9) (.slice a t.fs.length c)).length:=by have:=HTL.out;simp;omega
    obtain ⟨zz,zf⟩:=hvA _ _ (List.getElem?_eq_getElem hl);refine a_i rfl (g_y (w':=w1.setCell ⟨bt,k2*13+12,none⟩ (.slice d t.lf.length f)) ?_ (hK _ _ ?_))
    ·rw [←a_P] at q1 q2;simp [execOp,go_sem,q1,q2,zz,zf]
    rw [hae.out];simp only [c_N,Act.put,sA,sB,sC,g1,y74,y78];obtain ⟨Z,hZ⟩:=nm (w1.setCell ⟨bt,k2*13+12,none⟩ (.slice d t.lf.length f));obtain ⟨TZ,hTZ⟩:=nm ((TC.set (k2*13+9) (.slice a t.fs.length c)).set (k2*13+12) (.slice d t.lf.length f));have HBZ:=hid (show Bel (fun c=>c=bt) V Z by rw [hZ];exact hbe.setCell (p:=⟨bt,k2*13+12,none⟩) rfl _);have HVZ:=hid (show a_p Z bt TZ by rw [hZ,hTZ];exact a_y hvA _ hl _);have hkn:Kept (fun b=>hi≤b) w1 Z:=by rw [hZ];exact a_U _ _ _ (fun b hb=>by have:=HBT.out;show b≠bt;omega)
    have hkV:Kept (fun b=>hi≤b) V Z:=l_1 HBZ.out (fun b hb=>by have:=HBT.out;show ¬ b=bt;omega);have hkO:Kept (fun b=>b < lo) V Z:=l_1 HBZ.out (fun b hb=>by have:=HBT.out;show ¬ b=bt;omega)
    have HMZ:=hid (show n_I (k2+1) (fun b=>hi≤b) (fun b=>b < lo) Z X.th TZ by
     rw [hTZ];exact q_6 (f_U hkV hkO HMT.out) HTT.out g2 (a_B hkn g3) k3 (a_B hkn k4))
    have HMB2:=hid (f_T hkV hkO HMB.out);have HVB2:=hid (HBZ.out.varN (fun e=>HBT.out.2.2 e) HVB.out);have HX2:=hid (HBZ.out.varN (fun e=>by have:=HBT.out;have:=HGL.out;omega) HXV.out);have HZ2:=hid (HBZ.out.varN (fun e=>by have:=HBT.out;have:=HGL.out;omega) HZV.out);rw [←hZ];clear hv hbo hbe y74 y78 hval hae q1 q2 zz zf g1 g2 g3 k1 k3 k4 hkn hkV hkO hZ hTZ hvA hl z9 z12 hG;obtain ⟨q,cq,hq1,hq2,hq3⟩:=HMB2.out.2 k2 bf HBX.out;rw [if_neg (Nat.lt_irrefl _)] at hq3;have HPQ:=hid (And.intro hq2 hq3);obtain ⟨zb,-⟩:=HVB2.out _ _ hq1;obtain ⟨x4,-⟩:=HX2.out 4 _ rfl;rw [HBN.out] at x4;have HHZ:=hid (show hi≤Z.heap.size by have:=HBZ.out.size;have:=HHI.out;omega);have hG2:=o_q w.heap.size bb k2 L.th.n cbs hi q cq bf
    go_wp2_with fail
    clear hq1 hq2 hq3;refine c_I 14 [some 79,some 80,some 81,some 82,some 83,some 84,some 85,some 86,some 87,some 88,some 89,some 90,some 91,some 92] (fun w'=>Below Z.heap.size Z w') (t_N w.heap.size bb k2 L.th.n cbs hi q cq bf) 100 100 (fun _ _ _=>True) (by kernel_rfl) (by kernel_rfl) (by decide) rfl rfl ((Below.refl _ _).drew) ?_
    show StepsL _ _ _ _ _ _ _
    refine InvZ.c (fun _ _ w1 _ C _ hK=>oR C hK (h:=by simp [execOp,go_sem,C.o 1 (.pointer (some ⟨w.heap.size,0,none⟩))])) ?_;refine InvZ.c (fun _ _ w1 _ C _ hK=>oR C hK (h:=by simp [execOp,go_sem,C.i 0])) ?_;refine InvZ.c (fun _ _ w1 _ C _ hK=>oR C hK (h:=by simp [execOp,go_sem,C.i 1])) ?_;refine InvZ.c (fun _ _ w1 _ C _ hK=>oR C hK (h:=by simp [execOp,go_sem,C.i 2,a_t C.base x4])) ?_;refine InvZ.c (fun _ _ w1 _ C _ hK=>oR C hK (h:=by simp [execOp,go_sem,C.o 3 (.int .i64 (k2:Int))])) ?_;refine InvZ.c (fun _ _ w1 _ C _ hK=>oR C hK (h:=by simp [execOp,go_sem,C.o 1 (.pointer (some ⟨w.heap.size,0,none⟩))])) ?_;refine InvZ.c (fun _ _ w1 _ C _ hK=>oR C hK (h:=by simp [execOp,go_sem,C.i 5])) ?_;refine InvZ.c (fun _ _ w1 _ C _ hK=>oR C hK (h:=by simp [execOp,go_sem,C.i 6])) ?_;refine InvZ.c (fun _ _ w1 _ C _ hK=>oR C hK (h:=by simp [execOp,go_sem,C.i 7,a_t C.base x4])) ?_;refine InvZ.c (fun _ _ w1 _ C _ hK=>oR C hK (h:=by simp [execOp,go_sem,C.o 3 (.int .i64 (k2:Int))])) ?_;refine InvZ.c (fun _ _ w1 _ C _ hK=>oR C hK (h:=by simp [execOp,go_sem,C.i 8,C.i 9,i1,i2])) ?_;refine InvZ.c (fun _ _ w1 _ C _ hK=>oR C hK (h:=by simp [execOp,go_sem,C.i 10,a_t C.base zb])) ?_;refine InvZ.c (fun a1 vals w1 hdf C K hK=>?_) ?_
    ·have e0:=C.i 11;rw [a_P] at e0;refine a_i rfl (a_Q _ _ _ rfl 89 rfl [.slice q bf.length cq] (by simp only [List.map_cons,List.map_nil,e0]) (by kernel_rfl) ((h_5 q bf.length cq bf w1 (i_S (a_C C.base) HPQ.out.2).pl HPQ.out.1 HBF.out).mono ?_));rintro e9 w2 ⟨a,c,rfl,hcap,hvs,hb2⟩;have hs1:=C.base.size;have hs2:=HHZ.out;exact ⟨_,rfl,p_p hK hG2 (fun _ _ _ _ _ _=>trivial) hb2 rfl ⟨a,c,rfl,hcap,p_o (fun b hb _=>by omega) hvs⟩ (a_a C.base hb2)⟩
    refine InvZ.c (fun _ _ w1 _ C _ hK=>oR C hK (h:=by simp [execOp,go_sem,C.i 3,C.i 4,i1,i2])) ?_;refine InvZ.last (n:=14) ?_ ?_ ?_ ?_
    ·rfl
    ·kernel_rfl
    ·decide
    ·intro vals w1 aE hae hval hb hv hbo K hK;obtain ⟨a,c,h1,h2,h3⟩:=c_i (k:=12) rfl (hv 12 (by decide));have y91:vals 12=.slice a bf.length c:=List.head_eq_of_cons_eq h1;have y92:vals 13=.pointer (some ⟨bb,k2,none⟩):=e_Y rfl (hv 13 (by decide));have q1:=(hval 13 92 rfl rfl).trans y92;have q2:=(hval 12 91 rfl rfl).trans y91;have hvB:=a_h hb HVB2.out;have hl:k2 < BC.length:=by rw [HMB.out.1];have:=HBL.out;omega
     obtain ⟨zz,zf⟩:=hvB _ _ (List.getElem?_eq_getElem hl);refine a_i rfl (g_y (w':=w1.setCell ⟨bb,k2,none⟩ (.slice a bf.length c)) ?_ (hK _ _ ?_))
     ·rw [←a_P] at q1 q2;simp [execOp,go_sem,q1,q2,zz,zf]
     rw [hae.out];simp only [c_N,Act.put,sA,sB,sC,y91,y92];obtain ⟨U,hU⟩:=nm (w1.setCell ⟨bb,k2,none⟩ (.slice a bf.length c));obtain ⟨BZ,hBZ⟩:=nm (BC.set k2 (.slice a bf.length c))
     have HBU:=hid (show Bel (fun c=>c=bt∨c=bb) U6 U by
      rw [hU];refine Bel.setCell (p:=⟨bb,k2,none⟩) (Bel.andB (HBE.out.trans ?_) hb) (.inr rfl) _;exact ⟨HBZ.out.os,HBZ.out.tape,HBZ.out.output,HBZ.out.size,fun c hc hs=>HBZ.out.block c hc (fun e=>hs (.inl e))⟩)
     have hkB:∀ Qx:Nat→Prop,(∀ x,Qx x→x≠bb)→Kept Qx Z U:=fun Qx hq=>by rw [hU];exact a_3 (a_C hb) (a_U _ _ _ (fun b hb=>hq b hb))
     have hkn:=hkB (fun b=>hi≤b) (fun x hx e=>by have:=HBB.out;omega);have hko:=hkB (fun b=>b < lo) (fun x hx e=>by have:=HBB.out;omega);have HMU:=hid (f_U hkn hko HMZ.out);have HVU:=hid (show a_p U bt TZ by rw [hU];exact a_l (a_h hb HVZ.out) HBT.out.2.2 _)
     have HNU:=hid (show p_0 (k2+1) (fun b=>hi≤b) (fun b=>b < lo) U X.bs BZ by
      rw [hBZ];exact q_4 (f_T hkn hko HMB2.out) HBX.out h2 (i_S (show Kept (fun b=>hi≤b) w1 U by rw [hU];exact a_U _ _ _ (fun b hb e=>by have:=HBB.out;have e:b=bb:=e;have hb:hi≤b:=hb;omega)) h3))
     have HWU:=hid (show a_p U bb BZ by rw [hU,hBZ];exact a_y hvB _ hl _);have hwk:wrap64 ((k2:Int)+1)=k2+1:=IntWalk.wrap64_in _ (by have:=HN8.out;omega);rw [←hU];clear hb hv hbo y91 y92 hval hae q1 q2 zz zf h1 h2 h3 hkB hkn hko hU hBZ hvB hl hG2 x4 zb
     go_wp2
     go_roundw
     case rel=>exact ⟨k2+1,TZ,BZ,by omega,by go_num,HVU.out,HWU.out,HMU.out,HNU.out,HBU.out⟩
     case measure=>rw [hwk];simp only [intOf];omega
  ·obtain rfl:k2=L.th.n:=by omega
   have hsz:=And.intro HS0.out (And.intro HS1.out (And.intro HS2.out (And.intro HS3.out (And.intro HS4.out (And.intro HS5.out HS6.out)))));have hne:∀ (q:Nat),(q≠bt∧q≠bb)→¬ (q=bt∨q=bb):=fun q h h2=>h2.elim h.1 h.2
   have hbt6:=HNth.out bt rfl;have hbb6:=HNbs.out bb rfl;have HOCO:=hid (i_R HBE.out HWco.out (fun q hq=>hne q (by have:=HNco.out q hq;omega)));have HOEV:=hid (i_R HBE.out HWev.out (fun q hq=>hne q (by have:=HNev.out q hq;omega)));have HOWS:=hid (i_R HBE.out HWws.out (fun q hq=>hne q (by have:=HNws.out q hq;omega)));have HOTS:=hid (i_R HBE.out HWts.out (fun q hq=>hne q (by have:=HNts.out q hq;omega)));have HBF:=hid (show Below w.heap.size w wr from HB6.out.trans (HBE.out.below (fun c hc=>by rcases hc with h | h <;> (rw [h];omega)) HB6.out.size));have HSF:=hid (show hi≤wr.heap.size by rw [←HGH.out];exact HBE.out.size);have HLO:=hid (show ∀ q,(Value.slice aev L.ev.n cev).ownBlock=some q→lo+2≤q∧q < hi∧q≠bt∧q≠bb by intro q hq;have:=HNev.out q hq;have:=HGL.out;have:=HGH.out;omega);have HLC:=hid (show ∀ q,(Value.slice aco L.co.n cco).ownBlock=some q→lo+2≤q∧q≠bt∧(Value.slice aev L.ev.n cev).ownBlock≠some q by intro q hq;have:=HNco.out q hq;have:=HGL.out;refine ⟨by omega,by omega,fun h=>by have:=HNev.out q h;omega⟩);have HLW:=hid (show ∀ q,(Value.slice aws L.ws.n cws).ownBlock=some q→lo+2≤q∧q≠bt∧(Value.slice aev L.ev.n cev).ownBlock≠some q by intro q hq;have:=HNws.out q hq;have:=HGL.out;refine ⟨by omega,by omega,fun h=>by have:=HNev.out q h;omega⟩);have HLT:=hid (show ∀ q,(Value.slice ats L.ts.n cts).ownBlock=some q→lo+2≤q∧q≠bt∧(Value.slice aev L.ev.n cev).ownBlock≠some q by intro q hq;have:=HNts.out q hq;have:=HGL.out;refine ⟨by omega,by omega,fun h=>by have:=HNev.out q h;omega⟩);have HLB:=hid (show (Value.slice aev L.ev.n cev).ownBlock≠some bb from fun h=>by have:=HNev.out bb h;omega)
   clear hsz hne hbt6 hbb6
   go_wp2_with (first | (refine wpList_load_mid rfl 80 _ rfl w.heap.size 0 rfl [.slice aco L.co.n cco,.slice aws L.ws.n cws,.slice ats L.ts.n cts,.int .i64 D,.slice (some ⟨bb,0,none⟩) L.bs.n cbs,.slice (some ⟨bt,0,none⟩) L.th.n cth,.slice aev L.ev.n cev,.int .i64 k] _ (a_f HXV.out) Tryz.underlying80 rfl (by kernel_rfl) ?_) | (refine a_c rfl 80 _ _ rfl (w.heap.size+1) #[.slice aco L.co.n cco,.slice aws L.ws.n cws,.slice ats L.ts.n cts,.int .i64 D,.slice (some ⟨bb,0,none⟩) L.bs.n cbs,.slice (some ⟨bt,0,none⟩) L.th.n cth,.slice aev L.ev.n cev,.int .i64 k] rfl rfl _ HZV.out rfl (by kernel_rfl) (by simp [Value.oneCell']) ?_;intro U HU))
   have HZU:=hid (show a_p U (w.heap.size+1) [.slice aco L.co.n cco,.slice aws L.ws.n cws,.slice ats L.ts.n cts,.int .i64 D,.slice (some ⟨bb,0,none⟩) L.bs.n cbs,.slice (some ⟨bt,0,none⟩) L.th.n cth,.slice aev L.ev.n cev,.int .i64 k] by rw [HU.out];exact a_q HZV.out rfl);refine a_X ⟨w.heap.size+1,0,none⟩ rfl rfl rfl (a_E HZU.out 80 Tryz.underlying80 rfl (by kernel_rfl)) ?_;have hgl:=HGL.out;have hks:∀ Qx:Nat→Prop,(∀ x,Qx x→x≠w.heap.size+1)→Kept Qx wr U:=fun Qx hq=>by rw [HU.out];exact a_u hq
   have hsu:U.heap.size=wr.heap.size:=by rw [HU.out,a_O]
   refine ⟨fun c=>lo+2≤c∧c≠bt∧(Value.slice aev L.ev.n cev).ownBlock≠some c,⟨⟨aco,L.co.n,cco⟩,⟨aws,L.ws.n,cws⟩,⟨ats,L.ts.n,cts⟩,⟨some ⟨bb,0,none⟩,L.bs.n,cbs⟩,⟨some ⟨bt,0,none⟩,L.th.n,cth⟩,⟨aev,L.ev.n,cev⟩⟩,bt,by rw [HD.out],?_,by rw [HU.out];exact a_g (by omega) HBF.out⟩;have hev:∀ c,hi≤c→(Value.slice aev L.ev.n cev).ownBlock≠some c:=fun c hc h=>by have:=HLO.out c h;omega
   refine ⟨rfl,⟨TC,by rw [HU.out];exact a_j (by have:=HBT.out;omega) HVT.out,?_⟩,?_,?_,?_,?_,⟨ecs,?_,h_b HFE.out⟩,?_,HCco.out,HCth.out,HCev.out,HXL.out.1,?_,?_,?_⟩
   ·exact o_T (f_U (hks _ (fun x hx=>by have:=HBT.out;omega)) (hks _ (fun x hx=>by omega)) HMT.out) (by have:=HXL.out;omega) (fun b hb=>⟨by have:=HBT.out;omega,by have:=HBT.out;omega,hev b hb⟩)
   ·refine p_l (by rw [HU.out];exact a_0 (fun h=>by have:=HLC.out _ h;omega) HOCO.out) (h_b HFC.out) HXL.out.2.2.1 (fun q hq=>HLC.out q hq)
   ·refine s_a (by rw [HU.out,←HWC.out.1];exact a_0 (fun h=>by have:=HLW.out _ h;omega) HOWS.out) HXL.out.2.2.2.1 (fun q hq=>HLW.out q hq)
   ·refine s_a (by rw [HU.out,←HWC.out.2];exact a_0 (fun h=>by have:=HLT.out _ h;omega) HOTS.out) HXL.out.2.2.2.2 (fun q hq=>HLT.out q hq)
   ·have h:=s_1 (Q:=fun c=>lo+2≤c∧c≠bt∧(Value.slice aev L.ev.n cev).ownBlock≠some c) (g:=bb) (f_T (hks _ (fun x hx=>by have:=HBT.out;omega)) (hks _ (fun x hx=>by omega)) HMB.out) (by have:=HXL.out;omega) (fun b hb=>⟨by have:=HBT.out;omega,by have:=HBT.out;omega,hev b hb⟩) ⟨HBB.out.1,HBB.out.2.2,HLB.out⟩ (show a_p U bb BC by rw [HU.out];exact a_j (by have:=HBB.out;omega) HVB.out);have hl:X.bs.length=L.bs.n:=by rw [HXL.out.2.1,HBN.out]
    rw [hl] at h;exact h
   ·rw [HU.out];exact a_0 (fun h=>by have:=HLO.out _ h;omega) HOEV.out
   ·exact fun c hc=>⟨by have:=HLO.out c hc;omega,(HLO.out c hc).2.2.1,fun h=>h.2.2 hc⟩
   ·exact fun c hc=>⟨by omega,hc.2.1⟩
   ·have:=HBT.out;omega
   ·exact fun c hc=>⟨by have:=HSF.out;have:=HBT.out;omega,by have:=HSF.out;have:=HBT.out;omega,hev c (by have:=HSF.out;omega)⟩
end Go.Proofs.YtogdpojnbgeknaaGreatDoor
