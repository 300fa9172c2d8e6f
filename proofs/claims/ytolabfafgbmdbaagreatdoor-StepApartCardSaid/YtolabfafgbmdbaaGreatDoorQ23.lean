import Derived.Test.YtolabfafgbmdbaaGreatDoorQ22
import Derived.Test.YtolabfafgbmdbaaGreatDoorQ6
import Derived.Test.YtolabfafgbmdbaaGreatDoorQ16
import Derived.Test.YtolabfafgbmdbaaGreatDoorQ17
import Derived.Test.YtolabfafgbmdbaaGreatDoorQ20
import Derived.Test.YtolabfafgbmdbaaGreatDoorQ0
namespace Go.Proofs.YtolabfafgbmdbaaGreatDoor
open Go.ChangeShapes Go.WideShapes Go.ChangeAt Go.RowKit
open Gen
theorem i_7 {α:Type} {r:Rep α} {Q:Nat→Prop} {w:World} {a:Option Addr} {n:Nat} {ys:List α} (h:Vs r Q w a n ys):∃ cs,d_y r Q w cs ys∧∀ p,a=some p→∀ j u,cs[j]?=some u→w.cell? (p.add j)=some u:=by
 obtain ⟨h1,h2⟩:=h
 rcases h2 with h2 | ⟨b,o,e,-,f⟩
 ·obtain rfl:ys=[]:=List.eq_nil_of_length_eq_zero (by omega);exact ⟨[],rfl,fun p _ j u hj=>by simp at hj⟩
 ·have key:∀ k,k≤ys.length→∃ cs,d_y r Q w cs (ys.take k)∧∀ j u,cs[j]?=some u→w.cell? ⟨b,o+j,none⟩=some u:=by
   intro k
   induction k with
   | zero=>exact fun _=>⟨[],rfl,fun j u hj=>by simp at hj⟩
   | succ k ih =>
    intro hk;obtain ⟨cs,i1,i2⟩:=ih (by omega);obtain ⟨c,j1,j2⟩:=f k ys[k] (List.getElem?_eq_getElem hk);refine ⟨cs++c,?_,fun j u hj=>?_⟩
    ·rw [List.take_succ_eq_append_getElem hk];exact e_U j1 i1
    ·have hl:=b_h i1;rw [List.length_take,Nat.min_eq_left (by omega)] at hl
     by_cases hjc:j < cs.length
     ·rw [List.getElem?_append_left hjc] at hj;exact i2 j u hj
     ·rw [List.getElem?_append_right (by omega)] at hj;have:=j2 _ u hj;rw [show o+j=o+k*r.k+(j - cs.length) by omega];exact this
  obtain ⟨cs,i1,i2⟩:=key ys.length (Nat.le_refl _);rw [List.take_length] at i1;refine ⟨cs,i1,fun p hp j u hj=>?_⟩;rw [e] at hp
  cases hp
  rw [Gen.add_plain];exact i2 j u hj
theorem g_c {α:Type} {r:Rep α} {Q:Nat→Prop} {w:World}:∀ {ys:List α} {cs:List Value},cs.length=ys.length*r.k→(∀ i y,ys[i]?=some y→∃ c,r.R Q w c y∧∀ j v,c[j]?=some v→cs[i*r.k+j]?=some v)→d_y r Q w cs ys
 | [],cs,hl,_=>List.eq_nil_of_length_eq_zero (by simpa using hl)
 | y::ys,cs,hl,h=>by
  obtain ⟨c,h1,h2⟩:=h 0 y rfl;have hc:=r.len h1;have hl2:cs.length=r.k+ys.length*r.k:=by rw [hl,List.length_cons,Nat.succ_mul,Nat.add_comm]
  have e:c=cs.take r.k:=by
   apply List.ext_getElem?
   intro j;rw [List.getElem?_take]
   by_cases hj:j < r.k
   ·rw [if_pos hj,List.getElem?_eq_getElem (show j < c.length by omega)];have:=h2 j _ (List.getElem?_eq_getElem (show j < c.length by omega));rw [Nat.zero_mul,Nat.zero_add] at this;exact this.symm
   ·rw [if_neg hj,List.getElem?_eq_none (by omega)]
  refine ⟨cs.take r.k,cs.drop r.k,(List.take_append_drop _ _).symm,e▸h1,g_c (by rw [List.length_drop];omega) (fun i z hz=>?_)⟩;obtain ⟨d,d1,d2⟩:=h (i+1) z (by simpa using hz);refine ⟨d,d1,fun j v hj=>?_⟩;rw [List.getElem?_drop,show r.k+(i*r.k+j)=(i+1)*r.k+j by rw [Nat.succ_mul];omega];exact d2 j v hj
theorem h_b {Q:Nat→Prop} {w:World}:∀ {ts:List Thr} {cs:List Value},d_y repTh Q w cs ts→∀ u∈cs,u.oneCell'=true
 | [],cs,h=>by rw [show cs=[] from h];intro u hu;cases hu
 | _::_,_,⟨c,d,e,⟨_,_,_,_,h1,_⟩,h2⟩=>by
  intro u hu;rw [e] at hu
  rcases List.mem_append.1 hu with h3 | h3
  ·rw [h1] at h3;exact h_j _ _ _ _ _ _ _ u h3
  ·exact h_b h2 u h3
theorem e_R {Q:Nat→Prop} {w:World}:∀ {is:List Ins} {cs:List Value},d_y repIns Q w cs is→∀ u∈cs,u.oneCell'=true
 | [],cs,h=>by rw [show cs=[] from h];intro u hu;cases hu
 | i::_,_,⟨c,d,e,h1,h2⟩=>by
  intro u hu;rw [e] at hu
  rcases List.mem_append.1 hu with h3 | h3
  ·rw [show c=g_G i from h1] at h3;simp [g_G] at h3;rcases h3 with rfl | rfl | rfl | rfl <;> rfl
  ·exact e_R h2 u h3
theorem m_m {w:World} {a:Option Addr} {n:Nat} {zs:List Int} (h:Sl w a n zs):∀ p,a=some p→∀ j u,(zs.map (Value.int .i64))[j]?=some u→w.cell? (p.add j)=some u:=by
 intro p hp j u hj
 rcases h.2 with h2 | ⟨b,o,e,R⟩
 ·have:zs=[]:=List.eq_nil_of_length_eq_zero (by have:=h.1;omega);subst this;simp at hj
 ·rw [e] at hp;cases hp;rw [Gen.add_plain];have hl:j < zs.length:=by have:=(List.getElem?_eq_some_iff.1 hj).1;simpa using this
  rw [R j hl];rw [List.getElem?_map,List.getElem?_eq_getElem hl] at hj;rw [List.getD_eq_getElem?_getD,List.getElem?_eq_getElem hl];exact hj
theorem o_O (zs:List Int):∀ u∈zs.map (Value.int .i64),u.oneCell'=true:=by
 intro u hu;obtain ⟨z,_,rfl⟩:=List.mem_map.1 hu
 rfl
def BAt (Q:Nat→Prop) (w:World) (cs:List Value) (i:Nat) (b:List (Int×Int)):Prop:=∃ q c,cs[i]?=some (.slice q b.length c)∧d_A q b.length c∧PlQ Q w q b.length b
theorem s_w {Q:Nat→Prop} {w:World} {a:Option Addr} {n:Nat} {bs:List (List (Int×Int))} (h:BlP Q w a n bs):∃ cs:List Value,cs.length=n∧(∀ p,a=some p→∀ j u,cs[j]?=some u→w.cell? (p.add j)=some u)∧(∀ i b,bs[i]?=some b→BAt Q w cs i b)∧∀ u∈cs,u.oneCell'=true:=by
 obtain ⟨h1,h2⟩:=h
 rcases h2 with h2 | ⟨b,o,e,-,f⟩
 ·obtain rfl:bs=[]:=List.eq_nil_of_length_eq_zero (by omega);exact ⟨[],by simp;omega,fun p _ j u hj=>by simp at hj,fun i b hb=>by simp at hb,fun u hu=>by cases hu⟩
 ·have hc:∀ i,i < n→∃ q c,w.cell? ⟨b,o+i,none⟩=some (.slice q (bs.getD i []).length c)∧d_A q (bs.getD i []).length c∧PlQ Q w q (bs.getD i []).length (bs.getD i []):=fun i hi=>f i (by omega)
  refine ⟨(List.range n).map (fun i=>(w.cell? ⟨b,o+i,none⟩).getD undef),by simp,fun p hp j u hj=>?_,fun i y hy=>?_,fun u hu=>?_⟩
  ·rw [e] at hp;cases hp;have hj2:j < n:=by have:=(List.getElem?_eq_some_iff.1 hj).1;simpa using this
   obtain ⟨q,c,k1,-,-⟩:=hc j hj2;rw [List.getElem?_map,List.getElem?_range hj2] at hj;rw [Gen.add_plain,k1]
   simpa [k1] using hj
  ·have hi:=(List.getElem?_eq_some_iff.1 hy).1;obtain ⟨q,c,k1,k2,k3⟩:=hc i (by omega);have e2:bs.getD i []=y:=by rw [List.getD_eq_getElem?_getD,hy];rfl
   rw [e2] at k1 k2 k3;exact ⟨q,c,by rw [List.getElem?_map,List.getElem?_range (by omega)];simp [k1],k2,k3⟩
  ·obtain ⟨i,hi,rfl⟩:=List.mem_map.1 hu;obtain ⟨q,c,k1,-,-⟩:=hc i (by simpa using hi);rw [k1];rfl
def n_J (k:Nat) (Qn Qo:Nat→Prop) (w:World) (ts:List Thr) (TC:List Value):Prop:=TC.length=ts.length*13∧∀ i t,ts[i]?=some t→∃ fa fc la lc,(∀ j v,(thC t fa t.fs.length fc la t.lf.length lc)[j]?=some v→TC[i*13+j]?=some v)∧ThQ (if i < k then Qn else Qo) w fa t.fs.length fc la t.lf.length lc t
def p_X (k:Nat) (Qn Qo:Nat→Prop) (w:World) (bs:List (List (Int×Int))) (BC:List Value):Prop:=BC.length=bs.length∧∀ i b,bs[i]?=some b→BAt (if i < k then Qn else Qo) w BC i b
theorem f_R {k:Nat} {Qn Qo:Nat→Prop} {w w':World} {ts:List Thr} {TC:List Value} (h1:Kept Qn w w') (h2:Kept Qo w w') (h:n_J k Qn Qo w ts TC):n_J k Qn Qo w' ts TC:=⟨h.1,fun i t ht=>by
 obtain ⟨fa,fc,la,lc,a,b⟩:=h.2 i t ht;refine ⟨fa,fc,la,lc,a,a_w ?_ b⟩
 split
 ·exact h1
 ·exact h2⟩
theorem f_Q {k:Nat} {Qn Qo:Nat→Prop} {w w':World} {bs:List (List (Int×Int))} {BC:List Value} (h1:Kept Qn w w') (h2:Kept Qo w w') (h:p_X k Qn Qo w bs BC):p_X k Qn Qo w' bs BC:=⟨h.1,fun i t ht=>by
 obtain ⟨q,c,a,b,d⟩:=h.2 i t ht;refine ⟨q,c,a,b,d.1,d.2.imp id fun ⟨b,o,e,hq,r⟩=>⟨b,o,e,hq,fun j hj=>?_⟩⟩
 split at hq
 ·exact ⟨h1 _ _ _ hq (r j hj).1,h1 _ _ _ hq (r j hj).2⟩
 ·exact ⟨h2 _ _ _ hq (r j hj).1,h2 _ _ _ hq (r j hj).2⟩⟩
theorem q_4 {k:Nat} {Qn Qo:Nat→Prop} {w:World} {ts:List Thr} {TC:List Value} {t:Thr} {a b:Option Addr} {c d:Nat} (h:n_J k Qn Qo w ts TC) (ht:ts[k]?=some t) (ca:Cap a t.fs.length c) (va:Vs repFr Qn w a t.fs.length t.fs) (cb:Cap b t.lf.length d) (vb:Vs repInt Qn w b t.lf.length t.lf) :
  n_J (k+1) Qn Qo w ts ((TC.set (k*13+9) (.slice a t.fs.length c)).set (k*13+12) (.slice b t.lf.length d)):=by
 have hk:=(List.getElem?_eq_some_iff.1 ht).1;refine ⟨by simp [h.1],fun i u hu=>?_⟩;obtain ⟨fa,fc,la,lc,h1,h2⟩:=h.2 i u hu;have hi:=(List.getElem?_eq_some_iff.1 hu).1
 by_cases e:i=k
 ·subst e;rw [ht] at hu;cases hu;refine ⟨a,c,b,d,fun j v hj=>?_,by rw [if_pos (by omega)];exact ⟨ca,va,cb,vb⟩⟩;have hj13:j < 13:=(List.getElem?_eq_some_iff.1 hj).1;have hl:=h.1;rw [List.getElem?_set,List.getElem?_set]
  by_cases e12:j=12
  ·subst e12;rw [if_pos rfl,if_pos (by simp;omega)];exact hj
  ·rw [if_neg (by omega)]
   by_cases e9:j=9
   ·subst e9;rw [if_pos rfl,if_pos (by omega)];exact hj
   ·rw [if_neg (by omega)];refine h1 j v ?_;rw [←hj]
    rcases (show j=0∨j=1∨j=2∨j=3∨j=4∨j=5∨j=6∨j=7∨j=8∨j=10∨j=11 by omega) with rfl | rfl | rfl | rfl | rfl | rfl | rfl | rfl | rfl | rfl | rfl <;> rfl
 ·refine ⟨fa,fc,la,lc,fun j v hj=>?_,?_⟩
  ·have hj13:j < 13:=(List.getElem?_eq_some_iff.1 hj).1;rw [List.getElem?_set,List.getElem?_set,if_neg (by omega),if_neg (by omega)];exact h1 j v hj
  ·by_cases e2:i < k
   ·rw [if_pos e2] at h2;rw [if_pos (by omega)];exact h2
   ·rw [if_neg e2] at h2;rw [if_neg (by omega)];exact h2
theorem q_2 {k:Nat} {Qn Qo:Nat→Prop} {w:World} {bs:List (List (Int×Int))} {BC:List Value} {x:List (Int×Int)} {q:Option Addr} {c:Nat} (h:p_X k Qn Qo w bs BC) (hx:bs[k]?=some x) (hc:d_A q x.length c) (hp:PlQ Qn w q x.length x) :
  p_X (k+1) Qn Qo w bs (BC.set k (.slice q x.length c)):=by
 have hk:=(List.getElem?_eq_some_iff.1 hx).1;refine ⟨by simp [h.1],fun i u hu=>?_⟩
 by_cases e:i=k
 ·subst e;rw [hx] at hu;cases hu;exact ⟨q,c,by rw [List.getElem?_set_self (by rw [h.1];exact hk)],hc,by rw [if_pos (by omega)];exact hp⟩
 ·obtain ⟨q2,c2,h1,h2,h3⟩:=h.2 i u hu;refine ⟨q2,c2,by rw [List.getElem?_set_ne (fun h=>e h.symm)];exact h1,h2,?_⟩
  by_cases e2:i < k
  ·rw [if_pos e2] at h3;rw [if_pos (by omega)];exact h3
  ·rw [if_neg e2] at h3;rw [if_neg (by omega)];exact h3
theorem o_R {k:Nat} {Q Qn Qo:Nat→Prop} {w:World} {ts:List Thr} {TC:List Value} (h:n_J k Qn Qo w ts TC) (hk:ts.length≤k) (hQ:∀ b,Qn b→Q b):d_y repTh Q w TC ts:=
 g_c (r:=repTh) h.1 fun i t ht=>by
  obtain ⟨fa,fc,la,lc,a,b⟩:=h.2 i t ht;have hi:=(List.getElem?_eq_some_iff.1 ht).1;rw [if_pos (by omega)] at b;exact ⟨_,⟨fa,fc,la,lc,rfl,b_s hQ b⟩,a⟩
theorem s_V {k:Nat} {Q Qn Qo:Nat→Prop} {w:World} {bs:List (List (Int×Int))} {BC:List Value} {g:Nat} (h:p_X k Qn Qo w bs BC) (hk:bs.length≤k) (hQ:∀ b,Qn b→Q b) (hg:Q g) (hv:a_p w g BC):BlP Q w (some ⟨g,0,none⟩) bs.length bs:=
 ⟨rfl,.inr ⟨g,0,rfl,hg,fun i hi=>by
  obtain ⟨q,c,a,b,d⟩:=h.2 i _ (List.getElem?_eq_getElem hi);rw [if_pos (by omega)] at d;have e:bs.getD i []=bs[i]:=by rw [List.getD_eq_getElem?_getD,List.getElem?_eq_getElem hi];rfl
  rw [e];refine ⟨q,c,?_,b,d.1,d.2.imp id fun ⟨b,o,e,hq,r⟩=>⟨b,o,e,hQ _ hq,r⟩⟩;rw [Nat.zero_add];exact (hv i _ a).1⟩⟩
end Go.Proofs.YtolabfafgbmdbaaGreatDoor
namespace Go.Proofs.YtolabfafgbmdbaaGreatDoor
open Go.ChangeShapes Go.WideShapes Go.ChangeAt Go.RowKit
open Gen
section
variable {P:Program} {ops:Array Oper} {Q:Exit→Act→World→Prop}
def InvZ (n:Nat) (Q:Exit→Act→World→Prop) (l:List (Option Tmp)) (B:World→Prop) (S:b_n) (pi pj:Nat) (p:e_F) (a0:Act) (w0:World) (listed:Array Bool) (a:Act) (w:World):Prop:=
 (Up listed n→∀ i,i < n→Up listed i)∧(Up listed n→Q .normal a w)∧(¬ Up listed n→InvD l B S pi pj p a0 w0 listed a w)
theorem s_Q {n k:Nat} {l:List (Option Tmp)} {B:World→Prop} {S:b_n} {pi pj:Nat} {p:e_F} {a0 a:Act} {w0 w:World} {listed:Array Bool} (hkn:k < n) (hnu:¬ Up listed n) (h:InvD l B S pi pj p a0 w0 (listed.setIfInBounds k true) a w):InvZ n Q l B S pi pj p a0 w0 (listed.setIfInBounds k true) a w:=
 ⟨fun hu=>absurd (a_b hu (by omega)) hnu,fun hu=>absurd (a_b hu (by omega)) hnu,fun _=>h⟩
theorem InvZ.cons {l:List (Option Tmp)} {B:World→Prop} {S:b_n} {pi pj:Nat} {p:e_F} {a0:Act} {w0:World} {k:Nat} {o:Oper} {rest:List Oper} {ws:List Nat}
  {n:Nat} (hkn:Nat.blt k n=true) (hw:c_E .any o=ws) (hl:l[k]?=some o.dst) (hn:decide (b_O l).Nodup=true) (hd:ws.all (fun j=>decide (j < l.length))=true)
  (hD:(a_U S k).all (fun i=>(k::(ws++ws.flatMap (a_U S))).contains i)=true)
  (h:∀ a1 vals w1,a1.defers=a0.defers→CameD l B S pi pj p a0 ws a1 vals w1→∀ K:Act→World→Prop,g_W S pi pj p B k vals o.dst a1 w1 K →
   if Region.wanted o (yielded ops a1.tmps)=true then Oper.wp P o a1 w1 K Q else K (a1.put o.dst undef) w1)
  (hs:StepsL P .any ops Q (InvZ n Q l B S pi pj p a0 w0) (k+1) rest):StepsL P .any ops Q (InvZ n Q l B S pi pj p a0 w0) k (o::rest):=by
 have hn:=of_decide_eq_true hn;refine StepsL.cons hw (fun listed a1 w1 hI hu hu2 K hK=>?_) hs;have hkn:=N250;have hnu:=N220;obtain ⟨vals,rfl,hb,hv,hp⟩:=hI.2.2 hnu;have hlt:=N51
 have hall:∀ i,i∈ws++ws.flatMap (a_U S)→Up listed i:=fun i hi=>by
  exact J55
 refine h _ vals w1 (c_Y _ _ _ _) ⟨fun j t hj ht=>?_,fun t ht=>?_,hb,fun j hj=>(hv j (hlt j hj) (hu2 j hj)).2,fun h1 h2 l1 l2=>hp l1 l2 (hall _ h1) (hall _ h2)⟩ K (fun v w2 h1 h2 h3 h4 h5 h6 h7=>?_)
 ·exact J35
 ·exact J21
 ·refine hK.out _ _ (s_Q hkn hnu ⟨fun i=>if i=k then v else vals i,e_s hn hl v,h2,fun j hjl hj=>?_,fun l1 l2 u1 u2=>?_⟩)
  by_cases e:j=k
  ·subst e;refine ⟨fun i hi=>?_,h1⟩;exact J37
  ·exact J33
  ·exact J18
def isW (k:Nat) (ds:List Nat) (x:Value):List Nat×(List Value→World→Prop):=(k::ds,fun l _=>l.head?=some x)
theorem a_3 {k:Nat} {ds:List Nat} {x:Value} {S:b_n} (hs:c_g S):c_g (isW k ds x::S):=a_x (fun _ _ _ _ h=>h) hs
theorem CameD.isw {l:List (Option Tmp)} {B:World→Prop} {S:b_n} {pi pj:Nat} {p:e_F} {a0 a1:Act} {ws:List Nat} {vals:Nat→Value} {w1:World} (C:CameD l B S pi pj p a0 ws a1 vals w1) (j t:Nat) (ds:List Nat) (x:Value) (hj:l[j]?=some (some t)) (hs:Nat.blt t a0.tmps.size=true) (hm:ws.contains j=true) (he:S[j]?=some (isW j ds x)):a1.tmps[t]?.getD undef=x:=by
 have h:=C.says j hm;rw [b_E,a_U,List.getD_eq_getElem?_getD,he] at h;rw [C.t j t hj hs]
 simpa [isW] using h
theorem e_W {S:b_n} {k:Nat} {ds:List Nat} {x:Value} {vals:Nat→Value} {w:World} (he:S[k]?=some (isW k ds x)) (h:b_E S k ((a_U S k).map vals) w):vals k=x:=by
 rw [b_E,a_U,List.getD_eq_getElem?_getD,he] at h
 simpa [isW] using h
theorem c_j {S:b_n} {k:Nat} {d:List Nat} {f:List Value→World→Prop} {vals:Nat→Value} {w:World} (he:S[k]?=some (d,f)) (h:b_E S k ((a_U S k).map vals) w):f (d.map vals) w:=by
 rw [b_E,a_U,List.getD_eq_getElem?_getD,he] at h;exact h
theorem InvZ.last {l:List (Option Tmp)} {B:World→Prop} {S:b_n} {pi pj:Nat} {p:e_F} {a0:Act} {w0:World} {n:Nat} {o:Oper} (hl:l.length=n) (hw:(List.range n).all (fun i=>(c_E .any o).contains i||(c_E .any o).any (fun j=>Nat.blt j n&&(a_U S j).contains i))=true)
  (hnd:decide (b_O l).Nodup=true) (h:∀ vals w1 aE,Hid (aE=c_L a0 l vals 0)→(∀ j t,l[j]?=some (some t)→Nat.blt t a0.tmps.size=true→aE.eval (.tmp t)=vals j)→B w1→(∀ k,k < l.length→b_E S k ((a_U S k).map vals) w1)→(pi < l.length→pj < l.length→p (vals pi) (vals pj) w1)→∀ K:Act→World→Prop,(∀ a2 w2,Q .normal a2 w2→K a2 w2) →
   if Region.wanted o (yielded ops aE.tmps)=true then Oper.wp P o aE w1 K Q else K (aE.put o.dst undef) w1):StepsL P .any ops Q (InvZ n Q l B S pi pj p a0 w0) n [o]:=by
 refine StepsL.cons rfl (fun listed a1 w1 hI hu hu2 K hK=>?_) StepsL.nil;obtain ⟨vals,rfl,hb,hv,hp⟩:=hI.2.2 hu
 have hall:∀ i,i < n→Up listed i:=fun i hi=>by
  exact J41
 refine h vals w1 _ (Lib.hid rfl) (fun j t hj ht=>?_) hb (fun k hk=>(hv k hk (hall k (by omega))).2) (fun l1 l2=>hp l1 l2 (hall _ (by omega)) (hall _ (by omega))) K (fun a2 w2 hq=>hK.out _ _ ⟨fun _ i hi=>a_o (hall i hi),fun _=>hq,fun hn=>absurd d_X hn⟩);exact J61
theorem c_K {id:Nat} {ol:List Oper} {a:Act} {w:World} (n:Nat) (l:List (Option Tmp)) (B:World→Prop) (S:b_n) (pi pj:Nat) (p:e_F) (hm:P.follows .mixedOrders=true) (hb:i_B .any ol.toArray=true) (hn:decide (b_O l).Nodup=true) (hl:l.length=n) (hlen:ol.length=n+1)
  (h0:B w.drew) (hs:StepsL P .any ol.toArray Q (InvZ n Q l B S pi pj p a w) 0 ol):(Code.region id ol.toArray true).wp P Q a w:=by
 refine b_t (InvZ n Q l B S pi pj p) hm hb (fun listed hl2=>⟨fun hu=>absurd hu (hl2 n (by omega)),fun hu=>absurd hu (hl2 n (by omega)),fun _=>⟨e_L a l,(putL_first (of_decide_eq_true hn)).symm,h0,fun k hkl hk=>absurd hk (hl2 k (by omega)),fun l1 _ u1 _=>absurd u1 (hl2 _ (by omega))⟩⟩) hs (fun listed a' w' hI hu=>hI.2.1 (hu n))
theorem f_5 {o:Oper} {a:Act} {w:World} {K:Act→World→Prop} (x:Operand) (args:Array Operand) (aT:Array TypeId) (ho:o.op=Op.call { callee:=.value x,args:=args,argTypes:=aT })
  (f:FuncId) (hx:a.eval x=.func (.func f) #[] #[]) (vs:List Value) (hv:args.toList.map a.eval=vs) (hf:(P.funcs[f]?).map (fun fn=>(fn.name=="runtime.NumGoroutine",fn.body.isNone))=some (false,false))
  (h:Calls P f vs.toArray w (fun e w'=>(∃ v,e=.returned v∧K (a.put o.dst v) w')∨(∃ c,e=.panicked c∧Q (.panic c) a w'))):Oper.wp P o a w K Q:=by
 have e:(execOp a.eval o).run P w=.ok (.enter f vs.toArray) w:=by
  exact J52
 unfold Oper.wp;rw [e,Oper.upon_enter]
 exact h.mono (by
  rintro e w' (⟨v,rfl,hK⟩ | ⟨c,rfl,hK⟩)
  ·exact hK
  ·exact hK)
theorem g_S {listed:Array Bool} {k m:Nat}:(listed.setIfInBounds k true).getD m true=(listed.getD m true||(k==m)):=by
 by_cases e:k=m
 ·subst e;have:=@d_X listed k;unfold Up at this;rw [this];simp
 ·have h:=@up_set listed k m;unfold Up at h;have e2:(k==m)=false:=by simpa using e
  rw [e2,Bool.or_false,Bool.eq_iff_iff,h];exact ⟨fun h=>h.resolve_left (fun h=>e h.symm),.inr⟩
def InvY (n m:Nat) (Q:Exit→Act→World→Prop) (l:List (Option Tmp)) (B:Bool→World→Prop) (S:b_n) (pi pj:Nat) (p:e_F) (a0:Act) (w0:World) (listed:Array Bool) (a:Act) (w:World):Prop:=
 (Up listed n→∀ i,i < n→Up listed i)∧(Up listed n→Q .normal a w)∧(¬ Up listed n→InvD l (B (listed.getD m true)) S pi pj p a0 w0 listed a w)
theorem s_P {n m k:Nat} {l:List (Option Tmp)} {B:Bool→World→Prop} {S:b_n} {pi pj:Nat} {p:e_F} {a0 a:Act} {w0 w:World} {listed:Array Bool} (hkn:k < n) (hnu:¬ Up listed n) (h:InvD l (B ((listed.setIfInBounds k true).getD m true)) S pi pj p a0 w0 (listed.setIfInBounds k true) a w):InvY n m Q l B S pi pj p a0 w0 (listed.setIfInBounds k true) a w:=
 ⟨fun hu=>absurd (a_b hu (by omega)) hnu,fun hu=>absurd (a_b hu (by omega)) hnu,fun _=>h⟩
theorem InvY.cons {l:List (Option Tmp)} {B:Bool→World→Prop} {S:b_n} {pi pj:Nat} {p:e_F} {a0:Act} {w0:World} {k:Nat} {o:Oper} {rest:List Oper} {ws:List Nat}
  {n m:Nat} (hkn:Nat.blt k n=true) (hw:c_E .any o=ws) (hl:l[k]?=some o.dst) (hn:decide (b_O l).Nodup=true) (hd:ws.all (fun j=>decide (j < l.length))=true)
  (hD:(a_U S k).all (fun i=>(k::(ws++ws.flatMap (a_U S))).contains i)=true)
  (h:∀ a1 vals w1 bl,(k=m→bl=false)→a1.defers=a0.defers→CameD l (B bl) S pi pj p a0 ws a1 vals w1→∀ K:Act→World→Prop,g_W S pi pj p (cond (k==m) (B true) (B bl)) k vals o.dst a1 w1 K →
   if Region.wanted o (yielded ops a1.tmps)=true then Oper.wp P o a1 w1 K Q else K (a1.put o.dst undef) w1)
  (hs:StepsL P .any ops Q (InvY n m Q l B S pi pj p a0 w0) (k+1) rest):StepsL P .any ops Q (InvY n m Q l B S pi pj p a0 w0) k (o::rest):=by
 have hn:=of_decide_eq_true hn;refine StepsL.cons hw (fun listed a1 w1 hI hu hu2 K hK=>?_) hs;have hkn:=N250;have hnu:=N220;obtain ⟨vals,rfl,hb,hv,hp⟩:=hI.2.2 hnu;have hlt:=N51
 have hall:∀ i,i∈ws++ws.flatMap (a_U S)→Up listed i:=fun i hi=>by
  exact J55
 refine h _ vals w1 (listed.getD m true) (fun e=>by subst e;cases hx:listed.getD k true with | false=>rfl | true=>exact absurd hx hu) (c_Y _ _ _ _) ⟨fun j t hj ht=>?_,fun t ht=>?_,hb,fun j hj=>(hv j (hlt j hj) (hu2 j hj)).2,fun h1 h2 l1 l2=>hp l1 l2 (hall _ h1) (hall _ h2)⟩ K (fun v w2 h1 h2 h3 h4 h5 h6 h7=>?_)
 ·exact J35
 ·exact J21
 ·refine hK.out _ _ (s_P hkn hnu ⟨fun i=>if i=k then v else vals i,e_s hn hl v,(by
   rw [g_S]
   cases hkm:(k==m) with
   | false=>rw [hkm] at h2;rw [Bool.or_false];exact h2
   | true=>rw [hkm] at h2;rw [Bool.or_true];exact h2),fun j hjl hj=>?_,fun l1 l2 u1 u2=>?_⟩)
  by_cases e:j=k
  ·subst e;refine ⟨fun i hi=>?_,h1⟩;exact J37
  ·exact J33
  ·exact J18
theorem InvY.last {l:List (Option Tmp)} {B:Bool→World→Prop} {S:b_n} {pi pj:Nat} {p:e_F} {a0:Act} {w0:World} {n m:Nat} {o:Oper} (hl:l.length=n) (hw:(List.range n).all (fun i=>(c_E .any o).contains i||(c_E .any o).any (fun j=>Nat.blt j n&&(a_U S j).contains i))=true)
  (hnd:decide (b_O l).Nodup=true) (h:∀ vals w1 aE,Hid (aE=c_L a0 l vals 0)→(∀ j t,l[j]?=some (some t)→Nat.blt t a0.tmps.size=true→aE.eval (.tmp t)=vals j)→(∃ bl,B bl w1)→(∀ k,k < l.length→b_E S k ((a_U S k).map vals) w1)→(pi < l.length→pj < l.length→p (vals pi) (vals pj) w1)→∀ K:Act→World→Prop,(∀ a2 w2,Q .normal a2 w2→K a2 w2) →
   if Region.wanted o (yielded ops aE.tmps)=true then Oper.wp P o aE w1 K Q else K (aE.put o.dst undef) w1):StepsL P .any ops Q (InvY n m Q l B S pi pj p a0 w0) n [o]:=by
 refine StepsL.cons rfl (fun listed a1 w1 hI hu hu2 K hK=>?_) StepsL.nil;obtain ⟨vals,rfl,hb,hv,hp⟩:=hI.2.2 hu
 have hall:∀ i,i < n→Up listed i:=fun i hi=>by
  exact J41
 refine h vals w1 _ (Lib.hid rfl) (fun j t hj ht=>?_) ⟨_,hb⟩ (fun k hk=>(hv k hk (hall k (by omega))).2) (fun l1 l2=>hp l1 l2 (hall _ (by omega)) (hall _ (by omega))) K (fun a2 w2 hq=>hK.out _ _ ⟨fun _ i hi=>a_o (hall i hi),fun _=>hq,fun hn=>absurd d_X hn⟩);exact J61
theorem h_S {id:Nat} {ol:List Oper} {a:Act} {w:World} (n m:Nat) (hmn:Nat.blt m n=true) (l:List (Option Tmp)) (B:Bool→World→Prop) (S:b_n) (pi pj:Nat) (p:e_F) (hm:P.follows .mixedOrders=true) (hb:i_B .any ol.toArray=true) (hn:decide (b_O l).Nodup=true) (hl:l.length=n) (hlen:ol.length=n+1)
  (h0:B false w.drew) (hs:StepsL P .any ol.toArray Q (InvY n m Q l B S pi pj p a w) 0 ol):(Code.region id ol.toArray true).wp P Q a w:=by
 refine b_t (InvY n m Q l B S pi pj p) hm hb (fun listed hl2=>⟨fun hu=>absurd hu (hl2 n (by omega)),fun hu=>absurd hu (hl2 n (by omega)),fun _=>⟨e_L a l,(putL_first (of_decide_eq_true hn)).symm,(by cases hx:listed.getD m true with | false=>exact h0 | true=>exact absurd hx (hl2 m (by have:=(Nat.blt_eq▸hmn:m < n);omega))),fun k hkl hk=>absurd hk (hl2 k (by omega)),fun l1 _ u1 _=>absurd u1 (hl2 _ (by omega))⟩⟩) hs (fun listed a' w' hI hu=>hI.2.1 (hu n))
def InvU (n m:Nat) (D:List Nat) (Q:Exit→Act→World→Prop) (l:List (Option Tmp)) (B:Bool→World→Prop) (S:b_n) (pi pj:Nat) (p:e_F) (a0:Act) (w0:World) (listed:Array Bool) (a:Act) (w:World):Prop:=
 (Up listed n→∀ i,i < n→Up listed i)∧(Up listed m→∀ i∈D,Up listed i)∧(Up listed n→Q .normal a w)∧(¬ Up listed n→InvD l (B (listed.getD m true)) S pi pj p a0 w0 listed a w)
theorem s_O {n m k:Nat} {D:List Nat} {l:List (Option Tmp)} {B:Bool→World→Prop} {S:b_n} {pi pj:Nat} {p:e_F} {a0 a:Act} {w0 w:World} {listed:Array Bool} (hkn:k < n) (hnu:¬ Up listed n) (hm:Up (listed.setIfInBounds k true) m→∀ i∈D,Up (listed.setIfInBounds k true) i) (h:InvD l (B ((listed.setIfInBounds k true).getD m true)) S pi pj p a0 w0 (listed.setIfInBounds k true) a w):InvU n m D Q l B S pi pj p a0 w0 (listed.setIfInBounds k true) a w:=
 ⟨fun hu=>absurd (a_b hu (by omega)) hnu,hm,fun hu=>absurd (a_b hu (by omega)) hnu,fun _=>h⟩
theorem InvU.cons {l:List (Option Tmp)} {B:Bool→World→Prop} {S:b_n} {pi pj:Nat} {p:e_F} {a0:Act} {w0:World} {k:Nat} {o:Oper} {rest:List Oper} {ws:List Nat}
  {n m:Nat} {D:List Nat} (hkn:Nat.blt k n=true) (hln:l.length=n) (hw:c_E .any o=ws) (hl:l[k]?=some o.dst) (hn:decide (b_O l).Nodup=true) (hd:ws.all (fun j=>decide (j < l.length))=true)
  (hD:(a_U S k).all (fun i=>(k::(ws++ws.flatMap (a_U S))).contains i)=true)
  (hkm:(k != m||D.all (fun i=>ws.contains i||ws.any (fun j=>Nat.blt j n&&(a_U S j).contains i)))=true)
  (h:∀ a1 vals w1 bl,((k==m||D.contains k)=true→bl=false)→a1.defers=a0.defers→CameD l (B bl) S pi pj p a0 ws a1 vals w1→∀ K:Act→World→Prop,g_W S pi pj p (cond (k==m) (B true) (B bl)) k vals o.dst a1 w1 K →
   if Region.wanted o (yielded ops a1.tmps)=true then Oper.wp P o a1 w1 K Q else K (a1.put o.dst undef) w1)
  (hs:StepsL P .any ops Q (InvU n m D Q l B S pi pj p a0 w0) (k+1) rest):StepsL P .any ops Q (InvU n m D Q l B S pi pj p a0 w0) k (o::rest):=by
 have hn:=of_decide_eq_true hn;refine StepsL.cons hw (fun listed a1 w1 hI hu hu2 K hK=>?_) hs;have hkn:=N250;have hnu:=N220;obtain ⟨vals,rfl,hb,hv,hp⟩:=hI.2.2.2 hnu;have hlt:=N51
 have hall:∀ i,i∈ws++ws.flatMap (a_U S)→Up listed i:=fun i hi=>by
  exact J55
 have hmn:Up (listed.setIfInBounds k true) m→∀ i∈D,Up (listed.setIfInBounds k true) i:=fun hum i hi=>by
  by_cases e:m=k
  ·subst e
   rcases Bool.or_eq_true_iff.1 hkm with h1 | h1
   ·exact absurd h1 (by simp)
   ·have h2:=List.all_eq_true.1 h1 i hi
    rcases Bool.or_eq_true_iff.1 h2 with h3 | h3
    ·exact a_o (hu2 i (List.contains_iff_mem.1 h3))
    ·obtain ⟨j,hj,h4⟩:=List.any_eq_true.1 h3;simp only [Bool.and_eq_true] at h4;have hjn:j < n:=by simpa [Nat.blt_eq] using h4.1
     exact a_o ((hv j (by omega) (hu2 j hj)).1 i (List.contains_iff_mem.1 h4.2))
  ·exact a_o (hI.2.1 (a_b hum e) i hi)
 refine h _ vals w1 (listed.getD m true) (fun e=>by
  cases hx:listed.getD m true with
  | false=>rfl
  | true =>
   rcases Bool.or_eq_true_iff.1 e with h1 | h1
   ·have h1:k=m:=by simpa using h1
    subst h1;exact absurd hx hu
   ·exact absurd (hI.2.1 hx k (List.contains_iff_mem.1 h1)) hu) (c_Y _ _ _ _) ⟨fun j t hj ht=>?_,fun t ht=>?_,hb,fun j hj=>(hv j (hlt j hj) (hu2 j hj)).2,fun h1 h2 l1 l2=>hp l1 l2 (hall _ h1) (hall _ h2)⟩ K (fun v w2 h1 h2 h3 h4 h5 h6 h7=>?_)
 ·exact J35
 ·exact J21
 ·refine hK.out _ _ (s_O hkn hnu hmn ⟨fun i=>if i=k then v else vals i,e_s hn hl v,(by
   rw [g_S]
   cases hkm:(k==m) with
   | false=>rw [hkm] at h2;rw [Bool.or_false];exact h2
   | true=>rw [hkm] at h2;rw [Bool.or_true];exact h2),fun j hjl hj=>?_,fun l1 l2 u1 u2=>?_⟩)
  by_cases e:j=k
  ·subst e;refine ⟨fun i hi=>?_,h1⟩;exact J37
  ·exact J33
  ·exact J18
theorem InvU.last {l:List (Option Tmp)} {B:Bool→World→Prop} {S:b_n} {pi pj:Nat} {p:e_F} {a0:Act} {w0:World} {n m:Nat} {D:List Nat} {o:Oper} (hmn:D.all (fun i=>Nat.blt i n)=true) (hl:l.length=n) (hw:(List.range n).all (fun i=>(c_E .any o).contains i||(c_E .any o).any (fun j=>Nat.blt j n&&(a_U S j).contains i))=true)
  (hnd:decide (b_O l).Nodup=true) (h:∀ vals w1 aE,Hid (aE=c_L a0 l vals 0)→(∀ j t,l[j]?=some (some t)→Nat.blt t a0.tmps.size=true→aE.eval (.tmp t)=vals j)→(∃ bl,B bl w1)→(∀ k,k < l.length→b_E S k ((a_U S k).map vals) w1)→(pi < l.length→pj < l.length→p (vals pi) (vals pj) w1)→∀ K:Act→World→Prop,(∀ a2 w2,Q .normal a2 w2→K a2 w2) →
   if Region.wanted o (yielded ops aE.tmps)=true then Oper.wp P o aE w1 K Q else K (aE.put o.dst undef) w1):StepsL P .any ops Q (InvU n m D Q l B S pi pj p a0 w0) n [o]:=by
 refine StepsL.cons rfl (fun listed a1 w1 hI hu hu2 K hK=>?_) StepsL.nil;obtain ⟨vals,rfl,hb,hv,hp⟩:=hI.2.2.2 hu
 have hall:∀ i,i < n→Up listed i:=fun i hi=>by
  exact J41
 refine h vals w1 _ (Lib.hid rfl) (fun j t hj ht=>?_) ⟨_,hb⟩ (fun k hk=>(hv k hk (hall k (by omega))).2) (fun l1 l2=>hp l1 l2 (hall _ (by omega)) (hall _ (by omega))) K (fun a2 w2 hq=>hK.out _ _ ⟨fun _ i hi=>a_o (hall i hi),fun _ i hi=>a_o (hall i (by have:=List.all_eq_true.1 hmn i hi;simpa [Nat.blt_eq] using this)),fun _=>hq,fun hn=>absurd d_X hn⟩);exact J61
theorem h_R {id:Nat} {ol:List Oper} {a:Act} {w:World} (n m:Nat) (D:List Nat) (hmn:Nat.blt m n=true) (l:List (Option Tmp)) (B:Bool→World→Prop) (S:b_n) (pi pj:Nat) (p:e_F) (hm:P.follows .mixedOrders=true) (hb:i_B .any ol.toArray=true) (hn:decide (b_O l).Nodup=true) (hl:l.length=n) (hlen:ol.length=n+1)
  (h0:B false w.drew) (hs:StepsL P .any ol.toArray Q (InvU n m D Q l B S pi pj p a w) 0 ol):(Code.region id ol.toArray true).wp P Q a w:=by
 refine b_t (InvU n m D Q l B S pi pj p) hm hb (fun listed hl2=>⟨fun hu=>absurd hu (hl2 n (by omega)),fun hu=>absurd hu (hl2 m (by have:=(Nat.blt_eq▸hmn:m < n);omega)),fun hu=>absurd hu (hl2 n (by omega)),fun _=>⟨e_L a l,(putL_first (of_decide_eq_true hn)).symm,(by cases hx:listed.getD m true with | false=>exact h0 | true=>exact absurd hx (hl2 m (by have:=(Nat.blt_eq▸hmn:m < n);omega))),fun k hkl hk=>absurd hk (hl2 k (by omega)),fun l1 _ u1 _=>absurd u1 (hl2 _ (by omega))⟩⟩) hs (fun listed a' w' hI hu=>hI.2.2.1 (hu n))
theorem g_t {o:Oper} {a:Act} {w w':World} {K:Act→World→Prop} (h:(execOp a.eval o).run P w=.ok .skip w') (hk:K (a.put o.dst undef) w'):Oper.wp P o a w K Q:=by
 unfold Oper.wp;rw [h];exact hk
theorem e_y {o:Oper} {a:Act} {w:World} {K:Act→World→Prop} (ty:TypeId) (x y:Operand) (ho:o.op=.store ty x y) (g f:Nat) (cells:Array Value) (hx:a.eval x=.pointer (some ⟨g,f,none⟩)) (hy:a.eval y=.agg cells)
  (vs:List Value) (hv:a_p w g vs) (hl:f+cells.size≤vs.length) (hi:(P.info? ty).map (·.size)=some cells.size) (h1:cells.all (·.oneCell')=true)
  (h:∀ U,Hid (U=d_v w g f cells.toList)→K (a.put o.dst undef) U):Oper.wp P o a w K Q:=
 wp_store_mid ty x y ho g f cells hx hy (fun j hj=>by
  have hv':=N214;obtain ⟨h1,h2⟩:=hv _ _ hv';exact ⟨by rw [h1];rfl,h2⟩) hi h1 (h _ (Lib.hid (f_b _ _ _ _)))
end
theorem InvZ.c {l:List (Option Tmp)} {B:World→Prop} {S:b_n} {pi pj:Nat} {p:e_F} {a0:Act} {w0:World} {k:Nat} {o:Oper} {rest:List Oper} {P:Program} {ops:Array Oper} {Q:Exit→Act→World→Prop} {n:Nat}
  (h:∀ a1 vals w1,a1.defers=a0.defers→CameD l B S pi pj p a0 (c_E .any o) a1 vals w1→∀ K:Act→World→Prop,g_W S pi pj p B k vals o.dst a1 w1 K→if Region.wanted o (yielded ops a1.tmps)=true then Oper.wp P o a1 w1 K Q else K (a1.put o.dst undef) w1)
  (hs:StepsL P .any ops Q (InvZ n Q l B S pi pj p a0 w0) (k+1) rest) (hkn:Nat.blt k n=true:=by exact rfl) (hl:l[k]?=some o.dst:=by exact rfl) (hn:decide (b_O l).Nodup=true:=by exact rfl) (hd:(c_E .any o).all (fun j=>decide (j < l.length))=true:=by exact rfl)
  (hD:(a_U S k).all (fun i=>(k::(c_E .any o++(c_E .any o).flatMap (a_U S))).contains i)=true:=by exact rfl):StepsL P .any ops Q (InvZ n Q l B S pi pj p a0 w0) k (o::rest):=InvZ.cons hkn rfl hl hn hd hD h hs
theorem InvY.c {l:List (Option Tmp)} {B:Bool→World→Prop} {S:b_n} {pi pj:Nat} {p:e_F} {a0:Act} {w0:World} {k:Nat} {o:Oper} {rest:List Oper} {P:Program} {ops:Array Oper} {Q:Exit→Act→World→Prop} {n m:Nat}
  (h:∀ a1 vals w1,∀ bl,(k=m→bl=false)→a1.defers=a0.defers→CameD l (B bl) S pi pj p a0 (c_E .any o) a1 vals w1→∀ K:Act→World→Prop,g_W S pi pj p (cond (k==m) (B true) (B bl)) k vals o.dst a1 w1 K→if Region.wanted o (yielded ops a1.tmps)=true then Oper.wp P o a1 w1 K Q else K (a1.put o.dst undef) w1)
  (hs:StepsL P .any ops Q (InvY n m Q l B S pi pj p a0 w0) (k+1) rest) (hkn:Nat.blt k n=true:=by exact rfl) (hl:l[k]?=some o.dst:=by exact rfl) (hn:decide (b_O l).Nodup=true:=by exact rfl) (hd:(c_E .any o).all (fun j=>decide (j < l.length))=true:=by exact rfl)
  (hD:(a_U S k).all (fun i=>(k::(c_E .any o++(c_E .any o).flatMap (a_U S))).contains i)=true:=by exact rfl):StepsL P .any ops Q (InvY n m Q l B S pi pj p a0 w0) k (o::rest):=InvY.cons hkn rfl hl hn hd hD h hs
theorem InvU.c {l:List (Option Tmp)} {B:Bool→World→Prop} {S:b_n} {pi pj:Nat} {p:e_F} {a0:Act} {w0:World} {k:Nat} {o:Oper} {rest:List Oper} {P:Program} {ops:Array Oper} {Q:Exit→Act→World→Prop} {n m:Nat} {D:List Nat}
  (h:∀ a1 vals w1,∀ bl,((k==m||D.contains k)=true→bl=false)→a1.defers=a0.defers→CameD l (B bl) S pi pj p a0 (c_E .any o) a1 vals w1→∀ K:Act→World→Prop,g_W S pi pj p (cond (k==m) (B true) (B bl)) k vals o.dst a1 w1 K→if Region.wanted o (yielded ops a1.tmps)=true then Oper.wp P o a1 w1 K Q else K (a1.put o.dst undef) w1)
  (hs:StepsL P .any ops Q (InvU n m D Q l B S pi pj p a0 w0) (k+1) rest) (hkn:Nat.blt k n=true:=by exact rfl) (hln:l.length=n:=by exact rfl) (hl:l[k]?=some o.dst:=by exact rfl) (hn:decide (b_O l).Nodup=true:=by exact rfl) (hd:(c_E .any o).all (fun j=>decide (j < l.length))=true:=by exact rfl)
  (hD:(a_U S k).all (fun i=>(k::(c_E .any o++(c_E .any o).flatMap (a_U S))).contains i)=true:=by exact rfl) (hkm:(k != m||D.all (fun i=>(c_E .any o).contains i||(c_E .any o).any (fun j=>Nat.blt j n&&(a_U S j).contains i)))=true:=by exact rfl):StepsL P .any ops Q (InvU n m D Q l B S pi pj p a0 w0) k (o::rest):=InvU.cons hkn hln rfl hl hn hd hD hkm h hs
end Go.Proofs.YtolabfafgbmdbaaGreatDoor
