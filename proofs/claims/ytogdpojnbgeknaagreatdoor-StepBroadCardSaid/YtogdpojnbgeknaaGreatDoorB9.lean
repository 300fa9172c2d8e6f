import Derived.Test.YtogdpojnbgeknaaGreatDoorB8
import Derived.Maps.AppendAt
import Derived.Test.YtogdpojnbgeknaaGreatDoorB0
import Derived.Test.YtogdpojnbgeknaaGreatDoorB5
import Derived.Test.YtogdpojnbgeknaaGreatDoorB1
import Derived.Test.YtogdpojnbgeknaaGreatDoorB4
set_option maxRecDepth 100000
set_option maxHeartbeats 16000000
namespace Go.Proofs.YtogdpojnbgeknaaGreatDoor
open Go.ChangeShapes Go.WideShapes Go.ChangeAt Go.RowKit
open Gen
open Lib (hid)
theorem l_Z:(Tryz.prog.info? 46).map (fun i=>(i.zero,i.size,i.bytes))=some (some (.agg thN.toArray),13,136):=by kernel_rfl
theorem h_l (t:Thr) (a:Option Addr) (n c:Nat) (b:Option Addr) (m d:Nat):∀ u∈thC t a n c b m d,u.oneCell'=true:=by
 intro u hu;have h:=a_L t a b n c m d;rw [Array.all_eq_true'] at h;exact h u (by simpa [thC] using hu)
theorem e_Q (w:World) (xs:List Value) (t:TypeId):∀ j u,xs[j]?=some u→(w.alloc (.cells xs.toArray t)).cell? ((⟨w.heap.size,0,none⟩:Addr).add j)=some u:=by
 intro j u hu;rw [Gen.add_plain,Nat.zero_add];exact (a_e (w:=w) xs (t:=t) w.heap.size rfl j u hu).1
theorem a_O {g:Nat}:∀ {us:List Value} {w:World} {k:Nat},(d_u w g k us).heap.size=w.heap.size
 | [],_,_=>rfl
 | u::us,w,k=>by
  show (d_u (w.setCell ⟨g,k,none⟩ u) g (k+1) us).heap.size=_
  rw [a_O];simp
def d_q (F:Nat) (Q:Nat→Prop) (w:World) (v:Value) (n:Nat) (ts:List Thr):Prop:=∃ cs,w.ownsRow F 46 13 v n cs∧d_p repTh Q w cs ts
theorem i_6 {F:Nat} {Q:Nat→Prop} {w w':World} {v:Value} {n:Nat} {ts:List Thr} (hb:Below w.heap.size w w') (h:d_q F Q w v n ts):d_q F Q w' v n ts:=by
 obtain ⟨cs,h1,h2⟩:=h;exact ⟨cs,b_a h1 hb,b_n (a_C hb) h2⟩
theorem f_h {F g:Nat} {Q:Nat→Prop} {w:World} {v:Value} {n k:Nat} {ts:List Thr} {us:List Value} (h:d_q F Q w v n ts) (hg:v.ownBlock≠some g) (hQ:∀ b,Q b→b≠g):d_q F Q (d_u w g k us) v n ts:=by
 obtain ⟨cs,h1,h2⟩:=h;exact ⟨cs,a_0 hg h1,b_n (a_u hQ) h2⟩
theorem i_q {F:Nat} {Q:Nat→Prop} {w:World} {v:Value} {n:Nat} {ts:List Thr} (h:d_q F Q w v n ts) {g:Nat} (hg:w.heap.size≤g∨g < F):v.ownBlock≠some g:=fun e=>by
 obtain ⟨cs,h1,-⟩:=h;have:=h1.lt g e
 omega
theorem i_G {Q:Nat→Prop} {w:World} {cs:List Value} {ts:List Thr} {t:Thr} {fa:Option Addr} {fn fc:Nat} {qa:Option Addr} {qn qc:Nat} (h:d_p repTh Q w cs ts) (hn:t.fs.length=fn∧t.lf.length=qn) (T:ThQ Q w fa fn fc qa qn qc t):d_p repTh Q w (cs++thC t fa fn fc qa qn qc) (ts++[t]):=
 e_V (r:=repTh) (show repTh.R Q w (thC t fa fn fc qa qn qc) t from ⟨fa,fc,qa,qc,by rw [hn.1,hn.2],by rw [hn.1,hn.2];exact T⟩) h
def f_I (ts:List Thr) (j:Nat) (t:Thr) (k:Nat):List Thr:=(ts.set j t).take k
theorem n_k {ts:List Thr} {j k:Nat} {t x:Thr} (hx:ts[k]?=some x):f_I ts j t (k+1)=f_I ts j t k++[if k=j then t else x]:=by
 obtain ⟨hk,rfl⟩:=List.getElem?_eq_some_iff.1 hx;rw [f_I,f_I,List.take_succ_eq_append_getElem (by rw [List.length_set];exact hk),List.getElem_set]
 by_cases e:j=k
 ·subst e;rw [if_pos rfl]
 ·rw [if_neg e,if_neg (fun h=>e h.symm)]
theorem p_y {ts:List Thr} {j n:Nat} {t:Thr} (hn:ts.length=n):f_I ts j t n=ts.set j t:=List.take_of_length_le (by rw [List.length_set];omega)
theorem r_O (Q:Nat→Prop) (la:Option Addr) (n c:Nat) (ts:List Thr) (j:Nat) (t:Thr) (fa:Option Addr) (fc:Nat) (qa:Option Addr) (qc:Nat) (w:World) (S:Vs repTh Q w la n ts) (T:ThQ Q w fa t.fs.length fc qa t.lf.length qc t) (hQ:∀ b,w.heap.size≤b→Q b) (hn:n≤1000) :
  Calls Tryz.prog 97 #[.slice la n c,.int .i64 j,thV t fa t.fs.length fc qa t.lf.length qc] w (fun e w'=>∃ a d,e=.returned (.slice a n d)∧Cap a n d∧Vs repTh Q w' a n (ts.set j t)∧Below w.heap.size w w'):=by
 unfold thV;obtain ⟨Q0,hQ0⟩:∃ Q0:Nat→Prop,Q0=fun b=>Q b∧b < w.heap.size:=⟨_,rfl⟩
 have HS:=hid (show Vs repTh Q0 w la n ts by rw [hQ0];exact c_S S);have HN:=hid S.1;have T0:ThQ Q0 w fa t.fs.length fc qa t.lf.length qc t:=by rw [hQ0];exact d_w T
 have HQ:=hid (show (∀ b,w.heap.size≤b→Q b)∧(∀ b,Q0 b→b < w.heap.size∧Q b) from ⟨hQ,fun b h=>by rw [hQ0] at h;exact ⟨h.2,h.1⟩⟩);obtain ⟨tn,htn⟩:=mn (t.fs.length);obtain ⟨tm,htm⟩:=mn (t.lf.length);have HTN:=hid (And.intro htn htm);have HT:=hid T0;rw [htn,htm] at HT ⊢;obtain ⟨j0,ki,kz0,kz1,kz2⟩:=info_parts l_Z;have HJ:=N73;obtain ⟨W,hW⟩:=nm ((w.alloc (Obj.cells (thC t fa tn fc qa tm qc).toArray 46)).alloc (Obj.cells #[] 46));have HX:=hid (show a_p W w.heap.size (thC t fa tn fc qa tm qc) by rw [hW];exact a_s _ (a_e _ _ rfl));have HB:=N3
 have HO:=hid (show d_q (w.heap.size+1) Q0 W (.slice (some ⟨w.heap.size+1,0,none⟩) 0 0) 0 (f_I ts j t 0) by
  refine ⟨[],?_,rfl⟩;have h:=World.ownsRow_lit (w.alloc (Obj.cells (thC t fa tn fc qa tm qc).toArray 46)) #[] 0 (Nat.le_refl _) (by decide) rfl (e:=46) (size:=13);rw [show (w.alloc (Obj.cells (thC t fa tn fc qa tm qc).toArray 46)).heap.size=w.heap.size+1 by simp] at h;rw [hW];exact h)
 have HW:=hid hW;clear S T hQ htn htm ki kz0 kz1 kz2 hW T0 hQ0
 go_enter Tryz.func97,Tryz.ntmps97
 go_upto_region 2 with fail
 rw [←HW.out]
 go_wp2_with fail
 go_loopw [7,13] (fun v i wr=>∃ (k:Nat) (va:Option Addr) (vc:Nat),k≤n∧i=.int .i64 k∧v=.slice va k vc∧Hid (d_q (w.heap.size+1) Q0 wr (.slice va k vc) k (f_I ts j t k))∧Hid (a_p wr w.heap.size (thC t fa tn fc qa tm qc))∧Below w.heap.size w wr) (fun _ i _=>n - (intOf i).toNat)
 case atStart=>exact ⟨0,_,_,Nat.zero_le _,rfl,rfl,HO.out,HX.out,HB.out⟩
 case round =>
  obtain ⟨k,va,vc,hk,rfl,rfl,ho,hx,hb⟩:=hrel;have HB1:=hid hb
  by_cases hlt:k < n
  ·obtain ⟨b,o,x,xa,xc,ya,yc,rfl,hxx,hqb,X,hr⟩:=c_3 HS.out hlt;have i1:(0:Int)≤k:=by omega
   have i2:(k:Int) < n:=by omega
   have HR:=hid (show wr.rangeAt b (o+k*13) (thC x xa x.fs.length xc ya x.lf.length yc) from fun j v hj=>c_r hb (fun b hb=>(HQ.out.2 b hb).1) b _ v hqb (hr j v hj));have HXT:=hid X;have hsz:=hb.size;have HNX:=hid (n_k (j:=j) (t:=t) hxx);obtain ⟨xn,hxn⟩:=mn (x.fs.length);obtain ⟨xm,hxm⟩:=mn (x.lf.length);have HXN:=hid (And.intro hxn hxm);rw [hxn,hxm] at HR HXT;obtain ⟨wo,hwo⟩:=nm (wr);subst hwo;have hlt0:w.heap.size < wo.heap.size:=a_N hx.out (by simp);clear hxx X hr hxn hxm hb hqb
   go_upto_region 5 with (first | (refine wpList_load_mid rfl 46 _ rfl b (o+k*13) rfl (thC x xa xn xc ya xm yc) _ HR.out Tryz.underlying46 rfl (by kernel_rfl) ?_) | (refine a_c rfl 46 _ _ rfl wo.heap.size (thC x xa xn xc ya xm yc).toArray rfl rfl _ (a_e thN wo.heap.size rfl) rfl (by kernel_rfl) (a_L _ _ _ _ _ _ _) ?_;intro U HU))
   have Y:=N153;have HX5:=hid (show a_p U w.heap.size (thC t fa tn fc qa tm qc) by rw [HU.out];exact a_j (by omega) (a_s _ hx.out))
   have HO5:=hid (show d_q (w.heap.size+1) Q0 U (.slice va k vc) k (f_I ts j t k) by
    rw [HU.out];exact f_h (i_6 ((Below.refl _ _).alloc (Nat.le_refl _) _) ho.out) (i_q ho.out (.inl (Nat.le_refl _))) (fun b hb=>by have:=(HQ.out.2 b hb).1;omega))
   have HB5:=hid (show Below w.heap.size w U by rw [HU.out];exact a_g (by omega) (HB1.out.alloc hsz _));have HZ5:=hid (show U.heap.size=wo.heap.size+1 by rw [HU.out];simp [a_O]);clear HU HR
   by_cases e:k=j
   ·have q1:((k:Int)==(j:Int))=true:=by simp [e]
    have HNX2:=hid (show f_I ts j t (k+1)=f_I ts j t k++[t] by rw [HNX.out,if_pos e]);clear e
    go_upto_region 7 with (first | (refine wpList_load_mid rfl 46 _ rfl w.heap.size 0 rfl (thC t fa tn fc qa tm qc) _ (a_f HX5.out) Tryz.underlying46 rfl (by kernel_rfl) ?_) | (refine a_c rfl 46 _ _ rfl wo.heap.size (thC t fa tn fc qa tm qc).toArray rfl rfl _ Y.out rfl (by kernel_rfl) (a_L _ _ _ _ _ _ _) ?_;intro V HV))
    have Y2:=hid (show a_p V wo.heap.size (thC t fa tn fc qa tm qc) by rw [HV.out];exact a_q Y.out rfl);have HX6:=hid (show a_p V w.heap.size (thC t fa tn fc qa tm qc) by rw [HV.out];exact a_j (by omega) HX5.out)
    have HO6:=hid (show d_q (w.heap.size+1) Q0 V (.slice va k vc) k (f_I ts j t k) by
     rw [HV.out];exact f_h HO5.out (i_q ho.out (.inl (Nat.le_refl _))) (fun b hb=>by have:=(HQ.out.2 b hb).1;omega))
    have HB6:=hid (show Below w.heap.size w V by rw [HV.out];exact a_g (by omega) HB5.out);have HZ6:=hid (show V.heap.size=wo.heap.size+1 by rw [HV.out];simp [a_O,HZ5.out]);have HF:=hid (show ThQ Q0 V fa tn fc qa tm qc t from a_v (c_r HB6.out (fun b hb=>(HQ.out.2 b hb).1)) HT.out);clear HV;obtain ⟨cs6,own6,fl6⟩:=HO6.out;have ⟨HOW,HFL⟩:=hh2 own6 fl6;clear own6 fl6
    go_wp2_with (first | (refine wpList_load_mid rfl 46 _ rfl wo.heap.size 0 rfl (thC t fa tn fc qa tm qc) _ (a_f Y2.out) Tryz.underlying46 rfl (by kernel_rfl) ?_) | (at_builtin;refine wpList_append_own _ rfl (.tmp 22) (.tmp 24) 24 rfl (w.heap.size+1) 46 j0 (.agg thN.toArray) 13 136 Tryz.underlying24 HJ.out.1 HJ.out.2.1 HJ.out.2.2.1 HJ.out.2.2.2 rfl (by decide) (.slice va k vc) k cs6 rfl (HOW.out.alloc _) ⟨V.heap.size,0,none⟩ 1 1 (thC t fa tn fc qa tm qc) rfl rfl (e_Q _ _ _) (h_l _ _ _ _ _ _ _) (by unfold maxLen;omega) (by omega) (by have:=HZ6.out;simp;omega) ?_))
    intro v4 w4 hown hgrow _;obtain ⟨va4,vc4,rfl⟩:=c_g hown;have hbo:=N180;have HB7:=N112;have HX7:=N144
    have HO7:=hid (show d_q (w.heap.size+1) Q0 w4 (.slice va4 (k+1) vc4) (k+1) (f_I ts j t (k+1)) by
     rw [HNX2.out];have hk:=N154;exact ⟨_,hown,i_G (b_n hk HFL.out) HTN.out (a_v hk HF.out)⟩)
    clear hown hgrow hbo
    go_wp2_with fail
    go_roundw
    case rel=>exact ⟨k+1,va4,vc4,by omega,by go_num,rfl,HO7.out,HX7.out,HB7.out⟩
    case measure=>simp [intOf];omega
   ·have q1:((k:Int)==(j:Int))=false:=by simp;omega
    have HNX2:=hid (show f_I ts j t (k+1)=f_I ts j t k++[x] by rw [HNX.out,if_neg e]);clear e;have HX6:=HX5;have HO6:=HO5;have HB6:=HB5;have Y2:=Y;obtain ⟨V,hV⟩:=nm (U);subst hV;have HZ6:=HZ5;have HF:=hid (show ThQ Q0 V xa xn xc ya xm yc x from a_v (c_r HB6.out (fun b hb=>(HQ.out.2 b hb).1)) HXT.out);obtain ⟨cs6,own6,fl6⟩:=HO6.out;have ⟨HOW,HFL⟩:=hh2 own6 fl6;clear own6 fl6
    go_wp2_with (first | (refine wpList_load_mid rfl 46 _ rfl wo.heap.size 0 rfl (thC x xa xn xc ya xm yc) _ (a_f Y2.out) Tryz.underlying46 rfl (by kernel_rfl) ?_) | (at_builtin;refine wpList_append_own _ rfl (.tmp 22) (.tmp 24) 24 rfl (w.heap.size+1) 46 j0 (.agg thN.toArray) 13 136 Tryz.underlying24 HJ.out.1 HJ.out.2.1 HJ.out.2.2.1 HJ.out.2.2.2 rfl (by decide) (.slice va k vc) k cs6 rfl (HOW.out.alloc _) ⟨V.heap.size,0,none⟩ 1 1 (thC x xa xn xc ya xm yc) rfl rfl (e_Q _ _ _) (h_l _ _ _ _ _ _ _) (by unfold maxLen;omega) (by omega) (by have:=HZ6.out;simp;omega) ?_))
    intro v4 w4 hown hgrow _;obtain ⟨va4,vc4,rfl⟩:=c_g hown;have hbo:=N180;have HB7:=N112;have HX7:=N144
    have HO7:=hid (show d_q (w.heap.size+1) Q0 w4 (.slice va4 (k+1) vc4) (k+1) (f_I ts j t (k+1)) by
     rw [HNX2.out];have hk:=N154;exact ⟨_,hown,i_G (b_n hk HFL.out) HXN.out (a_v hk HF.out)⟩)
    clear hown hgrow hbo
    go_wp2_with fail
    go_roundw
    case rel=>exact ⟨k+1,va4,vc4,by omega,by go_num,rfl,HO7.out,HX7.out,HB7.out⟩
    case measure=>simp [intOf];omega
  ·obtain rfl:k=n:=by omega
   have HSA:=hid (p_y (j:=j) (t:=t) HN.out);obtain ⟨cs,h1,h2⟩:=ho.out;obtain ⟨a2,c2,e2,k1,k2,k3,V⟩:=e_G (r:=repTh) (Q:=Q) h1 (c_n (fun b hb=>(HQ.out.2 b hb).2) h2) (fun b hb _=>HQ.out.1 b (by omega));rw [HSA.out] at V
   cases e2
   have HV:=hid V;clear V h1 h2
   go_wp2
   go_ret
   exact ⟨_,_,rfl,⟨k1,k2,k3⟩,HV.out,HB1.out⟩
end Go.Proofs.YtogdpojnbgeknaaGreatDoor
namespace Go.Proofs.YtogdpojnbgeknaaGreatDoor
open Go.ChangeShapes Go.WideShapes Go.ChangeAt Go.RowKit
section
variable {P:Program} {ops:Array Oper} {Q:Exit→Act→World→Prop}
abbrev b_v:=List (List Nat×(List Value→World→Prop))
def a_V (S:b_v) (k:Nat):List Nat:=(S.getD k ([],fun _ _=>True)).1
def b_E (S:b_v) (k:Nat):List Value→World→Prop:=(S.getD k ([],fun _ _=>True)).2
abbrev e_H:=Value→Value→World→Prop
def InvD (l:List (Option Tmp)) (B:World→Prop) (S:b_v) (pi pj:Nat) (p:e_H) (a0:Act) (_:World) (listed:Array Bool) (a:Act) (w:World):Prop:=
 ∃ vals,a=c_N a0 l vals 0∧B w∧(∀ k,k < l.length→Up listed k→(∀ i∈a_V S k,Up listed i)∧b_E S k ((a_V S k).map vals) w)∧(pi < l.length→pj < l.length→Up listed pi→Up listed pj→p (vals pi) (vals pj) w)
structure CameD (l:List (Option Tmp)) (B:World→Prop) (S:b_v) (pi pj:Nat) (p:e_H) (a0:Act) (ws:List Nat) (a1:Act) (vals:Nat→Value) (w1:World):Prop where
 val:∀ j t,l[j]?=some (some t)→t < a0.tmps.size→a1.eval (.tmp t)=vals j
 old:∀ t,l.contains (some t)=false→a1.eval (.tmp t)=a0.eval (.tmp t)
 base:B w1
 dep:∀ j,j∈ws→b_E S j ((a_V S j).map vals) w1
 both:pi∈ws++ws.flatMap (a_V S)→pj∈ws++ws.flatMap (a_V S)→pi < l.length→pj < l.length→p (vals pi) (vals pj) w1
def g_Y (S:b_v) (pi pj:Nat) (p:e_H) (B:World→Prop) (k:Nat) (vals:Nat→Value) (dst:Option Tmp) (a1:Act) (w1:World) (K:Act→World→Prop):Prop:=
 ∀ v w2,b_E S k ((a_V S k).map (fun i=>if i=k then v else vals i)) w2→B w2→(∀ j,j≠k→b_E S j ((a_V S j).map vals) w1→b_E S j ((a_V S j).map vals) w2) →
  (k≠pi→k≠pj→p (vals pi) (vals pj) w1→p (vals pi) (vals pj) w2)→(k=pi→k≠pj→b_E S pj ((a_V S pj).map vals) w1→p v (vals pj) w2)→(k=pj→k≠pi→b_E S pi ((a_V S pi).map vals) w1→p (vals pi) v w2)→(k=pi→k=pj→p v v w2)→K (a1.put dst v) w2
theorem InvD.cons {l:List (Option Tmp)} {B:World→Prop} {S:b_v} {pi pj:Nat} {p:e_H} {a0:Act} {w0:World} {k:Nat} {o:Oper} {rest:List Oper} {ws:List Nat}
  (hw:c_D .any o=ws) (hl:l[k]?=some o.dst) (hn:decide (b_N l).Nodup=true) (hd:ws.all (fun j=>decide (j < l.length))=true)
  (hD:(a_V S k).all (fun i=>(k::(ws++ws.flatMap (a_V S))).contains i)=true)
  (h:∀ a1 vals w1,CameD l B S pi pj p a0 ws a1 vals w1→∀ K:Act→World→Prop,g_Y S pi pj p B k vals o.dst a1 w1 K →
   if Region.wanted o (yielded ops a1.tmps)=true then Oper.wp P o a1 w1 K Q else K (a1.put o.dst undef) w1)
  (hs:StepsL P .any ops Q (InvD l B S pi pj p a0 w0) (k+1) rest):StepsL P .any ops Q (InvD l B S pi pj p a0 w0) k (o::rest):=by
 have hn:=of_decide_eq_true hn;refine StepsL.cons hw (fun listed a1 w1 hI hu hu2 K hK=>?_) hs;obtain ⟨vals,rfl,hb,hv,hp⟩:=hI;have hlt:=N52
 have hall:∀ i,i∈ws++ws.flatMap (a_V S)→Up listed i:=fun i hi=>by
  exact J55
 refine h _ vals w1 ⟨fun j t hj ht=>?_,fun t ht=>?_,hb,fun j hj=>(hv j (hlt j hj) (hu2 j hj)).2,fun h1 h2 l1 l2=>hp l1 l2 (hall _ h1) (hall _ h2)⟩ K (fun v w2 h1 h2 h3 h4 h5 h6 h7=>?_)
 ·exact J35
 ·exact J21
 ·refine hK.out _ _ ⟨fun i=>if i=k then v else vals i,e_v hn hl v,h2,fun j hjl hj=>?_,fun l1 l2 u1 u2=>?_⟩
  by_cases e:j=k
  ·subst e;refine ⟨fun i hi=>?_,h1⟩;exact J37
  ·exact J33
  ·exact J18
theorem d_K {id:Nat} {ol:List Oper} {a:Act} {w:World} (l:List (Option Tmp)) (B:World→Prop) (S:b_v) (pi pj:Nat) (p:e_H) (hm:P.follows .mixedOrders=true) (hb:i_z .any ol.toArray=true) (hn:decide (b_N l).Nodup=true) (hlen:l.length=ol.length)
  (h0:B w.drew) (hs:StepsL P .any ol.toArray Q (InvD l B S pi pj p a w) 0 ol)
  (hend:∀ vals w',B w'→(∀ k,k < l.length→b_E S k ((a_V S k).map vals) w')→(pi < l.length→pj < l.length→p (vals pi) (vals pj) w')→Q .normal (c_N a l vals 0) w'):(Code.region id ol.toArray true).wp P Q a w:=by
 refine b_u (InvD l B S pi pj p) hm hb (fun listed hl=>⟨e_M a l,(putL_first (of_decide_eq_true hn)).symm,h0,fun k hkl hk=>absurd hk (hl k (by omega)),fun l1 _ u1 _=>absurd u1 (hl _ (by omega))⟩) hs (fun listed a' w' hI hu=>?_);obtain ⟨vals,rfl,h1,h2,h3⟩:=hI;exact hend vals w' h1 (fun k hk=>(h2 k hk (hu k)).2) (fun l1 l2=>h3 l1 l2 (hu _) (hu _))
def isV (k:Nat) (x:Value):List Nat×(List Value→World→Prop):=([k],fun l _=>l=[x])
def c_q (S:b_v):Prop:=∀ j args w w',Below w.heap.size w w'→b_E S j args w→b_E S j args w'
theorem b_B:c_q []:=fun _ _ _ _ _ h=>h
theorem a_w {d:List Nat} {f:List Value→World→Prop} {S:b_v} (h:∀ args w w',Below w.heap.size w w'→f args w→f args w') (hs:c_q S):c_q ((d,f)::S):=fun j args w w' hb h1=>by
 cases j with
 | zero=>exact h args w w' hb h1
 | succ j=>exact hs j args w w' hb h1
theorem a_d {k:Nat} {x:Value} {S:b_v} (hs:c_q S):c_q (isV k x::S):=a_w (fun _ _ _ _ h=>h) hs
section
variable {l:List (Option Tmp)} {B:World→Prop} {S:b_v} {pi pj:Nat} {p:e_H} {a0 a1:Act} {ws:List Nat} {vals:Nat→Value} {w1 w2:World} {k:Nat} {K:Act→World→Prop} {dst:Option Tmp}
theorem CameD.v (C:CameD l B S pi pj p a0 ws a1 vals w1) (j t:Nat) (hj:l[j]?=some (some t)) (hs:Nat.blt t a0.tmps.size=true):a1.eval (.tmp t)=vals j:=C.val j t hj (by simpa [Nat.blt_eq] using hs)
theorem CameD.t (C:CameD l B S pi pj p a0 ws a1 vals w1) (j t:Nat) (hj:l[j]?=some (some t)) (hs:Nat.blt t a0.tmps.size=true):a1.tmps[t]?.getD undef=vals j:=(a_P a1 t).trans (C.v j t hj hs)
theorem CameD.says (C:CameD l B S pi pj p a0 ws a1 vals w1) (j:Nat) (hm:ws.contains j=true):b_E S j ((a_V S j).map vals) w1:=C.dep j (List.contains_iff_mem.1 hm)
theorem CameD.two (C:CameD l B S pi pj p a0 ws a1 vals w1) (h1:(ws++ws.flatMap (a_V S)).contains pi=true) (h2:(ws++ws.flatMap (a_V S)).contains pj=true) (l1:Nat.blt pi l.length=true) (l2:Nat.blt pj l.length=true):p (vals pi) (vals pj) w1:=
 C.both (List.contains_iff_mem.1 h1) (List.contains_iff_mem.1 h2) (by simpa [Nat.blt_eq] using l1) (by simpa [Nat.blt_eq] using l2)
theorem CameD.is (C:CameD l B S pi pj p a0 ws a1 vals w1) (j t:Nat) (x:Value) (hj:l[j]?=some (some t)) (hs:Nat.blt t a0.tmps.size=true) (hm:ws.contains j=true) (he:S[j]?=some (isV j x)):a1.tmps[t]?.getD undef=x:=by
 have h:=C.says j hm;rw [b_E,a_V,List.getD_eq_getElem?_getD,he] at h;rw [C.t j t hj hs]
 simpa [isV] using h
theorem p_p (hK:g_Y S pi pj p B k vals dst a1 w1 K) (hG:c_q S) (hGp:∀ x y w w',Below w.heap.size w w'→p x y w→p x y w') (hb:Below w1.heap.size w1 w2) (hne:((k==pi)||(k==pj))=false) {v:Value} (hv:b_E S k ((a_V S k).map (fun i=>if i=k then v else vals i)) w2) (hB:B w2):K (a1.put dst v) w2:=by
 simp only [Bool.or_eq_false_iff,beq_eq_false_iff_ne] at hne;exact hK v w2 hv hB (fun j _ h=>hG j _ w1 w2 hb h) (fun _ _ h=>hGp _ _ w1 w2 hb h) (fun e=>absurd e hne.1) (fun e=>absurd e hne.2) (fun e=>absurd e hne.1)
theorem d_e (hK:g_Y S pi pj p B k vals dst a1 w1 K) (C:CameD l B S pi pj p a0 ws a1 vals w1) (hne:((k==pi)||(k==pj))=false) {v:Value} (hv:b_E S k ((a_V S k).map (fun i=>if i=k then v else vals i)) w1):K (a1.put dst v) w1:=by
 simp only [Bool.or_eq_false_iff,beq_eq_false_iff_ne] at hne;exact hK v w1 hv C.base (fun _ _ h=>h) (fun _ _ h=>h) (fun e=>absurd e hne.1) (fun e=>absurd e hne.2) (fun e=>absurd e hne.1)
end
end
theorem InvD.c {l:List (Option Tmp)} {B:World→Prop} {S:b_v} {pi pj:Nat} {p:e_H} {a0:Act} {w0:World} {k:Nat} {o:Oper} {rest:List Oper} {P:Program} {ops:Array Oper} {Q:Exit→Act→World→Prop}
  (h:∀ a1 vals w1,CameD l B S pi pj p a0 (c_D .any o) a1 vals w1→∀ K:Act→World→Prop,g_Y S pi pj p B k vals o.dst a1 w1 K→if Region.wanted o (yielded ops a1.tmps)=true then Oper.wp P o a1 w1 K Q else K (a1.put o.dst undef) w1)
  (hs:StepsL P .any ops Q (InvD l B S pi pj p a0 w0) (k+1) rest) (hl:l[k]?=some o.dst:=by exact rfl) (hn:decide (b_N l).Nodup=true:=by exact rfl) (hd:(c_D .any o).all (fun j=>decide (j < l.length))=true:=by exact rfl)
  (hD:(a_V S k).all (fun i=>(k::(c_D .any o++(c_D .any o).flatMap (a_V S))).contains i)=true:=by exact rfl):StepsL P .any ops Q (InvD l B S pi pj p a0 w0) k (o::rest):=InvD.cons rfl hl hn hd hD h hs
section
variable {l:List (Option Tmp)} {B:World→Prop} {S:b_v} {pi pj:Nat} {p:e_H} {a0 a1:Act} {ws:List Nat} {vals:Nat→Value} {w1:World} {k:Nat} {K:Act→World→Prop} {P:Program} {ops:Array Oper} {Q:Exit→Act→World→Prop} {oq:Oper} {E:Prop}
theorem CameD.o (C:CameD l B S pi pj p a0 ws a1 vals w1) (t:Nat) (x:Value) (h1:l.contains (some t)=false:=by exact rfl) (h2:a0.eval (.tmp t)=x:=by exact rfl):a1.tmps[t]?.getD undef=x:=(a_P a1 t).trans ((C.old t h1).trans h2)
theorem CameD.i (C:CameD l B S pi pj p a0 ws a1 vals w1) (j:Nat) {t:Nat} {x:Value} (hj:l[j]?=some (some t):=by exact rfl) (he:S[j]?=some (isV j x):=by exact rfl) (hs:Nat.blt t a0.tmps.size=true:=by exact rfl) (hm:ws.contains j=true:=by exact rfl):a1.tmps[t]?.getD undef=x:=C.is j t x hj hs hm he
theorem oR {B2:World→Prop} {v:Value} {ds:List Nat} {f:List Value→World→Prop} (C:CameD l B S pi pj p a0 ws a1 vals w1) (hK:g_Y S pi pj p B2 k vals oq.dst a1 w1 K) (he:S[k]?=some (k::ds,f):=by exact rfl) (hf:f (v::ds.map (fun i=>if i=k then v else vals i)) w1:=by exact rfl) (h:(execOp a1.eval oq).run P w1=.ok (.value v) w1) (hB:B w1→B2 w1:=by exact id) (hg:oq.guard=none:=by exact rfl) (hne:((k==pi)||(k==pj))=false:=by exact rfl) :
    if Region.wanted oq (yielded ops a1.tmps)=true then Oper.wp P oq a1 w1 K Q else E:=by
  simp only [Bool.or_eq_false_iff,beq_eq_false_iff_ne] at hne;refine a_i hg (a_A h (hK v w1 ?_ (hB C.base) (fun _ _ h=>h) (fun _ _ h=>h) (fun e=>absurd e hne.1) (fun e=>absurd e hne.2) (fun e=>absurd e hne.1)));rw [b_E,a_V,List.getD_eq_getElem?_getD,he]
  simpa using hf
end
end Go.Proofs.YtogdpojnbgeknaaGreatDoor
namespace Go.Proofs.YtogdpojnbgeknaaGreatDoor
open Go.ChangeShapes Go.WideShapes Go.ChangeAt Go.RowKit
open Gen
open Lib (hid)
theorem d_8 (o:Int) (w:World):Calls Tryz.prog 54 #[.int .i64 o] w (g_Z (decide (1≤o∧o≤15)) w):=by
 go_enter Tryz.func54,Tryz.ntmps54
 exact J95
theorem b_H (x0 x1 x2 x3 x4 x5 x6 x7:Int):(#[.int .i64 x0,.int .i64 x1,.int .i64 x2,.int .i64 x3,.int .i64 x4,.int .i64 x5,.int .i64 x6,.int .i64 x7]:Array Value).all (·.oneCell')=true:=by simp [Value.oneCell']
theorem b_R (r:Nat→Int) (k v:Int) (w:World) (h:0≤k∧k≤7) :
  Calls Tryz.prog 100 #[.agg (rgC r).toArray,.int .i64 k,.int .i64 v] w (fun e w'=>e=.returned (.agg #[.int .i64 ((b_Y r k v) 0),.int .i64 ((b_Y r k v) 1),.int .i64 ((b_Y r k v) 2),.int .i64 ((b_Y r k v) 3),.int .i64 ((b_Y r k v) 4),.int .i64 ((b_Y r k v) 5),.int .i64 ((b_Y r k v) 6),.int .i64 ((b_Y r k v) 7)])∧Below w.heap.size w w'):=by
 obtain ⟨j,hj,hj8⟩:=a_5 h;subst hj;obtain ⟨W,hW⟩:=nm ((w.alloc (Obj.cells (rgC r).toArray 43)).alloc (Obj.cells rgZ.toArray 43));have X:a_p W w.heap.size (rgC r):=by rw [hW];exact a_s _ (a_e (rgC r) _ rfl)
 have R:a_p W (w.heap.size+1) rgZ:=by rw [hW];exact a_e rgZ _ (by simp)
 have hB:=N2;obtain ⟨V,hV⟩:=nm (W.setCell ⟨w.heap.size,j,none⟩ (.int .i64 v));obtain ⟨s,hs⟩:=mn (b_Y r j v)
 have X2:a_p V w.heap.size (rgC s):=by
  have h1:=a_y X j (by simp;omega) (.int .i64 v);rw [r_v r j hj8 v,←hV,hs] at h1;exact h1
 have R2:a_p V (w.heap.size+1) rgZ:=by rw [hV];exact a_l R (by omega) _
 have hB2:Below w.heap.size w V:=by rw [hV];exact hB.setCell (p:=⟨w.heap.size,j,none⟩) (Nat.le_refl _) _
 obtain ⟨kr,fr⟩:=X j _ (show ((rgC r):List Value)[j]?=some (.int .i64 (r j)) by
  rcases (show j=0∨j=1∨j=2∨j=3∨j=4∨j=5∨j=6∨j=7 by omega) with rfl | rfl | rfl | rfl | rfl | rfl | rfl | rfl <;> rfl)
 have i1:(0:Int)≤j:=by omega
 have i2:(j:Int) < 8:=by omega
 have ⟨HX2,HR2,HB,HW,HV⟩:=hh5 X2 R2 hB2 hW hV;rw [hs];clear hW X R hB hV X2 R2 hB2 hs h
 go_enter Tryz.func100,Tryz.ntmps100
 go_upto_region 1 with fail
 rw [←HW.out]
 go_upto_region 2 with fail
 rw [←HV.out];clear kr fr
 go_wp2_with (first | (refine wpList_load_mid rfl 43 _ rfl w.heap.size 0 rfl (rgC s) _ (a_f HX2.out) Tryz.underlying43 rfl (by kernel_rfl) ?_) | (refine a_c rfl 43 _ _ rfl (w.heap.size+1) (rgC s).toArray rfl rfl _ HR2.out rfl (by kernel_rfl) (b_H _ _ _ _ _ _ _ _) ?_;intro U HU))
 refine a_X (X:=.agg (rgC s).toArray) ⟨w.heap.size+1,0,none⟩ rfl rfl rfl ?_ ?_
 ·have h:=a_q (xs:=(rgC s)) HR2.out rfl;rw [show U=_ from HU.out];exact run_loadVar_mid _ _ 0 _ _ _ (a_f h) Tryz.underlying43 rfl (by kernel_rfl)
 ·refine ⟨rfl,?_⟩;rw [show U=_ from HU.out];exact a_g (by omega) HB.out
theorem k_2 (t:Thr) (self:Int) (i:In4) (fa la:Option Addr) (fn fc ln lc:Nat) (w:World) (ha:0≤i.2.1∧i.2.1≤7) (hb:0≤i.2.2.1∧i.2.2.1≤7) (hp:0≤t.pc∧t.pc≤1000) :
  Calls Tryz.prog 132 #[.agg (tkC t fa fn fc la ln lc self i).toArray] w (j_m (c_2 t i.2.1 (rgt t i.2.2.1)) fa la fn fc ln lc 0 w):=by
 obtain ⟨z,hz⟩:=mn (c_2 t i.2.1 (rgt t i.2.2.1));rw [hz];obtain ⟨cs,hcs⟩:∃ cs:List Value,cs=(tkC t fa fn fc la ln lc self i):=⟨_,rfl⟩;obtain ⟨zs,hzs⟩:∃ zs:List Value,zs=thC z fa fn fc la ln lc:=⟨_,rfl⟩;obtain ⟨W,hW,X,R,hB⟩:=N82;have HCA:=hid (d_F hcs);have HCN:=N48;have HCI:=N22;have HZA:=N34;have HZN:=N63;have HZI:=N17;have ⟨HCS,HZS,HX,HR,HB,HW,HZ,HP,Ha,Hb⟩:=hh10 hcs hzs X R hB hW hz hp ha hb;clear hW X R hB hz hp hcs hzs ha hb
 go_enter Tryz.func132,Tryz.ntmps132
 go_upto_region 1 with fail
 rw [←HW.out];refine e_E [some 4,some 5,some 6,some 7,some 8,some 9,none,some 3] (OpB w cs) (VL [.agg cs.toArray,.agg cs.toArray,.int .i64 (rgt t i.2.2.1),.tuple #[.agg zs.toArray,.int .i64 0],.agg zs.toArray,.int .i64 0,undef,.int .i64 0] 6 (fun w'=>a_p w' (w.heap.size+1) zs)) (by kernel_rfl) (by kernel_rfl) (by decide) rfl ⟨HB.out.drew,b_K HX.out,_,b_K HR.out,rfl⟩ ?_ ?_
 ·show StepsL _ _ _ _ _ _ _
  refine InvV.cons rfl rfl rfl rfl (fun a1 vals w1 C K hK=>?_) ?_
  ·exact J3
  refine InvV.cons rfl rfl rfl rfl (fun a1 vals w1 C K hK=>?_) ?_
  ·exact J3
  refine InvV.cons rfl rfl rfl rfl (fun a1 vals w1 C K hK=>?_) ?_
  ·exact J13
  refine InvV.cons rfl rfl rfl rfl (fun a1 vals w1 C K hK=>?_) ?_
  ·have e0:=N39;have e1:a1.eval (.tmp 6)=.int .i64 (rgt t i.2.2.1):=got C 2 6 rfl rfl rfl rfl;have h0:=b_o t self i (rgt t i.2.2.1) fa la fn fc ln lc w1 Ha.out HP.out;rw [HZ.out,←HCA.out] at h0;refine a_i rfl (a_Q _ _ _ rfl 154 rfl [.agg cs.toArray,.int .i64 (rgt t i.2.2.1)] (by simp [e0,e1]) (by kernel_rfl) (h0.mono ?_));rintro e w2 ⟨he,hb2⟩;rw [←HZA.out] at he;subst he;exact J24
  refine InvV.cons rfl rfl rfl rfl (fun a1 vals w1 C K hK=>?_) ?_
  ·have e0:=N181;exact J39
  refine InvV.cons rfl rfl rfl rfl (fun a1 vals w1 C K hK=>?_) ?_
  ·have e0:=N181;exact J22
  refine InvV.cons rfl rfl rfl rfl (fun a1 vals w1 C K hK=>?_) ?_
  ·have e0:a1.eval (.tmp 8)=.agg zs.toArray:=got C 4 8 rfl rfl rfl rfl;exact J7
  refine InvV.cons rfl rfl rfl rfl (fun a1 vals w1 C K hK=>?_) ?_
  ·have e0:a1.tmps[9]?.getD undef=.int .i64 0:=d_2 C 5 9 rfl rfl rfl rfl;exact J22
  exact StepsL.nil
 ·intro vals w1 hb hv;have e3:=h_T (hv 7 (by decide)) rfl;have HR1:=hid (show a_p w1 (w.heap.size+1) zs from hv 6 (by decide));exact J6
theorem k_3 (t:Thr) (self:Int) (i:In4) (fa la:Option Addr) (fn fc ln lc:Nat) (w:World) (ha:0≤i.2.1∧i.2.1≤7) (hb:0≤i.2.2.1∧i.2.2.1≤7) (hp:0≤t.pc∧t.pc≤1000) :
  Calls Tryz.prog 133 #[.agg (tkC t fa fn fc la ln lc self i).toArray] w (j_m (c_2 t i.2.1 (wrap64 (rgt t i.2.2.1+i.2.2.2))) fa la fn fc ln lc 0 w):=by
 obtain ⟨z,hz⟩:=mn (c_2 t i.2.1 (wrap64 (rgt t i.2.2.1+i.2.2.2)));rw [hz];obtain ⟨cs,hcs⟩:∃ cs:List Value,cs=(tkC t fa fn fc la ln lc self i):=⟨_,rfl⟩;obtain ⟨zs,hzs⟩:∃ zs:List Value,zs=thC z fa fn fc la ln lc:=⟨_,rfl⟩;obtain ⟨W,hW,X,R,hB⟩:=N82;have HCA:=hid (d_F hcs);have HCN:=N48;have HCI:=N22;have HZA:=N34;have HZN:=N63;have HZI:=N17;have ⟨HCS,HZS,HX,HR,HB,HW,HZ,HP,Ha,Hb⟩:=hh10 hcs hzs X R hB hW hz hp ha hb;clear hW X R hB hz hp hcs hzs ha hb
 go_enter Tryz.func133,Tryz.ntmps133
 go_upto_region 1 with fail
 rw [←HW.out];refine e_E [some 4,some 5,some 6,some 7,some 8,some 9,some 10,some 11,some 12,some 13,none,some 3] (OpB w cs) (VL [.agg cs.toArray,.agg cs.toArray,.int .i64 (rgt t i.2.2.1),.pointer (some ⟨w.heap.size,14,none⟩),.pointer (some ⟨w.heap.size,17,none⟩),.int .i64 i.2.2.2,.int .i64 (wrap64 (rgt t i.2.2.1+i.2.2.2)),.tuple #[.agg zs.toArray,.int .i64 0],.agg zs.toArray,.int .i64 0,undef,.int .i64 0] 10 (fun w'=>a_p w' (w.heap.size+1) zs)) (by kernel_rfl) (by kernel_rfl) (by decide) rfl ⟨HB.out.drew,b_K HX.out,_,b_K HR.out,rfl⟩ ?_ ?_
 ·show StepsL _ _ _ _ _ _ _
  refine InvV.cons rfl rfl rfl rfl (fun a1 vals w1 C K hK=>?_) ?_
  ·exact J3
  refine InvV.cons rfl rfl rfl rfl (fun a1 vals w1 C K hK=>?_) ?_
  ·exact J3
  refine InvV.cons rfl rfl rfl rfl (fun a1 vals w1 C K hK=>?_) ?_
  ·exact J13
  refine InvV.cons rfl rfl rfl rfl (fun a1 vals w1 C K hK=>?_) ?_
  ·exact J84
  refine InvV.cons rfl rfl rfl rfl (fun a1 vals w1 C K hK=>?_) ?_
  ·exact J86
  refine InvV.cons rfl rfl rfl rfl (fun a1 vals w1 C K hK=>?_) ?_
  ·exact J77
  refine InvV.cons rfl rfl rfl rfl (fun a1 vals w1 C K hK=>?_) ?_
  ·have e0:=N56;have e1:=N220;refine a_i rfl (a_A (v:=.int .i64 (wrap64 (rgt t i.2.2.1+i.2.2.2))) ?_ (a_K hK C rfl rfl));simp [execOp,go_sem,e0,e1,IntWalk.i64_left]
  refine InvV.cons rfl rfl rfl rfl (fun a1 vals w1 C K hK=>?_) ?_
  ·have e0:=N39;have e1:a1.eval (.tmp 10)=.int .i64 (wrap64 (rgt t i.2.2.1+i.2.2.2)):=got C 6 10 rfl rfl rfl rfl;have h0:=b_o t self i (wrap64 (rgt t i.2.2.1+i.2.2.2)) fa la fn fc ln lc w1 Ha.out HP.out;rw [HZ.out,←HCA.out] at h0;refine a_i rfl (a_Q _ _ _ rfl 154 rfl [.agg cs.toArray,.int .i64 (wrap64 (rgt t i.2.2.1+i.2.2.2))] (by simp [e0,e1]) (by kernel_rfl) (h0.mono ?_));rintro e w2 ⟨he,hb2⟩;rw [←HZA.out] at he;subst he;exact J24
  refine InvV.cons rfl rfl rfl rfl (fun a1 vals w1 C K hK=>?_) ?_
  ·have e0:=N76;exact J39
  refine InvV.cons rfl rfl rfl rfl (fun a1 vals w1 C K hK=>?_) ?_
  ·have e0:=N76;exact J22
  refine InvV.cons rfl rfl rfl rfl (fun a1 vals w1 C K hK=>?_) ?_
  ·have e0:a1.eval (.tmp 12)=.agg zs.toArray:=got C 8 12 rfl rfl rfl rfl;exact J7
  refine InvV.cons rfl rfl rfl rfl (fun a1 vals w1 C K hK=>?_) ?_
  ·have e0:=N232;exact J22
  exact StepsL.nil
 ·intro vals w1 hb hv;have e3:=h_T (hv 11 (by decide)) rfl;have HR1:=hid (show a_p w1 (w.heap.size+1) zs from hv 10 (by decide));exact J6
theorem k_1 (t:Thr) (self:Int) (i:In4) (fa la:Option Addr) (fn fc ln lc:Nat) (w:World) (ha:0≤i.2.1∧i.2.1≤7) (hb:0≤i.2.2.1∧i.2.2.1≤7) (hp:0≤t.pc∧t.pc≤1000) :
  Calls Tryz.prog 134 #[.agg (tkC t fa fn fc la ln lc self i).toArray] w (j_m (c_2 t i.2.1 (bits .and .i64 (rgt t i.2.2.1) i.2.2.2)) fa la fn fc ln lc 0 w):=by
 obtain ⟨z,hz⟩:=mn (c_2 t i.2.1 (bits .and .i64 (rgt t i.2.2.1) i.2.2.2));rw [hz];obtain ⟨cs,hcs⟩:∃ cs:List Value,cs=(tkC t fa fn fc la ln lc self i):=⟨_,rfl⟩;obtain ⟨zs,hzs⟩:∃ zs:List Value,zs=thC z fa fn fc la ln lc:=⟨_,rfl⟩;obtain ⟨W,hW,X,R,hB⟩:=N82;have HCA:=hid (d_F hcs);have HCN:=N48;have HCI:=N22;have HZA:=N34;have HZN:=N63;have HZI:=N17;have ⟨HCS,HZS,HX,HR,HB,HW,HZ,HP,Ha,Hb⟩:=hh10 hcs hzs X R hB hW hz hp ha hb;clear hW X R hB hz hp hcs hzs ha hb
 go_enter Tryz.func134,Tryz.ntmps134
 go_upto_region 1 with fail
 rw [←HW.out];refine e_E [some 4,some 5,some 6,some 7,some 8,some 9,some 10,some 11,some 12,some 13,none,some 3] (OpB w cs) (VL [.agg cs.toArray,.agg cs.toArray,.int .i64 (rgt t i.2.2.1),.pointer (some ⟨w.heap.size,14,none⟩),.pointer (some ⟨w.heap.size,17,none⟩),.int .i64 i.2.2.2,.int .i64 (bits .and .i64 (rgt t i.2.2.1) i.2.2.2),.tuple #[.agg zs.toArray,.int .i64 0],.agg zs.toArray,.int .i64 0,undef,.int .i64 0] 10 (fun w'=>a_p w' (w.heap.size+1) zs)) (by kernel_rfl) (by kernel_rfl) (by decide) rfl ⟨HB.out.drew,b_K HX.out,_,b_K HR.out,rfl⟩ ?_ ?_
 ·show StepsL _ _ _ _ _ _ _
  refine InvV.cons rfl rfl rfl rfl (fun a1 vals w1 C K hK=>?_) ?_
  ·exact J3
  refine InvV.cons rfl rfl rfl rfl (fun a1 vals w1 C K hK=>?_) ?_
  ·exact J3
  refine InvV.cons rfl rfl rfl rfl (fun a1 vals w1 C K hK=>?_) ?_
  ·exact J13
  refine InvV.cons rfl rfl rfl rfl (fun a1 vals w1 C K hK=>?_) ?_
  ·exact J84
  refine InvV.cons rfl rfl rfl rfl (fun a1 vals w1 C K hK=>?_) ?_
  ·exact J86
  refine InvV.cons rfl rfl rfl rfl (fun a1 vals w1 C K hK=>?_) ?_
  ·exact J77
  refine InvV.cons rfl rfl rfl rfl (fun a1 vals w1 C K hK=>?_) ?_
  ·have e0:=N56;have e1:=N220;refine a_i rfl (a_A (v:=.int .i64 (bits .and .i64 (rgt t i.2.2.1) i.2.2.2)) ?_ (a_K hK C rfl rfl));simp [execOp,go_sem,e0,e1]
  refine InvV.cons rfl rfl rfl rfl (fun a1 vals w1 C K hK=>?_) ?_
  ·have e0:=N39;have e1:a1.eval (.tmp 10)=.int .i64 (bits .and .i64 (rgt t i.2.2.1) i.2.2.2):=got C 6 10 rfl rfl rfl rfl;have h0:=b_o t self i (bits .and .i64 (rgt t i.2.2.1) i.2.2.2) fa la fn fc ln lc w1 Ha.out HP.out;rw [HZ.out,←HCA.out] at h0;refine a_i rfl (a_Q _ _ _ rfl 154 rfl [.agg cs.toArray,.int .i64 (bits .and .i64 (rgt t i.2.2.1) i.2.2.2)] (by simp [e0,e1]) (by kernel_rfl) (h0.mono ?_));rintro e w2 ⟨he,hb2⟩;rw [←HZA.out] at he;subst he;exact J24
  refine InvV.cons rfl rfl rfl rfl (fun a1 vals w1 C K hK=>?_) ?_
  ·have e0:=N76;exact J39
  refine InvV.cons rfl rfl rfl rfl (fun a1 vals w1 C K hK=>?_) ?_
  ·have e0:=N76;exact J22
  refine InvV.cons rfl rfl rfl rfl (fun a1 vals w1 C K hK=>?_) ?_
  ·have e0:a1.eval (.tmp 12)=.agg zs.toArray:=got C 8 12 rfl rfl rfl rfl;exact J7
  refine InvV.cons rfl rfl rfl rfl (fun a1 vals w1 C K hK=>?_) ?_
  ·have e0:=N232;exact J22
  exact StepsL.nil
 ·intro vals w1 hb hv;have e3:=h_T (hv 11 (by decide)) rfl;have HR1:=hid (show a_p w1 (w.heap.size+1) zs from hv 10 (by decide));exact J6
theorem m_U (t:Thr) (self:Int) (i:In4) (fa la:Option Addr) (fn fc ln lc:Nat) (w:World) (ha:0≤i.2.1∧i.2.1≤7) (hb:0≤i.2.2.1∧i.2.2.1≤7) (hc:0≤i.2.2.2∧i.2.2.2≤7) (hp:0≤t.pc∧t.pc≤1000) :
  Calls Tryz.prog 135 #[.agg (tkC t fa fn fc la ln lc self i).toArray] w (j_m (c_2 t i.2.1 (wrap64 (rgt t i.2.2.1+rgt t i.2.2.2))) fa la fn fc ln lc 0 w):=by
 obtain ⟨z,hz⟩:=mn (c_2 t i.2.1 (wrap64 (rgt t i.2.2.1+rgt t i.2.2.2)));rw [hz];obtain ⟨cs,hcs⟩:∃ cs:List Value,cs=(tkC t fa fn fc la ln lc self i):=⟨_,rfl⟩;obtain ⟨zs,hzs⟩:∃ zs:List Value,zs=thC z fa fn fc la ln lc:=⟨_,rfl⟩;obtain ⟨W,hW,X,R,hB⟩:=N82;have HCA:=hid (d_F hcs);have HCN:=N48;have HCI:=N22;have HZA:=N34;have HZN:=N63;have HZI:=N17;have ⟨HCS,HZS,HX,HR,HB,HW,HZ,HP,Ha,Hb,Hc⟩:=hh11 hcs hzs X R hB hW hz hp ha hb hc;clear hW X R hB hz hp hcs hzs ha hb hc
 go_enter Tryz.func135,Tryz.ntmps135
 go_upto_region 1 with fail
 rw [←HW.out];refine e_E [some 4,some 5,some 6,some 7,some 8,some 9,some 10,some 11,some 12,none,some 3] (OpB w cs) (VL [.agg cs.toArray,.agg cs.toArray,.int .i64 (rgt t i.2.2.1),.agg cs.toArray,.int .i64 (rgt t i.2.2.2),.int .i64 (wrap64 (rgt t i.2.2.1+rgt t i.2.2.2)),.tuple #[.agg zs.toArray,.int .i64 0],.agg zs.toArray,.int .i64 0,undef,.int .i64 0] 9 (fun w'=>a_p w' (w.heap.size+1) zs)) (by kernel_rfl) (by kernel_rfl) (by decide) rfl ⟨HB.out.drew,b_K HX.out,_,b_K HR.out,rfl⟩ ?_ ?_
 ·show StepsL _ _ _ _ _ _ _
  refine InvV.cons rfl rfl rfl rfl (fun a1 vals w1 C K hK=>?_) ?_
  ·exact J3
  refine InvV.cons rfl rfl rfl rfl (fun a1 vals w1 C K hK=>?_) ?_
  ·exact J3
  refine InvV.cons rfl rfl rfl rfl (fun a1 vals w1 C K hK=>?_) ?_
  ·exact J13
  refine InvV.cons rfl rfl rfl rfl (fun a1 vals w1 C K hK=>?_) ?_
  ·exact J3
  refine InvV.cons rfl rfl rfl rfl (fun a1 vals w1 C K hK=>?_) ?_
  ·have e0:=N118;have h0:=N148;rw [←HCA.out] at h0;refine a_i rfl (a_Q _ _ _ rfl 156 rfl [.agg cs.toArray] (by simp [e0]) (by kernel_rfl) (h0.mono ?_));rintro e w2 ⟨rfl,hb2⟩;exact J24
  refine InvV.cons rfl rfl rfl rfl (fun a1 vals w1 C K hK=>?_) ?_
  ·have e0:=N56;have e1:=N96;refine a_i rfl (a_A (v:=.int .i64 (wrap64 (rgt t i.2.2.1+rgt t i.2.2.2))) ?_ (a_K hK C rfl rfl));simp [execOp,go_sem,e0,e1,IntWalk.i64_left]
  refine InvV.cons rfl rfl rfl rfl (fun a1 vals w1 C K hK=>?_) ?_
  ·have e0:=N39;have e1:a1.eval (.tmp 9)=.int .i64 (wrap64 (rgt t i.2.2.1+rgt t i.2.2.2)):=got C 5 9 rfl rfl rfl rfl;have h0:=b_o t self i (wrap64 (rgt t i.2.2.1+rgt t i.2.2.2)) fa la fn fc ln lc w1 Ha.out HP.out;rw [HZ.out,←HCA.out] at h0;refine a_i rfl (a_Q _ _ _ rfl 154 rfl [.agg cs.toArray,.int .i64 (wrap64 (rgt t i.2.2.1+rgt t i.2.2.2))] (by simp [e0,e1]) (by kernel_rfl) (h0.mono ?_));rintro e w2 ⟨he,hb2⟩;rw [←HZA.out] at he;subst he;exact J24
  exact J2
 ·intro vals w1 hb hv;have e3:=N254;have HR1:=N138;exact J6
theorem m_Y (t:Thr) (self:Int) (i:In4) (fa la:Option Addr) (fn fc ln lc:Nat) (w:World) (ha:0≤i.2.1∧i.2.1≤7) (hb:0≤i.2.2.1∧i.2.2.1≤7) (hc:0≤i.2.2.2∧i.2.2.2≤7) (hp:0≤t.pc∧t.pc≤1000) :
  Calls Tryz.prog 136 #[.agg (tkC t fa fn fc la ln lc self i).toArray] w (j_m (c_2 t i.2.1 (wrap64 (rgt t i.2.2.1 - rgt t i.2.2.2))) fa la fn fc ln lc 0 w):=by
 obtain ⟨z,hz⟩:=mn (c_2 t i.2.1 (wrap64 (rgt t i.2.2.1 - rgt t i.2.2.2)));rw [hz];obtain ⟨cs,hcs⟩:∃ cs:List Value,cs=(tkC t fa fn fc la ln lc self i):=⟨_,rfl⟩;obtain ⟨zs,hzs⟩:∃ zs:List Value,zs=thC z fa fn fc la ln lc:=⟨_,rfl⟩;obtain ⟨W,hW,X,R,hB⟩:=N82;have HCA:=hid (d_F hcs);have HCN:=N48;have HCI:=N22;have HZA:=N34;have HZN:=N63;have HZI:=N17;have ⟨HCS,HZS,HX,HR,HB,HW,HZ,HP,Ha,Hb,Hc⟩:=hh11 hcs hzs X R hB hW hz hp ha hb hc;clear hW X R hB hz hp hcs hzs ha hb hc
 go_enter Tryz.func136,Tryz.ntmps136
 go_upto_region 1 with fail
 rw [←HW.out];refine e_E [some 4,some 5,some 6,some 7,some 8,some 9,some 10,some 11,some 12,none,some 3] (OpB w cs) (VL [.agg cs.toArray,.agg cs.toArray,.int .i64 (rgt t i.2.2.1),.agg cs.toArray,.int .i64 (rgt t i.2.2.2),.int .i64 (wrap64 (rgt t i.2.2.1 - rgt t i.2.2.2)),.tuple #[.agg zs.toArray,.int .i64 0],.agg zs.toArray,.int .i64 0,undef,.int .i64 0] 9 (fun w'=>a_p w' (w.heap.size+1) zs)) (by kernel_rfl) (by kernel_rfl) (by decide) rfl ⟨HB.out.drew,b_K HX.out,_,b_K HR.out,rfl⟩ ?_ ?_
 ·show StepsL _ _ _ _ _ _ _
  refine InvV.cons rfl rfl rfl rfl (fun a1 vals w1 C K hK=>?_) ?_
  ·exact J3
  refine InvV.cons rfl rfl rfl rfl (fun a1 vals w1 C K hK=>?_) ?_
  ·exact J3
  refine InvV.cons rfl rfl rfl rfl (fun a1 vals w1 C K hK=>?_) ?_
  ·exact J13
  refine InvV.cons rfl rfl rfl rfl (fun a1 vals w1 C K hK=>?_) ?_
  ·exact J3
  refine InvV.cons rfl rfl rfl rfl (fun a1 vals w1 C K hK=>?_) ?_
  ·have e0:=N118;have h0:=N148;rw [←HCA.out] at h0;refine a_i rfl (a_Q _ _ _ rfl 156 rfl [.agg cs.toArray] (by simp [e0]) (by kernel_rfl) (h0.mono ?_));rintro e w2 ⟨rfl,hb2⟩;exact J24
  refine InvV.cons rfl rfl rfl rfl (fun a1 vals w1 C K hK=>?_) ?_
  ·have e0:=N56;have e1:=N96;refine a_i rfl (a_A (v:=.int .i64 (wrap64 (rgt t i.2.2.1 - rgt t i.2.2.2))) ?_ (a_K hK C rfl rfl));simp [execOp,go_sem,e0,e1,IntWalk.i64_left]
  refine InvV.cons rfl rfl rfl rfl (fun a1 vals w1 C K hK=>?_) ?_
  ·have e0:=N39;have e1:a1.eval (.tmp 9)=.int .i64 (wrap64 (rgt t i.2.2.1 - rgt t i.2.2.2)):=got C 5 9 rfl rfl rfl rfl;have h0:=b_o t self i (wrap64 (rgt t i.2.2.1 - rgt t i.2.2.2)) fa la fn fc ln lc w1 Ha.out HP.out;rw [HZ.out,←HCA.out] at h0;refine a_i rfl (a_Q _ _ _ rfl 154 rfl [.agg cs.toArray,.int .i64 (wrap64 (rgt t i.2.2.1 - rgt t i.2.2.2))] (by simp [e0,e1]) (by kernel_rfl) (h0.mono ?_));rintro e w2 ⟨he,hb2⟩;rw [←HZA.out] at he;subst he;exact J24
  exact J2
 ·intro vals w1 hb hv;have e3:=N254;have HR1:=N138;exact J6
theorem m_V (t:Thr) (self:Int) (i:In4) (fa la:Option Addr) (fn fc ln lc:Nat) (w:World) (ha:0≤i.2.1∧i.2.1≤7) (hb:0≤i.2.2.1∧i.2.2.1≤7) (hc:0≤i.2.2.2∧i.2.2.2≤7) (hp:0≤t.pc∧t.pc≤1000) :
  Calls Tryz.prog 137 #[.agg (tkC t fa fn fc la ln lc self i).toArray] w (j_m (c_2 t i.2.1 (bits .and .i64 (rgt t i.2.2.1) (rgt t i.2.2.2))) fa la fn fc ln lc 0 w):=by
 obtain ⟨z,hz⟩:=mn (c_2 t i.2.1 (bits .and .i64 (rgt t i.2.2.1) (rgt t i.2.2.2)));rw [hz];obtain ⟨cs,hcs⟩:∃ cs:List Value,cs=(tkC t fa fn fc la ln lc self i):=⟨_,rfl⟩;obtain ⟨zs,hzs⟩:∃ zs:List Value,zs=thC z fa fn fc la ln lc:=⟨_,rfl⟩;obtain ⟨W,hW,X,R,hB⟩:=N82;have HCA:=hid (d_F hcs);have HCN:=N48;have HCI:=N22;have HZA:=N34;have HZN:=N63;have HZI:=N17;have ⟨HCS,HZS,HX,HR,HB,HW,HZ,HP,Ha,Hb,Hc⟩:=hh11 hcs hzs X R hB hW hz hp ha hb hc;clear hW X R hB hz hp hcs hzs ha hb hc
 go_enter Tryz.func137,Tryz.ntmps137
 go_upto_region 1 with fail
 rw [←HW.out];refine e_E [some 4,some 5,some 6,some 7,some 8,some 9,some 10,some 11,some 12,none,some 3] (OpB w cs) (VL [.agg cs.toArray,.agg cs.toArray,.int .i64 (rgt t i.2.2.1),.agg cs.toArray,.int .i64 (rgt t i.2.2.2),.int .i64 (bits .and .i64 (rgt t i.2.2.1) (rgt t i.2.2.2)),.tuple #[.agg zs.toArray,.int .i64 0],.agg zs.toArray,.int .i64 0,undef,.int .i64 0] 9 (fun w'=>a_p w' (w.heap.size+1) zs)) (by kernel_rfl) (by kernel_rfl) (by decide) rfl ⟨HB.out.drew,b_K HX.out,_,b_K HR.out,rfl⟩ ?_ ?_
 ·show StepsL _ _ _ _ _ _ _
  refine InvV.cons rfl rfl rfl rfl (fun a1 vals w1 C K hK=>?_) ?_
  ·exact J3
  refine InvV.cons rfl rfl rfl rfl (fun a1 vals w1 C K hK=>?_) ?_
  ·exact J3
  refine InvV.cons rfl rfl rfl rfl (fun a1 vals w1 C K hK=>?_) ?_
  ·exact J13
  refine InvV.cons rfl rfl rfl rfl (fun a1 vals w1 C K hK=>?_) ?_
  ·exact J3
  refine InvV.cons rfl rfl rfl rfl (fun a1 vals w1 C K hK=>?_) ?_
  ·have e0:=N118;have h0:=N148;rw [←HCA.out] at h0;refine a_i rfl (a_Q _ _ _ rfl 156 rfl [.agg cs.toArray] (by simp [e0]) (by kernel_rfl) (h0.mono ?_));rintro e w2 ⟨rfl,hb2⟩;exact J24
  refine InvV.cons rfl rfl rfl rfl (fun a1 vals w1 C K hK=>?_) ?_
  ·have e0:=N56;have e1:=N96;refine a_i rfl (a_A (v:=.int .i64 (bits .and .i64 (rgt t i.2.2.1) (rgt t i.2.2.2))) ?_ (a_K hK C rfl rfl));simp [execOp,go_sem,e0,e1]
  refine InvV.cons rfl rfl rfl rfl (fun a1 vals w1 C K hK=>?_) ?_
  ·have e0:=N39;have e1:a1.eval (.tmp 9)=.int .i64 (bits .and .i64 (rgt t i.2.2.1) (rgt t i.2.2.2)):=got C 5 9 rfl rfl rfl rfl;have h0:=b_o t self i (bits .and .i64 (rgt t i.2.2.1) (rgt t i.2.2.2)) fa la fn fc ln lc w1 Ha.out HP.out;rw [HZ.out,←HCA.out] at h0;refine a_i rfl (a_Q _ _ _ rfl 154 rfl [.agg cs.toArray,.int .i64 (bits .and .i64 (rgt t i.2.2.1) (rgt t i.2.2.2))] (by simp [e0,e1]) (by kernel_rfl) (h0.mono ?_));rintro e w2 ⟨he,hb2⟩;rw [←HZA.out] at he;subst he;exact J24
  exact J2
 ·intro vals w1 hb hv;have e3:=N254;have HR1:=N138;exact J6
theorem m_Z (t:Thr) (self:Int) (i:In4) (fa la:Option Addr) (fn fc ln lc:Nat) (w:World) (ha:0≤i.2.1∧i.2.1≤7) (hb:0≤i.2.2.1∧i.2.2.1≤7) (hc:0≤i.2.2.2∧i.2.2.2≤7) (hp:0≤t.pc∧t.pc≤1000) :
  Calls Tryz.prog 138 #[.agg (tkC t fa fn fc la ln lc self i).toArray] w (j_m (c_2 t i.2.1 (bits .xor .i64 (rgt t i.2.2.1) (rgt t i.2.2.2))) fa la fn fc ln lc 0 w):=by
 obtain ⟨z,hz⟩:=mn (c_2 t i.2.1 (bits .xor .i64 (rgt t i.2.2.1) (rgt t i.2.2.2)));rw [hz];obtain ⟨cs,hcs⟩:∃ cs:List Value,cs=(tkC t fa fn fc la ln lc self i):=⟨_,rfl⟩;obtain ⟨zs,hzs⟩:∃ zs:List Value,zs=thC z fa fn fc la ln lc:=⟨_,rfl⟩;obtain ⟨W,hW,X,R,hB⟩:=N82;have HCA:=hid (d_F hcs);have HCN:=N48;have HCI:=N22;have HZA:=N34;have HZN:=N63;have HZI:=N17;have ⟨HCS,HZS,HX,HR,HB,HW,HZ,HP,Ha,Hb,Hc⟩:=hh11 hcs hzs X R hB hW hz hp ha hb hc;clear hW X R hB hz hp hcs hzs ha hb hc
 go_enter Tryz.func138,Tryz.ntmps138
 go_upto_region 1 with fail
 rw [←HW.out];refine e_E [some 4,some 5,some 6,some 7,some 8,some 9,some 10,some 11,some 12,none,some 3] (OpB w cs) (VL [.agg cs.toArray,.agg cs.toArray,.int .i64 (rgt t i.2.2.1),.agg cs.toArray,.int .i64 (rgt t i.2.2.2),.int .i64 (bits .xor .i64 (rgt t i.2.2.1) (rgt t i.2.2.2)),.tuple #[.agg zs.toArray,.int .i64 0],.agg zs.toArray,.int .i64 0,undef,.int .i64 0] 9 (fun w'=>a_p w' (w.heap.size+1) zs)) (by kernel_rfl) (by kernel_rfl) (by decide) rfl ⟨HB.out.drew,b_K HX.out,_,b_K HR.out,rfl⟩ ?_ ?_
 ·show StepsL _ _ _ _ _ _ _
  refine InvV.cons rfl rfl rfl rfl (fun a1 vals w1 C K hK=>?_) ?_
  ·exact J3
  refine InvV.cons rfl rfl rfl rfl (fun a1 vals w1 C K hK=>?_) ?_
  ·exact J3
  refine InvV.cons rfl rfl rfl rfl (fun a1 vals w1 C K hK=>?_) ?_
  ·exact J13
  refine InvV.cons rfl rfl rfl rfl (fun a1 vals w1 C K hK=>?_) ?_
  ·exact J3
  refine InvV.cons rfl rfl rfl rfl (fun a1 vals w1 C K hK=>?_) ?_
  ·have e0:=N118;have h0:=N148;rw [←HCA.out] at h0;refine a_i rfl (a_Q _ _ _ rfl 156 rfl [.agg cs.toArray] (by simp [e0]) (by kernel_rfl) (h0.mono ?_));rintro e w2 ⟨rfl,hb2⟩;exact J24
  refine InvV.cons rfl rfl rfl rfl (fun a1 vals w1 C K hK=>?_) ?_
  ·have e0:=N56;have e1:=N96;refine a_i rfl (a_A (v:=.int .i64 (bits .xor .i64 (rgt t i.2.2.1) (rgt t i.2.2.2))) ?_ (a_K hK C rfl rfl));simp [execOp,go_sem,e0,e1]
  refine InvV.cons rfl rfl rfl rfl (fun a1 vals w1 C K hK=>?_) ?_
  ·have e0:=N39;have e1:a1.eval (.tmp 9)=.int .i64 (bits .xor .i64 (rgt t i.2.2.1) (rgt t i.2.2.2)):=got C 5 9 rfl rfl rfl rfl;have h0:=b_o t self i (bits .xor .i64 (rgt t i.2.2.1) (rgt t i.2.2.2)) fa la fn fc ln lc w1 Ha.out HP.out;rw [HZ.out,←HCA.out] at h0;refine a_i rfl (a_Q _ _ _ rfl 154 rfl [.agg cs.toArray,.int .i64 (bits .xor .i64 (rgt t i.2.2.1) (rgt t i.2.2.2))] (by simp [e0,e1]) (by kernel_rfl) (h0.mono ?_));rintro e w2 ⟨he,hb2⟩;rw [←HZA.out] at he;subst he;exact J24
  exact J2
 ·intro vals w1 hb hv;have e3:=N254;have HR1:=N138;exact J6
theorem k_6 (t:Thr) (self:Int) (i:In4) (fa la:Option Addr) (fn fc ln lc:Nat) (w:World) (ha:0≤i.2.1∧i.2.1≤7) (hp:0≤t.pc∧t.pc≤1000) :
  Calls Tryz.prog 141 #[.agg (tkC t fa fn fc la ln lc self i).toArray] w (j_m (brT t (rgt t i.2.1==0) i.2.2.1) fa la fn fc ln lc 0 w):=by
 obtain ⟨z,hz⟩:=mn (brT t (rgt t i.2.1==0) i.2.2.1);rw [hz];obtain ⟨cs,hcs⟩:∃ cs:List Value,cs=(tkC t fa fn fc la ln lc self i):=⟨_,rfl⟩;obtain ⟨zs,hzs⟩:∃ zs:List Value,zs=thC z fa fn fc la ln lc:=⟨_,rfl⟩;obtain ⟨W,hW,X,R,hB⟩:=N82;have HCA:=hid (d_F hcs);have HCN:=N48;have HCI:=N22;have HZA:=N34;have HZN:=N63;have HZI:=N17;have ⟨HCS,HZS,HX,HR,HB,HW,HZ,HP,Ha⟩:=hh9 hcs hzs X R hB hW hz hp ha;clear hW X R hB hz hp hcs hzs ha
 go_enter Tryz.func141,Tryz.ntmps141
 go_upto_region 1 with fail
 rw [←HW.out];refine e_E [some 4,some 5,some 6,some 7,some 8,some 9,some 10,none,some 3] (OpB w cs) (VL [.agg cs.toArray,.agg cs.toArray,.int .i64 (rgt t i.2.1),.bool (rgt t i.2.1==0),.tuple #[.agg zs.toArray,.int .i64 0],.agg zs.toArray,.int .i64 0,undef,.int .i64 0] 7 (fun w'=>a_p w' (w.heap.size+1) zs)) (by kernel_rfl) (by kernel_rfl) (by decide) rfl ⟨HB.out.drew,b_K HX.out,_,b_K HR.out,rfl⟩ ?_ ?_
 ·show StepsL _ _ _ _ _ _ _
  refine InvV.cons rfl rfl rfl rfl (fun a1 vals w1 C K hK=>?_) ?_
  ·exact J3
  refine InvV.cons rfl rfl rfl rfl (fun a1 vals w1 C K hK=>?_) ?_
  ·exact J3
  refine InvV.cons rfl rfl rfl rfl (fun a1 vals w1 C K hK=>?_) ?_
  ·have e0:a1.eval (.tmp 5)=.agg cs.toArray:=got C 1 5 rfl rfl rfl rfl;have h0:=l_3 t self i fa la fn fc ln lc w1 Ha.out;rw [←HCA.out] at h0;refine a_i rfl (a_Q _ _ _ rfl 159 rfl [.agg cs.toArray] (by simp [e0]) (by kernel_rfl) (h0.mono ?_));rintro e w2 ⟨rfl,hb2⟩;exact J24
  refine InvV.cons rfl rfl rfl rfl (fun a1 vals w1 C K hK=>?_) ?_
  ·have e0:=N204;refine a_i rfl (a_A (v:=.bool (rgt t i.2.1==0)) ?_ (a_K hK C rfl rfl));simp [execOp,go_sem,e0]
  refine InvV.cons rfl rfl rfl rfl (fun a1 vals w1 C K hK=>?_) ?_
  ·have e0:=N39;have e1:a1.eval (.tmp 7)=.bool (rgt t i.2.1==0):=got C 3 7 rfl rfl rfl rfl;have h0:=e_0 t self i (rgt t i.2.1==0) fa la fn fc ln lc w1 HP.out;rw [HZ.out,←HCA.out] at h0;refine a_i rfl (a_Q _ _ _ rfl 158 rfl [.agg cs.toArray,.bool (rgt t i.2.1==0)] (by simp [e0,e1]) (by kernel_rfl) (h0.mono ?_));rintro e w2 ⟨he,hb2⟩;rw [←HZA.out] at he;subst he;exact J24
  refine InvV.cons rfl rfl rfl rfl (fun a1 vals w1 C K hK=>?_) ?_
  ·have e0:=N77;exact J39
  refine InvV.cons rfl rfl rfl rfl (fun a1 vals w1 C K hK=>?_) ?_
  ·have e0:=N77;exact J22
  refine InvV.cons rfl rfl rfl rfl (fun a1 vals w1 C K hK=>?_) ?_
  ·have e0:a1.eval (.tmp 9)=.agg zs.toArray:=got C 5 9 rfl rfl rfl rfl;exact J7
  refine InvV.cons rfl rfl rfl rfl (fun a1 vals w1 C K hK=>?_) ?_
  ·have e0:=N233;exact J22
  exact StepsL.nil
 ·intro vals w1 hb hv;have e3:=h_T (hv 8 (by decide)) rfl;have HR1:=hid (show a_p w1 (w.heap.size+1) zs from hv 7 (by decide));exact J6
theorem k_4 (t:Thr) (self:Int) (i:In4) (fa la:Option Addr) (fn fc ln lc:Nat) (w:World) (ha:0≤i.2.1∧i.2.1≤7) (hp:0≤t.pc∧t.pc≤1000) :
  Calls Tryz.prog 142 #[.agg (tkC t fa fn fc la ln lc self i).toArray] w (j_m (brT t (rgt t i.2.1 != 0) i.2.2.1) fa la fn fc ln lc 0 w):=by
 obtain ⟨z,hz⟩:=mn (brT t (rgt t i.2.1 != 0) i.2.2.1);rw [hz];obtain ⟨cs,hcs⟩:∃ cs:List Value,cs=(tkC t fa fn fc la ln lc self i):=⟨_,rfl⟩;obtain ⟨zs,hzs⟩:∃ zs:List Value,zs=thC z fa fn fc la ln lc:=⟨_,rfl⟩;obtain ⟨W,hW,X,R,hB⟩:=N82;have HCA:=hid (d_F hcs);have HCN:=N48;have HCI:=N22;have HZA:=N34;have HZN:=N63;have HZI:=N17;have ⟨HCS,HZS,HX,HR,HB,HW,HZ,HP,Ha⟩:=hh9 hcs hzs X R hB hW hz hp ha;clear hW X R hB hz hp hcs hzs ha
 go_enter Tryz.func142,Tryz.ntmps142
 go_upto_region 1 with fail
 rw [←HW.out];refine e_E [some 4,some 5,some 6,some 7,some 8,some 9,some 10,none,some 3] (OpB w cs) (VL [.agg cs.toArray,.agg cs.toArray,.int .i64 (rgt t i.2.1),.bool (rgt t i.2.1 != 0),.tuple #[.agg zs.toArray,.int .i64 0],.agg zs.toArray,.int .i64 0,undef,.int .i64 0] 7 (fun w'=>a_p w' (w.heap.size+1) zs)) (by kernel_rfl) (by kernel_rfl) (by decide) rfl ⟨HB.out.drew,b_K HX.out,_,b_K HR.out,rfl⟩ ?_ ?_
 ·show StepsL _ _ _ _ _ _ _
  refine InvV.cons rfl rfl rfl rfl (fun a1 vals w1 C K hK=>?_) ?_
  ·exact J3
  refine InvV.cons rfl rfl rfl rfl (fun a1 vals w1 C K hK=>?_) ?_
  ·exact J3
  refine InvV.cons rfl rfl rfl rfl (fun a1 vals w1 C K hK=>?_) ?_
  ·have e0:a1.eval (.tmp 5)=.agg cs.toArray:=got C 1 5 rfl rfl rfl rfl;have h0:=l_3 t self i fa la fn fc ln lc w1 Ha.out;rw [←HCA.out] at h0;refine a_i rfl (a_Q _ _ _ rfl 159 rfl [.agg cs.toArray] (by simp [e0]) (by kernel_rfl) (h0.mono ?_));rintro e w2 ⟨rfl,hb2⟩;exact J24
  refine InvV.cons rfl rfl rfl rfl (fun a1 vals w1 C K hK=>?_) ?_
  ·have e0:=N204;refine a_i rfl (a_A (v:=.bool (rgt t i.2.1 != 0)) ?_ (a_K hK C rfl rfl));simp [execOp,go_sem,e0]
  refine InvV.cons rfl rfl rfl rfl (fun a1 vals w1 C K hK=>?_) ?_
  ·have e0:=N39;have e1:a1.eval (.tmp 7)=.bool (rgt t i.2.1 != 0):=got C 3 7 rfl rfl rfl rfl;have h0:=e_0 t self i (rgt t i.2.1 != 0) fa la fn fc ln lc w1 HP.out;rw [HZ.out,←HCA.out] at h0;refine a_i rfl (a_Q _ _ _ rfl 158 rfl [.agg cs.toArray,.bool (rgt t i.2.1 != 0)] (by simp [e0,e1]) (by kernel_rfl) (h0.mono ?_));rintro e w2 ⟨he,hb2⟩;rw [←HZA.out] at he;subst he;exact J24
  refine InvV.cons rfl rfl rfl rfl (fun a1 vals w1 C K hK=>?_) ?_
  ·have e0:=N77;exact J39
  refine InvV.cons rfl rfl rfl rfl (fun a1 vals w1 C K hK=>?_) ?_
  ·have e0:=N77;exact J22
  refine InvV.cons rfl rfl rfl rfl (fun a1 vals w1 C K hK=>?_) ?_
  ·have e0:a1.eval (.tmp 9)=.agg zs.toArray:=got C 5 9 rfl rfl rfl rfl;exact J7
  refine InvV.cons rfl rfl rfl rfl (fun a1 vals w1 C K hK=>?_) ?_
  ·have e0:=N233;exact J22
  exact StepsL.nil
 ·intro vals w1 hb hv;have e3:=h_T (hv 8 (by decide)) rfl;have HR1:=hid (show a_p w1 (w.heap.size+1) zs from hv 7 (by decide));exact J6
end Go.Proofs.YtogdpojnbgeknaaGreatDoor
