import Derived.Test.YtogdpojnbgeknaaGreatDoorT17
import Derived.Test.YtogdpojnbgeknaaGreatDoorT21
import Derived.Test.YtogdpojnbgeknaaGreatDoorT0
namespace Go.Proofs.YtogdpojnbgeknaaGreatDoor
open Go.ChangeShapes Go.WideShapes Go.ChangeAt Go.RowKit
open Gen
section
variable {P:Program} {ops:Array Oper} {Q:Exit→Act→World→Prop}
def InvZ (n:Nat) (Q:Exit→Act→World→Prop) (l:List (Option Tmp)) (B:World→Prop) (S:b_p) (pi pj:Nat) (p:e_w) (a0:Act) (w0:World) (listed:Array Bool) (a:Act) (w:World):Prop:=
 (Up listed n→∀ i,i < n→Up listed i)∧(Up listed n→Q .normal a w)∧(¬ Up listed n→InvD l B S pi pj p a0 w0 listed a w)
theorem s_B {n k:Nat} {l:List (Option Tmp)} {B:World→Prop} {S:b_p} {pi pj:Nat} {p:e_w} {a0 a:Act} {w0 w:World} {listed:Array Bool} (hkn:k < n) (hnu:¬ Up listed n) (h:InvD l B S pi pj p a0 w0 (listed.setIfInBounds k true) a w):InvZ n Q l B S pi pj p a0 w0 (listed.setIfInBounds k true) a w:=
 ⟨fun hu=>absurd (a_a hu (by omega)) hnu,fun hu=>absurd (a_a hu (by omega)) hnu,fun _=>h⟩
theorem InvZ.cons {l:List (Option Tmp)} {B:World→Prop} {S:b_p} {pi pj:Nat} {p:e_w} {a0:Act} {w0:World} {k:Nat} {o:Oper} {rest:List Oper} {ws:List Nat}
  {n:Nat} (hkn:Nat.blt k n=true) (hw:c_A .any o=ws) (hl:l[k]?=some o.dst) (hn:decide (b_M l).Nodup=true) (hd:ws.all (fun j=>decide (j < l.length))=true)
  (hD:(a_S S k).all (fun i=>(k::(ws++ws.flatMap (a_S S))).contains i)=true)
  (h:∀ a1 vals w1,a1.defers=a0.defers→CameD l B S pi pj p a0 ws a1 vals w1→∀ K:Act→World→Prop,g_P S pi pj p B k vals o.dst a1 w1 K →
   if Region.wanted o (yielded ops a1.tmps)=true then Oper.wp P o a1 w1 K Q else K (a1.put o.dst undef) w1)
  (hs:StepsL P .any ops Q (InvZ n Q l B S pi pj p a0 w0) (k+1) rest):StepsL P .any ops Q (InvZ n Q l B S pi pj p a0 w0) k (o::rest):=by
 have hn:=of_decide_eq_true hn;refine StepsL.cons hw (fun listed a1 w1 hI hu hu2 K hK=>?_) hs;have hkn:=N243;have hnu:=N213;obtain ⟨vals,rfl,hb,hv,hp⟩:=hI.2.2 hnu;have hlt:=N51
 have hall:∀ i,i∈ws++ws.flatMap (a_S S)→Up listed i:=fun i hi=>by
  exact J53
 refine h _ vals w1 (c_U _ _ _ _) ⟨fun j t hj ht=>?_,fun t ht=>?_,hb,fun j hj=>(hv j (hlt j hj) (hu2 j hj)).2,fun h1 h2 l1 l2=>hp l1 l2 (hall _ h1) (hall _ h2)⟩ K (fun v w2 h1 h2 h3 h4 h5 h6 h7=>?_)
 ·exact J34
 ·exact J20
 ·refine hK.out _ _ (s_B hkn hnu ⟨fun i=>if i=k then v else vals i,e_m hn hl v,h2,fun j hjl hj=>?_,fun l1 l2 u1 u2=>?_⟩)
  by_cases e:j=k
  ·subst e;refine ⟨fun i hi=>?_,h1⟩;exact J36
  ·exact J32
  ·exact J18
def isW (k:Nat) (ds:List Nat) (x:Value):List Nat×(List Value→World→Prop):=(k::ds,fun l _=>l.head?=some x)
theorem a_3 {k:Nat} {ds:List Nat} {x:Value} {S:b_p} (hs:c_j S):c_j (isW k ds x::S):=a_v (fun _ _ _ _ h=>h) hs
theorem CameD.isw {l:List (Option Tmp)} {B:World→Prop} {S:b_p} {pi pj:Nat} {p:e_w} {a0 a1:Act} {ws:List Nat} {vals:Nat→Value} {w1:World} (C:CameD l B S pi pj p a0 ws a1 vals w1) (j t:Nat) (ds:List Nat) (x:Value) (hj:l[j]?=some (some t)) (hs:Nat.blt t a0.tmps.size=true) (hm:ws.contains j=true) (he:S[j]?=some (isW j ds x)):a1.tmps[t]?.getD undef=x:=by
 have h:=C.says j hm;rw [b_x,a_S,List.getD_eq_getElem?_getD,he] at h;rw [C.t j t hj hs]
 simpa [isW] using h
theorem e_L {S:b_p} {k:Nat} {ds:List Nat} {x:Value} {vals:Nat→Value} {w:World} (he:S[k]?=some (isW k ds x)) (h:b_x S k ((a_S S k).map vals) w):vals k=x:=by
 rw [b_x,a_S,List.getD_eq_getElem?_getD,he] at h
 simpa [isW] using h
theorem c_f {S:b_p} {k:Nat} {d:List Nat} {f:List Value→World→Prop} {vals:Nat→Value} {w:World} (he:S[k]?=some (d,f)) (h:b_x S k ((a_S S k).map vals) w):f (d.map vals) w:=by
 rw [b_x,a_S,List.getD_eq_getElem?_getD,he] at h;exact h
theorem InvZ.last {l:List (Option Tmp)} {B:World→Prop} {S:b_p} {pi pj:Nat} {p:e_w} {a0:Act} {w0:World} {n:Nat} {o:Oper} (hl:l.length=n) (hw:(List.range n).all (fun i=>(c_A .any o).contains i||(c_A .any o).any (fun j=>Nat.blt j n&&(a_S S j).contains i))=true)
  (hnd:decide (b_M l).Nodup=true) (h:∀ vals w1 aE,Hid (aE=c_I a0 l vals 0)→(∀ j t,l[j]?=some (some t)→Nat.blt t a0.tmps.size=true→aE.eval (.tmp t)=vals j)→B w1→(∀ k,k < l.length→b_x S k ((a_S S k).map vals) w1)→(pi < l.length→pj < l.length→p (vals pi) (vals pj) w1)→∀ K:Act→World→Prop,(∀ a2 w2,Q .normal a2 w2→K a2 w2) →
   if Region.wanted o (yielded ops aE.tmps)=true then Oper.wp P o aE w1 K Q else K (aE.put o.dst undef) w1):StepsL P .any ops Q (InvZ n Q l B S pi pj p a0 w0) n [o]:=by
 refine StepsL.cons rfl (fun listed a1 w1 hI hu hu2 K hK=>?_) StepsL.nil;obtain ⟨vals,rfl,hb,hv,hp⟩:=hI.2.2 hu
 have hall:∀ i,i < n→Up listed i:=fun i hi=>by
  exact J40
 refine h vals w1 _ (Lib.hid rfl) (fun j t hj ht=>?_) hb (fun k hk=>(hv k hk (hall k (by omega))).2) (fun l1 l2=>hp l1 l2 (hall _ (by omega)) (hall _ (by omega))) K (fun a2 w2 hq=>hK.out _ _ ⟨fun _ i hi=>a_o (hall i hi),fun _=>hq,fun hn=>absurd d_U hn⟩);exact J58
theorem c_G {id:Nat} {ol:List Oper} {a:Act} {w:World} (n:Nat) (l:List (Option Tmp)) (B:World→Prop) (S:b_p) (pi pj:Nat) (p:e_w) (hm:P.follows .mixedOrders=true) (hb:i_l .any ol.toArray=true) (hn:decide (b_M l).Nodup=true) (hl:l.length=n) (hlen:ol.length=n+1)
  (h0:B w.drew) (hs:StepsL P .any ol.toArray Q (InvZ n Q l B S pi pj p a w) 0 ol):(Code.region id ol.toArray true).wp P Q a w:=by
 refine b_s (InvZ n Q l B S pi pj p) hm hb (fun listed hl2=>⟨fun hu=>absurd hu (hl2 n (by omega)),fun hu=>absurd hu (hl2 n (by omega)),fun _=>⟨e_D a l,(putL_first (of_decide_eq_true hn)).symm,h0,fun k hkl hk=>absurd hk (hl2 k (by omega)),fun l1 _ u1 _=>absurd u1 (hl2 _ (by omega))⟩⟩) hs (fun listed a' w' hI hu=>hI.2.1 (hu n))
theorem f_Y {o:Oper} {a:Act} {w:World} {K:Act→World→Prop} (x:Operand) (args:Array Operand) (aT:Array TypeId) (ho:o.op=Op.call { callee:=.value x,args:=args,argTypes:=aT })
  (f:FuncId) (hx:a.eval x=.func (.func f) #[] #[]) (vs:List Value) (hv:args.toList.map a.eval=vs) (hf:(P.funcs[f]?).map (fun fn=>(fn.name=="runtime.NumGoroutine",fn.body.isNone))=some (false,false))
  (h:Calls P f vs.toArray w (fun e w'=>(∃ v,e=.returned v∧K (a.put o.dst v) w')∨(∃ c,e=.panicked c∧Q (.panic c) a w'))):Oper.wp P o a w K Q:=by
 have e:(execOp a.eval o).run P w=.ok (.enter f vs.toArray) w:=by
  exact J50
 unfold Oper.wp;rw [e,Oper.upon_enter]
 exact h.mono (by
  rintro e w' (⟨v,rfl,hK⟩ | ⟨c,rfl,hK⟩)
  ·exact hK
  ·exact hK)
theorem g_L {listed:Array Bool} {k m:Nat}:(listed.setIfInBounds k true).getD m true=(listed.getD m true||(k==m)):=by
 by_cases e:k=m
 ·subst e;have:=@d_U listed k;unfold Up at this;rw [this];simp
 ·have h:=@up_set listed k m;unfold Up at h;have e2:(k==m)=false:=by simpa using e
  rw [e2,Bool.or_false,Bool.eq_iff_iff,h];exact ⟨fun h=>h.resolve_left (fun h=>e h.symm),.inr⟩
def InvY (n m:Nat) (Q:Exit→Act→World→Prop) (l:List (Option Tmp)) (B:Bool→World→Prop) (S:b_p) (pi pj:Nat) (p:e_w) (a0:Act) (w0:World) (listed:Array Bool) (a:Act) (w:World):Prop:=
 (Up listed n→∀ i,i < n→Up listed i)∧(Up listed n→Q .normal a w)∧(¬ Up listed n→InvD l (B (listed.getD m true)) S pi pj p a0 w0 listed a w)
theorem s_A {n m k:Nat} {l:List (Option Tmp)} {B:Bool→World→Prop} {S:b_p} {pi pj:Nat} {p:e_w} {a0 a:Act} {w0 w:World} {listed:Array Bool} (hkn:k < n) (hnu:¬ Up listed n) (h:InvD l (B ((listed.setIfInBounds k true).getD m true)) S pi pj p a0 w0 (listed.setIfInBounds k true) a w):InvY n m Q l B S pi pj p a0 w0 (listed.setIfInBounds k true) a w:=
 ⟨fun hu=>absurd (a_a hu (by omega)) hnu,fun hu=>absurd (a_a hu (by omega)) hnu,fun _=>h⟩
theorem InvY.cons {l:List (Option Tmp)} {B:Bool→World→Prop} {S:b_p} {pi pj:Nat} {p:e_w} {a0:Act} {w0:World} {k:Nat} {o:Oper} {rest:List Oper} {ws:List Nat}
  {n m:Nat} (hkn:Nat.blt k n=true) (hw:c_A .any o=ws) (hl:l[k]?=some o.dst) (hn:decide (b_M l).Nodup=true) (hd:ws.all (fun j=>decide (j < l.length))=true)
  (hD:(a_S S k).all (fun i=>(k::(ws++ws.flatMap (a_S S))).contains i)=true)
  (h:∀ a1 vals w1 bl,(k=m→bl=false)→a1.defers=a0.defers→CameD l (B bl) S pi pj p a0 ws a1 vals w1→∀ K:Act→World→Prop,g_P S pi pj p (cond (k==m) (B true) (B bl)) k vals o.dst a1 w1 K →
   if Region.wanted o (yielded ops a1.tmps)=true then Oper.wp P o a1 w1 K Q else K (a1.put o.dst undef) w1)
  (hs:StepsL P .any ops Q (InvY n m Q l B S pi pj p a0 w0) (k+1) rest):StepsL P .any ops Q (InvY n m Q l B S pi pj p a0 w0) k (o::rest):=by
 have hn:=of_decide_eq_true hn;refine StepsL.cons hw (fun listed a1 w1 hI hu hu2 K hK=>?_) hs;have hkn:=N243;have hnu:=N213;obtain ⟨vals,rfl,hb,hv,hp⟩:=hI.2.2 hnu;have hlt:=N51
 have hall:∀ i,i∈ws++ws.flatMap (a_S S)→Up listed i:=fun i hi=>by
  exact J53
 refine h _ vals w1 (listed.getD m true) (fun e=>by subst e;cases hx:listed.getD k true with | false=>rfl | true=>exact absurd hx hu) (c_U _ _ _ _) ⟨fun j t hj ht=>?_,fun t ht=>?_,hb,fun j hj=>(hv j (hlt j hj) (hu2 j hj)).2,fun h1 h2 l1 l2=>hp l1 l2 (hall _ h1) (hall _ h2)⟩ K (fun v w2 h1 h2 h3 h4 h5 h6 h7=>?_)
 ·exact J34
 ·exact J20
 ·refine hK.out _ _ (s_A hkn hnu ⟨fun i=>if i=k then v else vals i,e_m hn hl v,(by
   rw [g_L]
   cases hkm:(k==m) with
   | false=>rw [hkm] at h2;rw [Bool.or_false];exact h2
   | true=>rw [hkm] at h2;rw [Bool.or_true];exact h2),fun j hjl hj=>?_,fun l1 l2 u1 u2=>?_⟩)
  by_cases e:j=k
  ·subst e;refine ⟨fun i hi=>?_,h1⟩;exact J36
  ·exact J32
  ·exact J18
theorem InvY.last {l:List (Option Tmp)} {B:Bool→World→Prop} {S:b_p} {pi pj:Nat} {p:e_w} {a0:Act} {w0:World} {n m:Nat} {o:Oper} (hl:l.length=n) (hw:(List.range n).all (fun i=>(c_A .any o).contains i||(c_A .any o).any (fun j=>Nat.blt j n&&(a_S S j).contains i))=true)
  (hnd:decide (b_M l).Nodup=true) (h:∀ vals w1 aE,Hid (aE=c_I a0 l vals 0)→(∀ j t,l[j]?=some (some t)→Nat.blt t a0.tmps.size=true→aE.eval (.tmp t)=vals j)→(∃ bl,B bl w1)→(∀ k,k < l.length→b_x S k ((a_S S k).map vals) w1)→(pi < l.length→pj < l.length→p (vals pi) (vals pj) w1)→∀ K:Act→World→Prop,(∀ a2 w2,Q .normal a2 w2→K a2 w2) →
   if Region.wanted o (yielded ops aE.tmps)=true then Oper.wp P o aE w1 K Q else K (aE.put o.dst undef) w1):StepsL P .any ops Q (InvY n m Q l B S pi pj p a0 w0) n [o]:=by
 refine StepsL.cons rfl (fun listed a1 w1 hI hu hu2 K hK=>?_) StepsL.nil;obtain ⟨vals,rfl,hb,hv,hp⟩:=hI.2.2 hu
 have hall:∀ i,i < n→Up listed i:=fun i hi=>by
  exact J40
 refine h vals w1 _ (Lib.hid rfl) (fun j t hj ht=>?_) ⟨_,hb⟩ (fun k hk=>(hv k hk (hall k (by omega))).2) (fun l1 l2=>hp l1 l2 (hall _ (by omega)) (hall _ (by omega))) K (fun a2 w2 hq=>hK.out _ _ ⟨fun _ i hi=>a_o (hall i hi),fun _=>hq,fun hn=>absurd d_U hn⟩);exact J58
theorem h_K {id:Nat} {ol:List Oper} {a:Act} {w:World} (n m:Nat) (hmn:Nat.blt m n=true) (l:List (Option Tmp)) (B:Bool→World→Prop) (S:b_p) (pi pj:Nat) (p:e_w) (hm:P.follows .mixedOrders=true) (hb:i_l .any ol.toArray=true) (hn:decide (b_M l).Nodup=true) (hl:l.length=n) (hlen:ol.length=n+1)
  (h0:B false w.drew) (hs:StepsL P .any ol.toArray Q (InvY n m Q l B S pi pj p a w) 0 ol):(Code.region id ol.toArray true).wp P Q a w:=by
 refine b_s (InvY n m Q l B S pi pj p) hm hb (fun listed hl2=>⟨fun hu=>absurd hu (hl2 n (by omega)),fun hu=>absurd hu (hl2 n (by omega)),fun _=>⟨e_D a l,(putL_first (of_decide_eq_true hn)).symm,(by cases hx:listed.getD m true with | false=>exact h0 | true=>exact absurd hx (hl2 m (by have:=(Nat.blt_eq▸hmn:m < n);omega))),fun k hkl hk=>absurd hk (hl2 k (by omega)),fun l1 _ u1 _=>absurd u1 (hl2 _ (by omega))⟩⟩) hs (fun listed a' w' hI hu=>hI.2.1 (hu n))
def InvU (n m:Nat) (D:List Nat) (Q:Exit→Act→World→Prop) (l:List (Option Tmp)) (B:Bool→World→Prop) (S:b_p) (pi pj:Nat) (p:e_w) (a0:Act) (w0:World) (listed:Array Bool) (a:Act) (w:World):Prop:=
 (Up listed n→∀ i,i < n→Up listed i)∧(Up listed m→∀ i∈D,Up listed i)∧(Up listed n→Q .normal a w)∧(¬ Up listed n→InvD l (B (listed.getD m true)) S pi pj p a0 w0 listed a w)
theorem s_z {n m k:Nat} {D:List Nat} {l:List (Option Tmp)} {B:Bool→World→Prop} {S:b_p} {pi pj:Nat} {p:e_w} {a0 a:Act} {w0 w:World} {listed:Array Bool} (hkn:k < n) (hnu:¬ Up listed n) (hm:Up (listed.setIfInBounds k true) m→∀ i∈D,Up (listed.setIfInBounds k true) i) (h:InvD l (B ((listed.setIfInBounds k true).getD m true)) S pi pj p a0 w0 (listed.setIfInBounds k true) a w):InvU n m D Q l B S pi pj p a0 w0 (listed.setIfInBounds k true) a w:=
 ⟨fun hu=>absurd (a_a hu (by omega)) hnu,hm,fun hu=>absurd (a_a hu (by omega)) hnu,fun _=>h⟩
theorem InvU.cons {l:List (Option Tmp)} {B:Bool→World→Prop} {S:b_p} {pi pj:Nat} {p:e_w} {a0:Act} {w0:World} {k:Nat} {o:Oper} {rest:List Oper} {ws:List Nat}
  {n m:Nat} {D:List Nat} (hkn:Nat.blt k n=true) (hln:l.length=n) (hw:c_A .any o=ws) (hl:l[k]?=some o.dst) (hn:decide (b_M l).Nodup=true) (hd:ws.all (fun j=>decide (j < l.length))=true)
  (hD:(a_S S k).all (fun i=>(k::(ws++ws.flatMap (a_S S))).contains i)=true)
  (hkm:(k != m||D.all (fun i=>ws.contains i||ws.any (fun j=>Nat.blt j n&&(a_S S j).contains i)))=true)
  (h:∀ a1 vals w1 bl,((k==m||D.contains k)=true→bl=false)→a1.defers=a0.defers→CameD l (B bl) S pi pj p a0 ws a1 vals w1→∀ K:Act→World→Prop,g_P S pi pj p (cond (k==m) (B true) (B bl)) k vals o.dst a1 w1 K →
   if Region.wanted o (yielded ops a1.tmps)=true then Oper.wp P o a1 w1 K Q else K (a1.put o.dst undef) w1)
  (hs:StepsL P .any ops Q (InvU n m D Q l B S pi pj p a0 w0) (k+1) rest):StepsL P .any ops Q (InvU n m D Q l B S pi pj p a0 w0) k (o::rest):=by
 have hn:=of_decide_eq_true hn;refine StepsL.cons hw (fun listed a1 w1 hI hu hu2 K hK=>?_) hs;have hkn:=N243;have hnu:=N213;obtain ⟨vals,rfl,hb,hv,hp⟩:=hI.2.2.2 hnu;have hlt:=N51
 have hall:∀ i,i∈ws++ws.flatMap (a_S S)→Up listed i:=fun i hi=>by
  exact J53
 have hmn:Up (listed.setIfInBounds k true) m→∀ i∈D,Up (listed.setIfInBounds k true) i:=fun hum i hi=>by
  by_cases e:m=k
  ·subst e
   rcases Bool.or_eq_true_iff.1 hkm with h1 | h1
   ·exact absurd h1 (by simp)
   ·have h2:=List.all_eq_true.1 h1 i hi
    rcases Bool.or_eq_true_iff.1 h2 with h3 | h3
    ·exact a_o (hu2 i (List.contains_iff_mem.1 h3))
    ·obtain ⟨j,hj,h4⟩:=List.any_eq_true.1 h3;simp only [Bool.and_eq_true] at h4;have hjn:j < n:=by simpa [Nat.blt_eq] using h4.1
     exact a_o ((hv j (by omega) (hu2 j hj)).1 i (List.contains_iff_mem.1 h4.2))
  ·exact a_o (hI.2.1 (a_a hum e) i hi)
 refine h _ vals w1 (listed.getD m true) (fun e=>by
  cases hx:listed.getD m true with
  | false=>rfl
  | true =>
   rcases Bool.or_eq_true_iff.1 e with h1 | h1
   ·have h1:k=m:=by simpa using h1
    subst h1;exact absurd hx hu
   ·exact absurd (hI.2.1 hx k (List.contains_iff_mem.1 h1)) hu) (c_U _ _ _ _) ⟨fun j t hj ht=>?_,fun t ht=>?_,hb,fun j hj=>(hv j (hlt j hj) (hu2 j hj)).2,fun h1 h2 l1 l2=>hp l1 l2 (hall _ h1) (hall _ h2)⟩ K (fun v w2 h1 h2 h3 h4 h5 h6 h7=>?_)
 ·exact J34
 ·exact J20
 ·refine hK.out _ _ (s_z hkn hnu hmn ⟨fun i=>if i=k then v else vals i,e_m hn hl v,(by
   rw [g_L]
   cases hkm:(k==m) with
   | false=>rw [hkm] at h2;rw [Bool.or_false];exact h2
   | true=>rw [hkm] at h2;rw [Bool.or_true];exact h2),fun j hjl hj=>?_,fun l1 l2 u1 u2=>?_⟩)
  by_cases e:j=k
  ·subst e;refine ⟨fun i hi=>?_,h1⟩;exact J36
  ·exact J32
  ·exact J18
theorem InvU.last {l:List (Option Tmp)} {B:Bool→World→Prop} {S:b_p} {pi pj:Nat} {p:e_w} {a0:Act} {w0:World} {n m:Nat} {D:List Nat} {o:Oper} (hmn:D.all (fun i=>Nat.blt i n)=true) (hl:l.length=n) (hw:(List.range n).all (fun i=>(c_A .any o).contains i||(c_A .any o).any (fun j=>Nat.blt j n&&(a_S S j).contains i))=true)
  (hnd:decide (b_M l).Nodup=true) (h:∀ vals w1 aE,Hid (aE=c_I a0 l vals 0)→(∀ j t,l[j]?=some (some t)→Nat.blt t a0.tmps.size=true→aE.eval (.tmp t)=vals j)→(∃ bl,B bl w1)→(∀ k,k < l.length→b_x S k ((a_S S k).map vals) w1)→(pi < l.length→pj < l.length→p (vals pi) (vals pj) w1)→∀ K:Act→World→Prop,(∀ a2 w2,Q .normal a2 w2→K a2 w2) →
   if Region.wanted o (yielded ops aE.tmps)=true then Oper.wp P o aE w1 K Q else K (aE.put o.dst undef) w1):StepsL P .any ops Q (InvU n m D Q l B S pi pj p a0 w0) n [o]:=by
 refine StepsL.cons rfl (fun listed a1 w1 hI hu hu2 K hK=>?_) StepsL.nil;obtain ⟨vals,rfl,hb,hv,hp⟩:=hI.2.2.2 hu
 have hall:∀ i,i < n→Up listed i:=fun i hi=>by
  exact J40
 refine h vals w1 _ (Lib.hid rfl) (fun j t hj ht=>?_) ⟨_,hb⟩ (fun k hk=>(hv k hk (hall k (by omega))).2) (fun l1 l2=>hp l1 l2 (hall _ (by omega)) (hall _ (by omega))) K (fun a2 w2 hq=>hK.out _ _ ⟨fun _ i hi=>a_o (hall i hi),fun _ i hi=>a_o (hall i (by have:=List.all_eq_true.1 hmn i hi;simpa [Nat.blt_eq] using this)),fun _=>hq,fun hn=>absurd d_U hn⟩);exact J58
theorem h_J {id:Nat} {ol:List Oper} {a:Act} {w:World} (n m:Nat) (D:List Nat) (hmn:Nat.blt m n=true) (l:List (Option Tmp)) (B:Bool→World→Prop) (S:b_p) (pi pj:Nat) (p:e_w) (hm:P.follows .mixedOrders=true) (hb:i_l .any ol.toArray=true) (hn:decide (b_M l).Nodup=true) (hl:l.length=n) (hlen:ol.length=n+1)
  (h0:B false w.drew) (hs:StepsL P .any ol.toArray Q (InvU n m D Q l B S pi pj p a w) 0 ol):(Code.region id ol.toArray true).wp P Q a w:=by
 refine b_s (InvU n m D Q l B S pi pj p) hm hb (fun listed hl2=>⟨fun hu=>absurd hu (hl2 n (by omega)),fun hu=>absurd hu (hl2 m (by have:=(Nat.blt_eq▸hmn:m < n);omega)),fun hu=>absurd hu (hl2 n (by omega)),fun _=>⟨e_D a l,(putL_first (of_decide_eq_true hn)).symm,(by cases hx:listed.getD m true with | false=>exact h0 | true=>exact absurd hx (hl2 m (by have:=(Nat.blt_eq▸hmn:m < n);omega))),fun k hkl hk=>absurd hk (hl2 k (by omega)),fun l1 _ u1 _=>absurd u1 (hl2 _ (by omega))⟩⟩) hs (fun listed a' w' hI hu=>hI.2.2.1 (hu n))
theorem g_m {o:Oper} {a:Act} {w w':World} {K:Act→World→Prop} (h:(execOp a.eval o).run P w=.ok .skip w') (hk:K (a.put o.dst undef) w'):Oper.wp P o a w K Q:=by
 unfold Oper.wp;rw [h];exact hk
theorem e_r {o:Oper} {a:Act} {w:World} {K:Act→World→Prop} (ty:TypeId) (x y:Operand) (ho:o.op=.store ty x y) (g f:Nat) (cells:Array Value) (hx:a.eval x=.pointer (some ⟨g,f,none⟩)) (hy:a.eval y=.agg cells)
  (vs:List Value) (hv:a_p w g vs) (hl:f+cells.size≤vs.length) (hi:(P.info? ty).map (·.size)=some cells.size) (h1:cells.all (·.oneCell')=true)
  (h:∀ U,Hid (U=d_o w g f cells.toList)→K (a.put o.dst undef) U):Oper.wp P o a w K Q:=
 wp_store_mid ty x y ho g f cells hx hy (fun j hj=>by
  have hv':=N208;obtain ⟨h1,h2⟩:=hv _ _ hv';exact ⟨by rw [h1];rfl,h2⟩) hi h1 (h _ (Lib.hid (e_6 _ _ _ _)))
end
theorem InvZ.c {l:List (Option Tmp)} {B:World→Prop} {S:b_p} {pi pj:Nat} {p:e_w} {a0:Act} {w0:World} {k:Nat} {o:Oper} {rest:List Oper} {P:Program} {ops:Array Oper} {Q:Exit→Act→World→Prop} {n:Nat}
  (h:∀ a1 vals w1,a1.defers=a0.defers→CameD l B S pi pj p a0 (c_A .any o) a1 vals w1→∀ K:Act→World→Prop,g_P S pi pj p B k vals o.dst a1 w1 K→if Region.wanted o (yielded ops a1.tmps)=true then Oper.wp P o a1 w1 K Q else K (a1.put o.dst undef) w1)
  (hs:StepsL P .any ops Q (InvZ n Q l B S pi pj p a0 w0) (k+1) rest) (hkn:Nat.blt k n=true:=by exact rfl) (hl:l[k]?=some o.dst:=by exact rfl) (hn:decide (b_M l).Nodup=true:=by exact rfl) (hd:(c_A .any o).all (fun j=>decide (j < l.length))=true:=by exact rfl)
  (hD:(a_S S k).all (fun i=>(k::(c_A .any o++(c_A .any o).flatMap (a_S S))).contains i)=true:=by exact rfl):StepsL P .any ops Q (InvZ n Q l B S pi pj p a0 w0) k (o::rest):=InvZ.cons hkn rfl hl hn hd hD h hs
theorem InvY.c {l:List (Option Tmp)} {B:Bool→World→Prop} {S:b_p} {pi pj:Nat} {p:e_w} {a0:Act} {w0:World} {k:Nat} {o:Oper} {rest:List Oper} {P:Program} {ops:Array Oper} {Q:Exit→Act→World→Prop} {n m:Nat}
  (h:∀ a1 vals w1,∀ bl,(k=m→bl=false)→a1.defers=a0.defers→CameD l (B bl) S pi pj p a0 (c_A .any o) a1 vals w1→∀ K:Act→World→Prop,g_P S pi pj p (cond (k==m) (B true) (B bl)) k vals o.dst a1 w1 K→if Region.wanted o (yielded ops a1.tmps)=true then Oper.wp P o a1 w1 K Q else K (a1.put o.dst undef) w1)
  (hs:StepsL P .any ops Q (InvY n m Q l B S pi pj p a0 w0) (k+1) rest) (hkn:Nat.blt k n=true:=by exact rfl) (hl:l[k]?=some o.dst:=by exact rfl) (hn:decide (b_M l).Nodup=true:=by exact rfl) (hd:(c_A .any o).all (fun j=>decide (j < l.length))=true:=by exact rfl)
  (hD:(a_S S k).all (fun i=>(k::(c_A .any o++(c_A .any o).flatMap (a_S S))).contains i)=true:=by exact rfl):StepsL P .any ops Q (InvY n m Q l B S pi pj p a0 w0) k (o::rest):=InvY.cons hkn rfl hl hn hd hD h hs
theorem InvU.c {l:List (Option Tmp)} {B:Bool→World→Prop} {S:b_p} {pi pj:Nat} {p:e_w} {a0:Act} {w0:World} {k:Nat} {o:Oper} {rest:List Oper} {P:Program} {ops:Array Oper} {Q:Exit→Act→World→Prop} {n m:Nat} {D:List Nat}
  (h:∀ a1 vals w1,∀ bl,((k==m||D.contains k)=true→bl=false)→a1.defers=a0.defers→CameD l (B bl) S pi pj p a0 (c_A .any o) a1 vals w1→∀ K:Act→World→Prop,g_P S pi pj p (cond (k==m) (B true) (B bl)) k vals o.dst a1 w1 K→if Region.wanted o (yielded ops a1.tmps)=true then Oper.wp P o a1 w1 K Q else K (a1.put o.dst undef) w1)
  (hs:StepsL P .any ops Q (InvU n m D Q l B S pi pj p a0 w0) (k+1) rest) (hkn:Nat.blt k n=true:=by exact rfl) (hln:l.length=n:=by exact rfl) (hl:l[k]?=some o.dst:=by exact rfl) (hn:decide (b_M l).Nodup=true:=by exact rfl) (hd:(c_A .any o).all (fun j=>decide (j < l.length))=true:=by exact rfl)
  (hD:(a_S S k).all (fun i=>(k::(c_A .any o++(c_A .any o).flatMap (a_S S))).contains i)=true:=by exact rfl) (hkm:(k != m||D.all (fun i=>(c_A .any o).contains i||(c_A .any o).any (fun j=>Nat.blt j n&&(a_S S j).contains i)))=true:=by exact rfl):StepsL P .any ops Q (InvU n m D Q l B S pi pj p a0 w0) k (o::rest):=InvU.cons hkn hln rfl hl hn hd hD hkm h hs
end Go.Proofs.YtogdpojnbgeknaaGreatDoor
