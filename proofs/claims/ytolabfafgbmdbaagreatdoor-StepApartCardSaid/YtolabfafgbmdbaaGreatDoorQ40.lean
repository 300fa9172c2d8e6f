import Derived.Test.YtolabfafgbmdbaaGreatDoorQ23
import Derived.Test.YtolabfafgbmdbaaGreatDoorQ0
import Derived.Test.YtolabfafgbmdbaaGreatDoorQ7
import Derived.Test.YtolabfafgbmdbaaGreatDoorQ29
set_option maxRecDepth 100000
set_option maxHeartbeats 16000000
namespace Go.Proofs.YtolabfafgbmdbaaGreatDoor
open Go.ChangeShapes Go.WideShapes Go.ChangeAt Go.RowKit
section
variable {P:Program} {ops:Array Oper} {Q:Exit→Act→World→Prop}
theorem q_v {S S':b_n} (h:S.map Prod.fst=S'.map Prod.fst) (j:Nat):a_U S j=a_U S' j:=by
 have e:∀ T:b_n,a_U T j=(T.map Prod.fst).getD j []:=fun T=>by
  simp only [a_U,List.getD_eq_getElem?_getD,List.getElem?_map]
  cases T[j]? <;> rfl
 rw [e,e,h]
def InvT (m:Nat) (D:List Nat) (l:List (Option Tmp)) (B:Bool→World→Prop) (S:Bool→b_n) (pi pj:Nat) (p:e_F) (a0:Act) (w0:World) (listed:Array Bool) (a:Act) (w:World):Prop:=
 (Up listed m→∀ i∈D,Up listed i)∧InvD l (B (listed.getD m true)) (S (listed.getD m true)) pi pj p a0 w0 listed a w
def u_o (S1 S2:b_n) (pi pj:Nat) (p:e_F) (B:World→Prop) (k:Nat) (vals:Nat→Value) (dst:Option Tmp) (a1:Act) (w1:World) (K:Act→World→Prop):Prop:=
 ∀ v w2,b_E S2 k ((a_U S2 k).map (fun i=>if i=k then v else vals i)) w2→B w2→(∀ j,j≠k→b_E S1 j ((a_U S1 j).map vals) w1→b_E S2 j ((a_U S1 j).map vals) w2) →
  (k≠pi→k≠pj→p (vals pi) (vals pj) w1→p (vals pi) (vals pj) w2)→(k=pi→k≠pj→b_E S1 pj ((a_U S1 pj).map vals) w1→p v (vals pj) w2)→(k=pj→k≠pi→b_E S1 pi ((a_U S1 pi).map vals) w1→p (vals pi) v w2)→(k=pi→k=pj→p v v w2)→K (a1.put dst v) w2
theorem InvT.cons {l:List (Option Tmp)} {B:Bool→World→Prop} {S:Bool→b_n} {pi pj:Nat} {p:e_F} {a0:Act} {w0:World} {k:Nat} {o:Oper} {rest:List Oper} {ws:List Nat}
  {m:Nat} {D:List Nat} (hS:∀ b j,a_U (S b) j=a_U (S false) j) (hw:c_E .any o=ws) (hl:l[k]?=some o.dst) (hn:decide (b_O l).Nodup=true) (hd:ws.all (fun j=>decide (j < l.length))=true)
  (hD:(a_U (S false) k).all (fun i=>(k::(ws++ws.flatMap (a_U (S false)))).contains i)=true)
  (hkm:(k != m||D.all (fun i=>ws.contains i||ws.any (fun j=>(a_U (S false) j).contains i)))=true)
  (h:∀ a1 vals w1 bl,((k==m||D.contains k)=true→bl=false)→CameD l (B bl) (S bl) pi pj p a0 ws a1 vals w1→∀ K:Act→World→Prop,u_o (S bl) (S (cond (k==m) true bl)) pi pj p (B (cond (k==m) true bl)) k vals o.dst a1 w1 K →
   if Region.wanted o (yielded ops a1.tmps)=true then Oper.wp P o a1 w1 K Q else K (a1.put o.dst undef) w1)
  (hs:StepsL P .any ops Q (InvT m D l B S pi pj p a0 w0) (k+1) rest):StepsL P .any ops Q (InvT m D l B S pi pj p a0 w0) k (o::rest):=by
 have hn:=of_decide_eq_true hn;refine StepsL.cons hw (fun listed a1 w1 hI hu hu2 K hK=>?_) hs;obtain ⟨hI1,vals,rfl,hb,hv,hp⟩:=hI;have hlt:=N51;obtain ⟨bl,hbl⟩:=mn (listed.getD m true);rw [hbl] at hb hv
 have hall:∀ i,i∈ws++ws.flatMap (a_U (S false))→Up listed i:=fun i hi=>by
  rcases List.mem_append.1 hi with h5 | h5
  ·exact hu2 i h5
  ·obtain ⟨q,hq,hq2⟩:=List.mem_flatMap.1 h5;exact (hv q (hlt q hq) (hu2 q hq)).1 i (by rw [hS];exact hq2)
 have hallb:∀ i,i∈ws++ws.flatMap (a_U (S bl))→Up listed i:=fun i hi=>by
  refine hall i ?_;rw [show a_U (S bl)=a_U (S false) from funext (hS bl)] at hi;exact hi
 have hmn:Up (listed.setIfInBounds k true) m→∀ i∈D,Up (listed.setIfInBounds k true) i:=fun hum i hi=>by
  exact J59
 refine h _ vals w1 bl (fun e=>by
  cases hx:bl with
  | false=>rfl
  | true =>
   rw [hx] at hbl
   rcases Bool.or_eq_true_iff.1 e with h1 | h1
   ·have h1:k=m:=by simpa using h1
    subst h1;exact absurd hbl hu
   ·exact absurd (hI1 hbl k (List.contains_iff_mem.1 h1)) hu) ⟨fun j t hj ht=>?_,fun t ht=>?_,hb,fun j hj=>(hv j (hlt j hj) (hu2 j hj)).2,fun h1 h2 l1 l2=>hp l1 l2 (hallb _ h1) (hallb _ h2)⟩ K (fun v w2 h1 h2 h3 h4 h5 h6 h7=>?_)
 ·exact J35
 ·exact J21
 ·have hb2:(listed.setIfInBounds k true).getD m true=cond (k==m) true bl:=by
   rw [g_S,hbl]
   cases (k==m) <;> cases bl <;> rfl
  refine hK.out _ _ ⟨hmn,fun i=>if i=k then v else vals i,e_s hn hl v,by rw [hb2];exact h2,fun j hjl hj=>?_,fun l1 l2 u1 u2=>?_⟩
  ·rw [hb2]
   by_cases e:j=k
   ·subst e;refine ⟨fun i hi=>?_,h1⟩;rw [hS] at hi;exact J37
   ·exact J62
  ·exact J18
def InvT2 (m:Nat) (D:List Nat) (l:List (Option Tmp)) (B:Bool→World→Prop) (S:Bool→b_n) (qi pi pj:Nat) (q p:e_F) (a0:Act) (listed:Array Bool) (a:Act) (w:World):Prop:=
 (Up listed m→∀ i∈D,Up listed i)∧∃ vals,a=c_L a0 l vals 0∧B (listed.getD m true) w∧(∀ k,k < l.length→Up listed k→(∀ i∈a_U (S (listed.getD m true)) k,Up listed i)∧b_E (S (listed.getD m true)) k ((a_U (S (listed.getD m true)) k).map vals) w) ∧
  (pi < l.length→pj < l.length→Up listed pi→Up listed pj→p (vals pi) (vals pj) w)∧(qi < l.length→pj < l.length→Up listed qi→Up listed pj→q (vals qi) (vals pj) w)
def t_x (S1 S2:b_n) (qi pi pj:Nat) (q p:e_F) (B:World→Prop) (k:Nat) (vals:Nat→Value) (dst:Option Tmp) (a1:Act) (w1:World) (K:Act→World→Prop):Prop:=
 ∀ v w2,b_E S2 k ((a_U S2 k).map (fun i=>if i=k then v else vals i)) w2→B w2→(∀ j,j≠k→b_E S1 j ((a_U S1 j).map vals) w1→b_E S2 j ((a_U S1 j).map vals) w2) →
  (k≠pi→k≠pj→p (vals pi) (vals pj) w1→p (vals pi) (vals pj) w2)→(k≠qi→k≠pj→q (vals qi) (vals pj) w1→q (vals qi) (vals pj) w2) →
  (k=pi→b_E S1 pj ((a_U S1 pj).map vals) w1→q (vals qi) (vals pj) w1→p v (vals pj) w2)→(k=qi→b_E S1 pj ((a_U S1 pj).map vals) w1→q v (vals pj) w2) →
  (k=pj→b_E S1 pi ((a_U S1 pi).map vals) w1→p (vals pi) v w2)→(k=pj→b_E S1 qi ((a_U S1 qi).map vals) w1→q (vals qi) v w2)→K (a1.put dst v) w2
theorem InvT2.cons {l:List (Option Tmp)} {B:Bool→World→Prop} {S:Bool→b_n} {qi pi pj:Nat} {q p:e_F} {a0:Act} {k:Nat} {o:Oper} {rest:List Oper} {ws:List Nat}
  {m:Nat} {D:List Nat} (hne:pi≠pj∧qi≠pj∧pi≠qi) (hqp:k=pi→qi∈ws) (hql:qi < l.length) (hS:∀ b j,a_U (S b) j=a_U (S false) j) (hw:c_E .any o=ws) (hl:l[k]?=some o.dst) (hn:decide (b_O l).Nodup=true) (hd:ws.all (fun j=>decide (j < l.length))=true)
  (hD:(a_U (S false) k).all (fun i=>(k::(ws++ws.flatMap (a_U (S false)))).contains i)=true)
  (hkm:(k != m||D.all (fun i=>ws.contains i||ws.any (fun j=>(a_U (S false) j).contains i)))=true)
  (h:∀ a1 vals w1 bl,((k==m||D.contains k)=true→bl=false)→CameD l (B bl) (S bl) pi pj p a0 ws a1 vals w1→∀ K:Act→World→Prop,t_x (S bl) (S (cond (k==m) true bl)) qi pi pj q p (B (cond (k==m) true bl)) k vals o.dst a1 w1 K →
   if Region.wanted o (yielded ops a1.tmps)=true then Oper.wp P o a1 w1 K Q else K (a1.put o.dst undef) w1)
  (hs:StepsL P .any ops Q (InvT2 m D l B S qi pi pj q p a0) (k+1) rest):StepsL P .any ops Q (InvT2 m D l B S qi pi pj q p a0) k (o::rest):=by
 have hn:=of_decide_eq_true hn;refine StepsL.cons hw (fun listed a1 w1 hI hu hu2 K hK=>?_) hs;obtain ⟨hI1,vals,rfl,hb,hv,hp,hq⟩:=hI;have hlt:=N51;obtain ⟨bl,hbl⟩:=mn (listed.getD m true);rw [hbl] at hb hv
 have hall:∀ i,i∈ws++ws.flatMap (a_U (S false))→Up listed i:=fun i hi=>by
  rcases List.mem_append.1 hi with h5 | h5
  ·exact hu2 i h5
  ·obtain ⟨x,hx,hx2⟩:=List.mem_flatMap.1 h5;exact (hv x (hlt x hx) (hu2 x hx)).1 i (by rw [hS];exact hx2)
 have hallb:∀ i,i∈ws++ws.flatMap (a_U (S bl))→Up listed i:=fun i hi=>by
  refine hall i ?_;rw [show a_U (S bl)=a_U (S false) from funext (hS bl)] at hi;exact hi
 have hmn:Up (listed.setIfInBounds k true) m→∀ i∈D,Up (listed.setIfInBounds k true) i:=fun hum i hi=>by
  exact J59
 refine h _ vals w1 bl (fun e=>by
  cases hx:bl with
  | false=>rfl
  | true =>
   rw [hx] at hbl
   rcases Bool.or_eq_true_iff.1 e with h1 | h1
   ·have h1:k=m:=by simpa using h1
    subst h1;exact absurd hbl hu
   ·exact absurd (hI1 hbl k (List.contains_iff_mem.1 h1)) hu) ⟨fun j t hj ht=>?_,fun t ht=>?_,hb,fun j hj=>(hv j (hlt j hj) (hu2 j hj)).2,fun h1 h2 l1 l2=>hp l1 l2 (hallb _ h1) (hallb _ h2)⟩ K (fun v w2 h1 h2 h3 h4 h5 h6 h7 h8 h9=>?_)
 ·exact J35
 ·exact J21
 ·have hb2:(listed.setIfInBounds k true).getD m true=cond (k==m) true bl:=by
   rw [g_S,hbl]
   cases (k==m) <;> cases bl <;> rfl
  refine hK.out _ _ ⟨hmn,fun i=>if i=k then v else vals i,e_s hn hl v,by rw [hb2];exact h2,fun j hjl hj=>?_,fun l1 l2 u1 u2=>?_,fun l1 l2 u1 u2=>?_⟩
  ·rw [hb2]
   by_cases e:j=k
   ·subst e;refine ⟨fun i hi=>?_,h1⟩;rw [hS] at hi;exact J37
   ·exact J62
  ·show p (if pi=k then v else vals pi) (if pj=k then v else vals pj) w2
   by_cases e1:pi=k
   ·rw [if_pos e1,if_neg (fun e2=>hne.1 (e1.trans e2.symm))];have u3:Up listed pj:=a_b u2 (fun e2=>hne.1 (e1.trans e2.symm));exact h6 e1.symm (hv _ l2 u3).2 (hq hql l2 (hu2 _ (hqp e1.symm)) u3)
   ·by_cases e2:pj=k
    ·rw [if_neg e1,if_pos e2];exact h8 e2.symm (hv _ l1 (a_b u1 e1)).2
    ·rw [if_neg e1,if_neg e2];exact h4 (fun h=>e1 h.symm) (fun h=>e2 h.symm) (hp l1 l2 (a_b u1 e1) (a_b u2 e2))
  ·show q (if qi=k then v else vals qi) (if pj=k then v else vals pj) w2
   by_cases e1:qi=k
   ·rw [if_pos e1,if_neg (fun e2=>hne.2.1 (e1.trans e2.symm))];exact h7 e1.symm (hv _ l2 (a_b u2 (fun e2=>hne.2.1 (e1.trans e2.symm)))).2
   ·by_cases e2:pj=k
    ·rw [if_neg e1,if_pos e2];exact h9 e2.symm (hv _ l1 (a_b u1 e1)).2
    ·rw [if_neg e1,if_neg e2];exact h5 (fun h=>e1 h.symm) (fun h=>e2 h.symm) (hq l1 l2 (a_b u1 e1) (a_b u2 e2))
theorem f_k {l:List (Option Tmp)} {B:World→Prop} {S:b_n} {qi pi pj:Nat} {q p:e_F} {a0 a1:Act} {ws:List Nat} {vals:Nat→Value} {w1:World} {k:Nat} {K:Act→World→Prop} {dst:Option Tmp}
  (hK:t_x S S qi pi pj q p B k vals dst a1 w1 K) (C:CameD l B S pi pj p a0 ws a1 vals w1) (hne:((k==pi)||(k==pj)||(k==qi))=false) {v:Value} (hv:b_E S k ((a_U S k).map (fun i=>if i=k then v else vals i)) w1):K (a1.put dst v) w1:=by
 simp only [Bool.or_eq_false_iff,beq_eq_false_iff_ne] at hne;obtain ⟨⟨n1,n2⟩,n3⟩:=hne;exact hK v w1 hv C.base (fun _ _ h=>h) (fun _ _ h=>h) (fun _ _ h=>h) (fun e=>absurd e n1) (fun e=>absurd e n3) (fun e=>absurd e n2) (fun e=>absurd e n2)
theorem l_x {id:Nat} {ol:List Oper} {a:Act} {w:World} (m:Nat) (D:List Nat) (hmn:Nat.blt m ol.length=true) (l:List (Option Tmp)) (B:Bool→World→Prop) (S:Bool→b_n) (qi pi pj:Nat) (q p:e_F) (hm:P.follows .mixedOrders=true) (hb:i_B .any ol.toArray=true) (hn:decide (b_O l).Nodup=true) (hlen:l.length=ol.length)
  (h0:B false w.drew) (hs:StepsL P .any ol.toArray Q (InvT2 m D l B S qi pi pj q p a) 0 ol)
  (hend:∀ vals w',B true w'→(∀ k,k < l.length→b_E (S true) k ((a_U (S true) k).map vals) w')→(pi < l.length→pj < l.length→p (vals pi) (vals pj) w')→Q .normal (c_L a l vals 0) w'):(Code.region id ol.toArray true).wp P Q a w:=by
 have hmn:m < ol.length:=by simpa [Nat.blt_eq] using hmn
 refine b_t (fun a0 _=>InvT2 m D l B S qi pi pj q p a0) hm hb (fun listed hl=>⟨fun hu=>absurd hu (hl m (by omega)),e_L a l,(putL_first (of_decide_eq_true hn)).symm,(by
  cases hx:listed.getD m true with
  | false=>exact h0
  | true=>exact absurd hx (hl m (by omega))),fun k hkl hk=>absurd hk (hl k (by omega)),fun l1 _ u1 _=>absurd u1 (hl _ (by omega)),fun l1 _ u1 _=>absurd u1 (hl _ (by omega))⟩) hs (fun listed a' w' hI hu=>?_)
 obtain ⟨-,vals,rfl,h1,h2,h3,-⟩:=hI;have hx:listed.getD m true=true:=hu m;rw [hx] at h1 h2;exact hend vals w' h1 (fun k hk=>(h2 k hk (hu k)).2) (fun l1 l2=>h3 l1 l2 (hu _) (hu _))
end
end Go.Proofs.YtolabfafgbmdbaaGreatDoor
namespace Go.Proofs.YtolabfafgbmdbaaGreatDoor
open Go.ChangeShapes Go.WideShapes Go.ChangeAt Go.RowKit
open Gen
open Lib (hid)
def t_C (h:Nat) (L:WoL) (rb:Nat) (vb lv le:Int):b_n:=[isV 0 (.pointer (some ⟨h,1,none⟩)),isV 1 (.pointer (some ⟨h,1,none⟩)),isV 2 (.agg #[.slice L.ws.a L.ws.n L.ws.c,.slice L.ts.a L.ts.n L.ts.c]),isV 3 (.pointer (some ⟨h+2,2,none⟩)),isV 4 (.int .i64 rb),isV 5 (.pointer (some ⟨h+1,1,none⟩)),isV 6 (.pointer (some ⟨h+1,1+rb,none⟩)),isV 7 (.int .i64 vb),isV 8 (.tuple #[.int .i64 lv,.int .i64 le]),isV 9 (.tuple #[.int .i64 lv,.int .i64 le]),isV 10 (.int .i64 lv),isV 11 (.int .i64 le),isV 12 (.int .i64 lv),isV 13 (.int .i64 le)]
theorem o_o (h:Nat) (L:WoL) (rb:Nat) (vb lv le:Int):c_g (t_C h  L  rb  vb lv le ):=a_c<|a_c<|a_c<|a_c<|a_c<|a_c<|a_c<|a_c<|a_c<|a_c<|a_c<|a_c<|a_c<|a_c<|b_m
theorem q_t (L:WoL) (X:Wo) (j:Nat) (w:World) (R:RWo Any w L X) (hj:j < L.th.n) (hrw:b_e X=true) :
  Calls Tryz.prog 22 #[woV L X.D,.int .i64 j] w (a_1 (k_i X j) w):=by
 obtain ⟨y,hy⟩:=mn (k_i X j);rw [hy];obtain ⟨D,hD⟩:=mn (X.D);rw [hD];have HD:=hid hD;obtain ⟨tb,tq,t,ta,tc,qa,qc,htl,htt,-,T,hr⟩:=d_d R.th hj;have htw:=N53;obtain ⟨hrc,hrm,hrl,hro⟩:=a_O hrw
 have HRT:=hid (show a_Q t=true by
  have h:=hro t (List.mem_of_getElem? htt);simp only [e_q,Bool.and_eq_true] at h;exact h.1)
 have HCI:=hid (show ∀ i∈X.code,c_Q i X.code.length=true by
  simp only [b_8,Bool.and_eq_true,decide_eq_true_eq,List.all_eq_true] at hrc;exact hrc.2)
 have hpc0:0≤t.pc∧t.pc≤1000:=by
  have h:=HRT.out;exact J103
 obtain ⟨pk,hpk⟩:∃ k:Nat,t.pc=k:=⟨t.pc.toNat,by omega⟩;have HPK:=hid hpk;have HM:=hid (a_T hrm).1;have HY:=hid (show p_Z X t (bfW X j)=y by rw [←hy,k_i,htw]);obtain ⟨bb,bo,q,c,hba,hbc,-,-⟩:=f_m R.bs (i:=j) (by have:=R.bs.1;have:=R.th.1;omega);obtain ⟨bl,hbl⟩:=mn ((X.bs.getD j []).length);have HBL:=hid (show (bfW X j).length=bl from hbl);rw [hbl] at hbc;obtain ⟨tn,htn⟩:=mn (t.fs.length);obtain ⟨tm,htm⟩:=mn (t.lf.length);have HTN:=hid (And.intro htn htm);obtain ⟨W,hW⟩:=nm (w.alloc (Obj.cells (woC L D).toArray 33));have HX:=N162;have HB:=N3;have HSZ:=N150;have HRA:=N28;have ⟨HW,HTL⟩:=hh2 hW htl;rw [htn,htm] at T;have ⟨HT1,HR1⟩:=hh2 T R;have HBB:=hid (And.intro hba hbc);have i1:(0:Int)≤j:=by omega
 have i2:(j:Int) < L.th.n:=by omega
 have i6:(j:Int) < L.bs.n:=by have:=R.bs.1;have:=R.th.1;omega
 clear htl hD htt hr htn htm R hW htw hy hrc hrm hrl hro hrw hpc0 hpk hba hbc hbl T;unfold woV
 go_enter Tryz.func22,Tryz.ntmps22
 go_upto_region 1 with fail
 rw [←HW.out];obtain ⟨k5,-⟩:=HX.out 5 _ rfl;rw [HTL.out] at k5
 go_upto_region 2 with (first | (refine wpList_load_mid rfl 46 _ rfl tb (tq+j*13) rfl (thC t ta tn tc qa tm qc) _ HRA.out Tryz.underlying46 rfl (by kernel_rfl) ?_) | (refine a_d rfl 46 _ _ rfl W.heap.size (thC t ta tn tc qa tm qc).toArray rfl rfl _ (a_e thN W.heap.size rfl) rfl (by kernel_rfl) (a_M _ _ _ _ _ _ _) ?_;intro V HV))
 rw [HSZ.out];simp only [Act.put];have HX2:=N31;have HT2:=hid (show a_p V (w.heap.size+1) (thC t ta tn tc qa tm qc) by rw [HV.out,HSZ.out];exact a_q (a_e thN _ HSZ.out.symm) rfl);have HB2:=N27;have HS2:=hid (show V.heap.size=w.heap.size+2 by rw [HV.out,a_S];simp [HSZ.out]);have HR2:=hid (b_H HB2.out HR1.out);clear HV HX HB HSZ HRA HW k5 i2;obtain ⟨z10,-⟩:=HT2.out 10 _ rfl;obtain ⟨z0,-⟩:=HT2.out 0 _ rfl;obtain ⟨x0,-⟩:=HX2.out 0 _ rfl;rw [HPK.out] at z0;have hcn:X.code.length=L.co.n:=HR2.out.co.1
 by_cases st0:t.st=0
 ·have hs0:(t.st != 0)=false:=by simp [st0]
  have HST:=hid st0;clear st0
  by_cases hpc:L.co.n≤pk
  ·have i3:(L.co.n:Int)≤pk:=by omega
   go_wp2_with fail
   go_ret
   refine a_i (s:=true) ?_ HB2.out;rw [←HY.out,p_Z,if_neg (by rw [HST.out];simp),if_pos (by rw [HPK.out];omega)]
  ·have i3:(pk:Int) < L.co.n:=by omega
   have i4:(0:Int)≤pk:=by omega
   have i5:¬ ((L.co.n:Int)≤pk):=by omega
   obtain ⟨cb,co,op,A,B,C,hca,hci,y0,y1,y2,y3⟩:=l_W (d_7 HR2.out.co) (show pk < L.co.n by omega)
   have HRI:=hid (show V.rangeAt cb (co+pk*4) [.int .i64 op,.int .i64 A,.int .i64 B,.int .i64 C] from fun x v hx=>by
    match x,hx with
    | 0,hx=>cases hx;exact y0
    | 1,hx=>cases hx;exact y1
    | 2,hx=>cases hx;exact y2
    | 3,hx=>cases hx;exact y3)
   rw [hca] at x0;have HIN:=N202
   have HYG:=hid (show m_J X t (bfW X j) (op,A,B,C)=y by
    rw [←HY.out,p_Z,if_neg (by rw [HST.out];simp),if_neg (by rw [HPK.out];omega),HPK.out,show inW X (pk:Int)=(op,A,B,C) by rw [inW,Int.toNat_natCast,List.getD_eq_getElem?_getD,hci];rfl])
   clear y0 y1 y2 y3 hci hca
   go_upto_region 7 with (first | (refine wpList_load_mid rfl 66 _ rfl cb (co+pk*4) rfl [.int .i64 op,.int .i64 A,.int .i64 B,.int .i64 C] _ HRI.out Tryz.underlying66 rfl (by kernel_rfl) ?_) | (refine a_d rfl 66 _ _ rfl V.heap.size #[.int .i64 op,.int .i64 A,.int .i64 B,.int .i64 C] rfl rfl _ (a_e [.int .i64 0,.int .i64 0,.int .i64 0,.int .i64 0] V.heap.size rfl) rfl (by kernel_rfl) (by simp [Value.oneCell']) ?_;intro U HU))
   rw [HS2.out];have HI3:=hid (show a_p U (w.heap.size+2) [.int .i64 op,.int .i64 A,.int .i64 B,.int .i64 C] by rw [HU.out,HS2.out];exact a_q (a_e [.int .i64 0,.int .i64 0,.int .i64 0,.int .i64 0] _ HS2.out.symm) rfl);have HX3:=N164;have HT3:=hid (show a_p U (w.heap.size+1) (thC t ta tn tc qa tm qc) by rw [HU.out];exact a_k (by have:=HS2.out;omega) (a_s _ HT2.out));have HB3:=N151;have HR3:=hid (b_H HB3.out HR1.out);have HF3:=hid (a_w (a_B HB3.out) HT1.out);have b0:=a_t HB3.out HBB.out.2;obtain ⟨x4,-⟩:=HX3.out 4 _ rfl;rw [HBB.out.1] at x4;obtain ⟨x3,-⟩:=HX3.out 3 _ rfl;obtain ⟨u0,-⟩:=HI3.out 0 _ rfl;have HOR:=hid (show 0≤op∧op < 27 from (d_R HIN.out).1);clear HU HX2 HT2 HB2 HR2 HS2 HRI z0 z10 x0 i3 i4 i5 hcn hs0 hpc
   rcases (show op=17∨(op=18∨op=19∨op=20∨op=21)∨op=22∨op=23∨(op≠17∧op≠18∧op≠19∧op≠20∧op≠21∧op≠22∧op≠23) by omega) with rfl | h | rfl | rfl | h
   ·have HYV:=hid (show decide (D=0∨(bl:Int) < D)=y by rw [←HYG.out,m_J,if_pos rfl,HD.out,HBL.out])
    by_cases d0:D=0
    ·subst d0
     go_wp2_with fail
     go_ret
     exact a_i (s:=true) (by rw [←HYV.out];simp) HB3.out
    ·have hd0:(D==0)=false:=by simpa using d0
     have HYW:=hid (show decide ((bl:Int) < D)=y by rw [←HYV.out];simp [d0])
     go_wp2_with fail
     go_ret
     exact a_i HYW.out.symm HB3.out
   ·have HYV:=hid (show decide (bl=0)=y by rw [←HYG.out,m_J,if_neg (by simp;omega),if_pos h,HBL.out]);have HYW:=hid (show ((bl:Int)==0)=y by rw [←HYV.out];by_cases e:bl=0 <;> simp [e])
    rcases h with rfl | rfl | rfl | rfl <;>
    ·go_wp2_with fail
     go_ret
     exact a_i HYW.out.symm HB3.out
   ·have HYV:=hid (show t.lf.all (fun n=>decide (n=0))=y by rw [←HYG.out,m_J,if_neg (by simp),if_neg (by simp),if_pos rfl])
    have HLN:=hid (show ∀ z∈t.lf,0≤z by
     have h:=HRT.out;simp only [a_Q,b_6,Bool.and_eq_true,decide_eq_true_eq,List.all_eq_true] at h;exact fun z hz=>(h.2.2 z hz).1)
    have HM8:=hid (show tm≤8 by
     have h:=HRT.out;simp only [a_Q,b_6,Bool.and_eq_true,decide_eq_true_eq,List.all_eq_true] at h;have:=h.2.1;have:=HTN.out.2;omega)
    obtain ⟨z12,-⟩:=HT3.out 12 _ rfl
    go_wp2_with fail
    clear z12 b0 x4 x3
    go_loopw [80] (fun i wr=>∃ k:Nat,k≤tm∧i=.int .i64 k∧Hid (∀ i z,i < k→t.lf[i]?=some z→z=0)∧wr=U) (fun i _=>tm - (intOf i).toNat)
    case atStart=>exact ⟨0,Nat.zero_le _,rfl,fun i z hi=>by omega,rfl⟩
    case round =>
     obtain ⟨k,hk,rfl,hz,rfl⟩:=hrel
     by_cases hlt:k < tm
     ·obtain ⟨b,o,z,hq,hx,hc⟩:=h_e (d_7 HF3.out.lf) hlt;subst hq;have i3:(k:Int) < tm:=by omega
      have i4:(0:Int)≤k:=by omega
      have hz0:=HLN.out z (List.mem_of_getElem? hx);have hm8:=HM8.out;have HXX:=hid hx;clear hx
      by_cases e:0 < z
      ·go_wp2_with fail
       go_ret
       refine a_i (s:=false) ?_ HB3.out;rw [←HYV.out,List.all_eq_false];exact ⟨z,List.mem_of_getElem? HXX.out,by simp;omega⟩
      ·obtain rfl:z=0:=by omega
       go_wp2_with fail
       go_roundw
       case rel =>
        refine ⟨k+1,by omega,by go_num,fun i z hi hz2=>?_,trivial⟩
        by_cases e2:i=k
        ·subst e2;rw [HXX.out] at hz2;cases hz2;rfl
        ·exact hz.out i z (by omega) hz2
       case measure=>simp [intOf];omega
     ·obtain rfl:k=tm:=by omega
      go_wp2_with fail
      go_ret
      refine a_i (s:=true) ?_ HB3.out;rw [←HYV.out,List.all_eq_true.2];intro z hz2;obtain ⟨i,hi,rfl⟩:=List.mem_iff_getElem.1 hz2;exact decide_eq_true (hz.out i _ (by have:=HTN.out.2;omega) (List.getElem?_eq_getElem hi))
   ·have HYV:=hid (show (decide (bl=0)&&(decide (a_I X.ws X.ts (rgt t B)≠0)||decide (b_M X.ws X.ts (rgt t B)≠rgt t A)))=y by rw [←HYG.out,m_J,if_neg (by simp),if_neg (by simp),if_neg (by simp),if_pos rfl,HBL.out]);have hg:=c_8 HIN.out (.inr (.inr (.inr (show (23:Int)≤23∧(23:Int)≤25 by decide))));obtain ⟨ra,hra,hra8⟩:=a_6 hg.1;obtain ⟨rb,hrb,hrb8⟩:=a_6 hg.2.1;simp only at hra hrb;subst hra hrb;rw [show rgt t (ra:Int)=t.r ra from rfl,show rgt t (rb:Int)=t.r rb from rfl] at HYV;obtain ⟨va,hva⟩:=mn (t.r ra);obtain ⟨vb,hvb⟩:=mn (t.r rb);rw [hva,hvb] at HYV;obtain ⟨lv,hlv⟩:=mn (b_M X.ws X.ts vb);obtain ⟨le,hle⟩:=mn (a_I X.ws X.ts vb)
    have HMK:=hid (show ∀ u,Below U.heap.size U u→Calls Tryz.prog 51 #[.agg #[.slice L.ws.a L.ws.n L.ws.c,.slice L.ts.a L.ts.n L.ts.c],.int .i64 vb] u (fun e w'=>e=.returned (.tuple #[.int .i64 lv,.int .i64 le])∧Below u.heap.size u w') from fun u hu=>by
     have h:=d_V L.ws.a L.ts.a L.ws.n L.ws.c L.ts.n L.ts.c X.ws X.ts vb u (a_r (a_B hu) HR3.out.ws).sl (a_r (a_B hu) HR3.out.ts).sl HM.out;rw [hlv,hle] at h;exact h)
    rw [hlv,hle] at HYV;have HVA:=hid hva;obtain ⟨v2,-⟩:=HI3.out 2 _ rfl;obtain ⟨zb,-⟩:=HT3.out (1+rb) _ (c_M t.r rb hrb8 _ _);rw [hvb] at zb;have i3:(0:Int)≤ra:=by omega
    have i4:(ra:Int) < 8:=by omega
    have i5:(0:Int)≤rb:=by omega
    have i6:(rb:Int) < 8:=by omega
    clear hva hvb hlv hle hg;have hG:=o_o w.heap.size L rb vb lv le
    go_upto_region 20 with fail
    clear b0 x4 x3 u0;refine d_f [some 91,some 92,some 93,some 94,some 95,some 96,some 97,some 98,some 99,some 90,some 100,some 101,some 10,some 11] (fun w'=>Below U.heap.size U w') (t_C w.heap.size L rb vb lv le) 100 100 (fun _ _ _=>True) (by kernel_rfl) (by kernel_rfl) (by decide) rfl ((Below.refl _ _).drew) ?_ ?_
    ·show StepsL _ _ _ _ _ _ _
     refine InvD.c (fun _ _ w1 C _ hK=>oR C hK (h:=by simp [execOp,go_sem,C.o 2 (.pointer (some ⟨w.heap.size,0,none⟩))])) ?_;refine InvD.c (fun _ _ w1 C _ hK=>oR C hK (h:=by simp [execOp,go_sem,C.i 0])) ?_;refine InvD.c (fun a1 vals w1 C K hK=>?_) ?_
     ·have e0:=C.i 1;exact a_f rfl (wp_load_mid 26 _ rfl (w.heap.size) (1) ((a_K a1 _).symm.trans e0) [.slice L.ws.a L.ws.n L.ws.c,.slice L.ts.a L.ts.n L.ts.c] _ (mem_range (a_h C.base HX3.out)) Tryz.underlying26 rfl (by kernel_rfl) (b_P hK C rfl rfl))
     refine InvD.c (fun _ _ w1 C _ hK=>oR C hK (h:=by simp [execOp,go_sem,C.o 6 (.pointer (some ⟨w.heap.size+2,0,none⟩))])) ?_;refine InvD.c (fun _ _ w1 C _ hK=>oR C hK (h:=by simp [execOp,go_sem,C.i 3,a_t C.base v2])) ?_;refine InvD.c (fun _ _ w1 C _ hK=>oR C hK (h:=by simp [execOp,go_sem,C.o 5 (.pointer (some ⟨w.heap.size+1,0,none⟩))])) ?_;refine InvD.c (fun _ _ w1 C _ hK=>oR C hK (h:=by simp [execOp,go_sem,C.i 4,C.i 5,i5,i6])) ?_;refine InvD.c (fun _ _ w1 C _ hK=>oR C hK (h:=by simp [execOp,go_sem,C.i 6,a_t C.base zb])) ?_;refine InvD.c (fun a1 vals w1 C K hK=>?_) ?_
     ·have e0:=C.i 2;have e1:=C.i 7;rw [a_K] at e0 e1;refine a_f rfl (a_N _ _ _ rfl 51 rfl [.agg #[.slice L.ws.a L.ws.n L.ws.c,.slice L.ts.a L.ts.n L.ts.c],.int .i64 vb] (by simp only [List.map_cons,List.map_nil,e0,e1]) (by kernel_rfl) ((HMK.out w1 C.base).mono ?_));rintro e9 w2 ⟨rfl,hb2⟩;exact J57
     refine InvD.c (fun _ _ w1 C _ hK=>oR C hK (h:=by simp [execOp,go_sem,C.i 8])) ?_;refine InvD.c (fun _ _ w1 C _ hK=>oR C hK (h:=by simp [execOp,go_sem,C.i 9])) ?_;refine InvD.c (fun _ _ w1 C _ hK=>oR C hK (h:=by simp [execOp,go_sem,C.i 9])) ?_;refine InvD.c (fun _ _ w1 C _ hK=>oR C hK (h:=by simp [execOp,go_sem,C.i 10])) ?_;refine InvD.c (fun _ _ w1 C _ hK=>oR C hK (h:=by simp [execOp,go_sem,C.i 11])) ?_;exact StepsL.nil
    ·intro vals w1 hb hv hbo;have y10:vals 12=.int .i64 lv:=List.head_eq_of_cons_eq (hv 12 (by decide));have y11:vals 13=.int .i64 le:=List.head_eq_of_cons_eq (hv 13 (by decide));simp only [c_L,Act.put,sA,sB,sC,y10,y11];have HT4:=hid (a_h hb HT3.out);have HI4:=hid (a_h hb HI3.out);have HB4:=hid (a_a HB3.out hb);clear hb hv hbo y10 y11 v2 zb hG HMK i5 i6;obtain ⟨v1,-⟩:=HI4.out 1 _ rfl;obtain ⟨za,-⟩:=HT4.out (1+ra) _ (c_M t.r ra hra8 _ _);rw [HVA.out] at za
     by_cases hb0:bl=0
     ·subst hb0
      by_cases e0:le=0
      ·subst e0;have HYW:=hid (show (lv != va)=y by rw [←HYV.out];by_cases e:lv=va <;> simp [e])
       go_wp2_with fail
       go_ret
       exact a_i HYW.out.symm HB4.out
      ·have hk0:(le != 0)=true:=by simpa using e0
       go_wp2_with fail
       go_ret
       exact a_i (s:=true) (by rw [←HYV.out];simp [e0]) HB4.out
     ·have hk0:((bl:Int)==0)=false:=by simp;omega
      go_wp2_with fail
      go_ret
      exact a_i (s:=false) (by rw [←HYV.out];simp [hb0]) HB4.out
   ·have HYV:=hid (show true=y by rw [←HYG.out,m_J,if_neg h.1,if_neg (by have:=h;omega),if_neg (by have:=h;omega),if_neg (by have:=h;omega)]);have q17:(op==17)=false:=by simp;omega
    have q18:(op==18)=false:=by simp;omega
    have q19:(op==19)=false:=by simp;omega
    have q20:(op==20)=false:=by simp;omega
    have q21:(op==21)=false:=by simp;omega
    have q22:(op==22)=false:=by simp;omega
    have q23:(op==23)=false:=by simp;omega
    clear h
    go_wp2_with fail
    go_ret
    exact a_i (s:=true) HYV.out.symm HB3.out
 ·have hs0:(t.st != 0)=true:=by simpa using st0
  have HST:=hid st0;clear st0
  go_wp2_with fail
  go_ret
  exact a_i (s:=false) (by rw [←HY.out,p_Z,if_pos HST.out]) HB2.out
end Go.Proofs.YtolabfafgbmdbaaGreatDoor
