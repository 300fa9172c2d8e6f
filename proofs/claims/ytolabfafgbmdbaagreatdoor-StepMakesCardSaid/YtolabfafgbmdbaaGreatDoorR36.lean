import Derived.Test.YtolabfafgbmdbaaGreatDoorR35
import Derived.Test.YtolabfafgbmdbaaGreatDoorR34
import Derived.Test.YtolabfafgbmdbaaGreatDoorR19
import Derived.Test.YtolabfafgbmdbaaGreatDoorR15
import Derived.Test.YtolabfafgbmdbaaGreatDoorR0
namespace Go.Proofs.YtolabfafgbmdbaaGreatDoor
open Go.ChangeShapes Go.WideShapes Go.ChangeAt Go.RowKit
open Gen
def m_s (n:Nat) (s:Int):Bool:=decide (s < 0)||decide ((n:Int) < s)
def i_9 (n:Nat) (l:List Int) (k:Nat):Bool:=(l.take k).any (m_s n)
theorem k_O {n k:Nat} {l:List Int} {s:Int} (h:l[k]?=some s):i_9 n l (k+1)=(i_9 n l k||m_s n s):=by
 unfold i_9;rw [List.take_add_one,h];simp
theorem m_u {n k:Nat} {l:List Int} (h:l.length=k):i_9 n l k=l.any (m_s n):=by
 unfold i_9;rw [List.take_of_length_le (by omega)]
theorem p_q {code:List Ins} {starts ws ts:List Int} {D:Int} (h:b_q code=false):c_2 code starts ws ts D=1:=by
 unfold c_2;rw [if_neg (by rw [h];decide)]
theorem p_r {code:List Ins} {starts ws ts:List Int} {D:Int} (h:b_q code=true) (h2:c_E ws ts=false):c_2 code starts ws ts D=1:=by
 have e:c_r ws ts starts.length D=1:=by unfold c_r;rw [if_neg (by rw [h2];decide)]
 unfold c_2;rw [if_pos h,if_neg (by rw [e];decide),e]
theorem g_8 {code:List Ins} {starts ws ts:List Int} {D:Int} (h:b_q code=true) (h2:c_E ws ts=true) (h3:¬ (1≤starts.length∧starts.length≤8∧0≤D∧D≤8)):c_2 code starts ws ts D=2:=by
 have e:c_r ws ts starts.length D=2:=by
  unfold c_r;rw [if_pos h2,if_neg (by simp only [b_r,decide_eq_true_eq];omega)]
 unfold c_2;rw [if_pos h,if_neg (by rw [e];decide),e]
theorem m_e {starts ws ts:List Int} {D:Int} (h2:c_E ws ts=true) (h3:1≤starts.length∧starts.length≤8∧0≤D∧D≤8):c_r ws ts starts.length D=0:=by
 unfold c_r;rw [if_pos h2,if_pos (by simp only [b_r,decide_eq_true_eq];omega)]
theorem p_t {code:List Ins} {starts ws ts:List Int} {D:Int} (h:b_q code=true) (h2:c_E ws ts=true) (h3:1≤starts.length∧starts.length≤8∧0≤D∧D≤8) (h4:starts.any (m_s code.length)=true):c_2 code starts ws ts D=3:=by
 unfold c_2;rw [if_pos h,if_pos (m_e h2 h3),if_neg];intro ha;obtain ⟨s,hs,ho⟩:=List.any_eq_true.1 h4;have:=of_decide_eq_true (List.all_eq_true.1 ha s hs);simp only [m_s,Bool.or_eq_true,decide_eq_true_eq] at ho
 omega
theorem m_t {code:List Ins} {starts:List Int} (h4:starts.any (m_s code.length)=false):∀ s∈starts,0≤s∧s≤code.length:=by
 intro s hs;have:=List.any_eq_false.1 h4 s hs;simp only [m_s,Bool.or_eq_true,decide_eq_true_eq] at this
 omega
theorem p_s {code:List Ins} {starts ws ts:List Int} {D:Int} (h:b_q code=true) (h2:c_E ws ts=true) (h3:1≤starts.length∧starts.length≤8∧0≤D∧D≤8) (h4:starts.any (m_s code.length)=false):c_2 code starts ws ts D=0:=by
 unfold c_2;rw [if_pos h,if_pos (m_e h2 h3),if_pos];exact List.all_eq_true.2 fun s hs=>decide_eq_true (m_t h4 s hs)
def j_J (t:Thr):Thr:={ t with fs:=t.fs.take 8,lf:=t.lf.take 10 }
def g_Z (l:List Thr) (k:Nat):List Thr:=(l.take k).map j_J
theorem k_r {l:List Thr} {k:Nat} {t:Thr} (h:l[k]?=some t):g_Z l (k+1)=g_Z l k++[j_J t]:=by
 unfold g_Z;rw [List.take_add_one,h];simp
theorem n_s {X:Wo}:(h_p X 0==1)=!a_5 X:=by
 unfold h_p
 cases a_5 X with
 | false=>rfl
 | true =>
  simp only [if_true]
  split <;> rfl
theorem n_z {l:List Thr} {k:Nat} (h:∀ t∈l,∀ i,i < 8→(Lit.int .i64 (t.r i)).wf=true):∀ t∈g_Z l k,∀ i,i < 8→(Lit.int .i64 (t.r i)).wf=true:=by
 intro t ht;obtain ⟨u,hu,rfl⟩:=List.mem_map.1 ht;exact h u (List.mem_of_mem_take hu)
theorem q_o {X:Wo} (h:∀ t∈X.th,∀ i,i < 8→(Lit.int .i64 (t.r i)).wf=true):∀ j i,i < 8→(Lit.int .i64 ((thW X j).r i)).wf=true:=by
 intro j i hi;unfold thW;rw [List.getD_eq_getElem?_getD]
 cases e:X.th[j]? with
 | none=>show (Lit.int .i64 0).wf=true;decide
 | some t=>exact h t (List.mem_of_getElem? e) i hi
theorem p_n {k n:Nat} (h:k < n):n - ((k:Int)+1).toNat < n - (k:Int).toNat:=by omega
theorem i_f {α:Type} {l:List α} {n k:Nat} (h:l.length=n):l.take (min n k)=l.take k:=by
 rcases Nat.le_total n k with h1 | h1
 ·rw [Nat.min_eq_left h1,List.take_of_length_le (by omega),List.take_of_length_le (by omega)]
 ·rw [Nat.min_eq_right h1]
theorem h_i {w:World} {a:Option Addr} {n k:Nat} {fs:List Int} (S:Sl w a n fs) (hk:k≤n):Sl w a k (fs.take k):=by
 have hn:=S.1;refine ⟨by rw [List.length_take];omega,?_⟩
 by_cases h0:k=0
 ·exact .inl h0
 ·obtain ⟨b,o,e,R⟩:=S.2.resolve_left (by omega);refine .inr ⟨b,o,e,fun i hi=>?_⟩;rw [List.length_take] at hi;rw [R i (by omega)];simp [List.getD_eq_getElem?_getD,show i < k by omega]
end Go.Proofs.YtolabfafgbmdbaaGreatDoor
namespace Go.Proofs.YtolabfafgbmdbaaGreatDoor
open Go.ChangeShapes Go.WideShapes Go.ChangeAt Go.RowKit
theorem a_Z {ops:Array Oper} {o:Oper} {a:Act} {j t:Nat} {b:Bool} (hg:o.guard=some (j,b)) (ht:a.tmps[t]?.getD undef=.bool b) (hd:((ops[j]?).bind (·.dst))=some t):Region.wanted o (yielded ops a.tmps)=true:=by
 have e:a.tmps[t]?=some (.bool b):=by
  cases h:a.tmps[t]? with
  | none=>rw [h] at ht;simp [undef] at ht
  | some v=>rw [h] at ht;simp at ht;rw [ht]
 simp only [Region.wanted,hg,yielded,hd,Option.bind_some,e];simp
theorem b_o {P:Program} {ops:Array Oper} {o:Oper} {a:Act} {w:World} {K:Act→World→Prop} {Q:Exit→Act→World→Prop} {E:Prop} (hw:Region.wanted o (yielded ops a.tmps)=true) (h:Oper.wp P o a w K Q):if Region.wanted o (yielded ops a.tmps)=true then Oper.wp P o a w K Q else E:=by
 rw [if_pos hw];exact h
section
variable {P:Program} {ops:Array Oper} {Q:Exit→Act→World→Prop}
def InvF (l:List (Option Tmp)) (B:World→Prop) (S:a_6) (pi pj:Nat) (p:e_i) (a0:Act) (_:World) (listed:Array Bool) (a:Act) (w:World):Prop:=
 ∃ vals,a=b_Y a0 l vals 0∧B w∧(∀ k,k < l.length→Up listed k→(∀ i∈a_Q S k,Up listed i)∧b_w S k ((a_Q S k).map vals) w)∧(pi < l.length→pj < l.length→Up listed pi→Up listed pj→p (vals pi) (vals pj) w) ∧
  ∀ j t,l[j]?=some (some t)→¬ Up listed j→vals j=a0.eval (.tmp t)
theorem InvF.cons {l:List (Option Tmp)} {B:World→Prop} {S:a_6} {pi pj:Nat} {p:e_i} {a0:Act} {w0:World} {k:Nat} {o:Oper} {rest:List Oper} {ws:List Nat}
  (hw:b_R .any o=ws) (hl:l[k]?=some o.dst) (hn:decide (b_f l).Nodup=true) (hd:ws.all (fun j=>decide (j < l.length))=true)
  (hD:(a_Q S k).all (fun i=>(k::(ws++ws.flatMap (a_Q S))).contains i)=true)
  (h:∀ a1 vals w1,CameD l B S pi pj p a0 ws a1 vals w1→(∀ j t,l[j]?=some (some t)→(a_Q S j).contains k=true→Nat.blt t a0.tmps.size=true→a1.eval (.tmp t)=a0.eval (.tmp t))→∀ K:Act→World→Prop,f_g S pi pj p B k vals o.dst a1 w1 K →
   if Region.wanted o (yielded ops a1.tmps)=true then Oper.wp P o a1 w1 K Q else K (a1.put o.dst undef) w1)
  (hs:StepsL P .any ops Q (InvF l B S pi pj p a0 w0) (k+1) rest):StepsL P .any ops Q (InvF l B S pi pj p a0 w0) k (o::rest):=by
 have hn:=of_decide_eq_true hn;refine StepsL.cons hw (fun listed a1 w1 hI hu hu2 K hK=>?_) hs;obtain ⟨vals,rfl,hb,hv,hp,hF⟩:=hI;have hlt:=N23
 have hall:∀ i,i∈ws++ws.flatMap (a_Q S)→Up listed i:=fun i hi=>by
  exact J36
 have hval:∀ j t,l[j]?=some (some t)→t < a0.tmps.size→(b_Y a0 l vals 0).eval (.tmp t)=vals j:=fun j t hj ht=>by
  exact J35
 refine h _ vals w1 ⟨hval,fun t ht=>?_,hb,fun j hj=>(hv j (hlt j hj) (hu2 j hj)).2,fun h1 h2 l1 l2=>hp l1 l2 (hall _ h1) (hall _ h2)⟩ (fun j t hj hm hs=>?_) K (fun v w2 h1 h2 h3 h4 h5 h6 h7=>?_)
 ·exact J19
 ·rw [hval j t hj (by simpa [Nat.blt_eq] using hs)];refine hF j t hj (fun hup=>hu ((hv j ?_ hup).1 k (List.contains_iff_mem.1 hm)));exact (List.getElem?_eq_some_iff.1 hj).1
 ·refine hK.out _ _ ⟨fun i=>if i=k then v else vals i,d_O hn hl v,h2,fun j hjl hj=>?_,fun l1 l2 u1 u2=>?_,fun j t hj hup=>?_⟩
  ·by_cases e:j=k
   ·exact J28
   ·exact J21
  ·exact J14
  ·show (if j=k then v else vals j)=_
   by_cases e:j=k
   ·subst e;exact absurd c_L hup
   ·rw [if_neg e];exact hF j t hj (fun h=>hup (a_g h))
theorem f_9 {id:Nat} {ol:List Oper} {a:Act} {w:World} (l:List (Option Tmp)) (B:World→Prop) (S:a_6) (pi pj:Nat) (p:e_i) (hm:P.follows .mixedOrders=true) (hb:g_T .any ol.toArray=true) (hn:decide (b_f l).Nodup=true) (hlen:l.length=ol.length)
  (h0:B w.drew) (hs:StepsL P .any ol.toArray Q (InvF l B S pi pj p a w) 0 ol)
  (hend:∀ vals w',B w'→(∀ k,k < l.length→b_w S k ((a_Q S k).map vals) w')→(pi < l.length→pj < l.length→p (vals pi) (vals pj) w')→Q .normal (b_Y a l vals 0) w'):(Code.region id ol.toArray true).wp P Q a w:=by
 refine a_X (InvF l B S pi pj p) hm hb (fun listed hl=>⟨c_1 a l,(putL_first (of_decide_eq_true hn)).symm,h0,fun k hkl hk=>absurd hk (hl k (by omega)),fun l1 _ u1 _=>absurd u1 (hl _ (by omega)),fun j t hj _=>?_⟩) hs (fun listed a' w' hI hu=>?_)
 ·show c_1 a l j=a.tmps.getD t undef
  rw [c_1,hj]
 ·obtain ⟨vals,rfl,h1,h2,h3,-⟩:=hI;exact hend vals w' h1 (fun k hk=>(h2 k hk (hu k)).2) (fun l1 l2=>h3 l1 l2 (hu _) (hu _))
end
end Go.Proofs.YtolabfafgbmdbaaGreatDoor
