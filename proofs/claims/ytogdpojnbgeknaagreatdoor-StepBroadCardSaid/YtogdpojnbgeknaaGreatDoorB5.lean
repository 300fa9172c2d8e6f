import Derived.Test.YtogdpojnbgeknaaGreatDoorB2
import Derived.Test.YtogdpojnbgeknaaGreatDoorB0
import Derived.Test.YtogdpojnbgeknaaGreatDoorB4
import Derived.Test.YtogdpojnbgeknaaGreatDoorRows
import Derived.Test.YtogdpojnbgeknaaGreatDoorB3
import Derived.Test.YtogdpojnbgeknaaGreatDoorB1
import Derived.WalkKit
import Derived.ProofKit
import Derived.Handy
import Derived.Lib.Hide
import Derived.BigQuiet
import Derived.Deep.QuietTactic
import Derived.RegionTactic
import Derived.Laws.CopyOwn
import Derived.Carry
import Derived.Deep.SlicePairs
import Derived.WalkSmall
set_option maxRecDepth 100000
set_option maxHeartbeats 16000000
namespace Go.Proofs.YtogdpojnbgeknaaGreatDoor
def c_N (a:Act):List (Option Tmp)→(Nat→Value)→Nat→Act
 | [],_,_=>a
 | s::l,vals,k=>c_N (a.put s (vals k)) l vals (k+1)
def b_N (l:List (Option Tmp)):List Tmp:=l.filterMap id
theorem d_6 (a:Act) (t:Tmp) (v:Value):(a.put (some t) v).tmps=a.tmps.setIfInBounds t v:=rfl
theorem c_X (l:List (Option Tmp)) (vals:Nat→Value):∀ (a:Act) (k:Nat),(c_N a l vals k).defers=a.defers:=by
 induction l with
 | nil=>intro a k;rfl
 | cons s l ih =>
  intro a k
  show (c_N (a.put s (vals k)) l vals (k+1)).defers=_
  rw [ih]
  cases s <;> rfl
theorem d_W (l:List (Option Tmp)) (vals:Nat→Value):∀ (a:Act) (k:Nat),(c_N a l vals k).tmps.size=a.tmps.size:=by
 induction l with
 | nil=>intro a k;rfl
 | cons s l ih =>
  intro a k
  show (c_N (a.put s (vals k)) l vals (k+1)).tmps.size=_
  rw [ih]
  cases s with
  | none=>rfl
  | some t=>rw [d_6,Array.size_setIfInBounds]
theorem c_V (t:Tmp) (l:List (Option Tmp)) (vals:Nat→Value):∀ (a:Act) (k:Nat),some t ∉ l→(c_N a l vals k).tmps[t]?=a.tmps[t]?:=by
 induction l with
 | nil=>intro a k _;rfl
 | cons s l ih =>
  intro a k h
  show (c_N (a.put s (vals k)) l vals (k+1)).tmps[t]?=_
  rw [ih _ _ (fun h2=>h (List.mem_cons_of_mem _ h2))]
  cases s with
  | none=>rfl
  | some u =>
   have hne:u≠t:=fun e=>h (by rw [e];exact List.mem_cons_self)
   rw [d_6,Array.getElem?_setIfInBounds_ne hne]
theorem c_9 (t:Tmp):∀ (l:List (Option Tmp)) (vals:Nat→Value) (a:Act) (k j:Nat),(b_N l).Nodup→l[j]?=some (some t)→t < a.tmps.size→(c_N a l vals k).tmps[t]?=some (vals (k+j))
 | [],_,_,_,_,_,h,_=>by simp at h
 | s::l,vals,a,k,0,hn,h,ht=>by
  obtain rfl:s=some t:=by simpa using h
  show (c_N (a.put (some t) (vals k)) l vals (k+1)).tmps[t]?=_
  have hn':t ∉ b_N l:=by
   have:(t::b_N l).Nodup:=hn;exact (List.nodup_cons.1 this).1
  rw [c_V t l vals _ _ (fun h2=>hn' (List.mem_filterMap.2 ⟨_,h2,rfl⟩)),d_6,Array.getElem?_setIfInBounds_self_of_lt ht];rfl
 | s::l,vals,a,k,j+1,hn,h,ht=>by
  show (c_N (a.put s (vals k)) l vals (k+1)).tmps[t]?=_
  have hn':(b_N l).Nodup:=by
   cases s with
   | none=>exact hn
   | some u=>exact (List.nodup_cons.1 (show (u::b_N l).Nodup from hn)).2
  have:=c_9 t l vals (a.put s (vals k)) (k+1) j hn' (by simpa using h) (by cases s with
   | none=>exact ht
   | some u=>rw [d_6,Array.size_setIfInBounds];exact ht)
  rw [this,show k+1+j=k+(j+1) by omega]
theorem n_S {a b:Act} (h1:a.tmps.size=b.tmps.size) (h2:∀ t:Nat,a.tmps[t]?=b.tmps[t]?) (h3:a.defers=b.defers):a=b:=by
 cases a;cases b
 simp only at h1 h2 h3;subst h3
 congr 1
 exact Array.ext_getElem? h2
theorem mem_tmps {l:List (Option Tmp)} {t:Tmp}:some t∈l ↔ ∃ j:Nat,l[j]?=some (some t):=List.mem_iff_getElem?
theorem l_8:∀ {l:List (Option Tmp)} {t:Tmp} {i j:Nat},(b_N l).Nodup→l[i]?=some (some t)→l[j]?=some (some t)→i=j
 | [],_,_,_,_,h,_=>by simp at h
 | s::l,t,0,0,_,_,_=>rfl
 | s::l,t,0,j+1,hn,h1,h2=>by
  obtain rfl:s=some t:=by simpa using h1
  exact absurd (show t∈b_N l from List.mem_filterMap.2 ⟨some t,List.mem_of_getElem? (show l[j]?=some (some t) by simpa using h2),rfl⟩) (List.nodup_cons.1 (show (t::b_N l).Nodup from hn)).1
 | s::l,t,i+1,0,hn,h1,h2=>by
  obtain rfl:s=some t:=by simpa using h2
  exact absurd (show t∈b_N l from List.mem_filterMap.2 ⟨some t,List.mem_of_getElem? (show l[i]?=some (some t) by simpa using h1),rfl⟩) (List.nodup_cons.1 (show (t::b_N l).Nodup from hn)).1
 | s::l,t,i+1,j+1,hn,h1,h2=>by
  have hn':(b_N l).Nodup:=by
   cases s with
   | none=>exact hn
   | some u=>exact (List.nodup_cons.1 (show (u::b_N l).Nodup from hn)).2
  have:=l_8 hn' (show l[i]?=some (some t) by simpa using h1) (show l[j]?=some (some t) by simpa using h2)
  omega
theorem e_v {a:Act} {l:List (Option Tmp)} {vals:Nat→Value} {j:Nat} {s:Option Tmp} (hn:(b_N l).Nodup) (hj:l[j]?=some s) (v:Value):(c_N a l vals 0).put s v=c_N a l (fun i=>if i=j then v else vals i) 0:=by
 have hsz:∀ b:Act,((b.put s v).tmps.size=b.tmps.size):=fun b=>by cases s with
  | none=>rfl
  | some t=>rw [d_6,Array.size_setIfInBounds]
 refine n_S (by rw [hsz,d_W,d_W]) (fun t=>?_) (by
  rw [c_X]
  cases s with
  | none=>exact c_X _ _ _ _
  | some t=>exact c_X _ _ _ _)
 by_cases hm:some t∈l
 ·obtain ⟨i,hi⟩:=mem_tmps.1 hm
  by_cases ht:t < a.tmps.size
  ·rw [c_9 t l _ a 0 i hn hi ht];simp only [Nat.zero_add]
   by_cases e:s=some t
   ·subst e;have:=l_8 hn hi hj;rw [if_pos this,d_6,Array.getElem?_setIfInBounds_self_of_lt (by rw [d_W];exact ht)]
   ·have hne:i≠j:=fun h=>e (by rw [h,hj] at hi;exact Option.some.inj hi)
    rw [if_neg hne];have h0:=c_9 t l vals a 0 i hn hi ht;rw [Nat.zero_add] at h0
    cases s with
    | none=>exact h0
    | some u=>rw [d_6,Array.getElem?_setIfInBounds_ne (fun h=>e (by rw [h]))];exact h0
  ·rw [Array.getElem?_eq_none_iff.2 (by rw [hsz,d_W];omega),Array.getElem?_eq_none_iff.2 (by rw [d_W];omega)]
 ·rw [c_V t l _ a 0 hm]
  cases s with
  | none=>exact c_V t l vals a 0 hm
  | some u =>
   have hne:u≠t:=fun h=>hm (by rw [←h];exact List.mem_of_getElem? hj)
   rw [d_6,Array.getElem?_setIfInBounds_ne hne];exact c_V t l vals a 0 hm
def e_M (a:Act) (l:List (Option Tmp)) (j:Nat):Value:=match l[j]? with
 | some (some t)=>a.tmps.getD t undef
 | _=>undef
theorem putL_first {a:Act} {l:List (Option Tmp)} (hn:(b_N l).Nodup):c_N a l (e_M a l) 0=a:=by
 refine n_S (d_W _ _ _ _) (fun t=>?_) (c_X _ _ _ _)
 by_cases hm:some t∈l
 ·obtain ⟨i,hi⟩:=mem_tmps.1 hm
  by_cases ht:t < a.tmps.size
  ·rw [c_9 t l _ a 0 i hn hi ht,Nat.zero_add,e_M,hi];simp [ht]
  ·rw [Array.getElem?_eq_none_iff.2 (by rw [d_W];omega),Array.getElem?_eq_none_iff.2 (by omega)]
 ·exact c_V t l _ a 0 hm
section
variable {P:Program} {ops:Array Oper} {Q:Exit→Act→World→Prop}
def InvV (l:List (Option Tmp)) (B:World→Prop) (V:Nat→Value→World→Prop) (a0:Act) (_:World) (listed:Array Bool) (a:Act) (w:World):Prop:=
 ∃ vals,a=c_N a0 l vals 0∧B w∧∀ k,k < l.length→Up listed k→V k (vals k) w
structure Came (l:List (Option Tmp)) (B:World→Prop) (V:Nat→Value→World→Prop) (a0:Act) (ws:List Nat) (a1:Act) (vals:Nat→Value) (w1:World):Prop where
 val:∀ j t,l[j]?=some (some t)→t < a0.tmps.size→a1.eval (.tmp t)=vals j
 old:∀ t,l.contains (some t)=false→a1.eval (.tmp t)=a0.eval (.tmp t)
 base:B w1
 dep:∀ j,j∈ws→V j (vals j) w1
theorem InvV.cons {l:List (Option Tmp)} {B:World→Prop} {V:Nat→Value→World→Prop} {a0:Act} {w0:World} {k:Nat} {o:Oper} {rest:List Oper} {ws:List Nat}
  (hw:c_D .any o=ws) (hl:l[k]?=some o.dst) (hn:decide (b_N l).Nodup=true) (hd:ws.all (fun j=>decide (j < l.length))=true)
  (h:∀ a1 vals w1,Came l B V a0 ws a1 vals w1→∀ K:Act→World→Prop,(∀ v w2,V k v w2→B w2→(∀ j u,j≠k→V j u w1→V j u w2)→K (a1.put o.dst v) w2) →
   if Region.wanted o (yielded ops a1.tmps)=true then Oper.wp P o a1 w1 K Q else K (a1.put o.dst undef) w1)
  (hs:StepsL P .any ops Q (InvV l B V a0 w0) (k+1) rest):StepsL P .any ops Q (InvV l B V a0 w0) k (o::rest):=by
 have hn:=of_decide_eq_true hn;refine StepsL.cons hw (fun listed a1 w1 hI hu hu2 K hK=>?_) hs;obtain ⟨vals,rfl,hb,hv⟩:=hI;refine h _ vals w1 ⟨fun j t hj ht=>?_,fun t ht=>?_,hb,fun j hj=>hv j (of_decide_eq_true (List.all_eq_true.1 hd j hj)) (hu2 j hj)⟩ K (fun v w2 h1 h2 h3=>?_)
 ·exact J35
 ·exact J21
 ·refine hK.out _ _ ⟨fun i=>if i=k then v else vals i,e_v hn hl v,h2,fun j hjl hj=>?_⟩
  show V j (if j=k then v else vals j) w2
  by_cases e:j=k
  ·subst e;rw [if_pos rfl];exact h1
  ·rw [if_neg e];exact h3 j _ e (hv j hjl (a_b hj e))
theorem e_E {id:Nat} {ol:List Oper} {a:Act} {w:World} (l:List (Option Tmp)) (B:World→Prop) (V:Nat→Value→World→Prop) (hm:P.follows .mixedOrders=true) (hb:i_z .any ol.toArray=true) (hn:decide (b_N l).Nodup=true) (hlen:l.length=ol.length)
  (h0:B w.drew) (hs:StepsL P .any ol.toArray Q (InvV l B V a w) 0 ol)
  (hend:∀ vals w',B w'→(∀ k,k < l.length→V k (vals k) w')→Q .normal (c_N a l vals 0) w'):(Code.region id ol.toArray true).wp P Q a w:=by
 refine b_u (InvV l B V) hm hb (fun listed hl=>⟨e_M a l,(putL_first (of_decide_eq_true hn)).symm,h0,fun k hkl hk=>?_⟩) hs (fun listed a' w' hI hu=>?_)
 ·exact absurd hk (hl k (by omega))
 ·obtain ⟨vals,rfl,h1,h2⟩:=hI;exact hend vals w' h1 (fun k hk=>h2 k hk (hu k))
theorem a_A {o:Oper} {a:Act} {w w':World} {K:Act→World→Prop} {v:Value} (h:(execOp a.eval o).run P w=.ok (.value v) w') (hK:K (a.put o.dst v) w'):Oper.wp P o a w K Q:=by
 unfold Oper.wp;rw [h];exact hK
theorem a_i {o:Oper} {a:Act} {w:World} {K:Act→World→Prop} {E:Prop} (hg:o.guard=none) (h:Oper.wp P o a w K Q):if Region.wanted o (yielded ops a.tmps)=true then Oper.wp P o a w K Q else E:=by
 rw [if_pos (by simp [Region.wanted,hg])];exact h
def VL (vl:List Value) (kS:Nat) (F:World→Prop) (k:Nat) (v:Value) (w:World):Prop:=if k=kS then F w else v=vl.getD k undef
section
variable {l:List (Option Tmp)} {B:World→Prop} {vl:List Value} {kS:Nat} {F:World→Prop} {a0 a1:Act} {ws:List Nat} {vals:Nat→Value} {w1 w2:World} {k:Nat} {K:Act→World→Prop} {dst:Option Tmp}
theorem h_T {v:Value} (h:VL vl kS F k v w1) (hne:(k==kS)=false):v=vl.getD k undef:=by
 have:k≠kS:=by simpa using hne
 rw [VL,if_neg this] at h;exact h
theorem got (C:Came l B (VL vl kS F) a0 ws a1 vals w1) (j t:Nat) (hj:l[j]?=some (some t)) (hs:Nat.blt t a0.tmps.size=true) (hm:ws.contains j=true) (hne:(j==kS)=false):a1.eval (.tmp t)=vl.getD j undef:=
 (C.val j t hj (by simpa [Nat.blt_eq] using hs)).trans (h_T (C.dep j (List.contains_iff_mem.1 hm)) hne)
theorem a_P (a:Act) (t:Tmp):a.tmps[t]?.getD undef=a.eval (.tmp t):=by show _=a.tmps.getD t undef;rw [Array.getD_eq_getD_getElem?]
theorem d_2 (C:Came l B (VL vl kS F) a0 ws a1 vals w1) (j t:Nat) (hj:l[j]?=some (some t)) (hs:Nat.blt t a0.tmps.size=true) (hm:ws.contains j=true) (hne:(j==kS)=false):a1.tmps[t]?.getD undef=vl.getD j undef:=(a_P a1 t).trans (got C j t hj hs hm hne)
theorem c_A (hK:∀ v w2,VL vl kS F k v w2→B w2→(∀ j u,j≠k→VL vl kS F j u w1→VL vl kS F j u w2)→K (a1.put dst v) w2) {v:Value} (hv:v=vl.getD k undef) (hk:(k==kS)=false) (hB:B w2) (hF:F w1→F w2):K (a1.put dst v) w2:=by
 have hne:k≠kS:=by simpa using hk
 refine hK v w2 (by rw [VL,if_neg hne];exact hv) hB (fun j u _ h=>?_);unfold VL at h ⊢
 by_cases e:j=kS
 ·rw [if_pos e] at h ⊢;exact hF h
 ·rw [if_neg e] at h ⊢;exact h
theorem a_K (hK:∀ v w2,VL vl kS F k v w2→B w2→(∀ j u,j≠k→VL vl kS F j u w1→VL vl kS F j u w2)→K (a1.put dst v) w2) (C:Came l B (VL vl kS F) a0 ws a1 vals w1) {v:Value} (hv:v=vl.getD k undef) (hk:(k==kS)=false):K (a1.put dst v) w1:=c_A hK hv hk C.base id
theorem d_I (hK:∀ v w2,VL vl kS F kS v w2→B w2→(∀ j u,j≠kS→VL vl kS F j u w1→VL vl kS F j u w2)→K (a1.put dst v) w2) {v:Value} (hF:F w2) (hB:B w2):K (a1.put dst v) w2:=
 hK v w2 (by rw [VL,if_pos rfl];exact hF) hB (fun j u e h=>by unfold VL at h ⊢;rw [if_neg e] at h ⊢;exact h)
end
end
end Go.Proofs.YtogdpojnbgeknaaGreatDoor
namespace Go.Proofs.YtogdpojnbgeknaaGreatDoor
open Go.ChangeShapes Go.WideShapes Go.ChangeAt Go.RowKit
open Gen
def OpB (w:World) (cs:List Value) (w':World):Prop:=Below w.heap.size w w'∧a_p w' w.heap.size cs∧∃ xs:List Value,a_p w' (w.heap.size+1) xs∧xs.length=13
theorem b_X {w w1 w2:World} {cs:List Value} (h:OpB w cs w1) (hb:Below w1.heap.size w1 w2) (hc:0 < cs.length):OpB w cs w2:=by
 obtain ⟨h1,h2,xs,h3,h4⟩:=h;exact ⟨h1.trans (hb.mono (Nat.le_of_lt (a_N h2 hc))),a_h hb h2,xs,a_h hb h3,h4⟩
theorem c_P {w w1 U:World} {xs zs:List Value} (HU:Hid (U=d_u w1 (w.heap.size+1) 0 zs.toArray.toList)) (hx:a_p w1 (w.heap.size+1) xs) (hn:xs.length=13) (hz:zs.length=13):a_p U (w.heap.size+1) zs:=by
 rw [HU.out];exact a_q (xs:=zs) hx (by rw [hz];exact hn.symm)
theorem e_u {w w1 U:World} {cs xs zs:List Value} (HU:Hid (U=d_u w1 (w.heap.size+1) 0 zs.toArray.toList)) (h:OpB w cs w1) (hx:a_p w1 (w.heap.size+1) xs) (hn:xs.length=13) (hz:zs.length=13):OpB w cs U:=
 ⟨a_x HU (Nat.le_succ _) h.1,by rw [HU.out];exact a_j (by omega) h.2.1,zs,c_P HU hx hn hz,hz⟩
theorem d_G (w:World) (t:Thr) (self:Int) (i:In4) (fa:Option Addr) (fn fc:Nat) (la:Option Addr) (ln lc:Nat) {cs:List Value} (hcs:cs=(tkC t fa fn fc la ln lc self i)) :
  ∃ W,W=(w.alloc (Obj.cells (tkC t fa fn fc la ln lc self i).toArray 168)).alloc (Obj.cells thN.toArray 46)∧a_p W w.heap.size cs∧a_p W (w.heap.size+1) thN∧Below w.heap.size w W:=
 ⟨_,rfl,by rw [hcs];exact a_s _ (a_e _ _ rfl),a_e _ _ (by simp),by go_grown⟩
theorem d_F {t:Thr} {self:Int} {i:In4} {fa:Option Addr} {fn fc:Nat} {la:Option Addr} {ln lc:Nat} {cs:List Value} (hcs:cs=(tkC t fa fn fc la ln lc self i)):cs.toArray=(tkC t fa fn fc la ln lc self i).toArray:=by rw [hcs]
end Go.Proofs.YtogdpojnbgeknaaGreatDoor
namespace Go.Proofs.YtogdpojnbgeknaaGreatDoor
open Go.ChangeShapes Go.WideShapes Go.ChangeAt Go.RowKit
def Row (w:World) (b off:Nat) (zs:List Int):Prop:=∀ i,i < zs.length→w.cell? ⟨b,off+i,none⟩=some (.int .i64 (zs.getD i 0))
theorem m_f {w:World} {b off:Nat} {zs:List Int} (o:Obj) (h:Row w b off zs):Row (w.alloc o) b off zs:=fun i hi=>a_8 o (h i hi)
theorem u_Y {w:World} {b off:Nat} {zs:List Int} (h:Row w b off zs):Row w.drew b off zs:=h
theorem p_5 {w w':World} {b off:Nat} {zs:List Int} (hb:Below w.heap.size w w') (h:Row w b off zs):Row w' b off zs:=fun i hi=>a_t hb (h i hi)
def Sl (w:World) (a:Option Addr) (n:Nat) (zs:List Int):Prop:=zs.length=n∧(n=0∨∃ b o,a=some ⟨b,o,none⟩∧Row w b o zs)
theorem slA {w:World} {a:Option Addr} {n:Nat} {zs:List Int} (o:Obj) (h:Sl w a n zs):Sl (w.alloc o) a n zs:=
 ⟨h.1,h.2.imp id fun ⟨b,f,e,r⟩=>⟨b,f,e,m_f o r⟩⟩
theorem slB {w w':World} {a:Option Addr} {n:Nat} {zs:List Int} (hb:Below w.heap.size w w') (h:Sl w a n zs):Sl w' a n zs:=
 ⟨h.1,h.2.imp id fun ⟨b,f,e,r⟩=>⟨b,f,e,p_5 hb r⟩⟩
theorem slD {w:World} {a:Option Addr} {n:Nat} {zs:List Int} (h:Sl w a n zs):Sl w.drew a n zs:=h
def SlF (F:Nat) (w:World) (a:Option Addr) (n:Nat) (zs:List Int):Prop:=zs.length=n∧(n=0∨∃ b o,a=some ⟨b,o,none⟩∧F≤b∧Row w b o zs)
theorem SlF.sl {F:Nat} {w:World} {a:Option Addr} {n:Nat} {zs:List Int} (h:SlF F w a n zs):Sl w a n zs:=⟨h.1,h.2.imp id fun ⟨b,o,e,_,r⟩=>⟨b,o,e,r⟩⟩
theorem h_A (F:Nat) (w:World):SlF F w none 0 []:=⟨rfl,.inl rfl⟩
theorem g_p {F:Nat} {w:World} {a:Option Addr} {n:Nat} {zs:List Int} (h:SlF F w a n zs) (p:Addr) (hp:p.block < F) (v:Value):SlF F (w.setCell p v) a n zs:=by
 refine ⟨h.1,h.2.imp id ?_⟩;rintro ⟨b,o,rfl,hf,r⟩;refine ⟨b,o,rfl,hf,fun i hi=>?_⟩;rw [World.cell?_setCell_other]
 ·exact r i hi
 ·intro e;rw [e] at hp;simp at hp;omega
theorem j_7 {F:Nat} {w w':World} {a:Option Addr} {n:Nat} {zs:List Int} (hb:Below w.heap.size w w') (h:SlF F w a n zs):SlF F w' a n zs:=
 ⟨h.1,h.2.imp id fun ⟨b,f,e,hf,r⟩=>⟨b,f,e,hf,p_5 hb r⟩⟩
theorem c_Y {w:World} {a:Option Addr} {n:Nat} {zs:List Int} (h:Sl w a n zs) (hn:1≤n):zs.length=n∧∃ b o,a=some ⟨b,o,none⟩∧Row w b o zs:=
 ⟨h.1,h.2.resolve_left (by omega)⟩
def SlP (Q:Nat→Prop) (w:World) (a:Option Addr) (n:Nat) (zs:List Int):Prop:=zs.length=n∧(n=0∨∃ b o,a=some ⟨b,o,none⟩∧Q b∧Row w b o zs)
theorem SlP.sl {Q:Nat→Prop} {w:World} {a:Option Addr} {n:Nat} {zs:List Int} (h:SlP Q w a n zs):Sl w a n zs:=⟨h.1,h.2.imp id fun ⟨b,o,e,_,r⟩=>⟨b,o,e,r⟩⟩
theorem s_f {w:World} {a:Option Addr} {n:Nat} {zs:List Int} (h:Sl w a n zs):SlP (fun _=>True) w a n zs:=⟨h.1,h.2.imp id fun ⟨b,o,e,r⟩=>⟨b,o,e,trivial,r⟩⟩
theorem c_M {Q:Nat→Prop} {F:Nat} {w:World} {a:Option Addr} {n:Nat} {zs:List Int} (hQ:∀ b,F≤b→Q b) (h:SlF F w a n zs):SlP Q w a n zs:=⟨h.1,h.2.imp id fun ⟨b,o,e,hf,r⟩=>⟨b,o,e,hQ b hf,r⟩⟩
theorem a_n {Q Q':Nat→Prop} {w:World} {a:Option Addr} {n:Nat} {zs:List Int} (hQ:∀ b,Q b→Q' b) (h:SlP Q w a n zs):SlP Q' w a n zs:=⟨h.1,h.2.imp id fun ⟨b,o,e,hf,r⟩=>⟨b,o,e,hQ b hf,r⟩⟩
theorem d_a (Q:Nat→Prop) (w:World):SlP Q w none 0 []:=⟨rfl,.inl rfl⟩
theorem p_D {Q:Nat→Prop} {w:World} {a:Option Addr} {n:Nat} {zs:List Int} (hQ:∀ b,b < w.heap.size→Q b) (h:Sl w a n zs):SlP Q w a n zs:=by
 refine ⟨h.1,?_⟩
 by_cases h0:n=0
 ·exact .inl h0
 ·obtain ⟨b,o,e,r⟩:=h.2.resolve_left h0;exact .inr ⟨b,o,e,hQ b (b_d (r 0 (by have:=h.1;omega))),r⟩
theorem h_R {Q:Nat→Prop} {w w':World} {a:Option Addr} {n:Nat} {zs:List Int} (hb:Below w.heap.size w w') (h:SlP Q w a n zs):SlP Q w' a n zs:=
 ⟨h.1,h.2.imp id fun ⟨b,f,e,q,r⟩=>⟨b,f,e,q,p_5 hb r⟩⟩
theorem t_C {Q:Nat→Prop} {w:World} {a:Option Addr} {n:Nat} {zs:List Int} (o:Obj) (h:SlP Q w a n zs):SlP Q (w.alloc o) a n zs:=
 ⟨h.1,h.2.imp id fun ⟨b,f,e,q,r⟩=>⟨b,f,e,q,m_f o r⟩⟩
theorem c_z {Q:Nat→Prop} {w:World} {a:Option Addr} {n:Nat} {zs:List Int} (p:Addr) (hp:∀ b,Q b→b≠p.block) (v:Value) (h:SlP Q w a n zs):SlP Q (w.setCell p v) a n zs:=by
 refine ⟨h.1,h.2.imp id ?_⟩;rintro ⟨b,o,rfl,hf,r⟩;refine ⟨b,o,rfl,hf,fun i hi=>?_⟩;rw [World.cell?_setCell_other]
 ·exact r i hi
 ·intro e;exact hp b hf (by rw [e])
theorem f_Y {a b:Bool} (h:a=b):Ending.returned (.bool a)=.returned (.bool b):=by rw [h]
theorem l_k {k:IntKind} {a b:Int} (h:a=b):Ending.returned (.int k a)=.returned (.int k b):=by rw [h]
theorem h_t {k k':IntKind} {a b c d:Int} (h:a=b) (h':c=d):Ending.returned (.tuple #[.int k a,.int k' c])=.returned (.tuple #[.int k b,.int k' d]):=by rw [h,h']
def Zr (n:Nat):Array Value:=madeCells #[.int .i64 0] n
def Ir (zs:List Int):Array Value:=(zs.map (Value.int .i64)).toArray
theorem r_S (zs:List Int) (i:Nat) (h:i < zs.length):(Ir zs)[i]?=some (.int .i64 (zs.getD i 0)):=by
 simp [Ir,List.getD,h]
theorem t_G (zs:List Int) (i:Nat) (v:Int):(Ir zs).setIfInBounds i (.int .i64 v)=Ir (zs.set i v):=by
 simp [Ir,List.map_set]
theorem u_E (n:Nat):Zr n=Ir (List.replicate n 0):=by
 unfold Zr Ir madeCells
 apply Array.ext
 ·simp
 ·intro i h1 h2;simp only [Array.getElem_map,Array.getElem_range];simp [Nat.mod_one]
theorem m_g {w:World} {b:Nat} {zs:List Int} {t:TypeId} {fr:Nat×Nat} (h:w.heap[b]?=some (.cells (Ir zs) t fr)):Row w b 0 zs:=by
 intro i hi;simp only [World.cell?,h]
 simpa using r_S zs i hi
theorem Tryz.info3:(Tryz.prog.info? 3).map (fun i=>(i.zero,i.size,i.bytes))=some (some (.int .i64 0),1,8):=by kernel_rfl
theorem Tryz.size3:(Tryz.prog.info? 3).map (·.size)=some 1:=by kernel_rfl
theorem j_K (n:Nat) (h:n≤1000) (w:World):(Instr.makeSlice 23 (.int .i64 n) (.int .i64 n)).run Tryz.prog w=.ok (.slice (some ⟨w.heap.size,0,none⟩) n n) (w.alloc (.cells (Zr n) 3)):=by
 obtain ⟨i0,hi,hz0,hz1,hz2⟩:=N178;have:=run_make (P:=Tryz.prog) w 23 3 i0 (.int .i64 0) Tryz.underlying23 hi hz0 .i64 .i64 n n (by omega) (by omega) (by rw [hz2];omega) (by omega);rw [this];simp [hz1,Zr,Value.cells]
theorem j_z (w:World) (ty:TypeId) (g n c b o c':Nat) (zs:List Int) (hz:zs.length=n) (hg:w.heap[g]?=some (.cells (Zr n) 3 (0,0))) (R:Row w b o zs) :
  (Builtin.copy_ #[23,23] ty #[.slice (some ⟨g,0,none⟩) n c,.slice (some ⟨b,o,none⟩) n c']).run Tryz.prog w=.ok (.int .i64 n) (w.setRow g (Ir zs)):=by
 have:=run_copy_row (P:=Tryz.prog) w 23 23 ty 3 g 0 n c ⟨b,o,none⟩ n c' (Zr n) 3 (zs.map (Value.int .i64)) Tryz.underlying23 Tryz.size3 hg (by simp [hz]) (by
  intro j v hv;rw [List.getElem?_map] at hv
  cases hj:zs[j]? with
  | none=>simp [hj] at hv
  | some z =>
   simp [hj] at hv;subst hv;have h1:j < zs.length:=(List.getElem?_eq_some_iff.1 hj).1;have h2:=R j h1;have h3:zs.getD j 0=z:=by simp [List.getD,hj]
   rw [h3] at h2
   have h4:(⟨b,o,none⟩:Addr).add j=⟨b,o+j,none⟩:=by
    simp only [Addr.add];split
    ·subst_vars;rfl
    ·rfl
   rw [h4];exact h2) (by simp [Zr,size_madeCells,hz]) (by intro v hv;simp at hv;obtain ⟨z,_,rfl⟩:=hv;rfl)
 rw [this]
 have h1:(Zr n).toList.drop (0+(zs.map (Value.int .i64)).length)=[]:=by
  apply List.drop_eq_nil_of_le
  simp [Zr,size_madeCells,hz]
 rw [h1];simp [Ir,goInt,hz]
theorem c_E (w:World) (b:Nat) (x y:Value) (k0:w.cell? ⟨b,0,none⟩=some x) (k1:w.cell? ⟨b,1,none⟩=some y):(loadVar 26 ⟨b,0,none⟩).run Tryz.prog w=.ok (.agg #[x,y]) w:=by
 simp [go_sem,k0,k1]
theorem g_w (a b:Option Addr) (n c n' c':Nat) (i k:Int) (w:World) (hn:n≤160) (ha:-9223372036854775808≤i) (ha2:i≤9223372036854775807) :
  Calls Tryz.prog 125 #[.agg #[.slice a n c,.slice b n' c'],.int .i64 i,.int .i64 k] w fun e w'=>e=.returned (.bool (b_7 n i k))∧Below w.heap.size w w':=by
 by_cases h1:1≤k
 ·by_cases h2:0≤i
  ·by_cases h3:k≤n - i
   ·exact J56
   ·exact J56
  ·exact J56
 ·exact J56
def f_L (ws ts:List Int) (w:World) (e:Ending) (w':World):Prop:=
 ∃ x y z:Int,e=.returned (.tuple #[.agg #[.int .i64 x,.int .i64 y,.int .i64 z],.bool (d_g ws ts)])∧(d_g ws ts=true→x=cnt ts 0∧y=cnt ts 1∧z=cnt ts 2)∧Below w.heap.size w w'
theorem e_z {ws ts:List Int} {w w':World} {x y z:Int} {r:Bool} (h:d_g ws ts=r) (hc:r=true→x=cnt ts 0∧y=cnt ts 1∧z=cnt ts 2) (hb:Below w.heap.size w w') :
  f_L ws ts w (.returned (.tuple #[.agg #[.int .i64 x,.int .i64 y,.int .i64 z],.bool r])) w':=by
 subst h;exact ⟨x,y,z,rfl,hc,hb⟩
theorem g_i {ws ts:List Int} {n k:Nat} (hw:ws.length=n) (hk:k < n) {t v:Int} (ht:ts.getD k 0=t) (hv:ws.getD k 0=v) (h:t < 0∨2 < t∨(t=0∧v≠0)):d_g ws ts=false:=by
 have:k_T ws ts ws.length=false:=q_N (k:=k) (by omega) (by
  simp only [okB,ht,hv,decide_eq_false_iff_not];omega)
 simp [d_g,this]
theorem l_7 {ws ts:List Int} {n:Nat} (hw:ws.length=n) (ht:ts.length=n) (h0:1≤n) (h1:n≤160) (hg:f_q ws ts n):d_g ws ts=true:=by
 have:k_T ws ts ws.length=true:=goodB_iff.2 (by rw [hw];exact hg);simp [d_g,this,l_p];omega
theorem h_g {ws ts:List Int} {k:Nat} {t v:Int} (hg:f_q ws ts k) (ht:ts.getD k 0=t) (hv:ws.getD k 0=v) (h:0≤t∧t≤2∧(t=0→v=0)):f_q ws ts (k+1):=
 o_n hg (by simp only [okB,ht,hv,decide_eq_true_eq];exact h)
def i_y (ws ts:List Int) (k x y z:Nat):Prop:=f_q ws ts k∧x=cnt (ts.take k) 0∧y=cnt (ts.take k) 1∧z=cnt (ts.take k) 2
theorem m_e {ws ts:List Int} {k x y z:Nat} {t v:Int} (hk:k < ts.length) (hr:i_y ws ts k x y z) (ht:ts.getD k 0=t) (hv:ws.getD k 0=v) (h:0≤t∧t≤2∧(t=0→v=0)) :
  i_y ws ts (k+1) (x+if t=0 then 1 else 0) (y+if t=1 then 1 else 0) (z+if t=2 then 1 else 0):=by
 obtain ⟨h1,h2,h3,h4⟩:=hr;refine ⟨h_g h1 ht hv h,?_,?_,?_⟩
 ·rw [i_E 0 hk,ht,h2]
 ·rw [i_E 1 hk,ht,h3]
 ·rw [i_E 2 hk,ht,h4]
theorem n_q (b1 o1 b2 o2 n c1 c2:Nat) (ws ts:List Int) (w:World) (hw:ws.length=n) (ht:ts.length=n) (R1:Row w b1 o1 ws) (R2:Row w b2 o2 ts) (h0:1≤n) (h160:n≤160) :
  Calls Tryz.prog 108 #[.agg #[.slice (some ⟨b1,o1,none⟩) n c1,.slice (some ⟨b2,o2,none⟩) n c2]] w (f_L ws ts w):=by
 have ⟨Hw,Ht⟩:=hh2 hw ht;clear hw ht;have t0:=N111;have t1:=N159;have t2:((n:Int) != n)=false:=by simp
 go_enter Tryz.func108,Tryz.ntmps108
 go_wp2
 go_loopw [30] (fun i wr=>∃ k:Nat,k≤n∧i=.int .i64 k∧∃ x y z:Nat,x≤k∧y≤k∧z≤k∧i_y ws ts k x y z∧wr=((w.alloc (Obj.cells #[.slice (some ⟨b1,o1,none⟩) n c1,.slice (some ⟨b2,o2,none⟩) n c2] 26)).alloc (Obj.cells #[.int .i64 0,.int .i64 0,.int .i64 0] 151)).alloc (Obj.cells #[.int .i64 (x:Int),.int .i64 (y:Int),.int .i64 (z:Int)] 151)) (fun i _=>n - (intOf i).toNat)
 case atStart=>exact ⟨0,by omega,rfl,0,0,0,by omega,by omega,by omega,⟨by intro i hi;omega,rfl,rfl,rfl⟩,rfl⟩
 case round =>
  obtain ⟨k,hk,rfl,x,y,z,hx,hy,hz,hr,rfl⟩:=hrel
  by_cases hlt:k < n
  ·have g1:=R1 k (by rw [Hw.out];exact hlt);have g2:=R2 k (by rw [Ht.out];exact hlt);have HK:=Lib.hid (show k < ts.length by rw [Ht.out];exact hlt)
   generalize htv:ts.getD k 0=tv at g2
   generalize hwv:ws.getD k 0=wv at g1
   replace g1:=a_8 (Obj.cells #[.int .i64 (x:Int),.int .i64 (y:Int),.int .i64 (z:Int)] 151) (a_8 (Obj.cells #[.int .i64 0,.int .i64 0,.int .i64 0] 151) (a_8 (Obj.cells #[.slice (some ⟨b1,o1,none⟩) n c1,.slice (some ⟨b2,o2,none⟩) n c2] 26) g1));replace g2:=a_8 (Obj.cells #[.int .i64 (x:Int),.int .i64 (y:Int),.int .i64 (z:Int)] 151) (a_8 (Obj.cells #[.int .i64 0,.int .i64 0,.int .i64 0] 151) (a_8 (Obj.cells #[.slice (some ⟨b1,o1,none⟩) n c1,.slice (some ⟨b2,o2,none⟩) n c2] 26) g2));have ⟨Htv,Hwv⟩:=hh2 htv hwv;clear htv hwv
   by_cases q1:tv < 0
   ·go_wp2
    go_returns
    exact e_z (g_i Hw.out hlt Htv.out Hwv.out (.inl q1)) (by simp) (by go_grown)
   ·by_cases q2:2 < tv
    ·go_wp2
     go_returns
     exact e_z (g_i Hw.out hlt Htv.out Hwv.out (.inr (.inl q2))) (by simp) (by go_grown)
    ·by_cases q3:tv=0
     ·subst q3
      by_cases q4:wv=0
      ·subst q4;have H:=Lib.hid (m_e HK.out hr Htv.out Hwv.out (by omega))
       go_wp2
       go_roundw
       case rel=>exact ⟨k+1,by omega,by go_num,x+1,y,z,by omega,by omega,by omega,by simpa using H.out,by simp⟩
       case measure=>simp [intOf];omega
      ·have q5:(wv != 0)=true:=by simp [q4]
       have H:=Lib.hid (g_i Hw.out hlt Htv.out Hwv.out (.inr (.inr ⟨rfl,q4⟩)))
       go_wp2
       go_returns
       exact e_z H.out (by simp) (by go_grown)
     ·have q4:(tv==0)=false:=by simp [q3]
      have q6:tv=1∨tv=2:=by omega
      have H:=Lib.hid (m_e HK.out hr Htv.out Hwv.out (by omega))
      rcases q6 with rfl | rfl
      ·go_wp2
       go_roundw
       case rel=>exact ⟨k+1,by omega,by go_num,x,y+1,z,by omega,by omega,by omega,by simpa using H.out,by simp⟩
       case measure=>simp [intOf];omega
      ·go_wp2
       go_roundw
       case rel=>exact ⟨k+1,by omega,by go_num,x,y,z+1,by omega,by omega,by omega,by simpa using H.out,by simp⟩
       case measure=>simp [intOf];omega
  ·obtain rfl:k=n:=by omega
   obtain ⟨H1,H2,H3,H4⟩:=hr;have E:ts.take k=ts:=List.take_of_length_le (by rw [Ht.out];omega);rw [E] at H2 H3 H4;have ⟨H5,H6,H7⟩:=hh3 H2 H3 H4;clear E H2 H3 H4
   go_wp2
   go_returns
   exact e_z (l_7 Hw.out Ht.out h0 h160 H1) (fun _=>⟨by rw [H5.out],by rw [H6.out],by rw [H7.out]⟩) (by go_grown)
theorem p_J (a a':Option Addr) (n c n' c':Nat) (ws ts:List Int) (w:World) (hw:ws.length=n) (ht:ts.length=n') (h:¬ (1≤n∧n≤160∧n'=n)) :
  Calls Tryz.prog 108 #[.agg #[.slice a n c,.slice a' n' c']] w (f_L ws ts w):=by
 have hm:d_g ws ts=false:=by simp [d_g,l_p,hw,ht,h]
 have Hm:=Lib.hid hm;clear hm hw ht
 by_cases h1:n < 1
 ·have t0:decide ((n:Int) < 1)=true:=by simp;omega
  exact J74
 ·by_cases h2:160 < n
  ·have t0:=N111;have t1:decide (160 < (n:Int))=true:=by simp;omega
   exact J74
  ·have t0:=N111;have t1:=N159;have t2:((n':Int) != n)=true:=by simp;omega
   exact J74
theorem p_I (a a':Option Addr) (n c n' c':Nat) (ws ts:List Int) (w:World) (S1:Sl w a n ws) (S2:Sl w a' n' ts) :
  Calls Tryz.prog 108 #[.agg #[.slice a n c,.slice a' n' c']] w (f_L ws ts w):=by
 by_cases h:1≤n∧n≤160∧n'=n
 ·obtain ⟨h0,h1,rfl⟩:=h;obtain ⟨hw,b1,o1,rfl,R1⟩:=c_Y S1 h0;obtain ⟨ht,b2,o2,rfl,R2⟩:=c_Y S2 h0;exact n_q b1 o1 b2 o2 n' c c' ws ts w hw ht R1 R2 h0 h1
 ·exact p_J a a' n c n' c' ws ts w S1.1 S2.1 h
theorem c_m (a a':Option Addr) (n c n' c':Nat) (ws ts:List Int) (w:World) (S1:Sl w a n ws) (S2:Sl w a' n' ts) :
  Calls Tryz.prog 66 #[.agg #[.slice a n c,.slice a' n' c']] w fun e w'=>e=.returned (.bool (d_g ws ts))∧Below w.heap.size w w':=by
 go_enter Tryz.func66,Tryz.ntmps66
 go_wp2_with fail
 refine (p_I a a' n c n' c' ws ts _ (slA _ S1) (slA _ S2)).mono ?_;rintro e w1 ⟨x,y,z,rfl,-,hb⟩;have hb1:=N6
 go_wp2
 go_ret
 exact ⟨rfl,hb1.alloc hb1.size _⟩
theorem f_u (t:Int) (w:World) (h0:0≤t) (h2:t≤2) :
  Calls Tryz.prog 126 #[.int .i64 t] w fun e w'=>e=.returned (.int .i64 (r_D t))∧Below w.heap.size w w':=by
 have h:t=0∨t=1∨t=2:=by omega
 rcases h with rfl | rfl | rfl
 all_goals
  go_enter Tryz.func126,Tryz.ntmps126
  go_wp2
  go_ret
  exact ⟨rfl,by go_grown⟩
theorem h_I (t:Int) (w:World) (h0:0≤t) (h2:t≤2) :
  Calls Tryz.prog 164 #[.int .i64 t] w fun e w'=>e=.returned (.int .i64 (r_B t))∧Below w.heap.size w w':=by
 have h:t=0∨t=1∨t=2:=by omega
 rcases h with rfl | rfl | rfl
 all_goals
  go_enter Tryz.func164,Tryz.ntmps164
  go_wp2
  go_ret
  exact ⟨rfl,by go_grown⟩
theorem f_i (a a':Option Addr) (n c n' c':Nat) (ws ts:List Int) (i:Int) (w:World) (S1:Sl w a n ws) (S2:Sl w a' n' ts) (hi:(Lit.int .i64 i).wf=true) :
  Calls Tryz.prog 95 #[.agg #[.slice a n c,.slice a' n' c'],.int .i64 i] w fun e w'=>e=.returned (.int .i64 (a_I ws ts i))∧Below w.heap.size w w':=by
 have hb0:=N80;have HB:=Lib.hid hb0;clear hb0
 cases hm:d_g ws ts with
 | false =>
  have Hm:=Lib.hid hm;clear hm
  go_enter Tryz.func95,Tryz.ntmps95
  go_wp2_with fail
  refine (c_m a a' n c n' c' ws ts _ (slA _ S1) (slA _ S2)).mono ?_;rintro e w1 ⟨rfl,hb⟩;have hb1:=N6;rw [Hm.out]
  go_wp2
  go_ret
  exact ⟨l_k (by simp [a_I,Hm.out]),hb1⟩
 | true =>
  have Hm:=Lib.hid hm;obtain ⟨z0,z1,z2⟩:=c_v hm;have hn:=S1.1;have hn':=S2.1;obtain rfl:n'=n:=by omega
  obtain ⟨-,b1,o1,rfl,R1⟩:=c_Y S1 (by omega);obtain ⟨-,b2,o2,rfl,R2⟩:=c_Y S2 (by omega);have ⟨Hn,Hn'⟩:=hh2 hn hn';have z3:1≤n':=by omega
  have z4:n'≤160:=by omega
  clear hm z0 z1 z2 hn hn'
  go_enter Tryz.func95,Tryz.ntmps95
  go_wp2_with fail
  refine (c_m _ _ n' c n' c' ws ts _ (slA _ S1) (slA _ S2)).mono ?_;rintro e w1 ⟨rfl,hb⟩;have hb1:=N6;obtain ⟨hc,hf⟩:=g_I hb;have hs1:w.heap.size < w1.heap.size:=by have:=hb.size;simp at this;omega
  rw [Hm.out]
  go_wp2_with fail
  refine (g_w _ _ n' c n' c' i 1 _ z4 HB.out.1 HB.out.2).mono ?_;rintro e w2 ⟨rfl,hb'⟩;have hb2:=N170
  cases hin:b_7 n' i 1 with
  | false =>
   have HE:=Lib.hid (show (3:Int)=a_I ws ts i by
    have:¬ (0≤i∧i < ws.length):=by rw [Hn.out];simp [b_7] at hin;omega
    rw [a_I,if_pos Hm.out,if_neg this])
   clear hin
   go_wp2
   go_ret
   exact ⟨l_k HE.out,hb2⟩
  | true =>
   have hi2:0≤i∧i < n':=by simp [b_7] at hin;omega
   obtain ⟨hi0,hi1⟩:=hi2;clear hin;obtain ⟨k,rfl⟩:=Int.eq_ofNat_of_zero_le hi0;have hk:k < n':=by omega
   have HE:=Lib.hid (show r_D (ts.getD k 0)=a_I ws ts (k:Int) by
    rw [a_I,if_pos Hm.out,if_pos ⟨by omega,by rw [Hn.out];omega⟩];simp)
   have ht:=g_P Hm.out k (by rw [Hn.out];exact hk);have g2:=p_5 hb2 R2 k (by rw [Hn'.out];exact hk)
   generalize ts.getD k 0=tv at HE ht g2
   obtain ⟨ht0,ht2⟩:=ht;obtain ⟨hc',hf'⟩:=g_I hb'
   go_wp2_with fail
   refine (f_u _ _ ht0 ht2).mono ?_;rintro e w3 ⟨rfl,hb''⟩;have hb3:Below w.heap.size w w3:=hb2.trans (hb''.mono hb2.size)
   go_wp2
   go_ret
   exact ⟨l_k HE.out,hb3⟩
theorem g_M (a a':Option Addr) (n c n' c':Nat) (ws ts:List Int) (i:Int) (w:World) (S1:Sl w a n ws) (S2:Sl w a' n' ts) (hi:(Lit.int .i64 i).wf=true) :
  Calls Tryz.prog 112 #[.agg #[.slice a n c,.slice a' n' c'],.int .i64 i] w fun e w'=>e=.returned (.tuple #[.int .i64 (b_L ws ts i),.int .i64 (a_I ws ts i)])∧Below w.heap.size w w':=by
 by_cases he:a_I ws ts i=0
 ·obtain ⟨hm,h0,h1,h2⟩:=d_0 he;obtain ⟨z0,z1,z2⟩:=c_v hm;have hn:=S1.1;have hn':=S2.1;obtain rfl:n'=n:=by omega
  obtain ⟨-,b1,o1,rfl,R1⟩:=c_Y S1 (by omega);have Hn:=Lib.hid hn;have z3:1≤n':=by omega
  have hlt:i < n':=by omega
  have ⟨HE,HW⟩:=hh2 he hi;clear hm z0 z1 z2 hn hn' h1 h2 he hi;obtain ⟨k,rfl⟩:=N120;have hk:k < n':=by omega
  have HV:=Lib.hid (show ws.getD k 0=b_L ws ts (k:Int) by rw [b_L,if_pos HE.out];simp)
  go_enter Tryz.func112,Tryz.ntmps112
  go_wp2_with fail
  refine (f_i _ _ n' c n' c' ws ts _ _ (slA _ S1) (slA _ S2) HW.out).mono ?_;rintro e w1 ⟨rfl,hb⟩;have hb1:=N6;obtain ⟨hc,hf⟩:=g_I hb;have g1:=p_5 hb1 R1 k (by rw [Hn.out];exact hk)
  generalize ws.getD k 0=wv at HV g1
  rw [HE.out]
  go_wp2
  go_ret2
  exact ⟨h_t HV.out HE.out.symm,hb1⟩
 ·have HE:=N197;have HV:=Lib.hid (show b_L ws ts i=0 by rw [b_L,if_neg he]);have HW:=Lib.hid hi;clear he hi
  go_enter Tryz.func112,Tryz.ntmps112
  go_wp2_with fail
  refine (f_i _ _ n c n' c' ws ts _ _ (slA _ S1) (slA _ S2) HW.out).mono ?_;rintro e w1 ⟨rfl,hb⟩;have hb1:=N6;have HE':=HE.out;obtain ⟨ev,hev⟩:=mn (a_I ws ts i);have HX:=Lib.hid hev;rw [hev] at HE' ⊢;clear hev
  go_wp2
  go_ret2
  exact ⟨h_t HV.out.symm HX.out.symm,hb1⟩
def j_l (ws ts:List Int) (x:Int) (w:World) (e:Ending) (w':World):Prop:=
 ∃ a n c a' n' c',e=.returned (.tuple #[.agg #[.slice a n c,.slice a' n' c'],.int .i64 x])∧SlF w.heap.size w' a n ws∧SlF w.heap.size w' a' n' ts∧Below w.heap.size w w'
theorem e_i {x:Int} {w w':World} (hb:Below w.heap.size w w'):j_l [] [] x w (.returned (.tuple #[.agg #[.slice none 0 0,.slice none 0 0],.int .i64 x])) w':=
 ⟨_,_,_,_,_,_,rfl,h_A _ _,h_A _ _,hb⟩
theorem h_j {x:Int} {w w':World} {p q n m c c':Nat} {ws ts:List Int} (hw:ws.length=n) (ht:ts.length=m) {t t':TypeId} {fr fr':Nat×Nat} (hp:w.heap.size≤p) (hq:w.heap.size≤q) (h1:w'.heap[p]?=some (.cells (Ir ws) t fr)) (h2:w'.heap[q]?=some (.cells (Ir ts) t' fr')) (hb:Below w.heap.size w w') :
  j_l ws ts x w (.returned (.tuple #[.agg #[.slice (some ⟨p,0,none⟩) n c,.slice (some ⟨q,0,none⟩) m c'],.int .i64 x])) w':=
 ⟨_,_,_,_,_,_,rfl,⟨hw,.inr ⟨_,_,rfl,hp,m_g h1⟩⟩,⟨ht,.inr ⟨_,_,rfl,hq,m_g h2⟩⟩,hb⟩
def p_7 (n:Nat) (ws ts:List Int) (w:World) (e:Ending) (w':World):Prop:=
 ∃ p q:Nat,e=.returned (.agg #[.slice (some ⟨p,0,none⟩) n n,.slice (some ⟨q,0,none⟩) n n])∧p≠q∧w.heap.size≤p∧w.heap.size≤q∧w'.heap[p]?=some (.cells (Ir ws) 3)∧w'.heap[q]?=some (.cells (Ir ts) 3)∧Below w.heap.size w w'
theorem h_a (b1 o1 b2 o2 n c1 c2:Nat) (ws ts:List Int) (w:World) (hw:ws.length=n) (ht:ts.length=n) (R1:Row w b1 o1 ws) (R2:Row w b2 o2 ts) (h160:n≤160) :
  Calls Tryz.prog 96 #[.agg #[.slice (some ⟨b1,o1,none⟩) n c1,.slice (some ⟨b2,o2,none⟩) n c2]] w (p_7 n ws ts w):=by
 have hmk:=j_K n (by omega);have ⟨Hw,Ht⟩:=hh2 hw ht;clear hw ht
 go_enter Tryz.func96,Tryz.ntmps96
 go_wp2
 go_region
 all_goals clear hmk
 all_goals
  go_wp2_with fail
  rw [j_z _ _ _ _ _ _ _ _ ws Hw.out (by rw [f_Q];first | (rw [a_4];case hg=>(simp;done)) | ((rw [b_r];case hg=>(simp;done));(rw [a_4];case hg=>(simp;done))) | ((rw [b_r];case hg=>(simp;done));(rw [b_r];case hg=>(simp;done));(rw [a_4];case hg=>(simp;done)))) (u_Y (m_f _ (m_f _ (m_f _ (m_f _ (m_f _ R1))))))];rw [h_z];first | (rw [d_M];case hg=>(simp;done)) | ((rw [d_N];case hg=>(simp;done));(rw [d_M];case hg=>(simp;done))) | ((rw [d_N];case hg=>(simp;done));(rw [d_N];case hg=>(simp;done));(rw [d_M];case hg=>(simp;done)))
  go_wp2_with fail
  rw [j_z _ _ _ _ _ _ _ _ ts Ht.out (by rw [f_Q];first | (rw [a_4];case hg=>(simp;done)) | ((rw [b_r];case hg=>(simp;done));(rw [a_4];case hg=>(simp;done))) | ((rw [b_r];case hg=>(simp;done));(rw [b_r];case hg=>(simp;done));(rw [a_4];case hg=>(simp;done)))) (u_Y (m_f _ (m_f _ (m_f _ (m_f _ (m_f _ R2))))))];rw [h_z];first | (rw [d_M];case hg=>(simp;done)) | ((rw [d_N];case hg=>(simp;done));(rw [d_M];case hg=>(simp;done))) | ((rw [d_N];case hg=>(simp;done));(rw [d_N];case hg=>(simp;done));(rw [d_M];case hg=>(simp;done)))
  go_wp2_with fail
  go_returns
  exact ⟨_,_,rfl,by omega,by omega,by omega,(by rw [f_Q];first | (rw [a_4];case hg=>(simp;done)) | ((rw [b_r];case hg=>(simp;done));(rw [a_4];case hg=>(simp;done))) | ((rw [b_r];case hg=>(simp;done));(rw [b_r];case hg=>(simp;done));(rw [a_4];case hg=>(simp;done)))),(by rw [f_Q];first | (rw [a_4];case hg=>(simp;done)) | ((rw [b_r];case hg=>(simp;done));(rw [a_4];case hg=>(simp;done))) | ((rw [b_r];case hg=>(simp;done));(rw [b_r];case hg=>(simp;done));(rw [a_4];case hg=>(simp;done)))),by go_grown⟩
theorem l_S {w:World} {b k:Nat} {zs:List Int} {t:TypeId} {fr:Nat×Nat} (h:w.heap[b]?=some (.cells (Ir zs) t fr)) (hk:k < zs.length):w.cell? ⟨b,k,none⟩=some (.int .i64 (zs.getD k 0)):=by
 simp only [World.cell?,h]
 simpa using r_S zs k hk
theorem p_A {w:World} {b k:Nat} {zs:List Int} {t:TypeId} {fr:Nat×Nat} {v:Int} (h:w.heap[b]?=some (.cells (Ir zs) t fr)):(w.setCell ⟨b,k,none⟩ (.int .i64 v)).heap[b]?=some (.cells (Ir (zs.set k v)) t fr):=by
 have hb:b < w.heap.size:=(Array.getElem?_eq_some_iff.1 h).1;simp only [World.setCell,Array.getElem?_modify,↓reduceIte,h,Option.map_some];simp [t_G]
theorem g_f {w:World} {b:Nat} {o:Obj} (h:w.heap[b]?=some o):b < w.heap.size:=(Array.getElem?_eq_some_iff.1 h).1
theorem n_P (a a':Option Addr) (n c n' c':Nat) (ws ts:List Int) (i v:Int) (w:World) (S1:Sl w a n ws) (S2:Sl w a' n' ts) (hi:(Lit.int .i64 i).wf=true) :
  Calls Tryz.prog 50 #[.agg #[.slice a n c,.slice a' n' c'],.int .i64 i,.int .i64 v] w (j_l (c_t ws ts i v) (c_s ws ts i) (a_I ws ts i) w):=by
 by_cases he:a_I ws ts i=0
 ·obtain ⟨hm,h0,h1,h2⟩:=d_0 he;obtain ⟨z0,z1,z2⟩:=c_v hm;have hn:=S1.1;have hn':=S2.1;obtain rfl:n'=n:=by omega
  obtain ⟨-,b1,o1,rfl,R1⟩:=c_Y S1 (by omega);obtain ⟨-,b2,o2,rfl,R2⟩:=c_Y S2 (by omega);have ⟨Hn,Hn'⟩:=hh2 hn hn';have z3:1≤n':=by omega
  have z4:n'≤160:=by omega
  have hlt:i < n':=by omega
  have ⟨HE,HW⟩:=hh2 he hi;have H1:=Lib.hid (show c_t ws ts i v=ws.set i.toNat v by rw [c_t,if_pos he]);have H2:=Lib.hid (show c_s ws ts i=ts by rw [c_s,if_pos he]);clear hm z0 z1 z2 hn hn' h1 h2 he hi;rw [H1.out,H2.out,HE.out];clear H1 H2;obtain ⟨k,rfl⟩:=N120;have hk:k < n':=by omega
  rw [Int.toNat_natCast]
  go_enter Tryz.func50,Tryz.ntmps50
  go_wp2_with fail
  refine (f_i _ _ n' c n' c' ws ts _ _ (slA _ (slA _ S1)) (slA _ (slA _ S2)) HW.out).mono ?_;rintro e w1 ⟨rfl,hb⟩;have hb1:=N6;obtain ⟨hc,hf⟩:=g_I hb;have hs1:=N83;rw [HE.out]
  go_wp2_with fail
  refine (h_a b1 o1 b2 o2 n' c c' ws ts _ Hn.out Hn'.out (p_5 hb1 R1) (p_5 hb1 R2) z4).mono ?_;rintro e w2 ⟨p,q,rfl,hpq,hp,hq,hhp,hhq,hb'⟩;have hb2:Below w.heap.size w w2:=hb1.trans (hb'.mono hb1.size);obtain ⟨hc',hf'⟩:=g_I hb';have hs2:=N186;have hp2:=g_f hhp;have hq2:=g_f hhq;have ⟨Hp,Hq⟩:=hh2 hhp hhq;have g1:(w2.alloc (.cells #[.slice (some ⟨p,0,none⟩) n' n',.slice (some ⟨q,0,none⟩) n' n'] 26)).cell? ⟨p,k,none⟩=some (.int .i64 (ws.getD k 0)):=a_8 _ (l_S hhp (by rw [Hn.out];exact hk));have g2:(w2.alloc (.cells #[.slice (some ⟨p,0,none⟩) n' n',.slice (some ⟨q,0,none⟩) n' n'] 26)).frozen? ⟨p,k,none⟩=false:=b_F (by rw [b_r _ _ _ hp2];exact hhp)
  generalize ws.getD k 0=wv at g1
  clear hhp hhq;have g3:w2.cell? ⟨w.heap.size+1,0,none⟩=some (.slice none 0 0):=by rw [hc' _ _ (by omega),hc _ _ (by simp)];simp
  have g4:w2.cell? ⟨w.heap.size+1,1,none⟩=some (.slice none 0 0):=by rw [hc' _ _ (by omega),hc _ _ (by simp)];simp
  go_wp2_with fail
  refine a_m ⟨w.heap.size+1,0,none⟩ rfl rfl rfl (c_E _ _ _ _ (a_8 _ (by go_cell_look)) (a_8 _ (by go_cell_look))) ?_;refine h_j (t:=3) (t':=3) (fr:=(0,0)) (fr':=(0,0)) (by rw [List.length_set,Hn.out]) Hn'.out (by omega) (by omega) ?_ ?_ (by go_grown)
  ·rw [b_r _ _ _ (by simp;omega),Below.heap_setCell _ _ _ _ (by simp;omega),Below.heap_setCell _ _ _ _ (by simp;omega)];exact p_A Hp.out
  ·rw [b_r _ _ _ (by simp;omega),Below.heap_setCell _ _ _ _ (by simp;omega),Below.heap_setCell _ _ _ _ (by simp;omega),Below.heap_setCell _ _ _ _ (by simp;omega)];exact Hq.out
 ·have HE:=N197;have H1:=Lib.hid (show c_t ws ts i v=[] by rw [c_t,if_neg he]);have H2:=Lib.hid (show c_s ws ts i=[] by rw [c_s,if_neg he]);have HW:=Lib.hid hi;clear he hi;rw [H1.out,H2.out];obtain ⟨ev,hev⟩:=mn (a_I ws ts i);have HX:=Lib.hid hev;have HE':=HE.out;rw [hev] at HE' ⊢;clear hev HE
  go_enter Tryz.func50,Tryz.ntmps50
  go_wp2_with fail
  refine (f_i _ _ n c n' c' ws ts _ _ (slA _ (slA _ S1)) (slA _ (slA _ S2)) HW.out).mono ?_;rintro e w1 ⟨rfl,hb⟩;have hb1:=N6;obtain ⟨hc,hf⟩:=g_I hb;have hs1:=N83;have g3:=N189;have g4:=N190;rw [HX.out];exact J59
def q_a (w:World) (b off:Nat) (ps:List (Int×Int)):Prop:=∀ i,i < ps.length→w.cell? ⟨b,off+i*2,none⟩=some (.int .i64 (ps.getD i (0,0)).1)∧w.cell? ⟨b,off+i*2+1,none⟩=some (.int .i64 (ps.getD i (0,0)).2)
theorem u_P {w:World} {b off:Nat} {ps:List (Int×Int)} (o:Obj) (h:q_a w b off ps):q_a (w.alloc o) b off ps:=fun i hi=>⟨a_8 o (h i hi).1,a_8 o (h i hi).2⟩
theorem r_i {w w':World} {b off:Nat} {ps:List (Int×Int)} (hb:Below w.heap.size w w') (h:q_a w b off ps):q_a w' b off ps:=fun i hi=>⟨a_t hb (h i hi).1,a_t hb (h i hi).2⟩
def Pl (w:World) (a:Option Addr) (n:Nat) (ps:List (Int×Int)):Prop:=ps.length=n∧(n=0∨∃ b o,a=some ⟨b,o,none⟩∧q_a w b o ps)
theorem plA {w:World} {a:Option Addr} {n:Nat} {ps:List (Int×Int)} (o:Obj) (h:Pl w a n ps):Pl (w.alloc o) a n ps:=
 ⟨h.1,h.2.imp id fun ⟨b,f,e,r⟩=>⟨b,f,e,u_P o r⟩⟩
theorem plB {w w':World} {a:Option Addr} {n:Nat} {ps:List (Int×Int)} (hb:Below w.heap.size w w') (h:Pl w a n ps):Pl w' a n ps:=
 ⟨h.1,h.2.imp id fun ⟨b,f,e,r⟩=>⟨b,f,e,r_i hb r⟩⟩
theorem s_b (w:World):Pl w none 0 []:=⟨rfl,.inl rfl⟩
def PlF (F:Nat) (w:World) (a:Option Addr) (n:Nat) (ps:List (Int×Int)):Prop:=ps.length=n∧(n=0∨∃ b o,a=some ⟨b,o,none⟩∧F≤b∧q_a w b o ps)
theorem PlF.pl {F:Nat} {w:World} {a:Option Addr} {n:Nat} {ps:List (Int×Int)} (h:PlF F w a n ps):Pl w a n ps:=⟨h.1,h.2.imp id fun ⟨b,o,e,_,r⟩=>⟨b,o,e,r⟩⟩
theorem p_n (F:Nat) (w:World):PlF F w none 0 []:=⟨rfl,.inl rfl⟩
theorem r_f {F G:Nat} {w:World} {a:Option Addr} {n:Nat} {ps:List (Int×Int)} (hg:G≤F) (h:PlF F w a n ps):PlF G w a n ps:=
 ⟨h.1,h.2.imp id fun ⟨b,f,e,hf,r⟩=>⟨b,f,e,by omega,r⟩⟩
def b_I (ps:List (Int×Int)):List Value:=ps.flatMap fun p=>[.int .i64 p.1,.int .i64 p.2]
theorem d_H (ps qs:List (Int×Int)):b_I (ps++qs)=b_I ps++b_I qs:=by simp [b_I]
theorem b_3 (ps:List (Int×Int)):(b_I ps).length=ps.length*2:=by
 induction ps with
 | nil=>rfl
 | cons p ps ih=>simp only [b_I,List.flatMap_cons,List.length_append,List.length_cons,List.length_nil] at ih ⊢;omega
theorem g_o:∀ (ps:List (Int×Int)) (i:Nat),i < ps.length→(b_I ps)[i*2]?=some (.int .i64 (ps.getD i (0,0)).1)∧(b_I ps)[i*2+1]?=some (.int .i64 (ps.getD i (0,0)).2)
 | [],i,h=>by simp at h
 | p::ps,0,_=>by simp [b_I]
 | p::ps,i+1,h=>by
  have ih:=g_o ps i (by simpa using h);have e:b_I (p::ps)=.int .i64 p.1::.int .i64 p.2::b_I ps:=rfl;rw [e,show (i+1)*2=i*2+1+1 by omega]
  simpa using ih
theorem d_k (ps:List (Int×Int)):∀ u∈b_I ps,u.oneCell'=true:=by
 intro u hu;simp only [b_I,List.mem_flatMap] at hu;obtain ⟨p,_,hp⟩:=hu;simp at hp
 rcases hp with rfl | rfl <;> rfl
theorem f_F {w:World} {b off:Nat} {ps:List (Int×Int)} (R:q_a w b off ps):∀ j u,(b_I ps)[j]?=some u→w.cell? ⟨b,off+j,none⟩=some u:=by
 intro j u hu;have hj:j < (b_I ps).length:=(List.getElem?_eq_some_iff.1 hu).1;rw [b_3] at hj;have hg:=g_o ps (j / 2) (by omega);have hr:=R (j / 2) (by omega)
 rcases Nat.mod_two_eq_zero_or_one j with h | h
 ·have e:j / 2*2=j:=by omega
  rw [e] at hg hr;rw [hg.1] at hu;rw [hr.1];exact hu
 ·have e:j / 2*2+1=j:=by omega
  rw [Nat.add_assoc,e] at hr;rw [e] at hg;rw [hg.2] at hu;rw [hr.2];exact hu
theorem f_M (b off j:Nat):(⟨b,off,none⟩:Addr).add j=⟨b,off+j,none⟩:=by
 simp only [Addr.add];split
 ·subst_vars;rfl
 ·rfl
def d_A (a:Option Addr) (n c:Nat):Prop:=n≤c∧c≤9223372036854775807∧(a=none→c=0)
theorem e_e:d_A none 0 0:=⟨Nat.le_refl _,by omega,fun _=>rfl⟩
theorem f_E {B:Nat} {w:World} {v:Value} {n:Nat} {ps:List (Int×Int)} (h:w.ownsRow B 59 2 v n (b_I ps)):∃ a c,v=.slice a n c∧d_A a n c∧PlF B w a n ps:=by
 obtain ⟨hl,h⟩:=h;have hl':ps.length=n:=by rw [b_3] at hl;omega
 rcases h with ⟨rfl,h0⟩ | ⟨g,cap,cur,rfl,hb,hg,hn,hm,hs,ht⟩
 ·exact ⟨none,0,by rw [h0],by subst h0;exact e_e,hl',.inl h0⟩
 ·unfold maxLen at hm;refine ⟨_,_,rfl,⟨hn,by omega,fun e=>by cases e⟩,hl',.inr ⟨g,0,rfl,hb,fun i hi=>?_⟩⟩;have e:=g_o ps i hi;simp only [World.cell?,hg];rw [←ht,List.getElem?_take,List.getElem?_take,if_pos (by omega),if_pos (by omega)] at e;exact ⟨by simpa using e.1,by simpa using e.2⟩
theorem Tryz.info59:(Tryz.prog.info? 59).map (fun i=>(i.zero,i.size,i.bytes))=some (some (.agg #[.int .i64 0,.int .i64 0]),2,16):=by kernel_rfl
def m_z (w:World) (a:Addr) (b:List (Int×Int)):Prop:=∃ q c,w.cell? a=some (.slice q b.length c)∧d_A q b.length c∧Pl w q b.length b
theorem t_0 {w:World} {a:Addr} {b:List (Int×Int)} (o:Obj) (h:m_z w a b):m_z (w.alloc o) a b:=by
 obtain ⟨q,c,h1,h2,h3⟩:=h;exact ⟨q,c,a_8 o h1,h2,plA o h3⟩
theorem t_1 {w w':World} {a:Addr} {b:List (Int×Int)} (hb:Below w.heap.size w w') (h:m_z w a b):m_z w' a b:=by
 obtain ⟨q,c,h1,h2,h3⟩:=h;exact ⟨q,c,a_t hb h1,h2,plB hb h3⟩
def u_Z (w:World) (blk off:Nat) (bs:List (List (Int×Int))):Prop:=∀ i,i < bs.length→m_z w ⟨blk,off+i,none⟩ (bs.getD i [])
def Bl (w:World) (a:Option Addr) (n:Nat) (bs:List (List (Int×Int))):Prop:=bs.length=n∧(n=0∨∃ b o,a=some ⟨b,o,none⟩∧u_Z w b o bs)
theorem blA {w:World} {a:Option Addr} {n:Nat} {bs:List (List (Int×Int))} (o:Obj) (h:Bl w a n bs):Bl (w.alloc o) a n bs:=
 ⟨h.1,h.2.imp id fun ⟨b,f,e,r⟩=>⟨b,f,e,fun i hi=>t_0 o (r i hi)⟩⟩
theorem blB {w w':World} {a:Option Addr} {n:Nat} {bs:List (List (Int×Int))} (hb:Below w.heap.size w w') (h:Bl w a n bs):Bl w' a n bs:=
 ⟨h.1,h.2.imp id fun ⟨b,f,e,r⟩=>⟨b,f,e,fun i hi=>t_1 hb (r i hi)⟩⟩
theorem g_5 {w:World} {a:Option Addr} {n:Nat} {bs:List (List (Int×Int))} (h:Bl w a n bs) {i:Nat} (hi:i < n) :
  ∃ b o q c,a=some ⟨b,o,none⟩∧w.cell? ⟨b,o+i,none⟩=some (.slice q (bs.getD i []).length c)∧d_A q (bs.getD i []).length c∧Pl w q (bs.getD i []).length (bs.getD i []):=by
 obtain ⟨b,o,e,r⟩:=h.2.resolve_left (by omega);obtain ⟨q,c,h1,h2,h3⟩:=r i (by rw [h.1];exact hi);exact ⟨b,o,q,c,e,h1,h2,h3⟩
def n_D (w:World) (vs:List Value) (bs:List (List (Int×Int))):Prop:=vs.length=bs.length∧∀ i,i < bs.length→∃ q c,vs[i]?=some (.slice q (bs.getD i []).length c)∧d_A q (bs.getD i []).length c∧Pl w q (bs.getD i []).length (bs.getD i [])
theorem n_2 (w:World):n_D w [] []:=⟨rfl,fun i hi=>by simp at hi⟩
theorem m_J {w:World} {vs:List Value} {bs:List (List (Int×Int))} {q:Option Addr} {n c:Nat} {b:List (Int×Int)} (h:n_D w vs bs) (hc:d_A q n c) (hp:Pl w q n b):n_D w (vs++[.slice q n c]) (bs++[b]):=by
 exact J47
end Go.Proofs.YtogdpojnbgeknaaGreatDoor
namespace Go.Proofs.YtogdpojnbgeknaaGreatDoor
def k_i (zs:List Int) (i x:Int) (k:Nat):Int:=if (k:Int)=i then x else zs.getD k 0
def k_j (zs:List Int) (i x:Int):Nat→List Int
 | 0=>[]
 | k+1=>k_j zs i x k++[k_i zs i x k]
def e_B (zs:List Int) (i x:Int):List Int:=k_j zs i x zs.length
theorem c_B (zs:List Int) (i x:Int) (k:Nat):(k_j zs i x k).length=k:=by
 induction k with
 | zero=>rfl
 | succ k ih=>simp [k_j,ih]
theorem p_T (zs:List Int) (i x:Int) (k j:Nat) (hj:j < k):(k_j zs i x k).getD j 0=k_i zs i x j:=by
 induction k with
 | zero=>omega
 | succ k ih =>
  simp only [k_j,List.getD_eq_getElem?_getD]
  by_cases e:j=k
  ·subst e;rw [List.getElem?_append_right (by rw [c_B];omega)];simp [c_B]
  ·rw [List.getElem?_append_left (by rw [c_B];omega)];have:=ih (by omega)
   simpa only [List.getD_eq_getElem?_getD] using this
theorem h_K (zs:List Int) (i:Nat) (x:Int):e_B zs i x=zs.set i x:=by
 apply List.ext_getElem
 ·simp [e_B,c_B]
 ·intro j h1 h2;have hj:j < zs.length:=by simpa using h2
  have e1:(e_B zs i x)[j]=(e_B zs i x).getD j 0:=by simp [h1]
  have e2:(zs.set i x)[j]=(zs.set i x).getD j 0:=by simp [hj]
  rw [e1,e2,e_B,p_T _ _ _ _ _ hj];simp only [k_i,List.getD_eq_getElem?_getD,List.getElem?_set]
  by_cases e:i=j
  ·subst e;simp [hj]
  ·rw [if_neg (by omega),if_neg e]
end Go.Proofs.YtogdpojnbgeknaaGreatDoor
namespace Go.Proofs.YtogdpojnbgeknaaGreatDoor
open Go.ChangeShapes Go.WideShapes Go.ChangeAt Go.RowKit
theorem d_V {B:Nat} {w:World} {v:Value} {n:Nat} {zs:List Int} (h:w.ownsRow B 3 1 v n (zs.map (Value.int .i64))):∃ a c,v=.slice a n c∧SlF B w a n zs:=by
 obtain ⟨hl,h⟩:=h;have hl':zs.length=n:=by simpa using hl
 rcases h with ⟨rfl,h0⟩ | ⟨g,cap,cur,rfl,hb,hg,hn,hm,hs,ht⟩
 ·exact ⟨none,0,by rw [h0],hl',.inl h0⟩
 ·refine ⟨_,_,rfl,hl',.inr ⟨g,0,rfl,hb,fun i hi=>?_⟩⟩;simp only [World.cell?,hg];have e:(zs.map (Value.int .i64))[i]?=some (.int .i64 (zs.getD i 0)):=by simp [hi]
  rw [←ht,List.getElem?_take,if_pos (by omega)] at e
  simpa using e
theorem e_r (w:World) (x:Value) (t:TypeId):∀ j u,[x][j]?=some u→(w.alloc (.cells #[x] t)).cell? ((⟨w.heap.size,0,none⟩:Addr).add j)=some u:=by
 intro j u h
 obtain rfl:j=0:=by
  have:=(List.getElem?_eq_some_iff.1 h).1;simp at this;omega
 simp at h;subst h;simp [Addr.add]
def k_v (zs:List Int) (i x:Int) (k:Nat):List Value:=(k_j zs i x k).map (Value.int .i64)
theorem e_7 (zs:List Int) (i x:Int) (k:Nat) {y:Int} (h:k_i zs i x k=y):k_v zs i x (k+1)=k_v zs i x k++[.int .i64 y]:=by
 simp [k_v,k_j,h]
def l_J (zs:List Int) (w:World) (e:Ending) (w':World):Prop:=∃ a c,e=.returned (.slice a zs.length c)∧SlF w.heap.size w' a zs.length zs∧Below w.heap.size w w'
theorem l_y {zs:List Int} {i x:Int} {w w':World} {v:Value} {n:Nat} (hn:zs.length=n) (h:w'.ownsRow w.heap.size 3 1 v n (k_v zs i x n)) (hb:Below w.heap.size w w'):l_J (e_B zs i x) w (.returned v) w':=by
 subst hn;obtain ⟨a,c,rfl,hs⟩:=d_V h;refine ⟨a,c,?_,?_,hb⟩
 ·rw [e_B,c_B]
 ·rw [show (e_B zs i x).length=zs.length by rw [e_B,c_B]];exact hs
theorem l_K (a:Option Addr) (n c:Nat) (zs:List Int) (i x:Int) (w:World) (S:Sl w a n zs) (hn:n≤1000) :
  Calls Tryz.prog 62 #[.slice a n c,.int .i64 i,.int .i64 x] w (l_J (e_B zs i x) w):=by
 obtain ⟨i0,hi,hz0,hz1,hz2⟩:=N178;have Hn:=Lib.hid S.1;have HI:=N44;clear hi hz0 hz1 hz2
 go_enter Tryz.func62,Tryz.ntmps62
 go_wp2
 go_loopw [7,13] (fun v s wr=>∃ k:Nat,k≤n∧s=.int .i64 k∧wr.ownsRow w.heap.size 3 1 v k (k_v zs i x k)∧Below w.heap.size w wr) (fun _ s _=>n - (intOf s).toNat)
 case atStart=>exact ⟨0,by omega,rfl,World.ownsRow_made w #[] 0 (Nat.le_refl _) (by decide) (by simp),(Below.refl _ _).alloc (Nat.le_refl _) _⟩
 case round =>
  obtain ⟨k,hk,rfl,hown,hb⟩:=hrel
  by_cases hlt:k < n
  ·obtain ⟨b,o,rfl,R⟩:=N179;have g:=a_t hb (R k (by rw [Hn.out];exact hlt));have hsz:=hb.size;have ⟨HB,HO⟩:=hh2 hb hown
   by_cases e:(k:Int)=i
   ·have HS:=Lib.hid (e_7 zs i x k (by rw [k_i,if_pos e]));have q:=N253;clear e hb hown
    go_wp2_with (at_builtin;refine wpList_append_own _ rfl _ _ 23 rfl w.heap.size 3 i0 (.int .i64 0) 1 8 Tryz.underlying23 HI.out.1 HI.out.2.1 HI.out.2.2.1 HI.out.2.2.2 rfl (by decide) _ _ _ rfl (HO.out.alloc _) ⟨wr.heap.size,0,none⟩ 1 1 [.int .i64 x] rfl rfl ?c1 ?c2 ?c3 ?c4 ?c5 ?_)
    case c1=>exact e_r _ _ _
    case c2=>intro v hv;simp at hv;subst hv;rfl
    case c3=>unfold maxLen;omega
    case c4=>omega
    case c5=>simp;omega
    intro v' w1 hown' hgrow _;have hb':=N116;rw [←HS.out] at hown';have ⟨HO',HB'⟩:=hh2 hown' hb';clear hown' hb' hgrow
    go_wp2
    go_roundw
    case rel=>exact ⟨k+1,by omega,by go_num,HO'.out,HB'.out⟩
    case measure=>simp [intOf];omega
   ·have HS:=Lib.hid (e_7 zs i x k (y:=zs.getD k 0) (by rw [k_i,if_neg e]))
    generalize zs.getD k 0=y at g HS
    have q:=N251;clear e hb hown
    go_wp2_with (at_builtin;refine wpList_append_own _ rfl _ _ 23 rfl w.heap.size 3 i0 (.int .i64 0) 1 8 Tryz.underlying23 HI.out.1 HI.out.2.1 HI.out.2.2.1 HI.out.2.2.2 rfl (by decide) _ _ _ rfl (HO.out.alloc _) ⟨wr.heap.size,0,none⟩ 1 1 [.int .i64 y] rfl rfl ?c1 ?c2 ?c3 ?c4 ?c5 ?_)
    case c1=>exact e_r _ _ _
    case c2=>intro v hv;simp at hv;subst hv;rfl
    case c3=>unfold maxLen;omega
    case c4=>omega
    case c5=>simp;omega
    intro v' w1 hown' hgrow _;have hb':=N117;rw [←HS.out] at hown';have ⟨HO',HB'⟩:=hh2 hown' hb';clear hown' hb' hgrow
    go_wp2
    go_roundw
    case rel=>exact ⟨k+1,by omega,by go_num,HO'.out,HB'.out⟩
    case measure=>simp [intOf];omega
  ·obtain rfl:k=n:=by omega
   have ⟨HB,HO⟩:=hh2 hb hown;clear hb hown
   go_wp2
   go_ret
   exact l_y Hn.out HO.out HB.out
end Go.Proofs.YtogdpojnbgeknaaGreatDoor
