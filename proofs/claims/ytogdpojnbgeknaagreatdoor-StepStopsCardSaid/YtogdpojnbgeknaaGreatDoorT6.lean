import Derived.Test.YtogdpojnbgeknaaGreatDoorT5
import Derived.Maps.AppendAt
import Derived.Deep.AppendLies
import Derived.Shelf.RegionOpen
import Derived.Lib.AtoiAllCases
import Derived.Test.YtogdpojnbgeknaaGreatDoorT0
import Derived.WalkKit
set_option maxRecDepth 100000
set_option maxHeartbeats 16000000
namespace Go.Proofs.YtogdpojnbgeknaaGreatDoor
open Go.ChangeShapes Go.WideShapes Go.ChangeAt Go.RowKit Go.Shelf
open Gen
attribute [local go_sem] Oper.semAt_some
def g_z (i:Ins):List Value:=[.int .i64 i.1,.int .i64 i.2.1,.int .i64 i.2.2.1,.int .i64 i.2.2.2]
theorem t_8 {B k:Nat} {w:World} {e:TypeId} {v:Value} {n:Nat} {xs:List Value} (h:w.ownsRow B e k v n xs) (a:Addr) (ha:a.block < B) (x:Value):(w.setCell a x).ownsRow B e k v n xs:=by
 obtain ⟨h1,h2⟩:=h;refine ⟨h1,h2.imp id ?_⟩;rintro ⟨g,cap,cur,e1,e2,e3,e4⟩;refine ⟨g,cap,cur,e1,e2,?_,e4⟩;rw [World.setCell,Array.getElem?_modify,if_neg (by omega)];exact e3
def R3 (w W:World) (A B C:Value) (W':World):Prop:=
 KeepsOthers W W'∧Below w.heap.size w W'∧W'.cell? ⟨w.heap.size,0,none⟩=some A∧W'.cell? ⟨w.heap.size+1,0,none⟩=some B∧W'.cell? ⟨w.heap.size+1+1,0,none⟩=some C
section
variable {w W W':World} {A B C x:Value}
end
end Go.Proofs.YtogdpojnbgeknaaGreatDoor
namespace Go.Proofs.YtogdpojnbgeknaaGreatDoor
structure Read (f:Bs→Option (Int×Int)) (l:Bs) (k:Nat):Prop where
 op:u_F ((o_6 32 l).getD 0 [])=some k
 len:(o_6 32 l).length - 1=(opSign.getD k []).length
 ok:∀ i,i < (opSign.getD k []).length→u_i f (opSign.getD k []) ((o_6 32 l).drop 1) i=0
end Go.Proofs.YtogdpojnbgeknaaGreatDoor
namespace Go.Proofs.YtogdpojnbgeknaaGreatDoor
open Go.ChangeShapes Go.WideShapes Go.ChangeAt Go.RowKit
open Gen
def repIns:Rep Ins:=q_3 4 (by decide) g_z (fun _=>rfl)
theorem r_L {Q:Nat→Prop} {w:World} {b o:Nat} {i:Ins} (h:At repIns Q w b o i):w.cell? ⟨b,o,none⟩=some (.int .i64 i.1)∧w.cell? ⟨b,o+1,none⟩=some (.int .i64 i.2.1)∧w.cell? ⟨b,o+2,none⟩=some (.int .i64 i.2.2.1)∧w.cell? ⟨b,o+3,none⟩=some (.int .i64 i.2.2.2):=by
 obtain ⟨cs,h1,h2⟩:=h;have h1:cs=g_z i:=h1;subst h1;exact ⟨h2 0 _ rfl,h2 1 _ rfl,h2 2 _ rfl,h2 3 _ rfl⟩
theorem k_U (k:Nat) (w:World) (hk:k < 27):Calls Tryz.prog 68 #[.int .i64 k] w fun e w'=>e=.returned (.string (str (opName.getD k [])))∧Below w.heap.size w w':=by
 have k0:(0:Int)≤k:=by omega
 have k1:(k:Int) < 27:=by omega
 go_enter Tryz.func68,Tryz.ntmps68
 exact J49
theorem j_v (k:Nat) (w:World) (hk:k < 27):Calls Tryz.prog 69 #[.int .i64 k] w fun e w'=>e=.returned (.string (str (opSign.getD k [])))∧Below w.heap.size w w':=by
 have k0:(0:Int)≤k:=by omega
 have k1:(k:Int) < 27:=by omega
 go_enter Tryz.func69,Tryz.ntmps69
 exact J49
end Go.Proofs.YtogdpojnbgeknaaGreatDoor
namespace Go.Proofs.YtogdpojnbgeknaaGreatDoor
open Go.ChangeShapes Go.WideShapes Go.ChangeAt Go.RowKit
open Gen
open Lib (hid)
def c_a (c:List Ins):Bool:=decide (c.length≤1000)&&c.all (fun i=>c_M i c.length)
def j_3 (c:List Ins) (n k:Nat):Prop:=∀ q i,q < k→c[q]?=some i→c_M i n=true
theorem h_0 {c:List Ins} {n k:Nat} {i:Ins} (h:j_3 c n k) (hi:c[k]?=some i) (h1:c_M i n=true):j_3 c n (k+1):=fun q j hq hj=>by
 rcases Nat.lt_succ_iff_lt_or_eq.1 hq with h2 | rfl
 ·exact h q j h2 hj
 ·rw [hi] at hj;injection hj with hj;subst hj;exact h1
theorem h_4 {c:List Ins} {n:Nat} (hl:c.length=n) (hn:n≤1000) (h:j_3 c n n):c_a c=true:=by
 simp only [c_a,Bool.and_eq_true,decide_eq_true_eq,List.all_eq_true,hl];refine ⟨hn,fun i hi=>?_⟩;obtain ⟨q,hq,rfl⟩:=List.mem_iff_getElem.1 hi;exact h q _ (by omega) (by simp [hq])
theorem j_D {c:List Ins} {n k:Nat} {i:Ins} (hl:c.length=n) (hi:c[k]?=some i) (h:c_M i n=false):c_a c=false:=by
 cases hr:c_a c with
 | false=>rfl
 | true =>
  simp only [c_a,Bool.and_eq_true,List.all_eq_true,hl] at hr;have:=hr.2 i (List.mem_of_getElem? hi);rw [h] at this;cases this
theorem h_h {c:List Ins} (h:¬ c.length≤1000):c_a c=false:=by simp [c_a,h]
theorem l_J {w:World} {p:Option Addr} {n:Nat} {t:List Ins} (S:Vs repIns Any w p n t) {k:Nat} (hk:k < n) :
  ∃ b o x0 x1 x2 x3,p=some ⟨b,o,none⟩∧t[k]?=some (x0,x1,x2,x3)∧w.cell? ⟨b,o+k*4,none⟩=some (.int .i64 x0)∧w.cell? ⟨b,o+k*4+1,none⟩=some (.int .i64 x1)∧w.cell? ⟨b,o+k*4+2,none⟩=some (.int .i64 x2)∧w.cell? ⟨b,o+k*4+3,none⟩=some (.int .i64 x3):=by
 obtain ⟨b,o,⟨x0,x1,x2,x3⟩,e,ht,_,hA⟩:=j_P S hk;rw [show repIns.k=4 from rfl] at hA;obtain ⟨h0,h1,h2,h3⟩:=r_L hA;exact ⟨b,o,x0,x1,x2,x3,e,ht,h0,h1,h2,h3⟩
theorem g_o (a:Option Addr) (n c:Nat) (cs:List Ins) (w:World) (S:Vs repIns Any w a n cs) (hn:n≤9223372036854775807) (G:Glob w) :
  Calls Tryz.prog 30 #[.slice a n c] w (b_l (c_a cs) w):=by
 have Hn:=hid S.1
 by_cases h6:n≤1000
 ·have i6:¬ (1000:Int) < n:=by omega
  go_enter Tryz.func30,Tryz.ntmps30
  go_wp2
  go_loopw [10] (fun i wr=>∃ k:Nat,k≤n∧i=.int .i64 k∧Hid (j_3 cs n k)∧Below w.heap.size w wr) (fun i _=>n - (intOf i).toNat)
  case atStart=>exact ⟨0,by omega,rfl,(show j_3 cs n 0 from fun q i hq=>by omega),Below.refl _ _⟩
  case round =>
   obtain ⟨k,hk,rfl,hf,hb⟩:=hrel;obtain ⟨wo,hwo⟩:∃ wo:World,wo=wr:=⟨_,rfl⟩;subst hwo
   by_cases hlt:k < n
   ·obtain ⟨b,o,x0,x1,x2,x3,rfl,hx,g0,g1,g2,g3⟩:=l_J (g_B hb S) hlt;have ⟨HX,HB⟩:=hh2 hx hb;have GG:=hid ((G.B hb).A (Obj.cells #[.int .i64 x0,.int .i64 x1,.int .i64 x2,.int .i64 x3] 66));have HB2:=N160;have i1:(0:Int)≤k:=by omega
    have i2:(k:Int) < n:=by omega
    clear hx hb;obtain ⟨mb,hmb⟩:=mn (c_M (x0,x1,x2,x3) n);have HM:=hid hmb;clear hmb
    go_wp2_with fail
    have h0:=s_E (x0,x1,x2,x3) n _ GG.out;exact J55
   ·obtain rfl:k=n:=by omega
    have HB:=hid hb;clear hb
    go_wp2
    go_ret
    exact a_k (h_4 Hn.out h6 hf.out) HB.out
 ·have i6:(1000:Int) < n:=by omega
  have HS:=hid (h_h (c:=cs) (by rw [Hn.out];exact h6));clear h6
  go_enter Tryz.func30,Tryz.ntmps30
  go_wp2
  go_ret
  exact a_k HS.out (Below.refl _ _)
theorem a_F (i:Ins) (k:Nat) (w:World) (hk:k < 3):Calls Tryz.prog 70 #[t_f i,.int .i64 k] w fun e w'=>e=.returned (.int .i64 (e_a i k))∧Below w.heap.size w w':=by
 obtain ⟨op,a,b,c⟩:=i
 rcases (show k=0∨k=1∨k=2 by omega) with rfl | rfl | rfl
 all_goals
  unfold t_f
  go_enter Tryz.func70,Tryz.ntmps70
  go_wp2
  go_ret
  exact ⟨rfl,by go_grown⟩
theorem m_Z (k:Int) (w:World) (hk:¬ (0≤k∧k < 27)):Calls Tryz.prog 68 #[.int .i64 k] w fun e w'=>e=.returned (.string (str []))∧Below w.heap.size w w':=by
 go_enter Tryz.func68,Tryz.ntmps68
 go_wp2
 all_goals first
  | (exfalso;omega)
  | (go_ret;exact ⟨rfl,by go_grown⟩)
end Go.Proofs.YtogdpojnbgeknaaGreatDoor
namespace Go.Proofs.YtogdpojnbgeknaaGreatDoor
def okB (ws ts:List Int) (k:Nat):Bool:=decide (0≤ts.getD k 0∧ts.getD k 0≤2∧(ts.getD k 0=0→ws.getD k 0=0))
def f_j (ws ts:List Int) (k:Nat):Prop:=∀ i,i < k→okB ws ts i=true
def k_u (ws ts:List Int) (n:Nat):Bool:=(List.range n).all (okB ws ts)
theorem goodB_iff {ws ts:List Int} {n:Nat}:k_u ws ts n=true ↔ f_j ws ts n:=by
 simp [k_u,f_j]
theorem n_9 {ws ts:List Int} {k:Nat} (h:f_j ws ts k) (h1:okB ws ts k=true):f_j ws ts (k+1):=by
 exact J94
theorem q_s {ws ts:List Int} {k n:Nat} (hk:k < n) (h1:okB ws ts k=false):k_u ws ts n=false:=by
 cases h:k_u ws ts n with
 | false=>rfl
 | true=>have:=goodB_iff.1 h k hk;simp [h1] at this
def k_4 (n n':Nat):Bool:=decide (1≤n∧n≤160∧n'=n)
def d_g (ws ts:List Int):Bool:=k_4 ws.length ts.length&&k_u ws ts ws.length
theorem c_s {ws ts:List Int} (h:d_g ws ts=true):1≤ws.length∧ws.length≤160∧ts.length=ws.length:=by
 simp only [d_g,k_4,Bool.and_eq_true,decide_eq_true_eq] at h;exact h.1
theorem g_6 {ws ts:List Int} (h:d_g ws ts=true):f_j ws ts ws.length:=by
 simp only [d_g,Bool.and_eq_true] at h;exact goodB_iff.1 h.2
theorem g_G {ws ts:List Int} (h:d_g ws ts=true) (i:Nat) (hi:i < ws.length):0≤ts.getD i 0∧ts.getD i 0≤2:=by
 have:=g_6 h i hi;simp only [okB,decide_eq_true_eq] at this;exact ⟨this.1,this.2.1⟩
def cnt (ts:List Int) (t:Int):Nat:=(ts.filter (·==t)).length
theorem i_p {ts:List Int} {k:Nat} (t:Int) (hk:k < ts.length):cnt (ts.take (k+1)) t=cnt (ts.take k) t+if ts.getD k 0=t then 1 else 0:=by
 have e:ts.take (k+1)=ts.take k++[ts.getD k 0]:=by
  rw [List.take_succ_eq_append_getElem hk];simp [hk]
 rw [e];simp only [cnt,List.filter_append,List.length_append]
 by_cases h:ts.getD k 0=t
 ·rw [if_pos h,List.filter_cons,if_pos (by simpa using h)];simp
 ·rw [if_neg h,List.filter_cons,if_neg (by simpa using h)];simp
def r_k (t:Int):Int:=if t=0 then 4 else if t=1 then 0 else 5
def r_h (t:Int):Int:=if t=1 then 6 else 0
def a_I (ws ts:List Int) (i:Int):Int:=if d_g ws ts=true then (if 0≤i∧i < ws.length then r_k (ts.getD i.toNat 0) else 3) else 1
def b_K (ws ts:List Int) (i:Int):Int:=if a_I ws ts i=0 then ws.getD i.toNat 0 else 0
def c_q (ws ts:List Int) (i v:Int):List Int:=if a_I ws ts i=0 then ws.set i.toNat v else []
def c_p (ws ts:List Int) (i:Int):List Int:=if a_I ws ts i=0 then ts else []
theorem d_V {ws ts:List Int} {i:Int} (h:a_I ws ts i=0):d_g ws ts=true∧0≤i∧i < ws.length∧ts.getD i.toNat 0=1:=by
 unfold a_I at h
 split at h
 ·rename_i hm
  split at h
  ·rename_i hi
   refine ⟨hm,hi.1,hi.2,?_⟩;unfold r_k at h
   split at h
   ·simp at h
   ·split at h
    ·assumption
    ·simp at h
  ·simp at h
 ·simp at h
def j_1 (ts:List Int) (i:Nat) (t:Int):Nat→List Int
 | 0=>ts
 | k+1=>(j_1 ts i t k).set (i+k) t
theorem d_i (ts:List Int) (i:Nat) (t:Int) (k:Nat):(j_1 ts i t k).length=ts.length:=by
 induction k with
 | zero=>rfl
 | succ k ih=>simp [j_1,ih]
theorem q_9 (ts:List Int) (i:Nat) (t:Int) (k j:Nat) (hj:j < ts.length):(j_1 ts i t k).getD j 0=if i≤j∧j < i+k then t else ts.getD j 0:=by
 induction k with
 | zero=>rw [if_neg (by omega)];rfl
 | succ k ih =>
  have hl:=d_i ts i t k;simp only [j_1,List.getD_eq_getElem?_getD,List.getElem?_set] at ih ⊢
  by_cases e:i+k=j
  ·rw [if_pos e,if_pos (by omega),if_pos (by omega)];simp
  ·rw [if_neg e,ih]
   by_cases e2:i≤j∧j < i+k
   ·rw [if_pos e2,if_pos (by omega)]
   ·rw [if_neg e2,if_neg (by omega)]
def f_h (f:Int→Int) (ts:List Int) (i:Nat):Nat→Int
 | 0=>0
 | k+1=>if f_h f ts i k=0 then f (ts.getD (i+k) 0) else f_h f ts i k
theorem h_i {f:Int→Int} {ts:List Int} {i:Nat} {k:Nat} {x:Int} (h:f_h f ts i k=0) (hx:f (ts.getD (i+k) 0)=x) (hn:x≠0):∀ {n:Nat},k < n→f_h f ts i n=x
 | 0,hk=>by omega
 | n+1,hk=>by
  simp only [f_h]
  by_cases e:n=k
  ·subst e;rw [if_pos h,hx]
  ·rw [h_i h hx hn (n:=n) (by omega),if_neg hn]
def b_5 (n:Nat) (i k:Int):Bool:=decide (1≤k∧0≤i∧k≤n - i)
def i_W (tag:Int):Int→Int:=if tag=1 then r_h else r_k
def c_C (ws ts:List Int) (i k tag:Int):Int:=
 if d_g ws ts=true∧(tag=1∨tag=2) then (if b_5 ws.length i k=true then f_h (i_W tag) ts i.toNat k.toNat else 3) else 1
def c_2 (ws ts:List Int) (i k tag:Int):List Int:=if c_C ws ts i k tag=0 then ws else []
def c_L (ws ts:List Int) (i k tag:Int):List Int:=if c_C ws ts i k tag=0 then j_1 ts i.toNat tag k.toNat else []
theorem q_o (l:List Int) (i j:Nat) (v:Int) (hj:j < l.length):(l.set i v).getD j 0=if i=j then v else l.getD j 0:=by
 simp only [List.getD_eq_getElem?_getD,List.getElem?_set]
 by_cases e:i=j
 ·subst e;simp [hj]
 ·simp [e]
theorem s_F {ws ts:List Int} {i:Nat} {v:Int} (h:d_g ws ts=true) (ht:ts.getD i 0≠0):d_g (ws.set i v) ts=true:=by
 have hz:=c_s h;have hg:=g_6 h;simp only [d_g,Bool.and_eq_true,k_4,decide_eq_true_eq,List.length_set];refine ⟨hz,goodB_iff.2 fun j hj=>?_⟩;have:=hg j hj;simp only [okB,decide_eq_true_eq] at this ⊢;refine ⟨this.1,this.2.1,fun h0=>?_⟩;rw [q_o _ _ _ _ hj]
 by_cases e:i=j
 ·subst e;exact absurd h0 ht
 ·rw [if_neg e];exact this.2.2 h0
theorem q_G {ws ts:List Int} {i k:Nat} {t:Int} (h:d_g ws ts=true) (ht:t=1∨t=2):d_g ws (j_1 ts i t k)=true:=by
 have hz:=c_s h;have hg:=g_6 h;simp only [d_g,Bool.and_eq_true,k_4,decide_eq_true_eq,d_i];refine ⟨hz,goodB_iff.2 fun j hj=>?_⟩;have:=hg j hj;simp only [okB,decide_eq_true_eq] at this ⊢;rw [q_9 _ _ _ _ _ (by omega)]
 by_cases e:i≤j∧j < i+k
 ·rw [if_pos e];omega
 ·rw [if_neg e];exact this
def b_9 (ps:List (Int×Int)) (x:Int):Option Int:=(ps.reverse.find? (fun p=>p.1==x)).map (·.2)
theorem i_A (ps qs:List (Int×Int)) (x:Int):b_9 (ps++qs) x=(b_9 qs x).or (b_9 ps x):=by
 simp only [b_9,List.reverse_append,List.find?_append]
 cases qs.reverse.find? (fun p=>p.1==x) <;> simp
theorem m_S (p:Int×Int) (x:Int):b_9 [p] x=if p.1=x then some p.2 else none:=by
 simp only [b_9,List.reverse_singleton,List.find?_cons,List.find?_nil]
 by_cases h:p.1=x
 ·simp [h]
 ·have h':(p.1==x)=false:=by simpa using h
  simp [h',h]
theorem k_O (ps:List (Int×Int)) (p:Int×Int) (x:Int):b_9 (ps++[p]) x=if p.1=x then some p.2 else b_9 ps x:=by
 rw [i_A,m_S]
 by_cases h:p.1=x <;> simp [h]
def c_u (ps:List (Int×Int)) (x:Int):Int:=(b_9 ps x).getD 0
def c_t (ps:List (Int×Int)) (x:Int):Bool:=(b_9 ps x).isSome
theorem h_9 (ps:List (Int×Int)) (k:Nat) (h:k < ps.length):ps.take (k+1)=ps.take k++[ps.getD k (0,0)]:=by
 rw [List.take_succ_eq_append_getElem h];simp [h]
theorem e_k (ps:List (Int×Int)) (k:Nat) (x:Int) (h:k < ps.length):b_9 (ps.take (k+1)) x=if (ps.getD k (0,0)).1=x then some (ps.getD k (0,0)).2 else b_9 (ps.take k) x:=by
 rw [h_9 ps k h,k_O]
theorem k_N {ps:List (Int×Int)} {x:Int} (h:∀ j,j < ps.length→(ps.getD j (0,0)).1≠x):b_9 ps x=none:=by
 suffices H:∀ k,k≤ps.length→b_9 (ps.take k) x=none by simpa using H ps.length (Nat.le_refl _)
 intro k
 induction k with
 | zero=>intro _;simp [b_9]
 | succ k ih=>intro hk;rw [e_k ps k x (by omega),if_neg (h k (by omega)),ih (by omega)]
theorem o_P {ps:List (Int×Int)} {x:Int} {k:Nat} (hk:k < ps.length) (he:(ps.getD k (0,0)).1=x) (h:∀ j,k < j→j < ps.length→(ps.getD j (0,0)).1≠x):b_9 ps x=some (ps.getD k (0,0)).2:=by
 suffices H:∀ m,k+1+m≤ps.length→b_9 (ps.take (k+1+m)) x=some (ps.getD k (0,0)).2 by
  have:=H (ps.length - (k+1)) (by omega);rw [show k+1+(ps.length - (k+1))=ps.length by omega] at this
  simpa using this
 intro m
 induction m with
 | zero=>intro _;rw [Nat.add_zero,e_k ps k x hk,if_pos he]
 | succ m ih=>intro hm;rw [show k+1+(m+1)=(k+1+m)+1 by omega,e_k ps _ x (by omega),if_neg (h _ (by omega) (by omega)),ih (by omega)]
def e_b (n:Nat) (depth:Int):Int:=if depth < 0∨8 < depth∨depth < n then 1 else if (n:Int)=depth then 7 else 0
def e_R (ps:List (Int×Int)) (depth:Int) (p:Int×Int):List (Int×Int):=if e_b ps.length depth=0 then ps++[p] else []
def f_F (ps:List (Int×Int)):Int×Int:=ps.getD 0 (0,0)
def e_z (ps:List (Int×Int)):List (Int×Int):=ps.drop 1
def c_0 (n D:Int):Bool:=decide (1≤n∧n≤8∧0≤D∧D≤8)
def inP (N:Nat) (p:Int×Int):Bool:=decide (0≤p.1∧p.1 < N)
def h_x (N:Nat) (D:Int) (b:List (Int×Int)):Bool:=decide ((b.length:Int)≤D)&&b.all (inP N)
def d_O (ws ts:List Int) (D:Int) (bs:List (List (Int×Int))):Bool:=d_g ws ts&&c_0 bs.length D&&bs.all (h_x ws.length D)
theorem a_X {ws ts:List Int} {D:Int} {bs:List (List (Int×Int))} (h:d_O ws ts D bs=true) :
  d_g ws ts=true∧(1≤bs.length∧bs.length≤8)∧(0≤D∧D≤8)∧∀ i,i < bs.length→(((bs.getD i []).length:Int)≤D∧∀ j,j < (bs.getD i []).length→0≤((bs.getD i []).getD j (0,0)).1∧((bs.getD i []).getD j (0,0)).1 < ws.length):=by
 simp only [d_O,c_0,Bool.and_eq_true,decide_eq_true_eq,List.all_eq_true] at h;obtain ⟨⟨h1,h2⟩,h3⟩:=h;refine ⟨h1,by omega,by omega,fun i hi=>?_⟩;have e:bs.getD i []=bs[i]:=by simp [hi]
 have hb:=h3 _ (List.getElem_mem hi);rw [←e] at hb;simp only [h_x,Bool.and_eq_true,decide_eq_true_eq,List.all_eq_true,inP] at hb;refine ⟨hb.1,fun j hj=>?_⟩
 have e2:(bs.getD i []).getD j (0,0)=(bs.getD i [])[j]:=by
  generalize bs.getD i []=b at hj ⊢
  simp [hj]
 rw [e2];exact hb.2 _ (List.getElem_mem hj)
def l_k (N:Nat) (D:Int) (bs:List (List (Int×Int))) (k:Nat):Prop:=∀ i,i < k→h_x N D (bs.getD i [])=true
def l_p (N:Nat) (b:List (Int×Int)) (k:Nat):Prop:=∀ i,i < k→inP N (b.getD i (0,0))=true
theorem k_S {N:Nat} {b:List (Int×Int)} {k:Nat} (h:l_p N b k) (h1:inP N (b.getD k (0,0))=true):l_p N b (k+1):=by
 exact J94
theorem k_b {N:Nat} {D:Int} {bs:List (List (Int×Int))} {k:Nat} (h:l_k N D bs k) (h1:h_x N D (bs.getD k [])=true):l_k N D bs (k+1):=by
 exact J94
theorem l_R {ws ts:List Int} {D:Int} {bs:List (List (Int×Int))} {k:Nat} (hk:k < bs.length) (h:h_x ws.length D (bs.getD k [])=false):d_O ws ts D bs=false:=by
 have e:bs.getD k []=bs[k]:=by simp [hk]
 rw [e] at h;have:bs.all (h_x ws.length D)=false:=List.all_eq_false.2 ⟨bs[k],List.getElem_mem hk,by rw [h];decide⟩;simp [d_O,this]
theorem o_E {ws ts:List Int} {D:Int} {bs:List (List (Int×Int))} (hm:d_g ws ts=true) (hs:c_0 bs.length D=true) (h:l_k ws.length D bs bs.length):d_O ws ts D bs=true:=by
 simp only [d_O,hm,hs,Bool.true_and,List.all_eq_true];intro b hb;obtain ⟨i,hi,rfl⟩:=List.mem_iff_getElem.1 hb;have:=h i hi
 simpa [hi] using this
def thB (bs:List (List (Int×Int))) (th:Int):Bool:=decide (0≤th∧th < bs.length)
def j_U (bs:List (List (Int×Int))) (i:Int) (b:List (Int×Int)) (k:Nat):List (Int×Int):=if (k:Int)=i then b else bs.getD k []
def e_e (bs:List (List (Int×Int))) (i:Int) (b:List (Int×Int)):Nat→List (List (Int×Int))
 | 0=>[]
 | k+1=>e_e bs i b k++[j_U bs i b k]
theorem d_D (bs:List (List (Int×Int))) (i:Int) (b:List (Int×Int)) (k:Nat):(e_e bs i b k).length=k:=by
 induction k with
 | zero=>rfl
 | succ k ih=>simp [e_e,ih]
theorem n_l (bs:List (List (Int×Int))) (i:Int) (b:List (Int×Int)) (k j:Nat) (hj:j < k):(e_e bs i b k).getD j []=j_U bs i b j:=by
 induction k with
 | zero=>omega
 | succ k ih =>
  simp only [e_e,List.getD_eq_getElem?_getD]
  by_cases e:j=k
  ·subst e;rw [List.getElem?_append_right (by rw [d_D];omega)];simp [d_D]
  ·rw [List.getElem?_append_left (by rw [d_D];omega)];have:=ih (by omega)
   simpa only [List.getD_eq_getElem?_getD] using this
theorem n_m (bs:List (List (Int×Int))) (i:Nat) (b:List (Int×Int)):e_e bs i b bs.length=bs.set i b:=by
 apply List.ext_getElem
 ·simp [d_D]
 ·intro j h1 h2;have hj:j < bs.length:=by simpa using h2
  have e1:(e_e bs i b bs.length)[j]=(e_e bs i b bs.length).getD j []:=by simp [h1]
  have e2:(bs.set i b)[j]=(bs.set i b).getD j []:=by simp [hj]
  rw [e1,e2,n_l _ _ _ _ _ hj];simp only [j_U,List.getD_eq_getElem?_getD,List.getElem?_set]
  by_cases e:i=j
  ·subst e;simp [hj]
  ·rw [if_neg (by omega),if_neg e]
def e_y (ws ts:List Int) (n D:Int):Int:=if d_g ws ts=true then (if c_0 n D=true then 0 else 2) else 1
def o_M (ws ts:List Int) (n D:Int):List Int:=if e_y ws ts n D=0 then ws else []
def o_L (ws ts:List Int) (n D:Int):List Int:=if e_y ws ts n D=0 then ts else []
def m_P (ws ts:List Int) (n D:Int):Int:=if e_y ws ts n D=0 then D else 0
def o_K (ws ts:List Int) (n D:Int):List (List (Int×Int)):=if e_y ws ts n D=0 then List.replicate n.toNat [] else []
theorem o_O {ws ts:List Int} {n D:Int} (hm:d_g ws ts=true) (hs:c_0 n D=true):e_y ws ts n D=0∧o_M ws ts n D=ws∧o_L ws ts n D=ts∧m_P ws ts n D=D∧o_K ws ts n D=List.replicate n.toNat []:=by
 have h:e_y ws ts n D=0:=by rw [e_y,if_pos hm,if_pos hs]
 refine ⟨h,?_,?_,?_,?_⟩
 ·rw [o_M,if_pos h]
 ·rw [o_L,if_pos h]
 ·rw [m_P,if_pos h]
 ·rw [o_K,if_pos h]
theorem o_N {ws ts:List Int} {n D:Int} (h:e_y ws ts n D≠0):o_M ws ts n D=[]∧o_L ws ts n D=[]∧m_P ws ts n D=0∧o_K ws ts n D=[]:=by
 refine ⟨?_,?_,?_,?_⟩
 ·rw [o_M,if_neg h]
 ·rw [o_L,if_neg h]
 ·rw [m_P,if_neg h]
 ·rw [o_K,if_neg h]
theorem i_y {ws ts:List Int} {D:Int} {k:Nat} (hm:d_g ws ts=true) (hs:c_0 k D=true):d_O ws ts D (List.replicate k [])=true:=by
 have h0:0≤D:=by simp only [c_0,decide_eq_true_eq] at hs;omega
 simp only [d_O,hm,List.length_replicate,hs,Bool.true_and,List.all_eq_true,List.mem_replicate];rintro b ⟨_,rfl⟩;simp [h_x,h0]
def j_i (ws ts:List Int) (D:Int) (bs:List (List (Int×Int))) (th:Int):Bool:=d_O ws ts D bs&&thB bs th
def d_L (bs:List (List (Int×Int))) (th:Int):List (Int×Int):=bs.getD th.toNat []
theorem d_e {ws ts:List Int} {D:Int} {bs:List (List (Int×Int))} {th:Int} (h:j_i ws ts D bs th=true):d_O ws ts D bs=true∧0≤th∧th < bs.length:=by
 simp only [j_i,thB,Bool.and_eq_true,decide_eq_true_eq] at h;exact ⟨h.1,h.2.1,h.2.2⟩
def c_5 (ws ts:List Int) (D:Int) (bs:List (List (Int×Int))) (th x:Int):Int:=if j_i ws ts D bs th=true then a_I ws ts x else 1
def f_f (ws ts:List Int) (D:Int) (bs:List (List (Int×Int))) (th x:Int):Int:=if c_5 ws ts D bs th x=0 then (b_9 (d_L bs th) x).getD (b_K ws ts x) else 0
def b_d (ws ts:List Int) (D:Int) (bs:List (List (Int×Int))) (th x:Int):Int:=if j_i ws ts D bs th=true then (if a_I ws ts x=0 then (if D=0 then 0 else if ((d_L bs th).length:Int)=D then 7 else 0) else a_I ws ts x) else 1
def b_N (ws:List Int) (D:Int) (x v:Int):List Int:=if D=0 then ws.set x.toNat v else ws
def b_I (D:Int) (bs:List (List (Int×Int))) (th x v:Int):List (List (Int×Int)):=if D=0 then bs else bs.set th.toNat (d_L bs th++[(x,v)])
def okL {α:Type} (e:Int) (l:List α):List α:=if e=0 then l else []
def okZ (e:Int) (z:Int):Int:=if e=0 then z else 0
theorem k_P {α:Type} {e:Int} (h:e=0) (l:List α):okL e l=l:=if_pos h
theorem d_p {α:Type} {e:Int} (h:e≠0) (l:List α):okL e l=[]:=if_neg h
theorem s_J {e:Int} (h:e=0) (z:Int):okZ e z=z:=if_pos h
theorem g_b {e:Int} (h:e≠0) (z:Int):okZ e z=0:=if_neg h
def d_y (kind word a b:Int):Int:=if kind=0 then (if word=a then b else word) else if kind=1 then a else IntKind.i64.wrap (word+a)
def k_y (k:Int):Bool:=decide (0≤k∧k≤2)
def b_v (ws ts:List Int) (D:Int) (bs:List (List (Int×Int))) (th k x:Int):Int:=if j_i ws ts D bs th=true∧k_y k=true then (if d_L bs th=[] then a_I ws ts x else 9) else 1
def b_w (ws ts:List Int) (k x y z:Int):List Int:=ws.set x.toNat (d_y k (b_K ws ts x) y z)
abbrev Mv:=Int×Int×Int
structure St where
 ws:List Int
 ts:List Int
 D:Int
 bs:List (List (Int×Int))
 l:Nat→List Mv
 n:Nat→List Int
end Go.Proofs.YtogdpojnbgeknaaGreatDoor
namespace Go.Proofs.YtogdpojnbgeknaaGreatDoor
open Go.RowKit
abbrev Ev:=Int×Int×Int×Int×Int×Int
structure Wo where
 code:List Ins
 ws:List Int
 ts:List Int
 D:Int
 bs:List (List (Int×Int))
 th:List Thr
 ev:List Ev
def zWo:Wo:=⟨[],[],[],0,[],[],[]⟩
def e_Q (n:Nat) (t:Thr):Bool:=a_1 t&&decide (t.lf.length=0∨t.lf.length=n)
def b_i (X:Wo):Bool:=c_a X.code&&d_O X.ws X.ts X.D X.bs&&decide (X.th.length=X.bs.length)&&X.th.all (e_Q X.th.length)
theorem a_N {X:Wo} (h:b_i X=true):c_a X.code=true∧d_O X.ws X.ts X.D X.bs=true∧X.th.length=X.bs.length∧∀ t∈X.th,e_Q X.th.length t=true:=by
 simp only [b_i,Bool.and_eq_true,decide_eq_true_eq,List.all_eq_true] at h;exact ⟨h.1.1.1,h.1.1.2,h.1.2,h.2⟩
def p_T (ts:List Thr) (n k:Nat):Prop:=∀ i t,i < k→ts[i]?=some t→e_Q n t=true
theorem h_3 {ts:List Thr} {n k:Nat} {t:Thr} (h:p_T ts n k) (ht:ts[k]?=some t) (h1:e_Q n t=true):p_T ts n (k+1):=by
 intro i u hi hu
 by_cases e:i=k
 ·subst e;rw [ht] at hu;cases hu;exact h1
 ·exact h i u (by omega) hu
theorem m_6 {X:Wo} {n:Nat} (h1:c_a X.code=true) (h2:d_O X.ws X.ts X.D X.bs=true) (h3:X.th.length=X.bs.length) (hn:X.th.length=n) (h:p_T X.th n n):b_i X=true:=by
 simp only [b_i,Bool.and_eq_true,decide_eq_true_eq,List.all_eq_true];refine ⟨⟨⟨h1,h2⟩,h3⟩,fun t ht=>?_⟩;obtain ⟨i,hi,rfl⟩:=List.mem_iff_getElem.1 ht;rw [hn];exact h i _ (by omega) (List.getElem?_eq_getElem hi)
theorem e_V {X:Wo} (h:c_a X.code=false∨d_O X.ws X.ts X.D X.bs=false∨X.th.length≠X.bs.length∨∃ t∈X.th,e_Q X.th.length t=false):b_i X=false:=by
 cases hr:b_i X with
 | false=>rfl
 | true =>
  obtain ⟨h1,h2,h3,h4⟩:=a_N hr
  rcases h with h | h | h | ⟨t,ht,h⟩
  ·rw [h] at h1;cases h1
  ·rw [h] at h2;cases h2
  ·exact absurd h3 h
  ·rw [h4 t ht] at h;cases h
def thW (X:Wo) (k:Nat):Thr:=X.th.getD k d_E
def bfW (X:Wo) (k:Nat):List (Int×Int):=X.bs.getD k []
def inW (X:Wo) (pc:Int):Ins:=X.code.getD pc.toNat (0,0,0,0)
def b_j (X:Wo) (k:Nat) (t:Thr):Wo:={ X with th:=X.th.set k t }
def b_t (t:Thr) (e:Int):Thr:={ t with st:=2,ft:=e }
def b_h (t:Thr):Thr:={ t with pc:=t.pc+1 }
def m_v (X:Wo) (t:Thr) (b:List (Int×Int)) (i:Ins):Bool:=
 if i.1=17 then decide (X.D=0∨(b.length:Int) < X.D) else
 if i.1=18∨i.1=19∨i.1=20∨i.1=21 then decide (b.length=0) else
 if i.1=22 then t.lf.all (fun n=>decide (n=0)) else
 if i.1=23 then decide (b.length=0)&&(decide (a_I X.ws X.ts (rgt t i.2.2.1)≠0)||decide (b_K X.ws X.ts (rgt t i.2.2.1)≠rgt t i.2.1)) else true
def n_Q (X:Wo) (t:Thr) (b:List (Int×Int)):Bool:=if t.st≠0 then false else if (X.code.length:Int)≤t.pc then true else m_v X t b (inW X t.pc)
def h_z (X:Wo) (k:Nat):Bool:=n_Q X (thW X k) (bfW X k)
def l_H (X:Wo) (k:Int):Bool:=decide (0≤k∧k < X.th.length)
def b_2 (X:Wo):List Int:=X.bs.map fun b=>(b.length:Int)
def d_f (X:Wo) (k:Nat) (t:Thr) (i:Ins):Int:=
 if 1≤i.1∧i.1≤15 then (if t.lf.length=0 then doE t i else 9) else
 if i.1=16 then c_5 X.ws X.ts X.D X.bs k (wrap64 (rgt t i.2.2.1+i.2.2.2)) else
 if i.1=17 then b_d X.ws X.ts X.D X.bs k (wrap64 (rgt t i.2.2.1+i.2.2.2)) else
 if 19≤i.1∧i.1≤21 then b_v X.ws X.ts X.D X.bs k (i.1 - 19) (rgt t i.2.2.1) else
 if i.1=24∨i.1=25 then c_C X.ws X.ts (rgt t i.2.1) (rgt t i.2.2.1) (i.1 - 23) else 0
def d_5 (X:Wo) (k:Nat) (t:Thr) (i:Ins):Wo:=
 if i.1=0 then b_j X k { t with st:=1 } else
 if 1≤i.1∧i.1≤15 then b_j X k (doT t k i) else
 if i.1=16 then b_j X k (c_Z t i.2.1 (f_f X.ws X.ts X.D X.bs k (wrap64 (rgt t i.2.2.1+i.2.2.2)))) else
 if i.1=17 then { b_j X k (b_h t) with ws:=b_N X.ws X.D (wrap64 (rgt t i.2.2.1+i.2.2.2)) (rgt t i.2.1),bs:=b_I X.D X.bs k (wrap64 (rgt t i.2.2.1+i.2.2.2)) (rgt t i.2.1) } else
 if 19≤i.1∧i.1≤21 then { b_j X k (c_Z t i.2.1 (b_K X.ws X.ts (rgt t i.2.2.1))) with ws:=b_w X.ws X.ts (i.1 - 19) (rgt t i.2.2.1) (rgt t i.2.1) (rgt t i.2.2.2) } else
 if i.1=22 then (if t.lf.length=0 then b_j X k { t with lf:=b_2 X } else b_j X k { b_h t with lf:=[] }) else
 if i.1=24∨i.1=25 then { b_j X k (b_h t) with ts:=c_L X.ws X.ts (rgt t i.2.1) (rgt t i.2.2.1) (i.1 - 23) } else
 if i.1=26 then { b_j X k (b_h t) with ev:=X.ev++[(i.2.1,(k:Int),t.r 0,t.r 1,t.r 2,t.r 3)] } else b_j X k (b_h t)
def h_m (X:Wo) (k:Nat):Int:=if (X.code.length:Int)≤(thW X k).pc then 3 else d_f X k (thW X k) (inW X (thW X k).pc)
def d_q (X:Wo) (k:Nat):Wo:=if h_m X k=0 then d_5 X k (thW X k) (inW X (thW X k).pc) else b_j X k (b_t (thW X k) (h_m X k))
def i_x (X:Wo) (k:Nat) (t:Thr) (i:Ins):Wo:=
 if c_C X.ws X.ts (rgt t i.2.1) (rgt t i.2.2.1) (i.1 - 23)=0 then { b_j X k (b_h t) with ts:=c_L X.ws X.ts (rgt t i.2.1) (rgt t i.2.2.1) (i.1 - 23) } else b_j X k (b_t t (c_C X.ws X.ts (rgt t i.2.1) (rgt t i.2.2.1) (i.1 - 23)))
def k_I (X:Wo) (k:Nat) (t:Thr) (i:Ins):Wo:=
 if b_v X.ws X.ts X.D X.bs k (i.1 - 19) (rgt t i.2.2.1)=0 then { b_j X k (c_Z t i.2.1 (b_K X.ws X.ts (rgt t i.2.2.1))) with ws:=b_w X.ws X.ts (i.1 - 19) (rgt t i.2.2.1) (rgt t i.2.1) (rgt t i.2.2.2) } else b_j X k (b_t t (b_v X.ws X.ts X.D X.bs k (i.1 - 19) (rgt t i.2.2.1)))
def t_P (X:Wo) (k:Nat) (t:Thr) (i:Ins):Wo:=
 if c_5 X.ws X.ts X.D X.bs k (wrap64 (rgt t i.2.2.1+i.2.2.2))=0 then b_j X k (c_Z t i.2.1 (f_f X.ws X.ts X.D X.bs k (wrap64 (rgt t i.2.2.1+i.2.2.2)))) else b_j X k (b_t t (c_5 X.ws X.ts X.D X.bs k (wrap64 (rgt t i.2.2.1+i.2.2.2))))
def r_V (X:Wo) (k:Nat) (t:Thr) (i:Ins):Wo:=
 if b_d X.ws X.ts X.D X.bs k (wrap64 (rgt t i.2.2.1+i.2.2.2))=0 then { b_j X k (b_h t) with ws:=b_N X.ws X.D (wrap64 (rgt t i.2.2.1+i.2.2.2)) (rgt t i.2.1),bs:=b_I X.D X.bs k (wrap64 (rgt t i.2.2.1+i.2.2.2)) (rgt t i.2.1) } else b_j X k (b_t t (b_d X.ws X.ts X.D X.bs k (wrap64 (rgt t i.2.2.1+i.2.2.2))))
def p_L (X:Wo) (k:Nat) (t:Thr) (i:Ins):Wo:=if i.1=16 then t_P X k t i else r_V X k t i
def g_p (X:Wo) (k:Nat) (t:Thr):Wo:=if t.lf.length=0 then b_j X k { t with lf:=b_2 X } else b_j X k { b_h t with lf:=[] }
def i_w (k:Nat) (t:Thr):Thr:=if t.lf.length=0 then t else { t with lf:=t.lf.set k (max 0 (t.lf.getD k 0 - 1)) }
def flE (X:Wo) (k:Nat):Int:=a_I X.ws X.ts (f_F (bfW X k)).1
def flT (X:Wo) (k:Nat):Thr:=if flE X k=0∨(thW X k).st=2 then thW X k else b_t (thW X k) (flE X k)
def d_t (X:Wo) (k:Nat):Wo:=
 { X with ws:=if flE X k=0 then X.ws.set (f_F (bfW X k)).1.toNat (f_F (bfW X k)).2 else X.ws,bs:=X.bs.set k (e_z (bfW X k)),th:=(X.th.set k (flT X k)).map (i_w k) }
def f_e (X:Wo) (a:Int×Int):Bool:=l_H X a.2&&(if a.1=0 then h_z X a.2.toNat else decide (a.1=1)&&decide ((bfW X a.2.toNat).length≠0))
def doW (X:Wo) (a:Int×Int):Wo:=if f_e X a=true then (if a.1=0 then d_q X a.2.toNat else d_t X a.2.toNat) else X
def h_E (X:Wo) (l:List (Int×Int)):Wo:=l.foldl doW X
def k_M (code:List Ins) (starts:List Int) (ws ts:List Int) (D:Int):Wo:=⟨code,ws,ts,D,List.replicate starts.length [],starts.map (fun s=>{ d_E with pc:=s }),[]⟩
end Go.Proofs.YtogdpojnbgeknaaGreatDoor
