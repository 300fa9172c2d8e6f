import Derived.Test.YtolabfafgbmdbaaGreatDoorR0
import Derived.WalkKit
import Derived.Test.YtolabfafgbmdbaaGreatDoorR5
import Derived.Test.YtolabfafgbmdbaaGreatDoorR7
import Derived.Test.YtolabfafgbmdbaaGreatDoorRows
import Derived.Test.YtolabfafgbmdbaaGreatDoorR1
import Derived.ProofKit
import Derived.Handy
import Derived.Lib.Hide
import Derived.BigQuiet
import Derived.Deep.QuietTactic
import Derived.RegionTactic
import Derived.Laws.CopyOwn
import Derived.Carry
namespace Go.Proofs.YtolabfafgbmdbaaGreatDoor
def okB (ws ts:List Int) (k:Nat):Bool:=decide (0≤ts.getD k 0∧ts.getD k 0≤2∧(ts.getD k 0=0→ws.getD k 0=0))
def d_X (ws ts:List Int) (k:Nat):Prop:=∀ i,i < k→okB ws ts i=true
def i_N (ws ts:List Int) (n:Nat):Bool:=(List.range n).all (okB ws ts)
theorem goodB_iff {ws ts:List Int} {n:Nat}:i_N ws ts n=true ↔ d_X ws ts n:=by
 simp [i_N,d_X]
theorem l_I {ws ts:List Int} {k:Nat} (h:d_X ws ts k) (h1:okB ws ts k=true):d_X ws ts (k+1):=by
 exact J86
theorem n_K {ws ts:List Int} {k n:Nat} (hk:k < n) (h1:okB ws ts k=false):i_N ws ts n=false:=by
 cases h:i_N ws ts n with
 | false=>rfl
 | true=>have:=goodB_iff.1 h k hk;simp [h1] at this
def m_L (n n':Nat):Bool:=decide (1≤n∧n≤160∧n'=n)
def c_E (ws ts:List Int):Bool:=m_L ws.length ts.length&&i_N ws ts ws.length
theorem c_4 {ws ts:List Int} (h:c_E ws ts=true):1≤ws.length∧ws.length≤160∧ts.length=ws.length:=by
 simp only [c_E,m_L,Bool.and_eq_true,decide_eq_true_eq] at h;exact h.1
theorem l_7 {ws ts:List Int} (h:c_E ws ts=true):d_X ws ts ws.length:=by
 simp only [c_E,Bool.and_eq_true] at h;exact goodB_iff.1 h.2
theorem j_T {ws ts:List Int} (h:c_E ws ts=true) (i:Nat) (hi:i < ws.length):0≤ts.getD i 0∧ts.getD i 0≤2:=by
 have:=l_7 h i hi;simp only [okB,decide_eq_true_eq] at this;exact ⟨this.1,this.2.1⟩
def cnt (ts:List Int) (t:Int):Nat:=(ts.filter (·==t)).length
theorem g_Y {ts:List Int} {k:Nat} (t:Int) (hk:k < ts.length):cnt (ts.take (k+1)) t=cnt (ts.take k) t+if ts.getD k 0=t then 1 else 0:=by
 have e:ts.take (k+1)=ts.take k++[ts.getD k 0]:=by
  rw [List.take_succ_eq_append_getElem hk];simp [hk]
 rw [e];simp only [cnt,List.filter_append,List.length_append]
 by_cases h:ts.getD k 0=t
 ·rw [if_pos h,List.filter_cons,if_pos (by simpa using h)];simp
 ·rw [if_neg h,List.filter_cons,if_neg (by simpa using h)];simp
def q_p (t:Int):Int:=if t=0 then 4 else if t=1 then 0 else 5
def q_n (t:Int):Int:=if t=1 then 6 else 0
def a_L (ws ts:List Int) (i:Int):Int:=if c_E ws ts=true then (if 0≤i∧i < ws.length then q_p (ts.getD i.toNat 0) else 3) else 1
def b_T (ws ts:List Int) (i:Int):Int:=if a_L ws ts i=0 then ws.getD i.toNat 0 else 0
def f_2 (ws ts:List Int) (i v:Int):List Int:=if a_L ws ts i=0 then ws.set i.toNat v else []
def f_1 (ws ts:List Int) (i:Int):List Int:=if a_L ws ts i=0 then ts else []
theorem f_5 {ws ts:List Int} {i:Int} (h:a_L ws ts i=0):c_E ws ts=true∧0≤i∧i < ws.length∧ts.getD i.toNat 0=1:=by
 unfold a_L at h
 split at h
 ·rename_i hm
  split at h
  ·rename_i hi
   refine ⟨hm,hi.1,hi.2,?_⟩;unfold q_p at h
   split at h
   ·simp at h
   ·split at h
    ·assumption
    ·simp at h
  ·simp at h
 ·simp at h
def p_G (ts:List Int) (i:Nat) (t:Int):Nat→List Int
 | 0=>ts
 | k+1=>(p_G ts i t k).set (i+k) t
theorem f_X (ts:List Int) (i:Nat) (t:Int) (k:Nat):(p_G ts i t k).length=ts.length:=by
 induction k with
 | zero=>rfl
 | succ k ih=>simp [p_G,ih]
def g_g (f:Int→Int) (ts:List Int) (i:Nat):Nat→Int
 | 0=>0
 | k+1=>if g_g f ts i k=0 then f (ts.getD (i+k) 0) else g_g f ts i k
theorem f_V {f:Int→Int} {ts:List Int} {i:Nat} {k:Nat} {x:Int} (h:g_g f ts i k=0) (hx:f (ts.getD (i+k) 0)=x) (hn:x≠0):∀ {n:Nat},k < n→g_g f ts i n=x
 | 0,hk=>by omega
 | n+1,hk=>by
  simp only [g_g]
  by_cases e:n=k
  ·subst e;rw [if_pos h,hx]
  ·rw [f_V h hx hn (n:=n) (by omega),if_neg hn]
def b_U (n:Nat) (i k:Int):Bool:=decide (1≤k∧0≤i∧k≤n - i)
def k_5 (tag:Int):Int→Int:=if tag=1 then q_n else q_p
def c_D (ws ts:List Int) (i k tag:Int):Int:=
 if c_E ws ts=true∧(tag=1∨tag=2) then (if b_U ws.length i k=true then g_g (k_5 tag) ts i.toNat k.toNat else 3) else 1
def d_t (ws ts:List Int) (i k tag:Int):List Int:=if c_D ws ts i k tag=0 then ws else []
def d_i (ws ts:List Int) (i k tag:Int):List Int:=if c_D ws ts i k tag=0 then p_G ts i.toNat tag k.toNat else []
def b_A (ps:List (Int×Int)) (x:Int):Option Int:=(ps.reverse.find? (fun p=>p.1==x)).map (·.2)
theorem g_9 (ps qs:List (Int×Int)) (x:Int):b_A (ps++qs) x=(b_A qs x).or (b_A ps x):=by
 simp only [b_A,List.reverse_append,List.find?_append]
 cases qs.reverse.find? (fun p=>p.1==x) <;> simp
theorem k_G (p:Int×Int) (x:Int):b_A [p] x=if p.1=x then some p.2 else none:=by
 simp only [b_A,List.reverse_singleton,List.find?_cons,List.find?_nil]
 by_cases h:p.1=x
 ·simp [h]
 ·have h':(p.1==x)=false:=by simpa using h
  simp [h',h]
theorem i_4 (ps:List (Int×Int)) (p:Int×Int) (x:Int):b_A (ps++[p]) x=if p.1=x then some p.2 else b_A ps x:=by
 rw [g_9,k_G]
 by_cases h:p.1=x <;> simp [h]
def e_a (ps:List (Int×Int)) (x:Int):Int:=(b_A ps x).getD 0
def d_9 (ps:List (Int×Int)) (x:Int):Bool:=(b_A ps x).isSome
theorem k_X (ps:List (Int×Int)) (k:Nat) (h:k < ps.length):ps.take (k+1)=ps.take k++[ps.getD k (0,0)]:=by
 rw [List.take_succ_eq_append_getElem h];simp [h]
theorem e_b (ps:List (Int×Int)) (k:Nat) (x:Int) (h:k < ps.length):b_A (ps.take (k+1)) x=if (ps.getD k (0,0)).1=x then some (ps.getD k (0,0)).2 else b_A (ps.take k) x:=by
 rw [k_X ps k h,i_4]
theorem i_3 {ps:List (Int×Int)} {x:Int} (h:∀ j,j < ps.length→(ps.getD j (0,0)).1≠x):b_A ps x=none:=by
 suffices H:∀ k,k≤ps.length→b_A (ps.take k) x=none by simpa using H ps.length (Nat.le_refl _)
 intro k
 induction k with
 | zero=>intro _;simp [b_A]
 | succ k ih=>intro hk;rw [e_b ps k x (by omega),if_neg (h k (by omega)),ih (by omega)]
theorem m_j {ps:List (Int×Int)} {x:Int} {k:Nat} (hk:k < ps.length) (he:(ps.getD k (0,0)).1=x) (h:∀ j,k < j→j < ps.length→(ps.getD j (0,0)).1≠x):b_A ps x=some (ps.getD k (0,0)).2:=by
 suffices H:∀ m,k+1+m≤ps.length→b_A (ps.take (k+1+m)) x=some (ps.getD k (0,0)).2 by
  have:=H (ps.length - (k+1)) (by omega);rw [show k+1+(ps.length - (k+1))=ps.length by omega] at this
  simpa using this
 intro m
 induction m with
 | zero=>intro _;rw [Nat.add_zero,e_b ps k x hk,if_pos he]
 | succ m ih=>intro hm;rw [show k+1+(m+1)=(k+1+m)+1 by omega,e_b ps _ x (by omega),if_neg (h _ (by omega) (by omega)),ih (by omega)]
def c_7 (n:Nat) (depth:Int):Int:=if depth < 0∨8 < depth∨depth < n then 1 else if (n:Int)=depth then 7 else 0
def d_F (ps:List (Int×Int)) (depth:Int) (p:Int×Int):List (Int×Int):=if c_7 ps.length depth=0 then ps++[p] else []
def e_z (ps qs:List (Int×Int)):Bool:=decide (ps=qs)
theorem j_i (ps:List (Int×Int)):e_z ps ps=true:=by simp [e_z]
theorem k_V {xs ys:List (Int×Int)} (h:xs.length≠ys.length):e_z xs ys=false:=by
 simp only [e_z,decide_eq_false_iff_not];intro e;rw [e] at h;exact h rfl
theorem m_H {xs ys:List (Int×Int)} (k:Nat) (h:xs.getD k (0,0)≠ys.getD k (0,0)):e_z xs ys=false:=by
 simp only [e_z,decide_eq_false_iff_not];intro e;rw [e] at h;exact h rfl
def g_Q (xs ys:List (Int×Int)) (k:Nat):Prop:=∀ j,j < k→xs.getD j (0,0)=ys.getD j (0,0)
theorem k_U {xs ys:List (Int×Int)} (hl:xs.length=ys.length) (h:g_Q xs ys xs.length):e_z xs ys=true:=by
 simp only [e_z,decide_eq_true_eq]
 apply List.ext_getElem hl
 intro j h1 h2;have:=h j h1
 simpa [h1,h2] using this
theorem i_a {xs ys:List (Int×Int)} {k:Nat} (h:g_Q xs ys k) (e:xs.getD k (0,0)=ys.getD k (0,0)):g_Q xs ys (k+1):=by
 intro j hj
 by_cases c:j=k
 ·subst c;exact e
 ·exact h j (by omega)
def b_r (n D:Int):Bool:=decide (1≤n∧n≤8∧0≤D∧D≤8)
def inP (N:Nat) (p:Int×Int):Bool:=decide (0≤p.1∧p.1 < N)
def h_q (N:Nat) (D:Int) (b:List (Int×Int)):Bool:=decide ((b.length:Int)≤D)&&b.all (inP N)
def c_P (ws ts:List Int) (D:Int) (bs:List (List (Int×Int))):Bool:=c_E ws ts&&b_r bs.length D&&bs.all (h_q ws.length D)
theorem b_h {ws ts:List Int} {D:Int} {bs:List (List (Int×Int))} (h:c_P ws ts D bs=true) :
  c_E ws ts=true∧(1≤bs.length∧bs.length≤8)∧(0≤D∧D≤8)∧∀ i,i < bs.length→(((bs.getD i []).length:Int)≤D∧∀ j,j < (bs.getD i []).length→0≤((bs.getD i []).getD j (0,0)).1∧((bs.getD i []).getD j (0,0)).1 < ws.length):=by
 simp only [c_P,b_r,Bool.and_eq_true,decide_eq_true_eq,List.all_eq_true] at h;obtain ⟨⟨h1,h2⟩,h3⟩:=h;refine ⟨h1,by omega,by omega,fun i hi=>?_⟩;have e:bs.getD i []=bs[i]:=by simp [hi]
 have hb:=h3 _ (List.getElem_mem hi);rw [←e] at hb;simp only [h_q,Bool.and_eq_true,decide_eq_true_eq,List.all_eq_true,inP] at hb;refine ⟨hb.1,fun j hj=>?_⟩
 have e2:(bs.getD i []).getD j (0,0)=(bs.getD i [])[j]:=by
  generalize bs.getD i []=b at hj ⊢
  simp [hj]
 rw [e2];exact hb.2 _ (List.getElem_mem hj)
def h_s (N:Nat) (D:Int) (bs:List (List (Int×Int))) (k:Nat):Prop:=∀ i,i < k→h_q N D (bs.getD i [])=true
def g_o (N:Nat) (b:List (Int×Int)) (k:Nat):Prop:=∀ i,i < k→inP N (b.getD i (0,0))=true
theorem f_Q {N:Nat} {b:List (Int×Int)} {k:Nat} (h:g_o N b k) (h1:inP N (b.getD k (0,0))=true):g_o N b (k+1):=by
 exact J86
theorem f_B {N:Nat} {D:Int} {bs:List (List (Int×Int))} {k:Nat} (h:h_s N D bs k) (h1:h_q N D (bs.getD k [])=true):h_s N D bs (k+1):=by
 exact J86
theorem l_q {N:Nat} {D:Int} {b:List (Int×Int)} (hl:(b.length:Int)≤D) (h:g_o N b b.length):h_q N D b=true:=by
 simp only [h_q,Bool.and_eq_true,decide_eq_true_eq,List.all_eq_true];refine ⟨hl,fun p hp=>?_⟩;obtain ⟨i,hi,rfl⟩:=List.mem_iff_getElem.1 hp;have:=h i hi
 simpa [hi] using this
theorem n_y {N:Nat} {D:Int} {b:List (Int×Int)} {k:Nat} (hk:k < b.length) (h:inP N (b.getD k (0,0))=false):h_q N D b=false:=by
 have e:b.getD k (0,0)=b[k]:=by simp [hk]
 rw [e] at h;have:b.all (inP N)=false:=List.all_eq_false.2 ⟨b[k],List.getElem_mem hk,by rw [h];decide⟩;simp [h_q,this]
theorem f_s {ws ts:List Int} {D:Int} {bs:List (List (Int×Int))} {k:Nat} (hk:k < bs.length) (h:h_q ws.length D (bs.getD k [])=false):c_P ws ts D bs=false:=by
 have e:bs.getD k []=bs[k]:=by simp [hk]
 rw [e] at h;have:bs.all (h_q ws.length D)=false:=List.all_eq_false.2 ⟨bs[k],List.getElem_mem hk,by rw [h];decide⟩;simp [c_P,this]
theorem h_U {ws ts:List Int} {D:Int} {bs:List (List (Int×Int))} (hm:c_E ws ts=true) (hs:b_r bs.length D=true) (h:h_s ws.length D bs bs.length):c_P ws ts D bs=true:=by
 simp only [c_P,hm,hs,Bool.true_and,List.all_eq_true];intro b hb;obtain ⟨i,hi,rfl⟩:=List.mem_iff_getElem.1 hb;have:=h i hi
 simpa [hi] using this
def thB (bs:List (List (Int×Int))) (th:Int):Bool:=decide (0≤th∧th < bs.length)
def c_r (ws ts:List Int) (n D:Int):Int:=if c_E ws ts=true then (if b_r n D=true then 0 else 2) else 1
def m_g (ws ts:List Int) (n D:Int):List Int:=if c_r ws ts n D=0 then ws else []
def m_f (ws ts:List Int) (n D:Int):List Int:=if c_r ws ts n D=0 then ts else []
def k_D (ws ts:List Int) (n D:Int):Int:=if c_r ws ts n D=0 then D else 0
def m_d (ws ts:List Int) (n D:Int):List (List (Int×Int)):=if c_r ws ts n D=0 then List.replicate n.toNat [] else []
theorem m_i {ws ts:List Int} {n D:Int} (hm:c_E ws ts=true) (hs:b_r n D=true):c_r ws ts n D=0∧m_g ws ts n D=ws∧m_f ws ts n D=ts∧k_D ws ts n D=D∧m_d ws ts n D=List.replicate n.toNat []:=by
 have h:c_r ws ts n D=0:=by rw [c_r,if_pos hm,if_pos hs]
 refine ⟨h,?_,?_,?_,?_⟩
 ·rw [m_g,if_pos h]
 ·rw [m_f,if_pos h]
 ·rw [k_D,if_pos h]
 ·rw [m_d,if_pos h]
theorem m_h {ws ts:List Int} {n D:Int} (h:c_r ws ts n D≠0):m_g ws ts n D=[]∧m_f ws ts n D=[]∧k_D ws ts n D=0∧m_d ws ts n D=[]:=by
 refine ⟨?_,?_,?_,?_⟩
 ·rw [m_g,if_neg h]
 ·rw [m_f,if_neg h]
 ·rw [k_D,if_neg h]
 ·rw [m_d,if_neg h]
theorem g_7 {ws ts:List Int} {D:Int} {k:Nat} (hm:c_E ws ts=true) (hs:b_r k D=true):c_P ws ts D (List.replicate k [])=true:=by
 have h0:0≤D:=by simp only [b_r,decide_eq_true_eq] at hs;omega
 simp only [c_P,hm,List.length_replicate,hs,Bool.true_and,List.all_eq_true,List.mem_replicate];rintro b ⟨_,rfl⟩;simp [h_q,h0]
def o_E (ws ts:List Int) (D:Int) (bs:List (List (Int×Int))) (th:Int):Bool:=c_P ws ts D bs&&thB bs th
def e_l (bs:List (List (Int×Int))) (th:Int):List (Int×Int):=bs.getD th.toNat []
theorem e_U {ws ts:List Int} {D:Int} {bs:List (List (Int×Int))} {th:Int} (h:o_E ws ts D bs th=true):c_P ws ts D bs=true∧0≤th∧th < bs.length:=by
 simp only [o_E,thB,Bool.and_eq_true,decide_eq_true_eq] at h;exact ⟨h.1,h.2.1,h.2.2⟩
def f_d (ws ts:List Int) (D:Int) (bs:List (List (Int×Int))) (th x:Int):Int:=if o_E ws ts D bs th=true then a_L ws ts x else 1
def g_e (ws ts:List Int) (D:Int) (bs:List (List (Int×Int))) (th x:Int):Int:=if f_d ws ts D bs th x=0 then (b_A (e_l bs th) x).getD (b_T ws ts x) else 0
def b_2 (ws ts:List Int) (D:Int) (bs:List (List (Int×Int))) (th x:Int):Int:=if o_E ws ts D bs th=true then (if a_L ws ts x=0 then (if D=0 then 0 else if ((e_l bs th).length:Int)=D then 7 else 0) else a_L ws ts x) else 1
def c_K (ws:List Int) (D:Int) (x v:Int):List Int:=if D=0 then ws.set x.toNat v else ws
def c_J (D:Int) (bs:List (List (Int×Int))) (th x v:Int):List (List (Int×Int)):=if D=0 then bs else bs.set th.toNat (e_l bs th++[(x,v)])
def okL {α:Type} (e:Int) (l:List α):List α:=if e=0 then l else []
def okZ (e:Int) (z:Int):Int:=if e=0 then z else 0
theorem i_5 {α:Type} {e:Int} (h:e=0) (l:List α):okL e l=l:=if_pos h
theorem e_0 {α:Type} {e:Int} (h:e≠0) (l:List α):okL e l=[]:=if_neg h
theorem p_v {e:Int} (h:e=0) (z:Int):okZ e z=z:=if_pos h
theorem i_6 {e:Int} (h:e≠0) (z:Int):okZ e z=0:=if_neg h
def d_s (kind word a b:Int):Int:=if kind=0 then (if word=a then b else word) else if kind=1 then a else IntKind.i64.wrap (word+a)
def l_Y (k:Int):Bool:=decide (0≤k∧k≤2)
def b_4 (ws ts:List Int) (D:Int) (bs:List (List (Int×Int))) (th k x:Int):Int:=if o_E ws ts D bs th=true∧l_Y k=true then (if e_l bs th=[] then a_L ws ts x else 9) else 1
def b_5 (ws ts:List Int) (k x y z:Int):List Int:=ws.set x.toNat (d_s k (b_T ws ts x) y z)
abbrev Mv:=Int×Int×Int
structure St where
 ws:List Int
 ts:List Int
 D:Int
 bs:List (List (Int×Int))
 l:Nat→List Mv
 n:Nat→List Int
end Go.Proofs.YtolabfafgbmdbaaGreatDoor
namespace Go.Proofs.YtolabfafgbmdbaaGreatDoor
open Go.RowKit
abbrev Ev:=Int×Int×Int×Int×Int×Int
structure Wo where
 code:List Ins
 ws:List Int
 ts:List Int
 D:Int
 bs:List (List (Int×Int))
 th:List Thr
 ev:List Ev
def zWo:Wo:=⟨[],[],[],0,[],[],[]⟩
def h_a (n:Nat) (t:Thr):Bool:=b_c t&&decide (t.lf.length=0∨t.lf.length=n)
def a_5 (X:Wo):Bool:=b_q X.code&&c_P X.ws X.ts X.D X.bs&&decide (X.th.length=X.bs.length)&&X.th.all (h_a X.th.length)
theorem b_I {X:Wo} (h:a_5 X=true):b_q X.code=true∧c_P X.ws X.ts X.D X.bs=true∧X.th.length=X.bs.length∧∀ t∈X.th,h_a X.th.length t=true:=by
 simp only [a_5,Bool.and_eq_true,decide_eq_true_eq,List.all_eq_true] at h;exact ⟨h.1.1.1,h.1.1.2,h.1.2,h.2⟩
def l_e (ts:List Thr) (n k:Nat):Prop:=∀ i t,i < k→ts[i]?=some t→h_a n t=true
theorem d_N {ts:List Thr} {n k:Nat} {t:Thr} (h:l_e ts n k) (ht:ts[k]?=some t) (h1:h_a n t=true):l_e ts n (k+1):=by
 intro i u hi hu
 by_cases e:i=k
 ·subst e;rw [ht] at hu;cases hu;exact h1
 ·exact h i u (by omega) hu
theorem g_H {X:Wo} {n:Nat} (h1:b_q X.code=true) (h2:c_P X.ws X.ts X.D X.bs=true) (h3:X.th.length=X.bs.length) (hn:X.th.length=n) (h:l_e X.th n n):a_5 X=true:=by
 simp only [a_5,Bool.and_eq_true,decide_eq_true_eq,List.all_eq_true];refine ⟨⟨⟨h1,h2⟩,h3⟩,fun t ht=>?_⟩;obtain ⟨i,hi,rfl⟩:=List.mem_iff_getElem.1 ht;rw [hn];exact h i _ (by omega) (List.getElem?_eq_getElem hi)
theorem b_W {X:Wo} (h:b_q X.code=false∨c_P X.ws X.ts X.D X.bs=false∨X.th.length≠X.bs.length∨∃ t∈X.th,h_a X.th.length t=false):a_5 X=false:=by
 cases hr:a_5 X with
 | false=>rfl
 | true =>
  obtain ⟨h1,h2,h3,h4⟩:=b_I hr
  rcases h with h | h | h | ⟨t,ht,h⟩
  ·rw [h] at h1;cases h1
  ·rw [h] at h2;cases h2
  ·exact absurd h3 h
  ·rw [h4 t ht] at h;cases h
def thW (X:Wo) (k:Nat):Thr:=X.th.getD k d_d
def bfW (X:Wo) (k:Nat):List (Int×Int):=X.bs.getD k []
def inW (X:Wo) (pc:Int):Ins:=X.code.getD pc.toNat (0,0,0,0)
def b_y (X:Wo) (k:Nat) (t:Thr):Wo:={ X with th:=X.th.set k t }
def h_J (t:Thr) (e:Int):Thr:={ t with st:=2,ft:=e }
def b_s (t:Thr):Thr:={ t with pc:=t.pc+1 }
def o_4 (X:Wo) (t:Thr) (b:List (Int×Int)) (i:Ins):Bool:=
 if i.1=17 then decide (X.D=0∨(b.length:Int) < X.D) else
 if i.1=18∨i.1=19∨i.1=20∨i.1=21 then decide (b.length=0) else
 if i.1=22 then t.lf.all (fun n=>decide (n=0)) else
 if i.1=23 then decide (b.length=0)&&(decide (a_L X.ws X.ts (rgt t i.2.2.1)≠0)||decide (b_T X.ws X.ts (rgt t i.2.2.1)≠rgt t i.2.1)) else true
def p_R (X:Wo) (t:Thr) (b:List (Int×Int)):Bool:=if t.st≠0 then false else if (X.code.length:Int)≤t.pc then true else o_4 X t b (inW X t.pc)
def k_o (X:Wo) (k:Nat):Bool:=p_R X (thW X k) (bfW X k)
def q_e (X:Wo) (k:Int):Bool:=decide (0≤k∧k < X.th.length)
def d_c (X:Wo):List Int:=X.bs.map fun b=>(b.length:Int)
def f_r (X:Wo) (k:Nat) (t:Thr) (i:Ins):Int:=
 if 1≤i.1∧i.1≤15 then (if t.lf.length=0 then doE t i else 9) else
 if i.1=16 then f_d X.ws X.ts X.D X.bs k (wrap64 (rgt t i.2.2.1+i.2.2.2)) else
 if i.1=17 then b_2 X.ws X.ts X.D X.bs k (wrap64 (rgt t i.2.2.1+i.2.2.2)) else
 if 19≤i.1∧i.1≤21 then b_4 X.ws X.ts X.D X.bs k (i.1 - 19) (rgt t i.2.2.1) else
 if i.1=24∨i.1=25 then c_D X.ws X.ts (rgt t i.2.1) (rgt t i.2.2.1) (i.1 - 23) else 0
def f_k (X:Wo) (k:Nat) (t:Thr) (i:Ins):Wo:=
 if i.1=0 then b_y X k { t with st:=1 } else
 if 1≤i.1∧i.1≤15 then b_y X k (doT t k i) else
 if i.1=16 then b_y X k (d_P t i.2.1 (g_e X.ws X.ts X.D X.bs k (wrap64 (rgt t i.2.2.1+i.2.2.2)))) else
 if i.1=17 then { b_y X k (b_s t) with ws:=c_K X.ws X.D (wrap64 (rgt t i.2.2.1+i.2.2.2)) (rgt t i.2.1),bs:=c_J X.D X.bs k (wrap64 (rgt t i.2.2.1+i.2.2.2)) (rgt t i.2.1) } else
 if 19≤i.1∧i.1≤21 then { b_y X k (d_P t i.2.1 (b_T X.ws X.ts (rgt t i.2.2.1))) with ws:=b_5 X.ws X.ts (i.1 - 19) (rgt t i.2.2.1) (rgt t i.2.1) (rgt t i.2.2.2) } else
 if i.1=22 then (if t.lf.length=0 then b_y X k { t with lf:=d_c X } else b_y X k { b_s t with lf:=[] }) else
 if i.1=24∨i.1=25 then { b_y X k (b_s t) with ts:=d_i X.ws X.ts (rgt t i.2.1) (rgt t i.2.2.1) (i.1 - 23) } else
 if i.1=26 then { b_y X k (b_s t) with ev:=X.ev++[(i.2.1,(k:Int),t.r 0,t.r 1,t.r 2,t.r 3)] } else b_y X k (b_s t)
def j_n (X:Wo) (k:Nat):Int:=if (X.code.length:Int)≤(thW X k).pc then 3 else f_r X k (thW X k) (inW X (thW X k).pc)
def i_d (X:Wo) (k:Nat):Wo:=if j_n X k=0 then f_k X k (thW X k) (inW X (thW X k).pc) else b_y X k (h_J (thW X k) (j_n X k))
def j_W (code:List Ins) (starts:List Int) (ws ts:List Int) (D:Int):Wo:=⟨code,ws,ts,D,List.replicate starts.length [],starts.map (fun s=>{ d_d with pc:=s }),[]⟩
end Go.Proofs.YtolabfafgbmdbaaGreatDoor
namespace Go.Proofs.YtolabfafgbmdbaaGreatDoor
open Go.ChangeShapes Go.WideShapes Go.ChangeAt Go.RowKit
def Row (w:World) (b off:Nat) (zs:List Int):Prop:=∀ i,i < zs.length→w.cell? ⟨b,off+i,none⟩=some (.int .i64 (zs.getD i 0))
theorem j_1 {w:World} {b off:Nat} {zs:List Int} (o:Obj) (h:Row w b off zs):Row (w.alloc o) b off zs:=fun i hi=>a_J o (h i hi)
theorem q_R {w:World} {b off:Nat} {zs:List Int} (h:Row w b off zs):Row w.drew b off zs:=h
theorem n_a {w w':World} {b off:Nat} {zs:List Int} (hb:Below w.heap.size w w') (h:Row w b off zs):Row w' b off zs:=fun i hi=>a_n hb (h i hi)
def Sl (w:World) (a:Option Addr) (n:Nat) (zs:List Int):Prop:=zs.length=n∧(n=0∨∃ b o,a=some ⟨b,o,none⟩∧Row w b o zs)
theorem slA {w:World} {a:Option Addr} {n:Nat} {zs:List Int} (o:Obj) (h:Sl w a n zs):Sl (w.alloc o) a n zs:=
 ⟨h.1,h.2.imp id fun ⟨b,f,e,r⟩=>⟨b,f,e,j_1 o r⟩⟩
theorem slB {w w':World} {a:Option Addr} {n:Nat} {zs:List Int} (hb:Below w.heap.size w w') (h:Sl w a n zs):Sl w' a n zs:=
 ⟨h.1,h.2.imp id fun ⟨b,f,e,r⟩=>⟨b,f,e,n_a hb r⟩⟩
def SlF (F:Nat) (w:World) (a:Option Addr) (n:Nat) (zs:List Int):Prop:=zs.length=n∧(n=0∨∃ b o,a=some ⟨b,o,none⟩∧F≤b∧Row w b o zs)
theorem SlF.sl {F:Nat} {w:World} {a:Option Addr} {n:Nat} {zs:List Int} (h:SlF F w a n zs):Sl w a n zs:=⟨h.1,h.2.imp id fun ⟨b,o,e,_,r⟩=>⟨b,o,e,r⟩⟩
theorem f_Z (F:Nat) (w:World):SlF F w none 0 []:=⟨rfl,.inl rfl⟩
theorem i_b {F:Nat} {w w':World} {a:Option Addr} {n:Nat} {zs:List Int} (hb:Below w.heap.size w w') (h:SlF F w a n zs):SlF F w' a n zs:=
 ⟨h.1,h.2.imp id fun ⟨b,f,e,hf,r⟩=>⟨b,f,e,hf,n_a hb r⟩⟩
theorem c_I {w:World} {a:Option Addr} {n:Nat} {zs:List Int} (h:Sl w a n zs) (hn:1≤n):zs.length=n∧∃ b o,a=some ⟨b,o,none⟩∧Row w b o zs:=
 ⟨h.1,h.2.resolve_left (by omega)⟩
def SlP (Q:Nat→Prop) (w:World) (a:Option Addr) (n:Nat) (zs:List Int):Prop:=zs.length=n∧(n=0∨∃ b o,a=some ⟨b,o,none⟩∧Q b∧Row w b o zs)
theorem SlP.sl {Q:Nat→Prop} {w:World} {a:Option Addr} {n:Nat} {zs:List Int} (h:SlP Q w a n zs):Sl w a n zs:=⟨h.1,h.2.imp id fun ⟨b,o,e,_,r⟩=>⟨b,o,e,r⟩⟩
theorem g_J {w:World} {a:Option Addr} {n:Nat} {zs:List Int} (h:Sl w a n zs):SlP (fun _=>True) w a n zs:=⟨h.1,h.2.imp id fun ⟨b,o,e,r⟩=>⟨b,o,e,trivial,r⟩⟩
theorem c_o {Q:Nat→Prop} {F:Nat} {w:World} {a:Option Addr} {n:Nat} {zs:List Int} (hQ:∀ b,F≤b→Q b) (h:SlF F w a n zs):SlP Q w a n zs:=⟨h.1,h.2.imp id fun ⟨b,o,e,hf,r⟩=>⟨b,o,e,hQ b hf,r⟩⟩
theorem a_k {Q Q':Nat→Prop} {w:World} {a:Option Addr} {n:Nat} {zs:List Int} (hQ:∀ b,Q b→Q' b) (h:SlP Q w a n zs):SlP Q' w a n zs:=⟨h.1,h.2.imp id fun ⟨b,o,e,hf,r⟩=>⟨b,o,e,hQ b hf,r⟩⟩
theorem h_h (Q:Nat→Prop) (w:World):SlP Q w none 0 []:=⟨rfl,.inl rfl⟩
theorem n_b {Q:Nat→Prop} {w w':World} {a:Option Addr} {n:Nat} {zs:List Int} (hb:Below w.heap.size w w') (h:SlP Q w a n zs):SlP Q w' a n zs:=
 ⟨h.1,h.2.imp id fun ⟨b,f,e,q,r⟩=>⟨b,f,e,q,n_a hb r⟩⟩
theorem q_D {Q:Nat→Prop} {w:World} {a:Option Addr} {n:Nat} {zs:List Int} (o:Obj) (h:SlP Q w a n zs):SlP Q (w.alloc o) a n zs:=
 ⟨h.1,h.2.imp id fun ⟨b,f,e,q,r⟩=>⟨b,f,e,q,j_1 o r⟩⟩
theorem d_H {Q:Nat→Prop} {w:World} {a:Option Addr} {n:Nat} {zs:List Int} (p:Addr) (hp:∀ b,Q b→b≠p.block) (v:Value) (h:SlP Q w a n zs):SlP Q (w.setCell p v) a n zs:=by
 refine ⟨h.1,h.2.imp id ?_⟩;rintro ⟨b,o,rfl,hf,r⟩;refine ⟨b,o,rfl,hf,fun i hi=>?_⟩;rw [World.cell?_setCell_other]
 ·exact r i hi
 ·intro e;exact hp b hf (by rw [e])
theorem c_k {a b:Bool} (h:a=b):Ending.returned (.bool a)=.returned (.bool b):=by rw [h]
theorem j_f {k:IntKind} {a b:Int} (h:a=b):Ending.returned (.int k a)=.returned (.int k b):=by rw [h]
theorem m_A {k k':IntKind} {a b c d:Int} (h:a=b) (h':c=d):Ending.returned (.tuple #[.int k a,.int k' c])=.returned (.tuple #[.int k b,.int k' d]):=by rw [h,h']
def Zr (n:Nat):Array Value:=madeCells #[.int .i64 0] n
def Ir (zs:List Int):Array Value:=(zs.map (Value.int .i64)).toArray
theorem o_r (zs:List Int) (i:Nat) (h:i < zs.length):(Ir zs)[i]?=some (.int .i64 (zs.getD i 0)):=by
 simp [Ir,List.getD,h]
theorem p_U (zs:List Int) (i:Nat) (v:Int):(Ir zs).setIfInBounds i (.int .i64 v)=Ir (zs.set i v):=by
 simp [Ir,List.map_set]
theorem q_E (n:Nat):Zr n=Ir (List.replicate n 0):=by
 unfold Zr Ir madeCells
 apply Array.ext
 ·simp
 ·intro i h1 h2;simp only [Array.getElem_map,Array.getElem_range];simp [Nat.mod_one]
theorem j_2 {w:World} {b:Nat} {zs:List Int} {t:TypeId} {fr:Nat×Nat} (h:w.heap[b]?=some (.cells (Ir zs) t fr)):Row w b 0 zs:=by
 intro i hi;simp only [World.cell?,h]
 simpa using o_r zs i hi
theorem Tryz.info3:(Tryz.prog.info? 3).map (fun i=>(i.zero,i.size,i.bytes))=some (some (.int .i64 0),1,8):=by kernel_rfl
theorem Tryz.size3:(Tryz.prog.info? 3).map (·.size)=some 1:=by kernel_rfl
theorem h_S (n:Nat) (h:n≤1000) (w:World):(Instr.makeSlice 23 (.int .i64 n) (.int .i64 n)).run Tryz.prog w=.ok (.slice (some ⟨w.heap.size,0,none⟩) n n) (w.alloc (.cells (Zr n) 3)):=by
 obtain ⟨i0,hi,hz0,hz1,hz2⟩:=info_parts Tryz.info3;have:=run_make (P:=Tryz.prog) w 23 3 i0 (.int .i64 0) Tryz.underlying23 hi hz0 .i64 .i64 n n (by omega) (by omega) (by rw [hz2];omega) (by omega);rw [this];simp [hz1,Zr,Value.cells]
theorem h_I (w:World) (ty:TypeId) (g n c b o c':Nat) (zs:List Int) (hz:zs.length=n) (hg:w.heap[g]?=some (.cells (Zr n) 3 (0,0))) (R:Row w b o zs) :
  (Builtin.copy_ #[23,23] ty #[.slice (some ⟨g,0,none⟩) n c,.slice (some ⟨b,o,none⟩) n c']).run Tryz.prog w=.ok (.int .i64 n) (w.setRow g (Ir zs)):=by
 have:=run_copy_row (P:=Tryz.prog) w 23 23 ty 3 g 0 n c ⟨b,o,none⟩ n c' (Zr n) 3 (zs.map (Value.int .i64)) Tryz.underlying23 Tryz.size3 hg (by simp [hz]) (by
  intro j v hv;rw [List.getElem?_map] at hv
  cases hj:zs[j]? with
  | none=>simp [hj] at hv
  | some z =>
   simp [hj] at hv;subst hv;have h1:j < zs.length:=(List.getElem?_eq_some_iff.1 hj).1;have h2:=R j h1;have h3:zs.getD j 0=z:=by simp [List.getD,hj]
   rw [h3] at h2
   have h4:(⟨b,o,none⟩:Addr).add j=⟨b,o+j,none⟩:=by
    simp only [Addr.add];split
    ·subst_vars;rfl
    ·rfl
   rw [h4];exact h2) (by simp [Zr,size_madeCells,hz]) (by intro v hv;simp at hv;obtain ⟨z,_,rfl⟩:=hv;rfl)
 rw [this]
 have h1:(Zr n).toList.drop (0+(zs.map (Value.int .i64)).length)=[]:=by
  apply List.drop_eq_nil_of_le
  simp [Zr,size_madeCells,hz]
 rw [h1];simp [Ir,goInt,hz]
theorem d_h (w:World) (b:Nat) (x y:Value) (k0:w.cell? ⟨b,0,none⟩=some x) (k1:w.cell? ⟨b,1,none⟩=some y):(loadVar 26 ⟨b,0,none⟩).run Tryz.prog w=.ok (.agg #[x,y]) w:=by
 simp [go_sem,k0,k1]
end Go.Proofs.YtolabfafgbmdbaaGreatDoor
