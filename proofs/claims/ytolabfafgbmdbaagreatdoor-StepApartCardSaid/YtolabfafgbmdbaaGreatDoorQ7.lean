import Derived.Test.YtolabfafgbmdbaaGreatDoorQ6
import Derived.Test.YtolabfafgbmdbaaGreatDoorQ0
import Derived.WalkKit
import Derived.Test.YtolabfafgbmdbaaGreatDoorQ5
namespace Go.Proofs.YtolabfafgbmdbaaGreatDoor
theorem q_G (l:List Int) (i j:Nat) (v:Int) (hj:j < l.length):(l.set i v).getD j 0=if i=j then v else l.getD j 0:=by
 simp only [List.getD_eq_getElem?_getD,List.getElem?_set]
 by_cases e:i=j
 ·subst e;simp [hj]
 ·simp [e]
theorem s_U {ws ts:List Int} {i:Nat} {v:Int} (h:d_g ws ts=true) (ht:ts.getD i 0≠0):d_g (ws.set i v) ts=true:=by
 have hz:=c_w h;have hg:=h_g h;simp only [d_g,Bool.and_eq_true,l_m,decide_eq_true_eq,List.length_set];refine ⟨hz,goodB_iff.2 fun j hj=>?_⟩;have:=hg j hj;simp only [okB,decide_eq_true_eq] at this ⊢;refine ⟨this.1,this.2.1,fun h0=>?_⟩;rw [q_G _ _ _ _ hj]
 by_cases e:i=j
 ·subst e;exact absurd h0 ht
 ·rw [if_neg e];exact this.2.2 h0
theorem q_Z {ws ts:List Int} {i k:Nat} {t:Int} (h:d_g ws ts=true) (ht:t=1∨t=2):d_g ws (k_k ts i t k)=true:=by
 have hz:=c_w h;have hg:=h_g h;simp only [d_g,Bool.and_eq_true,l_m,decide_eq_true_eq,d_o];refine ⟨hz,goodB_iff.2 fun j hj=>?_⟩;have:=hg j hj;simp only [okB,decide_eq_true_eq] at this ⊢;rw [r_r _ _ _ _ _ (by omega)]
 by_cases e:i≤j∧j < i+k
 ·rw [if_pos e];omega
 ·rw [if_neg e];exact this
def c_c (ps:List (Int×Int)) (x:Int):Option Int:=(ps.reverse.find? (fun p=>p.1==x)).map (·.2)
theorem i_P (ps qs:List (Int×Int)) (x:Int):c_c (ps++qs) x=(c_c qs x).or (c_c ps x):=by
 simp only [c_c,List.reverse_append,List.find?_append]
 cases qs.reverse.find? (fun p=>p.1==x) <;> simp
theorem m_7 (p:Int×Int) (x:Int):c_c [p] x=if p.1=x then some p.2 else none:=by
 simp only [c_c,List.reverse_singleton,List.find?_cons,List.find?_nil]
 by_cases h:p.1=x
 ·simp [h]
 ·have h':(p.1==x)=false:=by simpa using h
  simp [h',h]
theorem k_7 (ps:List (Int×Int)) (p:Int×Int) (x:Int):c_c (ps++[p]) x=if p.1=x then some p.2 else c_c ps x:=by
 rw [i_P,m_7]
 by_cases h:p.1=x <;> simp [h]
def c_y (ps:List (Int×Int)) (x:Int):Int:=(c_c ps x).getD 0
def c_x (ps:List (Int×Int)) (x:Int):Bool:=(c_c ps x).isSome
theorem i_q (ps:List (Int×Int)) (k:Nat) (h:k < ps.length):ps.take (k+1)=ps.take k++[ps.getD k (0,0)]:=by
 rw [List.take_succ_eq_append_getElem h];simp [h]
theorem e_p (ps:List (Int×Int)) (k:Nat) (x:Int) (h:k < ps.length):c_c (ps.take (k+1)) x=if (ps.getD k (0,0)).1=x then some (ps.getD k (0,0)).2 else c_c (ps.take k) x:=by
 rw [i_q ps k h,k_7]
theorem k_6 {ps:List (Int×Int)} {x:Int} (h:∀ j,j < ps.length→(ps.getD j (0,0)).1≠x):c_c ps x=none:=by
 suffices H:∀ k,k≤ps.length→c_c (ps.take k) x=none by simpa using H ps.length (Nat.le_refl _)
 intro k
 induction k with
 | zero=>intro _;simp [c_c]
 | succ k ih=>intro hk;rw [e_p ps k x (by omega),if_neg (h k (by omega)),ih (by omega)]
theorem o_0 {ps:List (Int×Int)} {x:Int} {k:Nat} (hk:k < ps.length) (he:(ps.getD k (0,0)).1=x) (h:∀ j,k < j→j < ps.length→(ps.getD j (0,0)).1≠x):c_c ps x=some (ps.getD k (0,0)).2:=by
 suffices H:∀ m,k+1+m≤ps.length→c_c (ps.take (k+1+m)) x=some (ps.getD k (0,0)).2 by
  have:=H (ps.length - (k+1)) (by omega);rw [show k+1+(ps.length - (k+1))=ps.length by omega] at this
  simpa using this
 intro m
 induction m with
 | zero=>intro _;rw [Nat.add_zero,e_p ps k x hk,if_pos he]
 | succ m ih=>intro hm;rw [show k+1+(m+1)=(k+1+m)+1 by omega,e_p ps _ x (by omega),if_neg (h _ (by omega) (by omega)),ih (by omega)]
def e_g (n:Nat) (depth:Int):Int:=if depth < 0∨8 < depth∨depth < n then 1 else if (n:Int)=depth then 7 else 0
def e_0 (ps:List (Int×Int)) (depth:Int) (p:Int×Int):List (Int×Int):=if e_g ps.length depth=0 then ps++[p] else []
def f_K (ps:List (Int×Int)):Int×Int:=ps.getD 0 (0,0)
def e_I (ps:List (Int×Int)):List (Int×Int):=ps.drop 1
def c_i (n D:Int):Bool:=decide (1≤n∧n≤8∧0≤D∧D≤8)
def inP (N:Nat) (p:Int×Int):Bool:=decide (0≤p.1∧p.1 < N)
def f_9 (N:Nat) (D:Int) (b:List (Int×Int)):Bool:=decide ((b.length:Int)≤D)&&b.all (inP N)
def d_q (ws ts:List Int) (D:Int) (bs:List (List (Int×Int))):Bool:=d_g ws ts&&c_i bs.length D&&bs.all (f_9 ws.length D)
theorem a_T {ws ts:List Int} {D:Int} {bs:List (List (Int×Int))} (h:d_q ws ts D bs=true) :
  d_g ws ts=true∧(1≤bs.length∧bs.length≤8)∧(0≤D∧D≤8)∧∀ i,i < bs.length→(((bs.getD i []).length:Int)≤D∧∀ j,j < (bs.getD i []).length→0≤((bs.getD i []).getD j (0,0)).1∧((bs.getD i []).getD j (0,0)).1 < ws.length):=by
 simp only [d_q,c_i,Bool.and_eq_true,decide_eq_true_eq,List.all_eq_true] at h;obtain ⟨⟨h1,h2⟩,h3⟩:=h;refine ⟨h1,by omega,by omega,fun i hi=>?_⟩;have e:bs.getD i []=bs[i]:=by simp [hi]
 have hb:=h3 _ (List.getElem_mem hi);rw [←e] at hb;simp only [f_9,Bool.and_eq_true,decide_eq_true_eq,List.all_eq_true,inP] at hb;refine ⟨hb.1,fun j hj=>?_⟩
 have e2:(bs.getD i []).getD j (0,0)=(bs.getD i [])[j]:=by
  generalize bs.getD i []=b at hj ⊢
  simp [hj]
 rw [e2];exact hb.2 _ (List.getElem_mem hj)
def j_g (N:Nat) (D:Int) (bs:List (List (Int×Int))) (k:Nat):Prop:=∀ i,i < k→f_9 N D (bs.getD i [])=true
def h_V (N:Nat) (b:List (Int×Int)) (k:Nat):Prop:=∀ i,i < k→inP N (b.getD i (0,0))=true
theorem h_m {N:Nat} {b:List (Int×Int)} {k:Nat} (h:h_V N b k) (h1:inP N (b.getD k (0,0))=true):h_V N b (k+1):=by
 exact J105
theorem g_3 {N:Nat} {D:Int} {bs:List (List (Int×Int))} {k:Nat} (h:j_g N D bs k) (h1:f_9 N D (bs.getD k [])=true):j_g N D bs (k+1):=by
 exact J105
theorem n_1 {N:Nat} {D:Int} {b:List (Int×Int)} (hl:(b.length:Int)≤D) (h:h_V N b b.length):f_9 N D b=true:=by
 simp only [f_9,Bool.and_eq_true,decide_eq_true_eq,List.all_eq_true];refine ⟨hl,fun p hp=>?_⟩;obtain ⟨i,hi,rfl⟩:=List.mem_iff_getElem.1 hp;have:=h i hi
 simpa [hi] using this
theorem q_r {N:Nat} {D:Int} {b:List (Int×Int)} {k:Nat} (hk:k < b.length) (h:inP N (b.getD k (0,0))=false):f_9 N D b=false:=by
 have e:b.getD k (0,0)=b[k]:=by simp [hk]
 rw [e] at h;have:b.all (inP N)=false:=List.all_eq_false.2 ⟨b[k],List.getElem_mem hk,by rw [h];decide⟩;simp [f_9,this]
theorem g_O {ws ts:List Int} {D:Int} {bs:List (List (Int×Int))} {k:Nat} (hk:k < bs.length) (h:f_9 ws.length D (bs.getD k [])=false):d_q ws ts D bs=false:=by
 have e:bs.getD k []=bs[k]:=by simp [hk]
 rw [e] at h;have:bs.all (f_9 ws.length D)=false:=List.all_eq_false.2 ⟨bs[k],List.getElem_mem hk,by rw [h];decide⟩;simp [d_q,this]
theorem j_J {ws ts:List Int} {D:Int} {bs:List (List (Int×Int))} (hm:d_g ws ts=true) (hs:c_i bs.length D=true) (h:j_g ws.length D bs bs.length):d_q ws ts D bs=true:=by
 simp only [d_q,hm,hs,Bool.true_and,List.all_eq_true];intro b hb;obtain ⟨i,hi,rfl⟩:=List.mem_iff_getElem.1 hb;have:=h i hi
 simpa [hi] using this
def thB (bs:List (List (Int×Int))) (th:Int):Bool:=decide (0≤th∧th < bs.length)
def k_c (bs:List (List (Int×Int))) (i:Int) (b:List (Int×Int)) (k:Nat):List (Int×Int):=if (k:Int)=i then b else bs.getD k []
def e_j (bs:List (List (Int×Int))) (i:Int) (b:List (Int×Int)):Nat→List (List (Int×Int))
 | 0=>[]
 | k+1=>e_j bs i b k++[k_c bs i b k]
theorem d_I (bs:List (List (Int×Int))) (i:Int) (b:List (Int×Int)) (k:Nat):(e_j bs i b k).length=k:=by
 induction k with
 | zero=>rfl
 | succ k ih=>simp [e_j,ih]
theorem n_v (bs:List (List (Int×Int))) (i:Int) (b:List (Int×Int)) (k j:Nat) (hj:j < k):(e_j bs i b k).getD j []=k_c bs i b j:=by
 induction k with
 | zero=>omega
 | succ k ih =>
  simp only [e_j,List.getD_eq_getElem?_getD]
  by_cases e:j=k
  ·subst e;rw [List.getElem?_append_right (by rw [d_I];omega)];simp [d_I]
  ·rw [List.getElem?_append_left (by rw [d_I];omega)];have:=ih (by omega)
   simpa only [List.getD_eq_getElem?_getD] using this
theorem n_w (bs:List (List (Int×Int))) (i:Nat) (b:List (Int×Int)):e_j bs i b bs.length=bs.set i b:=by
 apply List.ext_getElem
 ·simp [d_I]
 ·intro j h1 h2;have hj:j < bs.length:=by simpa using h2
  have e1:(e_j bs i b bs.length)[j]=(e_j bs i b bs.length).getD j []:=by simp [h1]
  have e2:(bs.set i b)[j]=(bs.set i b).getD j []:=by simp [hj]
  rw [e1,e2,n_v _ _ _ _ _ hj];simp only [k_c,List.getD_eq_getElem?_getD,List.getElem?_set]
  by_cases e:i=j
  ·subst e;simp [hj]
  ·rw [if_neg (by omega),if_neg e]
def e_H (ws ts:List Int) (n D:Int):Int:=if d_g ws ts=true then (if c_i n D=true then 0 else 2) else 1
def o_X (ws ts:List Int) (n D:Int):List Int:=if e_H ws ts n D=0 then ws else []
def o_W (ws ts:List Int) (n D:Int):List Int:=if e_H ws ts n D=0 then ts else []
def m_4 (ws ts:List Int) (n D:Int):Int:=if e_H ws ts n D=0 then D else 0
def o_V (ws ts:List Int) (n D:Int):List (List (Int×Int)):=if e_H ws ts n D=0 then List.replicate n.toNat [] else []
theorem o_Z {ws ts:List Int} {n D:Int} (hm:d_g ws ts=true) (hs:c_i n D=true):e_H ws ts n D=0∧o_X ws ts n D=ws∧o_W ws ts n D=ts∧m_4 ws ts n D=D∧o_V ws ts n D=List.replicate n.toNat []:=by
 have h:e_H ws ts n D=0:=by rw [e_H,if_pos hm,if_pos hs]
 refine ⟨h,?_,?_,?_,?_⟩
 ·rw [o_X,if_pos h]
 ·rw [o_W,if_pos h]
 ·rw [m_4,if_pos h]
 ·rw [o_V,if_pos h]
theorem o_Y {ws ts:List Int} {n D:Int} (h:e_H ws ts n D≠0):o_X ws ts n D=[]∧o_W ws ts n D=[]∧m_4 ws ts n D=0∧o_V ws ts n D=[]:=by
 refine ⟨?_,?_,?_,?_⟩
 ·rw [o_X,if_neg h]
 ·rw [o_W,if_neg h]
 ·rw [m_4,if_neg h]
 ·rw [o_V,if_neg h]
theorem i_O {ws ts:List Int} {D:Int} {k:Nat} (hm:d_g ws ts=true) (hs:c_i k D=true):d_q ws ts D (List.replicate k [])=true:=by
 have h0:0≤D:=by simp only [c_i,decide_eq_true_eq] at hs;omega
 simp only [d_q,hm,List.length_replicate,hs,Bool.true_and,List.all_eq_true,List.mem_replicate];rintro b ⟨_,rfl⟩;simp [f_9,h0]
def j_A (ws ts:List Int) (D:Int) (bs:List (List (Int×Int))) (th:Int):Bool:=d_q ws ts D bs&&thB bs th
def d_P (bs:List (List (Int×Int))) (th:Int):List (Int×Int):=bs.getD th.toNat []
theorem d_j {ws ts:List Int} {D:Int} {bs:List (List (Int×Int))} {th:Int} (h:j_A ws ts D bs th=true):d_q ws ts D bs=true∧0≤th∧th < bs.length:=by
 simp only [j_A,thB,Bool.and_eq_true,decide_eq_true_eq] at h;exact ⟨h.1,h.2.1,h.2.2⟩
def c_9 (ws ts:List Int) (D:Int) (bs:List (List (Int×Int))) (th x:Int):Int:=if j_A ws ts D bs th=true then a_I ws ts x else 1
def f_j (ws ts:List Int) (D:Int) (bs:List (List (Int×Int))) (th x:Int):Int:=if c_9 ws ts D bs th x=0 then (c_c (d_P bs th) x).getD (b_M ws ts x) else 0
def b_g (ws ts:List Int) (D:Int) (bs:List (List (Int×Int))) (th x:Int):Int:=if j_A ws ts D bs th=true then (if a_I ws ts x=0 then (if D=0 then 0 else if ((d_P bs th).length:Int)=D then 7 else 0) else a_I ws ts x) else 1
def b_Q (ws:List Int) (D:Int) (x v:Int):List Int:=if D=0 then ws.set x.toNat v else ws
def b_F (D:Int) (bs:List (List (Int×Int))) (th x v:Int):List (List (Int×Int)):=if D=0 then bs else bs.set th.toNat (d_P bs th++[(x,v)])
def okL {α:Type} (e:Int) (l:List α):List α:=if e=0 then l else []
def okZ (e:Int) (z:Int):Int:=if e=0 then z else 0
theorem k_8 {α:Type} {e:Int} (h:e=0) (l:List α):okL e l=l:=if_pos h
theorem d_w {α:Type} {e:Int} (h:e≠0) (l:List α):okL e l=[]:=if_neg h
theorem s_X {e:Int} (h:e=0) (z:Int):okZ e z=z:=if_pos h
theorem g_j {e:Int} (h:e≠0) (z:Int):okZ e z=0:=if_neg h
def d_D (kind word a b:Int):Int:=if kind=0 then (if word=a then b else word) else if kind=1 then a else IntKind.i64.wrap (word+a)
def k_Q (k:Int):Bool:=decide (0≤k∧k≤2)
def b_y (ws ts:List Int) (D:Int) (bs:List (List (Int×Int))) (th k x:Int):Int:=if j_A ws ts D bs th=true∧k_Q k=true then (if d_P bs th=[] then a_I ws ts x else 9) else 1
def b_z (ws ts:List Int) (k x y z:Int):List Int:=ws.set x.toNat (d_D k (b_M ws ts x) y z)
abbrev Mv:=Int×Int×Int
structure St where
 ws:List Int
 ts:List Int
 D:Int
 bs:List (List (Int×Int))
 l:Nat→List Mv
 n:Nat→List Int
end Go.Proofs.YtolabfafgbmdbaaGreatDoor
namespace Go.Proofs.YtolabfafgbmdbaaGreatDoor
open Go.RowKit
abbrev Ev:=Int×Int×Int×Int×Int×Int
structure Wo where
 code:List Ins
 ws:List Int
 ts:List Int
 D:Int
 bs:List (List (Int×Int))
 th:List Thr
 ev:List Ev
def zWo:Wo:=⟨[],[],[],0,[],[],[]⟩
def e_q (n:Nat) (t:Thr):Bool:=a_Q t&&decide (t.lf.length=0∨t.lf.length=n)
def b_e (X:Wo):Bool:=b_8 X.code&&d_q X.ws X.ts X.D X.bs&&decide (X.th.length=X.bs.length)&&X.th.all (e_q X.th.length)
theorem a_O {X:Wo} (h:b_e X=true):b_8 X.code=true∧d_q X.ws X.ts X.D X.bs=true∧X.th.length=X.bs.length∧∀ t∈X.th,e_q X.th.length t=true:=by
 simp only [b_e,Bool.and_eq_true,decide_eq_true_eq,List.all_eq_true] at h;exact ⟨h.1.1.1,h.1.1.2,h.1.2,h.2⟩
def n_M (ts:List Thr) (n k:Nat):Prop:=∀ i t,i < k→ts[i]?=some t→e_q n t=true
theorem e_8 {ts:List Thr} {n k:Nat} {t:Thr} (h:n_M ts n k) (ht:ts[k]?=some t) (h1:e_q n t=true):n_M ts n (k+1):=by
 intro i u hi hu
 by_cases e:i=k
 ·subst e;rw [ht] at hu;cases hu;exact h1
 ·exact h i u (by omega) hu
theorem i_j {X:Wo} {n:Nat} (h1:b_8 X.code=true) (h2:d_q X.ws X.ts X.D X.bs=true) (h3:X.th.length=X.bs.length) (hn:X.th.length=n) (h:n_M X.th n n):b_e X=true:=by
 simp only [b_e,Bool.and_eq_true,decide_eq_true_eq,List.all_eq_true];refine ⟨⟨⟨h1,h2⟩,h3⟩,fun t ht=>?_⟩;obtain ⟨i,hi,rfl⟩:=List.mem_iff_getElem.1 ht;rw [hn];exact h i _ (by omega) (List.getElem?_eq_getElem hi)
theorem c_S {X:Wo} (h:b_8 X.code=false∨d_q X.ws X.ts X.D X.bs=false∨X.th.length≠X.bs.length∨∃ t∈X.th,e_q X.th.length t=false):b_e X=false:=by
 cases hr:b_e X with
 | false=>rfl
 | true =>
  obtain ⟨h1,h2,h3,h4⟩:=a_O hr
  rcases h with h | h | h | ⟨t,ht,h⟩
  ·rw [h] at h1;cases h1
  ·rw [h] at h2;cases h2
  ·exact absurd h3 h
  ·rw [h4 t ht] at h;cases h
def thW (X:Wo) (k:Nat):Thr:=X.th.getD k d_J
def bfW (X:Wo) (k:Nat):List (Int×Int):=X.bs.getD k []
def inW (X:Wo) (pc:Int):Ins:=X.code.getD pc.toNat (0,0,0,0)
def b_k (X:Wo) (k:Nat) (t:Thr):Wo:={ X with th:=X.th.set k t }
def b_w (t:Thr) (e:Int):Thr:={ t with st:=2,ft:=e }
def b_j (t:Thr):Thr:={ t with pc:=t.pc+1 }
def m_J (X:Wo) (t:Thr) (b:List (Int×Int)) (i:Ins):Bool:=
 if i.1=17 then decide (X.D=0∨(b.length:Int) < X.D) else
 if i.1=18∨i.1=19∨i.1=20∨i.1=21 then decide (b.length=0) else
 if i.1=22 then t.lf.all (fun n=>decide (n=0)) else
 if i.1=23 then decide (b.length=0)&&(decide (a_I X.ws X.ts (rgt t i.2.2.1)≠0)||decide (b_M X.ws X.ts (rgt t i.2.2.1)≠rgt t i.2.1)) else true
def p_Z (X:Wo) (t:Thr) (b:List (Int×Int)):Bool:=if t.st≠0 then false else if (X.code.length:Int)≤t.pc then true else m_J X t b (inW X t.pc)
def k_i (X:Wo) (k:Nat):Bool:=p_Z X (thW X k) (bfW X k)
def m_S (X:Wo) (k:Int):Bool:=decide (0≤k∧k < X.th.length)
def b_5 (X:Wo):List Int:=X.bs.map fun b=>(b.length:Int)
def d_k (X:Wo) (k:Nat) (t:Thr) (i:Ins):Int:=
 if 1≤i.1∧i.1≤15 then (if t.lf.length=0 then doE t i else 9) else
 if i.1=16 then c_9 X.ws X.ts X.D X.bs k (wrap64 (rgt t i.2.2.1+i.2.2.2)) else
 if i.1=17 then b_g X.ws X.ts X.D X.bs k (wrap64 (rgt t i.2.2.1+i.2.2.2)) else
 if 19≤i.1∧i.1≤21 then b_y X.ws X.ts X.D X.bs k (i.1 - 19) (rgt t i.2.2.1) else
 if i.1=24∨i.1=25 then c_G X.ws X.ts (rgt t i.2.1) (rgt t i.2.2.1) (i.1 - 23) else 0
def d_1 (X:Wo) (k:Nat) (t:Thr) (i:Ins):Wo:=
 if i.1=0 then b_k X k { t with st:=1 } else
 if 1≤i.1∧i.1≤15 then b_k X k (doT t k i) else
 if i.1=16 then b_k X k (c_4 t i.2.1 (f_j X.ws X.ts X.D X.bs k (wrap64 (rgt t i.2.2.1+i.2.2.2)))) else
 if i.1=17 then { b_k X k (b_j t) with ws:=b_Q X.ws X.D (wrap64 (rgt t i.2.2.1+i.2.2.2)) (rgt t i.2.1),bs:=b_F X.D X.bs k (wrap64 (rgt t i.2.2.1+i.2.2.2)) (rgt t i.2.1) } else
 if 19≤i.1∧i.1≤21 then { b_k X k (c_4 t i.2.1 (b_M X.ws X.ts (rgt t i.2.2.1))) with ws:=b_z X.ws X.ts (i.1 - 19) (rgt t i.2.2.1) (rgt t i.2.1) (rgt t i.2.2.2) } else
 if i.1=22 then (if t.lf.length=0 then b_k X k { t with lf:=b_5 X } else b_k X k { b_j t with lf:=[] }) else
 if i.1=24∨i.1=25 then { b_k X k (b_j t) with ts:=c_P X.ws X.ts (rgt t i.2.1) (rgt t i.2.2.1) (i.1 - 23) } else
 if i.1=26 then { b_k X k (b_j t) with ev:=X.ev++[(i.2.1,(k:Int),t.r 0,t.r 1,t.r 2,t.r 3)] } else b_k X k (b_j t)
def h_y (X:Wo) (k:Nat):Int:=if (X.code.length:Int)≤(thW X k).pc then 3 else d_k X k (thW X k) (inW X (thW X k).pc)
def c_O (X:Wo) (k:Nat):Wo:=if h_y X k=0 then d_1 X k (thW X k) (inW X (thW X k).pc) else b_k X k (b_w (thW X k) (h_y X k))
def i_N (X:Wo) (k:Nat) (t:Thr) (i:Ins):Wo:=
 if c_G X.ws X.ts (rgt t i.2.1) (rgt t i.2.2.1) (i.1 - 23)=0 then { b_k X k (b_j t) with ts:=c_P X.ws X.ts (rgt t i.2.1) (rgt t i.2.2.1) (i.1 - 23) } else b_k X k (b_w t (c_G X.ws X.ts (rgt t i.2.1) (rgt t i.2.2.1) (i.1 - 23)))
def k_0 (X:Wo) (k:Nat) (t:Thr) (i:Ins):Wo:=
 if b_y X.ws X.ts X.D X.bs k (i.1 - 19) (rgt t i.2.2.1)=0 then { b_k X k (c_4 t i.2.1 (b_M X.ws X.ts (rgt t i.2.2.1))) with ws:=b_z X.ws X.ts (i.1 - 19) (rgt t i.2.2.1) (rgt t i.2.1) (rgt t i.2.2.2) } else b_k X k (b_w t (b_y X.ws X.ts X.D X.bs k (i.1 - 19) (rgt t i.2.2.1)))
def t_1 (X:Wo) (k:Nat) (t:Thr) (i:Ins):Wo:=
 if c_9 X.ws X.ts X.D X.bs k (wrap64 (rgt t i.2.2.1+i.2.2.2))=0 then b_k X k (c_4 t i.2.1 (f_j X.ws X.ts X.D X.bs k (wrap64 (rgt t i.2.2.1+i.2.2.2)))) else b_k X k (b_w t (c_9 X.ws X.ts X.D X.bs k (wrap64 (rgt t i.2.2.1+i.2.2.2))))
def s_d (X:Wo) (k:Nat) (t:Thr) (i:Ins):Wo:=
 if b_g X.ws X.ts X.D X.bs k (wrap64 (rgt t i.2.2.1+i.2.2.2))=0 then { b_k X k (b_j t) with ws:=b_Q X.ws X.D (wrap64 (rgt t i.2.2.1+i.2.2.2)) (rgt t i.2.1),bs:=b_F X.D X.bs k (wrap64 (rgt t i.2.2.1+i.2.2.2)) (rgt t i.2.1) } else b_k X k (b_w t (b_g X.ws X.ts X.D X.bs k (wrap64 (rgt t i.2.2.1+i.2.2.2))))
def p_Y (X:Wo) (k:Nat) (t:Thr) (i:Ins):Wo:=if i.1=16 then t_1 X k t i else s_d X k t i
def g_w (X:Wo) (k:Nat) (t:Thr):Wo:=if t.lf.length=0 then b_k X k { t with lf:=b_5 X } else b_k X k { b_j t with lf:=[] }
def k_3 (k:Nat) (t:Thr):Thr:=if t.lf.length=0 then t else { t with lf:=t.lf.set k (max 0 (t.lf.getD k 0 - 1)) }
def flE (X:Wo) (k:Nat):Int:=a_I X.ws X.ts (f_K (bfW X k)).1
def flT (X:Wo) (k:Nat):Thr:=if flE X k=0∨(thW X k).st=2 then thW X k else b_w (thW X k) (flE X k)
def e_D (X:Wo) (k:Nat):Wo:=
 { X with ws:=if flE X k=0 then X.ws.set (f_K (bfW X k)).1.toNat (f_K (bfW X k)).2 else X.ws,bs:=X.bs.set k (e_I (bfW X k)),th:=(X.th.set k (flT X k)).map (k_3 k) }
def f_w (X:Wo) (a:Int×Int):Bool:=m_S X a.2&&(if a.1=0 then k_i X a.2.toNat else decide (a.1=1)&&decide ((bfW X a.2.toNat).length≠0))
def doW (X:Wo) (a:Int×Int):Wo:=if f_w X a=true then (if a.1=0 then c_O X a.2.toNat else e_D X a.2.toNat) else X
def j_0 (X:Wo) (l:List (Int×Int)):Wo:=l.foldl doW X
def k_5 (code:List Ins) (starts:List Int) (ws ts:List Int) (D:Int):Wo:=⟨code,ws,ts,D,List.replicate starts.length [],starts.map (fun s=>{ d_J with pc:=s }),[]⟩
theorem d_R {i:Ins} {m:Int} (h:c_Q i m=true):(0≤i.1∧i.1 < 27)∧∀ k,k < 3→kOk i m (opSign.getD i.1.toNat []) k=true:=by
  simp only [c_Q,Bool.and_eq_true,decide_eq_true_eq,List.all_eq_true] at h;exact ⟨h.1,fun k hk=>h.2 k (List.mem_range.2 hk)⟩
theorem c_8 {i:Ins} {m:Int} (h:c_Q i m=true) (ho:i.1=16∨i.1=17∨(19≤i.1∧i.1≤21)∨(23≤i.1∧i.1≤25)):(0≤i.2.1∧i.2.1≤7)∧(0≤i.2.2.1∧i.2.2.1≤7)∧((19≤i.1∧i.1≤21)→0≤i.2.2.2∧i.2.2.2≤7):=by
  obtain ⟨o,a,b,c⟩:=i;obtain ⟨-,h2⟩:=d_R h;simp only at ho ⊢;have k0:=h2 0 (by omega);have k1:=h2 1 (by omega);have k2:=h2 2 (by omega)
  rcases (show o=16∨o=17∨o=19∨o=20∨o=21∨o=23∨o=24∨o=25 by omega) with rfl | rfl | rfl | rfl | rfl | rfl | rfl | rfl <;>
    (simp [kOk,opSign,e_f,b_V] at k0 k1 k2;omega)
theorem k_P {i:Ins} {m:Int} (h:c_Q i m=true) (hm:m≤1000) (ho:1≤i.1∧i.1≤15):c_7 i=true:=by
  obtain ⟨o,a,b,c⟩:=i;obtain ⟨-,h2⟩:=d_R h;simp only at ho;have k0:=h2 0 (by omega);have k1:=h2 1 (by omega);have k2:=h2 2 (by omega)
  rcases (show o=1∨o=2∨o=3∨o=4∨o=5∨o=6∨o=7∨o=8∨o=9∨o=10∨o=11∨o=12∨o=13∨o=14∨o=15 by omega) with rfl | rfl | rfl | rfl | rfl | rfl | rfl | rfl | rfl | rfl | rfl | rfl | rfl | rfl | rfl <;>
    (simp [kOk,opSign,e_f,b_V] at k0 k1 k2
     simp [c_7,g_F,i_c,n_C,opd,List.range_succ]
     try omega)
theorem m_n {X:Wo} {k:Nat} (h:(X.code.length:Int)≤(thW X k).pc):c_O X k=b_k X k (b_w (thW X k) 3):=by
  have e:h_y X k=3:=by rw [h_y,if_pos h]
  rw [c_O,e,if_neg (by decide)]
theorem p_D {X:Wo} {k:Nat} (h:(thW X k).pc < X.code.length):c_O X k=if d_k X k (thW X k) (inW X (thW X k).pc)=0 then d_1 X k (thW X k) (inW X (thW X k).pc) else b_k X k (b_w (thW X k) (d_k X k (thW X k) (inW X (thW X k).pc))):=by
  have e:h_y X k=d_k X k (thW X k) (inW X (thW X k).pc):=by rw [h_y,if_neg (by omega)]
  rw [c_O,e]
def goX (X:Wo) (k:Nat) (t:Thr) (i:Ins):Wo:=if d_k X k t i=0 then d_1 X k t i else b_k X k (b_w t (d_k X k t i))
theorem s_G {X:Wo} {k:Nat} {t:Thr} {i:Ins} (h:i.1=0):goX X k t i=b_k X k { t with st:=1 }:=by
  simp [goX,d_k,d_1,h]
theorem s_H {X:Wo} {k:Nat} {t:Thr} {i:Ins} (h:1≤i.1∧i.1≤15) (hl:t.lf.length≠0):goX X k t i=b_k X k (b_w t 9):=by
  have e:d_k X k t i=9:=by rw [d_k,if_pos h,if_neg hl]
  rw [goX,e,if_neg (by decide)]
theorem t_X {X:Wo} {k:Nat} {t:Thr} {i:Ins} (h:1≤i.1∧i.1≤15) (hl:t.lf.length=0):goX X k t i=if doE t i=0 then b_k X k (doT t k i) else b_k X k (b_w t (doE t i)):=by
  have e:d_k X k t i=doE t i:=by rw [d_k,if_pos h,if_pos hl]
  rw [goX,e];congr 1;rw [d_1,if_neg (by omega),if_pos h]
theorem r_2 {X:Wo} {k:Nat} {t:Thr} {i:Ins} (h:i.1=16∨i.1=17):goX X k t i=p_Y X k t i:=by
  rcases h with h | h
  · have e:d_k X k t i=c_9 X.ws X.ts X.D X.bs k (wrap64 (rgt t i.2.2.1+i.2.2.2)):=by rw [d_k,if_neg (by omega),if_pos h]
    rw [goX,e,p_Y,if_pos h,t_1];congr 1;rw [d_1,if_neg (by omega),if_neg (by omega),if_pos h]
  · have e:d_k X k t i=b_g X.ws X.ts X.D X.bs k (wrap64 (rgt t i.2.2.1+i.2.2.2)):=by rw [d_k,if_neg (by omega),if_neg (by omega),if_pos h]
    rw [goX,e,p_Y,if_neg (show ¬ i.1=16 by omega),s_d];congr 1;rw [d_1,if_neg (by omega),if_neg (by omega),if_neg (by omega),if_pos h]
theorem s_I {X:Wo} {k:Nat} {t:Thr} {i:Ins} (h:19≤i.1∧i.1≤21):goX X k t i=k_0 X k t i:=by
  have e:d_k X k t i=b_y X.ws X.ts X.D X.bs k (i.1 - 19) (rgt t i.2.2.1):=by rw [d_k,if_neg (by omega),if_neg (by omega),if_neg (by omega),if_pos h]
  rw [goX,e,k_0];congr 1;rw [d_1,if_neg (by omega),if_neg (by omega),if_neg (by omega),if_neg (by omega),if_pos h]
theorem q_H {X:Wo} {k:Nat} {t:Thr} {i:Ins} (h:i.1=22):goX X k t i=g_w X k t:=by
  have e:=N86;rw [goX,e,if_pos rfl,d_1,if_neg (by omega),if_neg (by omega),if_neg (by omega),if_neg (by omega),if_neg (by omega),if_pos h,g_w]
theorem o_k {X:Wo} {k:Nat} {t:Thr} {i:Ins} (h:i.1=24∨i.1=25):goX X k t i=i_N X k t i:=by
  have e:d_k X k t i=c_G X.ws X.ts (rgt t i.2.1) (rgt t i.2.2.1) (i.1 - 23):=by rw [d_k,if_neg (by omega),if_neg (by omega),if_neg (by omega),if_neg (by omega),if_pos h]
  rw [goX,e,i_N];congr 1;rw [d_1,if_neg (by omega),if_neg (by omega),if_neg (by omega),if_neg (by omega),if_neg (by omega),if_neg (by omega),if_pos h]
theorem q_I {X:Wo} {k:Nat} {t:Thr} {i:Ins} (h:i.1=26):goX X k t i={ b_k X k (b_j t) with ev:=X.ev++[(i.2.1,(k:Int),t.r 0,t.r 1,t.r 2,t.r 3)] }:=by
  have e:=N86;rw [goX,e,if_pos rfl,d_1,if_neg (by omega),if_neg (by omega),if_neg (by omega),if_neg (by omega),if_neg (by omega),if_neg (by omega),if_neg (by omega),if_pos h]
theorem o_l {X:Wo} {k:Nat} {t:Thr} {i:Ins} (h:i.1=18∨i.1=23):goX X k t i=b_k X k (b_j t):=by
  have e:=N86;rw [goX,e,if_pos rfl,d_1,if_neg (by omega),if_neg (by omega),if_neg (by omega),if_neg (by omega),if_neg (by omega),if_neg (by omega),if_neg (by omega),if_neg (by omega)]
end Go.Proofs.YtolabfafgbmdbaaGreatDoor
namespace Go.Proofs.YtolabfafgbmdbaaGreatDoor
theorem mayT_iff {ws ts:List Int} {D:Int} {bs:List (List (Int×Int))}:d_q ws ts D bs=true ↔ d_g ws ts=true∧c_i bs.length D=true∧∀ b∈bs,f_9 ws.length D b=true:=by
 simp only [d_q,Bool.and_eq_true,List.all_eq_true,and_assoc]
theorem n_2 {N:Nat} {D x v:Int} {b:List (Int×Int)} (hb:f_9 N D b=true) (hl:(b.length:Int)≠D) (h0:0≤x) (h1:x < N):f_9 N D (b++[(x,v)])=true:=by
 simp only [f_9,Bool.and_eq_true,decide_eq_true_eq,List.all_eq_true] at hb ⊢;refine ⟨by rw [List.length_append,List.length_singleton];have:=hb.1;omega,fun p hp=>?_⟩
 rcases List.mem_append.1 hp with h | h
 ·exact hb.2 p h
 ·simp at h;subst h;simp [inP,h0,h1]
theorem g_h {ws ts:List Int} {D x v:Int} {bs:List (List (Int×Int))} (hm:d_q ws ts D bs=true) (hu:a_I ws ts x=0):d_q (ws.set x.toNat v) ts D bs=true:=by
 obtain ⟨h1,h2,h3⟩:=mayT_iff.1 hm;obtain ⟨_,_,_,ht⟩:=d_Y hu;refine mayT_iff.2 ⟨s_U h1 (by rw [ht];decide),h2,?_⟩;rw [List.length_set];exact h3
theorem i_e {ws ts:List Int} {D:Int} {bs:List (List (Int×Int))} {j:Nat} {b:List (Int×Int)} (hm:d_q ws ts D bs=true) (hb:f_9 ws.length D b=true):d_q ws ts D (bs.set j b)=true:=by
 obtain ⟨h1,h2,h3⟩:=mayT_iff.1 hm;refine mayT_iff.2 ⟨h1,by rw [List.length_set];exact h2,fun c hc=>?_⟩
 rcases List.mem_or_eq_of_mem_set hc with h | h
 ·exact h3 c h
 ·rw [h];exact hb
theorem o_Q {ws ts:List Int} {D th:Int} {bs:List (List (Int×Int))} (h:j_A ws ts D bs th=true):f_9 ws.length D (d_P bs th)=true:=by
 obtain ⟨hm,h0,h1⟩:=d_j h;have e:d_P bs th=bs[th.toNat]'(by omega):=by simp [d_P,show th.toNat < bs.length by omega]
 rw [e];exact (mayT_iff.1 hm).2.2 _ (List.getElem_mem _)
theorem n_p {ws ts:List Int} {D th x:Int} {bs:List (List (Int×Int))} (h:b_g ws ts D bs th x=0):j_A ws ts D bs th=true∧a_I ws ts x=0∧(D=0∨(D≠0∧((d_P bs th).length:Int)≠D)):=by
 unfold b_g at h
 split at h
 ·rename_i h1
  split at h
  ·rename_i h2
   refine ⟨h1,h2,?_⟩
   split at h
   ·left;assumption
   ·rename_i h3
    split at h
    ·simp at h
    ·right;exact ⟨h3,by assumption⟩
  ·exact absurd h (by assumption)
 ·simp at h
end Go.Proofs.YtolabfafgbmdbaaGreatDoor
