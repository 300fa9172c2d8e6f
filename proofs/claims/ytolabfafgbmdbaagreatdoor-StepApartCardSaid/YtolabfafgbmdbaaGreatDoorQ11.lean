import Derived.Test.YtolabfafgbmdbaaGreatDoorQ10
import Derived.Test.YtolabfafgbmdbaaGreatDoorQ7
import Derived.Deep.SlicePairs
import Derived.Test.YtolabfafgbmdbaaGreatDoorQ0
import Derived.WalkSmall
import Derived.Deep.RegionLawGrows
import Derived.Deep.RegionWith
import Derived.WalkSpells
set_option maxRecDepth 100000
set_option maxHeartbeats 16000000
namespace Go.Proofs.YtolabfafgbmdbaaGreatDoor
open Go.ChangeShapes Go.WideShapes Go.ChangeAt Go.RowKit
def p_8 (w:World) (b off:Nat) (ps:List (Int×Int)):Prop:=∀ i,i < ps.length→w.cell? ⟨b,off+i*2,none⟩=some (.int .i64 (ps.getD i (0,0)).1)∧w.cell? ⟨b,off+i*2+1,none⟩=some (.int .i64 (ps.getD i (0,0)).2)
theorem u_B {w:World} {b off:Nat} {ps:List (Int×Int)} (o:Obj) (h:p_8 w b off ps):p_8 (w.alloc o) b off ps:=fun i hi=>⟨b_b o (h i hi).1,b_b o (h i hi).2⟩
theorem r_f {w w':World} {b off:Nat} {ps:List (Int×Int)} (hb:Below w.heap.size w w') (h:p_8 w b off ps):p_8 w' b off ps:=fun i hi=>⟨a_t hb (h i hi).1,a_t hb (h i hi).2⟩
def Pl (w:World) (a:Option Addr) (n:Nat) (ps:List (Int×Int)):Prop:=ps.length=n∧(n=0∨∃ b o,a=some ⟨b,o,none⟩∧p_8 w b o ps)
theorem plA {w:World} {a:Option Addr} {n:Nat} {ps:List (Int×Int)} (o:Obj) (h:Pl w a n ps):Pl (w.alloc o) a n ps:=
 ⟨h.1,h.2.imp id fun ⟨b,f,e,r⟩=>⟨b,f,e,u_B o r⟩⟩
theorem plB {w w':World} {a:Option Addr} {n:Nat} {ps:List (Int×Int)} (hb:Below w.heap.size w w') (h:Pl w a n ps):Pl w' a n ps:=
 ⟨h.1,h.2.imp id fun ⟨b,f,e,r⟩=>⟨b,f,e,r_f hb r⟩⟩
theorem r_7 (w:World):Pl w none 0 []:=⟨rfl,.inl rfl⟩
def PlF (F:Nat) (w:World) (a:Option Addr) (n:Nat) (ps:List (Int×Int)):Prop:=ps.length=n∧(n=0∨∃ b o,a=some ⟨b,o,none⟩∧F≤b∧p_8 w b o ps)
theorem PlF.pl {F:Nat} {w:World} {a:Option Addr} {n:Nat} {ps:List (Int×Int)} (h:PlF F w a n ps):Pl w a n ps:=⟨h.1,h.2.imp id fun ⟨b,o,e,_,r⟩=>⟨b,o,e,r⟩⟩
theorem p_j (F:Nat) (w:World):PlF F w none 0 []:=⟨rfl,.inl rfl⟩
theorem r_c {F G:Nat} {w:World} {a:Option Addr} {n:Nat} {ps:List (Int×Int)} (hg:G≤F) (h:PlF F w a n ps):PlF G w a n ps:=
 ⟨h.1,h.2.imp id fun ⟨b,f,e,hf,r⟩=>⟨b,f,e,by omega,r⟩⟩
def b_K (ps:List (Int×Int)):List Value:=ps.flatMap fun p=>[.int .i64 p.1,.int .i64 p.2]
theorem d_G (ps qs:List (Int×Int)):b_K (ps++qs)=b_K ps++b_K qs:=by simp [b_K]
theorem b_3 (ps:List (Int×Int)):(b_K ps).length=ps.length*2:=by
 induction ps with
 | nil=>rfl
 | cons p ps ih=>simp only [b_K,List.flatMap_cons,List.length_append,List.length_cons,List.length_nil] at ih ⊢;omega
theorem g_m:∀ (ps:List (Int×Int)) (i:Nat),i < ps.length→(b_K ps)[i*2]?=some (.int .i64 (ps.getD i (0,0)).1)∧(b_K ps)[i*2+1]?=some (.int .i64 (ps.getD i (0,0)).2)
 | [],i,h=>by simp at h
 | p::ps,0,_=>by simp [b_K]
 | p::ps,i+1,h=>by
  have ih:=g_m ps i (by simpa using h);have e:b_K (p::ps)=.int .i64 p.1::.int .i64 p.2::b_K ps:=rfl;rw [e,show (i+1)*2=i*2+1+1 by omega]
  simpa using ih
theorem d_l (ps:List (Int×Int)):∀ u∈b_K ps,u.oneCell'=true:=by
 intro u hu;simp only [b_K,List.mem_flatMap] at hu;obtain ⟨p,_,hp⟩:=hu;simp at hp
 rcases hp with rfl | rfl <;> rfl
theorem f_A {w:World} {b off:Nat} {ps:List (Int×Int)} (R:p_8 w b off ps):∀ j u,(b_K ps)[j]?=some u→w.cell? ⟨b,off+j,none⟩=some u:=by
 intro j u hu;have hj:j < (b_K ps).length:=(List.getElem?_eq_some_iff.1 hu).1;rw [b_3] at hj;have hg:=g_m ps (j / 2) (by omega);have hr:=R (j / 2) (by omega)
 rcases Nat.mod_two_eq_zero_or_one j with h | h
 ·have e:j / 2*2=j:=by omega
  rw [e] at hg hr;rw [hg.1] at hu;rw [hr.1];exact hu
 ·have e:j / 2*2+1=j:=by omega
  rw [Nat.add_assoc,e] at hr;rw [e] at hg;rw [hg.2] at hu;rw [hr.2];exact hu
theorem f_I (b off j:Nat):(⟨b,off,none⟩:Addr).add j=⟨b,off+j,none⟩:=by
 simp only [Addr.add];split
 ·subst_vars;rfl
 ·rfl
def d_A (a:Option Addr) (n c:Nat):Prop:=n≤c∧c≤9223372036854775807∧(a=none→c=0)
theorem e_b:d_A none 0 0:=⟨Nat.le_refl _,by omega,fun _=>rfl⟩
theorem f_z {B:Nat} {w:World} {v:Value} {n:Nat} {ps:List (Int×Int)} (h:w.ownsRow B 59 2 v n (b_K ps)):∃ a c,v=.slice a n c∧d_A a n c∧PlF B w a n ps:=by
 obtain ⟨hl,h⟩:=h;have hl':ps.length=n:=by rw [b_3] at hl;omega
 rcases h with ⟨rfl,h0⟩ | ⟨g,cap,cur,rfl,hb,hg,hn,hm,hs,ht⟩
 ·exact ⟨none,0,by rw [h0],by subst h0;exact e_b,hl',.inl h0⟩
 ·unfold maxLen at hm;refine ⟨_,_,rfl,⟨hn,by omega,fun e=>by cases e⟩,hl',.inr ⟨g,0,rfl,hb,fun i hi=>?_⟩⟩;have e:=g_m ps i hi;simp only [World.cell?,hg];rw [←ht,List.getElem?_take,List.getElem?_take,if_pos (by omega),if_pos (by omega)] at e;exact ⟨by simpa using e.1,by simpa using e.2⟩
theorem Tryz.info59:(Tryz.prog.info? 59).map (fun i=>(i.zero,i.size,i.bytes))=some (some (.agg #[.int .i64 0,.int .i64 0]),2,16):=by kernel_rfl
def m_x (w:World) (a:Addr) (b:List (Int×Int)):Prop:=∃ q c,w.cell? a=some (.slice q b.length c)∧d_A q b.length c∧Pl w q b.length b
theorem t_Q {w:World} {a:Addr} {b:List (Int×Int)} (o:Obj) (h:m_x w a b):m_x (w.alloc o) a b:=by
 obtain ⟨q,c,h1,h2,h3⟩:=h;exact ⟨q,c,b_b o h1,h2,plA o h3⟩
theorem t_R {w w':World} {a:Addr} {b:List (Int×Int)} (hb:Below w.heap.size w w') (h:m_x w a b):m_x w' a b:=by
 obtain ⟨q,c,h1,h2,h3⟩:=h;exact ⟨q,c,a_t hb h1,h2,plB hb h3⟩
def u_O (w:World) (blk off:Nat) (bs:List (List (Int×Int))):Prop:=∀ i,i < bs.length→m_x w ⟨blk,off+i,none⟩ (bs.getD i [])
def Bl (w:World) (a:Option Addr) (n:Nat) (bs:List (List (Int×Int))):Prop:=bs.length=n∧(n=0∨∃ b o,a=some ⟨b,o,none⟩∧u_O w b o bs)
theorem blA {w:World} {a:Option Addr} {n:Nat} {bs:List (List (Int×Int))} (o:Obj) (h:Bl w a n bs):Bl (w.alloc o) a n bs:=
 ⟨h.1,h.2.imp id fun ⟨b,f,e,r⟩=>⟨b,f,e,fun i hi=>t_Q o (r i hi)⟩⟩
theorem blB {w w':World} {a:Option Addr} {n:Nat} {bs:List (List (Int×Int))} (hb:Below w.heap.size w w') (h:Bl w a n bs):Bl w' a n bs:=
 ⟨h.1,h.2.imp id fun ⟨b,f,e,r⟩=>⟨b,f,e,fun i hi=>t_R hb (r i hi)⟩⟩
theorem h_J {w:World} {a:Option Addr} {n:Nat} {bs:List (List (Int×Int))} (h:Bl w a n bs) {i:Nat} (hi:i < n) :
  ∃ b o q c,a=some ⟨b,o,none⟩∧w.cell? ⟨b,o+i,none⟩=some (.slice q (bs.getD i []).length c)∧d_A q (bs.getD i []).length c∧Pl w q (bs.getD i []).length (bs.getD i []):=by
 obtain ⟨b,o,e,r⟩:=h.2.resolve_left (by omega);obtain ⟨q,c,h1,h2,h3⟩:=r i (by rw [h.1];exact hi);exact ⟨b,o,q,c,e,h1,h2,h3⟩
def n_D (w:World) (vs:List Value) (bs:List (List (Int×Int))):Prop:=vs.length=bs.length∧∀ i,i < bs.length→∃ q c,vs[i]?=some (.slice q (bs.getD i []).length c)∧d_A q (bs.getD i []).length c∧Pl w q (bs.getD i []).length (bs.getD i [])
theorem n_3 (w:World):n_D w [] []:=⟨rfl,fun i hi=>by simp at hi⟩
theorem m_H {w:World} {vs:List Value} {bs:List (List (Int×Int))} {q:Option Addr} {n c:Nat} {b:List (Int×Int)} (h:n_D w vs bs) (hc:d_A q n c) (hp:Pl w q n b):n_D w (vs++[.slice q n c]) (bs++[b]):=by
 exact J47
end Go.Proofs.YtolabfafgbmdbaaGreatDoor
namespace Go.Proofs.YtolabfafgbmdbaaGreatDoor
def k_d (zs:List Int) (i x:Int) (k:Nat):Int:=if (k:Int)=i then x else zs.getD k 0
def k_e (zs:List Int) (i x:Int):Nat→List Int
 | 0=>[]
 | k+1=>k_e zs i x k++[k_d zs i x k]
def e_x (zs:List Int) (i x:Int):List Int:=k_e zs i x zs.length
theorem c_C (zs:List Int) (i x:Int) (k:Nat):(k_e zs i x k).length=k:=by
 induction k with
 | zero=>rfl
 | succ k ih=>simp [k_e,ih]
theorem p_Q (zs:List Int) (i x:Int) (k j:Nat) (hj:j < k):(k_e zs i x k).getD j 0=k_d zs i x j:=by
 induction k with
 | zero=>omega
 | succ k ih =>
  simp only [k_e,List.getD_eq_getElem?_getD]
  by_cases e:j=k
  ·subst e;rw [List.getElem?_append_right (by rw [c_C];omega)];simp [c_C]
  ·rw [List.getElem?_append_left (by rw [c_C];omega)];have:=ih (by omega)
   simpa only [List.getD_eq_getElem?_getD] using this
theorem h_H (zs:List Int) (i:Nat) (x:Int):e_x zs i x=zs.set i x:=by
 apply List.ext_getElem
 ·simp [e_x,c_C]
 ·intro j h1 h2;have hj:j < zs.length:=by simpa using h2
  have e1:(e_x zs i x)[j]=(e_x zs i x).getD j 0:=by simp [h1]
  have e2:(zs.set i x)[j]=(zs.set i x).getD j 0:=by simp [hj]
  rw [e1,e2,e_x,p_Q _ _ _ _ _ hj];simp only [k_d,List.getD_eq_getElem?_getD,List.getElem?_set]
  by_cases e:i=j
  ·subst e;simp [hj]
  ·rw [if_neg (by omega),if_neg e]
end Go.Proofs.YtolabfafgbmdbaaGreatDoor
namespace Go.Proofs.YtolabfafgbmdbaaGreatDoor
open Go.ChangeShapes Go.WideShapes Go.ChangeAt Go.RowKit
theorem d_T {B:Nat} {w:World} {v:Value} {n:Nat} {zs:List Int} (h:w.ownsRow B 3 1 v n (zs.map (Value.int .i64))):∃ a c,v=.slice a n c∧SlF B w a n zs:=by
 obtain ⟨hl,h⟩:=h;have hl':zs.length=n:=by simpa using hl
 rcases h with ⟨rfl,h0⟩ | ⟨g,cap,cur,rfl,hb,hg,hn,hm,hs,ht⟩
 ·exact ⟨none,0,by rw [h0],hl',.inl h0⟩
 ·refine ⟨_,_,rfl,hl',.inr ⟨g,0,rfl,hb,fun i hi=>?_⟩⟩;simp only [World.cell?,hg];have e:(zs.map (Value.int .i64))[i]?=some (.int .i64 (zs.getD i 0)):=by simp [hi]
  rw [←ht,List.getElem?_take,if_pos (by omega)] at e
  simpa using e
theorem e_n (w:World) (x:Value) (t:TypeId):∀ j u,[x][j]?=some u→(w.alloc (.cells #[x] t)).cell? ((⟨w.heap.size,0,none⟩:Addr).add j)=some u:=by
 intro j u h
 obtain rfl:j=0:=by
  have:=(List.getElem?_eq_some_iff.1 h).1;simp at this;omega
 simp at h;subst h;simp [Addr.add]
def k_r (zs:List Int) (i x:Int) (k:Nat):List Value:=(k_e zs i x k).map (Value.int .i64)
theorem e_5 (zs:List Int) (i x:Int) (k:Nat) {y:Int} (h:k_d zs i x k=y):k_r zs i x (k+1)=k_r zs i x k++[.int .i64 y]:=by
 simp [k_r,k_e,h]
def l_G (zs:List Int) (w:World) (e:Ending) (w':World):Prop:=∃ a c,e=.returned (.slice a zs.length c)∧SlF w.heap.size w' a zs.length zs∧Below w.heap.size w w'
theorem l_v {zs:List Int} {i x:Int} {w w':World} {v:Value} {n:Nat} (hn:zs.length=n) (h:w'.ownsRow w.heap.size 3 1 v n (k_r zs i x n)) (hb:Below w.heap.size w w'):l_G (e_x zs i x) w (.returned v) w':=by
 subst hn;obtain ⟨a,c,rfl,hs⟩:=d_T h;refine ⟨a,c,?_,?_,hb⟩
 ·rw [e_x,c_C]
 ·rw [show (e_x zs i x).length=zs.length by rw [e_x,c_C]];exact hs
theorem l_H (a:Option Addr) (n c:Nat) (zs:List Int) (i x:Int) (w:World) (S:Sl w a n zs) (hn:n≤1000) :
  Calls Tryz.prog 62 #[.slice a n c,.int .i64 i,.int .i64 x] w (l_G (e_x zs i x) w):=by
 obtain ⟨i0,hi,hz0,hz1,hz2⟩:=N179;have Hn:=Lib.hid S.1;have HI:=N45;clear hi hz0 hz1 hz2
 go_enter Tryz.func62,Tryz.ntmps62
 go_wp2
 go_loopw [7,13] (fun v s wr=>∃ k:Nat,k≤n∧s=.int .i64 k∧wr.ownsRow w.heap.size 3 1 v k (k_r zs i x k)∧Below w.heap.size w wr) (fun _ s _=>n - (intOf s).toNat)
 case atStart=>exact ⟨0,by omega,rfl,World.ownsRow_made w #[] 0 (Nat.le_refl _) (by decide) (by simp),(Below.refl _ _).alloc (Nat.le_refl _) _⟩
 case round =>
  obtain ⟨k,hk,rfl,hown,hb⟩:=hrel
  by_cases hlt:k < n
  ·obtain ⟨b,o,rfl,R⟩:=N180;have g:=a_t hb (R k (by rw [Hn.out];exact hlt));have hsz:=hb.size;have ⟨HB,HO⟩:=hh2 hb hown
   by_cases e:(k:Int)=i
   ·have HS:=Lib.hid (e_5 zs i x k (by rw [k_d,if_pos e]));have q:=N255;clear e hb hown
    go_wp2_with (at_builtin;refine wpList_append_own _ rfl _ _ 23 rfl w.heap.size 3 i0 (.int .i64 0) 1 8 Tryz.underlying23 HI.out.1 HI.out.2.1 HI.out.2.2.1 HI.out.2.2.2 rfl (by decide) _ _ _ rfl (HO.out.alloc _) ⟨wr.heap.size,0,none⟩ 1 1 [.int .i64 x] rfl rfl ?c1 ?c2 ?c3 ?c4 ?c5 ?_)
    case c1=>exact e_n _ _ _
    case c2=>intro v hv;simp at hv;subst hv;rfl
    case c3=>unfold maxLen;omega
    case c4=>omega
    case c5=>simp;omega
    intro v' w1 hown' hgrow _;have hb':=N117;rw [←HS.out] at hown';have ⟨HO',HB'⟩:=hh2 hown' hb';clear hown' hb' hgrow
    go_wp2
    go_roundw
    case rel=>exact ⟨k+1,by omega,by go_num,HO'.out,HB'.out⟩
    case measure=>simp [intOf];omega
   ·have HS:=Lib.hid (e_5 zs i x k (y:=zs.getD k 0) (by rw [k_d,if_neg e]))
    generalize zs.getD k 0=y at g HS
    have q:=N253;clear e hb hown
    go_wp2_with (at_builtin;refine wpList_append_own _ rfl _ _ 23 rfl w.heap.size 3 i0 (.int .i64 0) 1 8 Tryz.underlying23 HI.out.1 HI.out.2.1 HI.out.2.2.1 HI.out.2.2.2 rfl (by decide) _ _ _ rfl (HO.out.alloc _) ⟨wr.heap.size,0,none⟩ 1 1 [.int .i64 y] rfl rfl ?c1 ?c2 ?c3 ?c4 ?c5 ?_)
    case c1=>exact e_n _ _ _
    case c2=>intro v hv;simp at hv;subst hv;rfl
    case c3=>unfold maxLen;omega
    case c4=>omega
    case c5=>simp;omega
    intro v' w1 hown' hgrow _;have hb':=N118;rw [←HS.out] at hown';have ⟨HO',HB'⟩:=hh2 hown' hb';clear hown' hb' hgrow
    go_wp2
    go_roundw
    case rel=>exact ⟨k+1,by omega,by go_num,HO'.out,HB'.out⟩
    case measure=>simp [intOf];omega
  ·obtain rfl:k=n:=by omega
   have ⟨HB,HO⟩:=hh2 hb hown;clear hb hown
   go_wp2
   go_ret
   exact l_v Hn.out HO.out HB.out
def j_h (zs:List Int) (w:World) (e:Ending) (w':World):Prop:=∃ a c,e=.returned (.slice a zs.length c)∧SlF w.heap.size w' a zs.length zs∧Below w.heap.size w w'
theorem j_v {zs:List Int} {w w':World} {v:Value} {n:Nat} (hn:zs.length=n) (h:w'.ownsRow w.heap.size 3 1 v n (zs.map (Value.int .i64))) (hb:Below w.heap.size w w'):j_h zs w (.returned v) w':=by
 subst hn;obtain ⟨a,c,rfl,hs⟩:=d_T h;exact ⟨a,c,rfl,hs,hb⟩
theorem p_p {w:World} {b off:Nat} {zs:List Int} (R:Row w b off zs):∀ j u,(zs.map (Value.int .i64))[j]?=some u→w.cell? ((⟨b,off,none⟩:Addr).add j)=some u:=by
 intro j u hu;rw [f_I];have hj:j < zs.length:=by simpa using (List.getElem?_eq_some_iff.1 hu).1
 rw [R j hj];simp [hj] at hu;simp [hj,hu]
theorem i_G (t e:TypeId) (a:Option Addr) (n c:Nat) (h:Tryz.prog.underlying t=some (.slice e)) (w:World):(binOp .eql t (.slice a n c) (.slice none 0 0)).run Tryz.prog w=.ok (.bool a.isNone) w:=by
 simp only [binOp];simp [Op.equal,Op.maxDepth,Lib.run_equalIn_slice_nil w 9999 t e a n c 0 0 h]
theorem h_4 (a:Option Addr) (n c:Nat) (zs:List Int) (w:World) (S:Sl w a n zs) (hn:n≤1000) (ha:n≠0∨(a=none∧c=0)) :
  Calls Tryz.prog 85 #[.slice a n c] w (j_h zs w):=by
 obtain ⟨i0,hi,hz0,hz1,hz2⟩:=N179;have HI:=N45;have Hn:=Lib.hid S.1;clear hi hz0 hz1 hz2
 by_cases h0:n=0
 ·obtain ⟨rfl,rfl⟩:=ha.resolve_left (by omega);subst h0;obtain rfl:zs=[]:=List.eq_nil_of_length_eq_zero Hn.out;have q:=fun w=>i_G 23 3 none 0 0 Tryz.underlying23 w
  go_enter Tryz.func85,Tryz.ntmps85
  go_wp2
  go_ret
  exact ⟨none,0,rfl,h_x _ _,Below.refl _ _⟩
 ·obtain ⟨b,o,rfl,R⟩:=S.2.resolve_left h0;have q:=fun w=>i_G 23 3 (some ⟨b,o,none⟩) n c Tryz.underlying23 w
  go_enter Tryz.func85,Tryz.ntmps85
  go_wp2_with (at_builtin;refine wpList_append_own _ rfl _ _ 23 rfl w.heap.size 3 i0 (.int .i64 0) 1 8 Tryz.underlying23 HI.out.1 HI.out.2.1 HI.out.2.2.1 HI.out.2.2.2 rfl (by decide) _ 0 [] rfl (World.ownsRow_made w #[] 0 (Nat.le_refl _) (by decide) (by simp)) ⟨b,o,none⟩ n c (zs.map (Value.int .i64)) rfl ?c1 ?c2 ?c3 ?c4 ?c5 ?c6 ?_)
  case c1=>simp [Hn.out]
  case c2=>exact p_p (m_c _ R)
  case c3=>intro v hv;simp at hv;obtain ⟨z,_,rfl⟩:=hv;rfl
  case c4=>unfold maxLen;omega
  case c5=>omega
  case c6=>simp
  intro v' w1 hown' hgrow _;have hb':=N85;have ⟨HO,HB⟩:=hh2 hown' hb';clear hown' hb' hgrow
  go_wp2
  go_ret
  exact j_v Hn.out HO.out HB.out
def h_T (ps:List (Int×Int)) (w:World) (e:Ending) (w':World):Prop:=∃ a c,e=.returned (.slice a ps.length c)∧d_A a ps.length c∧PlF w.heap.size w' a ps.length ps∧Below w.heap.size w w'
theorem i_E {ps:List (Int×Int)} {w w':World} {v:Value} {n:Nat} (hn:ps.length=n) (h:w'.ownsRow w.heap.size 59 2 v n (b_K ps)) (hb:Below w.heap.size w w'):h_T ps w (.returned v) w':=by
 subst hn;obtain ⟨a,c,rfl,hc,hs⟩:=f_z h;exact ⟨a,c,rfl,hc,hs,hb⟩
def f_G (ps:List (Int×Int)) (x:Int) (w:World) (e:Ending) (w':World):Prop:=∃ a c,e=.returned (.tuple #[.slice a ps.length c,.int .i64 x])∧d_A a ps.length c∧PlF w.heap.size w' a ps.length ps∧Below w.heap.size w w'
theorem d_3 {x:Int} {ps:List (Int×Int)} (he:ps=[]) {w w':World} (hb:Below w.heap.size w w'):f_G ps x w (.returned (.tuple #[.slice none 0 0,.int .i64 x])) w':=by
 subst he;exact ⟨none,0,rfl,e_b,p_j _ _,hb⟩
theorem h_l {ps qs:List (Int×Int)} {w w':World} {v:Value} {n:Nat} (hq:qs=ps) (hn:ps.length=n) {B:Nat} (hB:w.heap.size≤B) (h:w'.ownsRow B 59 2 v n (b_K ps)) (hb:Below w.heap.size w w'):f_G qs 0 w (.returned (.tuple #[v,.int .i64 0])) w':=by
 subst hq;subst hn;obtain ⟨a,c,rfl,hc,hs⟩:=f_z h;exact ⟨a,c,rfl,hc,r_c hB hs,hb⟩
theorem j_z {w W w1:World} (hg:W.grownBy w1 none) (hb:Below w.heap.size w W):Below w.heap.size w w1∧w.heap.size≤W.heap.size:=
 ⟨hb.grown hg hb.size (fun _ hr=>by cases hr),hb.size⟩
theorem e_1 {W:World} {g:Nat} {x y:Int} (k0:W.cell? ⟨g,0,none⟩=some (.int .i64 x)) (k1:W.cell? ⟨g,1,none⟩=some (.int .i64 y)):∀ j u,(b_K [(x,y)])[j]?=some u→W.cell? ((⟨g,0,none⟩:Addr).add j)=some u:=by
 intro j u hu;rw [f_I,Nat.zero_add];have hj:j < 2:=(List.getElem?_eq_some_iff.1 hu).1;have:j=0∨j=1:=by omega
 rcases this with rfl | rfl
 ·simp [b_K] at hu;subst hu;exact k0
 ·simp [b_K] at hu;subst hu;exact k1
theorem n_O (p:Addr) (n c:Nat) (ps:List (Int×Int)) (depth x y:Int) (w:World) (S:Pl w (some p) n ps) (hc:n≤c) (h3:c≤9223372036854775807) (d0:0≤depth) (d1:depth≤8) (d2:(n:Int)≤depth) (d3:(n:Int)≠depth) :
  Calls Tryz.prog 150 #[.slice (some p) n c,.int .i64 depth,.agg #[.int .i64 x,.int .i64 y]] w (f_G (e_0 ps depth (x,y)) 0 w):=by
 have Hn:=Lib.hid S.1;have HE:=Lib.hid (show e_g n depth=0 by rw [e_g,if_neg (by omega),if_neg d3]);have HL:=Lib.hid (show e_0 ps depth (x,y)=ps++[(x,y)] by rw [e_0,Hn.out,HE.out,if_pos rfl]);have q:((n:Int)==depth)=false:=by simpa using d3
 obtain ⟨i0,hi,hz0,hz1,hz2⟩:=N189;have HI:=N45;have hn8:n≤8:=by omega
 have holds:∀ W,Below w.heap.size w W→∀ b,some p=some b→∀ j u,(b_K ps)[j]?=some u→W.cell? (b.add j)=some u:=by
  intro W hW b hb j u hu
  cases hb
  have hj:=N140;obtain ⟨b,o,e,R⟩:=S.2.resolve_left (by rw [←Hn.out];omega)
  cases e
  rw [f_I];exact f_A (r_f hW R) j u hu
 have HH:=Lib.hid holds;clear d3 hi hz0 hz1 hz2 holds
 go_enter Tryz.func150,Tryz.ntmps150
 go_wp2
 go_region_law (refine step_append_grows rfl (.tmp 29) (.tmp 31) 55 rfl 59 i0 (.agg #[.int .i64 0,.int .i64 0]) 2 16 Tryz.underlying55 HI.out.1 HI.out.2.1 HI.out.2.2.1 HI.out.2.2.2 rfl (by decide) (some p) n n (b_K ps) (by simp [Act.eval]) (fun e=>by cases e) (by rw [b_3,Hn.out]) (HH.out _ (by go_grown)) ⟨w.heap.size+1,0,none⟩ 1 1 (b_K [(x,y)]) (by simp [Act.eval]) rfl (e_1 (by simp) (by simp)) (d_l _) (by omega) (by unfold maxLen;omega) (by omega) ?_;intro v' w1 hown hgrow)
 all_goals
  obtain ⟨hb',hsz⟩:=j_z hgrow (w:=w) (by go_grown);rw [←d_G] at hown;have ⟨HO,HB⟩:=hh2 hown hb';clear hown hb' hgrow
  go_wp2
  go_ret2
  exact h_l HL.out (by rw [List.length_append,Hn.out];rfl) hsz HO.out HB.out
theorem n_N (depth x y:Int) (w:World) (d1:depth≤8) (d3:0 < depth) :
  Calls Tryz.prog 150 #[.slice none 0 0,.int .i64 depth,.agg #[.int .i64 x,.int .i64 y]] w (f_G (e_0 [] depth (x,y)) 0 w):=by
 have HE:=Lib.hid (show e_g 0 depth=0 by rw [e_g,if_neg (by omega),if_neg (by omega)]);have HL:=Lib.hid (show e_0 [] depth (x,y)=[]++[(x,y)] by rw [e_0,List.length_nil,HE.out,if_pos rfl]);have q:((0:Int)==depth)=false:=by simp;omega
 have q1:decide (depth < 0)=false:=by simp;omega
 obtain ⟨i0,hi,hz0,hz1,hz2⟩:=N189;have HI:=N45;clear hi hz0 hz1 hz2
 go_enter Tryz.func150,Tryz.ntmps150
 go_wp2
 go_region_law (refine step_append_grows rfl (.tmp 29) (.tmp 31) 55 rfl 59 i0 (.agg #[.int .i64 0,.int .i64 0]) 2 16 Tryz.underlying55 HI.out.1 HI.out.2.1 HI.out.2.2.1 HI.out.2.2.2 rfl (by decide) none 0 0 (b_K []) (by simp [Act.eval]) (fun _=>⟨rfl,rfl⟩) rfl (fun b hb=>by cases hb) ⟨w.heap.size+1,0,none⟩ 1 1 (b_K [(x,y)]) (by simp [Act.eval]) rfl (e_1 (by simp) (by simp)) (d_l _) (by omega) (by unfold maxLen;omega) (by omega) ?_;intro v' w1 hown hgrow)
 all_goals
  obtain ⟨hb',hsz⟩:=j_z hgrow (w:=w) (by go_grown);rw [←d_G] at hown;have ⟨HO,HB⟩:=hh2 hown hb';clear hown hb' hgrow
  go_wp2
  go_ret2
  exact h_l HL.out rfl hsz HO.out HB.out
theorem p_9 (a:Option Addr) (n c:Nat) (ps:List (Int×Int)) (depth x y:Int) (w:World) (S:Pl w a n ps) (hcap:d_A a n c) :
  Calls Tryz.prog 150 #[.slice a n c,.int .i64 depth,.agg #[.int .i64 x,.int .i64 y]] w (f_G (e_0 ps depth (x,y)) (e_g n depth) w):=by
 obtain ⟨hc,h3,h0⟩:=hcap;have Hn:=Lib.hid S.1;have H0:=Lib.hid h0;clear h0
 by_cases d0:depth < 0
 ·have HE:=Lib.hid (show e_g n depth=1 by rw [e_g,if_pos (.inl d0)]);exact J53
 ·by_cases d1:8 < depth
  ·have HE:=Lib.hid (show e_g n depth=1 by rw [e_g,if_pos (.inr (.inl d1))]);exact J53
  ·by_cases d2:depth < n
   ·have HE:=Lib.hid (show e_g n depth=1 by rw [e_g,if_pos (.inr (.inr d2))]);exact J53
   ·by_cases d3:(n:Int)=depth
    ·have HE:=Lib.hid (show e_g n depth=7 by rw [e_g,if_neg (by omega),if_pos d3]);have HL:=Lib.hid (show e_0 ps depth (x,y)=[] by rw [e_0,Hn.out,HE.out,if_neg (by decide)]);rw [HE.out];have q:((n:Int)==depth)=true:=by simpa using d3
     clear d3
     go_enter Tryz.func150,Tryz.ntmps150
     go_wp2
     go_ret2
     exact d_3 HL.out (by go_grown)
    ·have HE:=Lib.hid (show e_g n depth=0 by rw [e_g,if_neg (by omega),if_neg d3]);rw [HE.out]
     cases a with
     | some p=>exact n_O p n c ps depth x y w S hc h3 (by omega) (by omega) (by omega) d3
     | none =>
      obtain rfl:c=0:=H0.out rfl;obtain rfl:n=0:=by omega
      obtain rfl:ps=[]:=List.eq_nil_of_length_eq_zero S.1;exact n_N depth x y w (by omega) (by omega)
theorem j_L (ps:List (Int×Int)) (k:Nat) (x:Int) (h:k < ps.length) (p:Int×Int) (hp:ps.getD k (0,0)=p) :
  (p.1=x→c_y (ps.take (k+1)) x=p.2∧c_x (ps.take (k+1)) x=true)∧(p.1≠x→c_y (ps.take (k+1)) x=c_y (ps.take k) x∧c_x (ps.take (k+1)) x=c_x (ps.take k) x):=by
 subst hp;simp only [c_y,c_x,e_p ps k x h]
 constructor
 ·intro e;rw [if_pos e];exact ⟨rfl,rfl⟩
 ·intro e;rw [if_neg e];exact ⟨rfl,rfl⟩
def n_K (v:Int) (i:Bool) (w:World) (e:Ending) (w':World):Prop:=e=.returned (.tuple #[.int .i64 v,.bool i])∧Below w.heap.size w w'
theorem m_2 {v z:Int} {i t:Bool} {w w':World} (h1:v=z) (h2:i=t) (hb:Below w.heap.size w w'):n_K v i w (.returned (.tuple #[.int .i64 z,.bool t])) w':=by subst h1;subst h2;exact ⟨rfl,hb⟩
theorem i_W (a:Option Addr) (n c:Nat) (ps:List (Int×Int)) (x:Int) (w:World) (S:Pl w a n ps) (hn:n≤9223372036854775807) :
  Calls Tryz.prog 127 #[.slice a n c,.int .i64 x] w (n_K (c_y ps x) (c_x ps x) w):=by
 have Hn:=Lib.hid S.1
 go_enter Tryz.func127,Tryz.ntmps127
 go_wp2
 go_loopw [6,7,12] (fun v i s wr=>∃ (k:Nat) (z:Int) (t:Bool),k≤n∧s=.int .i64 k∧v=.int .i64 z∧i=.bool t∧Hid (c_y (ps.take k) x=z∧c_x (ps.take k) x=t)∧Below w.heap.size w wr) (fun _ _ s _=>n - (intOf s).toNat)
 case atStart=>exact ⟨0,0,false,by omega,rfl,rfl,rfl,⟨rfl,rfl⟩,Below.refl _ _⟩
 case round =>
  obtain ⟨k,z,t,hk,rfl,rfl,rfl,hz,hb⟩:=hrel
  by_cases hlt:k < n
  ·obtain ⟨b,o,rfl,R⟩:=N180;have g:=R k (by rw [Hn.out];exact hlt);have g1:=a_t hb g.1;have g2:=a_t hb g.2;have hsz:=hb.size;obtain ⟨p,hp⟩:=mn (ps.getD k (0,0));rw [hp] at g1 g2;have HN:=Lib.hid (j_L ps k x (by rw [Hn.out];exact hlt) p hp);have HB:=Lib.hid hb;clear g hp hb
   by_cases e:p.1=x
   ·have HZ:=Lib.hid (HN.out.1 e);have q:(p.1==x)=true:=by simpa using e
    clear e
    go_wp2
    go_roundw
    case rel=>exact ⟨k+1,p.2,true,by omega,by go_num,rfl,rfl,HZ.out,HB.out.alloc hsz _⟩
    case measure=>simp [intOf];omega
   ·have HZ:=Lib.hid (HN.out.2 e);have q:(p.1==x)=false:=by simpa using e
    clear e
    go_wp2
    go_roundw
    case rel=>exact ⟨k+1,z,t,by omega,by go_num,rfl,rfl,⟨HZ.out.1.trans hz.out.1,HZ.out.2.trans hz.out.2⟩,HB.out.alloc hsz _⟩
    case measure=>simp [intOf];omega
  ·obtain rfl:k=n:=by omega
   have E:Hid (ps.take k=ps):=List.take_of_length_le (by rw [Hn.out];omega);have h1:=hz.out.1;have h2:=hz.out.2;rw [E.out] at h1 h2;have ⟨H1,H2,HB⟩:=hh3 h1 h2 hb;clear hb h1 h2
   go_wp2
   go_ret2
   exact m_2 H1.out H2.out HB.out
def i_y (ps:List (Int×Int)) (w:World) (e:Ending) (w':World):Prop:=∃ a c,e=.returned (.slice a ps.length c)∧d_A a ps.length c∧PlF w.heap.size w' a ps.length ps∧Below w.heap.size w w'
theorem f_B {ps qs:List (Int×Int)} {w w':World} {v:Value} {n:Nat} (hq:qs=ps) (hn:ps.length=n) (h:w'.ownsRow w.heap.size 59 2 v n (b_K ps)) (hb:Below w.heap.size w w'):i_y qs w (.returned v) w':=by
 subst hq;subst hn;obtain ⟨a,c,rfl,hc,hs⟩:=f_z h;exact ⟨a,c,rfl,hc,hs,hb⟩
theorem r_e {w:World} {p:Addr} {n:Nat} {ps:List (Int×Int)} (S:Pl w (some p) n ps):∀ W,Below w.heap.size w W→∀ j u,(b_K ps)[j]?=some u→W.cell? (p.add j)=some u:=by
 intro W hW j u hu;have hj:=N140;obtain ⟨b,o,e,R⟩:=S.2.resolve_left (by have:=S.1;omega)
 cases e
 rw [f_I];exact f_A (r_f hW R) j u hu
theorem l_d (a:Option Addr) (n c:Nat) (ps:List (Int×Int)) (x y:Int) (w:World) (S:Pl w a n ps) (hn:n≤1000) (h0:a=none→c=0) :
  Calls Tryz.prog 128 #[.slice a n c,.agg #[.int .i64 x,.int .i64 y]] w (i_y (ps++[(x,y)]) w):=by
 obtain ⟨i0,hi,hz0,hz1,hz2⟩:=N189;have HI:=N45;have Hn:=Lib.hid S.1
 have hown0:((w.alloc (Obj.cells #[.int .i64 x,.int .i64 y] 59)).alloc (.cells #[] 59)).ownsRow w.heap.size 59 2 (.slice (some ⟨w.heap.size+1,0,none⟩) 0 0) 0 []:=by
  have:=World.ownsRow_made (base:=w.heap.size) (e:=59) (size:=2) (w.alloc (Obj.cells #[.int .i64 x,.int .i64 y] 59)) #[] 0 (by simp) (by decide) (by simp);rw [World.size_alloc] at this;exact this
 have HOWN:=Lib.hid hown0;clear hi hz0 hz1 hz2 hown0
 cases a with
 | none =>
  obtain rfl:c=0:=h0 rfl
  obtain rfl:n=0:=by
   rcases S.2 with h | ⟨b,o,h,_⟩
   ·exact h
   ·cases h
  obtain rfl:ps=[]:=List.eq_nil_of_length_eq_zero S.1;clear S h0 hn
  go_enter Tryz.func128,Tryz.ntmps128
  go_wp2_with (at_builtin;refine wpList_append_own _ rfl (.tmp 10) (.tmp 12) 55 rfl w.heap.size 59 i0 (.agg #[.int .i64 0,.int .i64 0]) 2 16 Tryz.underlying55 HI.out.1 HI.out.2.1 HI.out.2.2.1 HI.out.2.2.2 rfl (by decide) _ 0 [] rfl (HOWN.out.alloc _) ⟨w.heap.size+1+1,0,none⟩ 1 1 (b_K [(x,y)]) rfl rfl ?c1 ?c2 ?c3 ?c4 ?c5 ?_)
  case c1=>exact e_1 (a_Y _ _ _ (by simp) rfl) (a_Y _ _ _ (by simp) rfl)
  case c2=>exact d_l _
  case c3=>unfold maxLen;omega
  case c4=>omega
  case c5=>simp;omega
  intro v' w1 hown' hgrow _;have hb':=(((Below.refl w.heap.size w).alloc (Nat.le_refl _) (Obj.cells #[.int .i64 x,.int .i64 y] 59)).alloc (by simp) (.cells #[] 59)).alloc (by simp;omega) (Obj.cells #[.int .i64 x,.int .i64 y] 59) |>.grown hgrow (by simp;omega) (fun r hr=>by cases hr;simp)
  have ⟨HO',HB'⟩:=hh2 hown' hb';clear hown' hb' hgrow
  go_wp2
  go_ret
  exact f_B rfl rfl HO'.out HB'.out
 | some p =>
  have HH:=Lib.hid (r_e S)
  go_enter Tryz.func128,Tryz.ntmps128
  go_wp2_with (at_builtin;refine wpList_append_own _ rfl (.tmp 7) (.tmp 8) 55 rfl w.heap.size 59 i0 (.agg #[.int .i64 0,.int .i64 0]) 2 16 Tryz.underlying55 HI.out.1 HI.out.2.1 HI.out.2.2.1 HI.out.2.2.2 rfl (by decide) _ 0 [] rfl HOWN.out p n c (b_K ps) rfl ?c1 ?c2 ?c3 ?c4 ?c5 ?c6 ?_)
  case c1=>rw [b_3,Hn.out]
  case c2=>exact HH.out _ (by go_grown)
  case c3=>exact d_l _
  case c4=>unfold maxLen;omega
  case c5=>omega
  case c6=>simp;omega
  intro v' w1 hown' hgrow _;have hb':=((Below.refl w.heap.size w).alloc (Nat.le_refl _) (Obj.cells #[.int .i64 x,.int .i64 y] 59)).alloc (by simp) (.cells #[] 59) |>.grown hgrow (by simp;omega) (fun r hr=>by cases hr;simp)
  have d0:w1.cell? ⟨w.heap.size,0,none⟩=some (.int .i64 x):=hgrow.cell (b_b _ (by simp)) (by simp [Value.ownBlock]);have d1:w1.cell? ⟨w.heap.size,1,none⟩=some (.int .i64 y):=hgrow.cell (b_b _ (by simp)) (by simp [Value.ownBlock]);have ⟨HO',HB'⟩:=hh2 hown' hb';have hsz:=hb'.size;clear hown' hb' hgrow
  go_wp2_with (at_builtin;refine wpList_append_own _ rfl (.tmp 10) (.tmp 12) 55 rfl w.heap.size 59 i0 (.agg #[.int .i64 0,.int .i64 0]) 2 16 Tryz.underlying55 HI.out.1 HI.out.2.1 HI.out.2.2.1 HI.out.2.2.2 rfl (by decide) _ _ _ rfl (HO'.out.alloc _) ⟨w1.heap.size,0,none⟩ 1 1 (b_K [(x,y)]) rfl rfl ?c1 ?c2 ?c3 ?c4 ?c5 ?_)
  case c1=>exact e_1 (by simp) (by simp)
  case c2=>exact d_l _
  case c3=>unfold maxLen;omega
  case c4=>omega
  case c5=>simp;omega
  intro v'' w2 hown'' hgrow' _;have hb'':=(HB'.out.alloc hsz (Obj.cells #[.int .i64 x,.int .i64 y] 59)).grown hgrow' (by simp;omega) (fun r hr=>((HO'.out.alloc (Obj.cells #[.int .i64 x,.int .i64 y] 59)).lt r hr).1);rw [←d_G] at hown'';have ⟨HO'',HB''⟩:=hh2 hown'' hb'';have HL:=Lib.hid (show (ps++[(x,y)]).length=n+1 by rw [List.length_append,Hn.out];rfl);clear hown'' hb'' hgrow'
  go_wp2
  go_ret
  exact f_B rfl HL.out HO''.out HB''.out
def h_o (ps:List (Int×Int)) (k:Nat):List (Int×Int):=(ps.take k).drop 1
theorem h_p (ps:List (Int×Int)) (k:Nat) (h:k≤1):h_o ps k=[]:=by
 rw [h_o];apply List.drop_eq_nil_of_le;rw [List.length_take];omega
theorem n_g (ps:List (Int×Int)) (k:Nat) (hk:1≤k) (h:k < ps.length) {p:Int×Int} (hp:ps.getD k (0,0)=p):h_o ps (k+1)=h_o ps k++[p]:=by
 subst hp;rw [h_o,h_o,i_q ps k h,List.drop_append_of_le_length (by rw [List.length_take];omega)]
theorem p_m (ps:List (Int×Int)):h_o ps ps.length=e_I ps:=by rw [h_o,List.take_length,e_I]
theorem p_n (ps:List (Int×Int)) (k:Nat) (h:k≤ps.length):(h_o ps k).length=k - 1:=by rw [h_o,List.length_drop,List.length_take];omega
theorem l_e (a:Option Addr) (n c:Nat) (ps:List (Int×Int)) (w:World) (S:Pl w a n ps) (hn:n≤1000) :
  Calls Tryz.prog 106 #[.slice a n c] w (i_y (e_I ps) w):=by
 obtain ⟨i0,hi,hz0,hz1,hz2⟩:=N189;have HI:=N45;have Hn:=Lib.hid S.1;clear hi hz0 hz1 hz2
 go_enter Tryz.func106,Tryz.ntmps106
 go_wp2
 go_loopw [3,9] (fun v s wr=>∃ k:Nat,k≤n∧s=.int .i64 k∧wr.ownsRow w.heap.size 59 2 v (k - 1) (b_K (h_o ps k))∧Below w.heap.size w wr) (fun _ s _=>n - (intOf s).toNat)
 case atStart=>exact ⟨0,by omega,rfl,by rw [h_p ps 0 (by omega)];exact World.ownsRow_made w #[] 0 (Nat.le_refl _) (by decide) (by simp),(Below.refl _ _).alloc (Nat.le_refl _) _⟩
 case round =>
  obtain ⟨k,hk,rfl,hown,hb⟩:=hrel
  by_cases hlt:k < n
  ·obtain ⟨b,o,rfl,R⟩:=N180;have g:=R k (by rw [Hn.out];exact hlt);have g1:=a_t hb g.1;have g2:=a_t hb g.2;have hsz:=hb.size;obtain ⟨p,hp⟩:=mn (ps.getD k (0,0));rw [hp] at g1 g2;have ⟨Hp,HB,HO⟩:=hh3 hp hb hown;clear g hp hb hown
   by_cases e:0 < k
   ·have HS:=Lib.hid (n_g ps k e (by rw [Hn.out];exact hlt) Hp.out);have q:decide ((0:Int) < k)=true:=by simp;omega
    have HK:=Lib.hid (show k - 1+1=k by omega)
    go_wp2_with (at_builtin;refine wpList_append_own _ rfl _ _ 55 rfl w.heap.size 59 i0 (.agg #[.int .i64 0,.int .i64 0]) 2 16 Tryz.underlying55 HI.out.1 HI.out.2.1 HI.out.2.2.1 HI.out.2.2.2 rfl (by decide) _ _ _ rfl ((HO.out.alloc _).alloc _) ⟨wr.heap.size+1,0,none⟩ 1 1 (b_K [p]) rfl rfl ?c1 ?c2 ?c3 ?c4 ?c5 ?_)
    case c1=>obtain ⟨p1,p2⟩:=p;exact e_1 (by simp) (by simp)
    case c2=>exact d_l _
    case c3=>unfold maxLen;omega
    case c4=>omega
    case c5=>simp;omega
    intro v' w1 hown' hgrow _;have hb':=((HB.out.alloc hsz (.cells #[.int .i64 p.1,.int .i64 p.2] 59)).alloc (by simp;omega) (.cells #[.int .i64 p.1,.int .i64 p.2] 59)).grown hgrow (by simp;omega) (fun r hr=>((HO.out.alloc (.cells #[.int .i64 p.1,.int .i64 p.2] 59)).lt r hr).1);rw [←d_G,←HS.out,HK.out] at hown';have ⟨HO',HB'⟩:=hh2 hown' hb';clear hown' hb' hgrow
    go_wp2
    go_roundw
    case rel=>exact ⟨k+1,by omega,by go_num,HO'.out,HB'.out⟩
    case measure=>simp [intOf];omega
   ·obtain rfl:k=0:=by omega
    have HS:=Lib.hid (h_p ps 0 (by omega));have HS':=Lib.hid (h_p ps 1 (by omega));rw [Nat.zero_mul,Nat.add_zero] at g1 g2
    go_wp2
    go_roundw
    case rel=>exact ⟨1,by omega,rfl,by rw [HS'.out,←HS.out];exact HO.out.alloc _,HB.out.alloc hsz _⟩
    case measure=>simp [intOf];omega
  ·obtain rfl:k=n:=by omega
   have ⟨HB,HO⟩:=hh2 hb hown;have HL:=Lib.hid (p_n ps k (by rw [Hn.out];omega));have HA:=Lib.hid (p_m ps);clear hb hown
   go_wp2
   go_ret
   exact f_B (by rw [←HA.out,Hn.out]) HL.out HO.out HB.out
end Go.Proofs.YtolabfafgbmdbaaGreatDoor
