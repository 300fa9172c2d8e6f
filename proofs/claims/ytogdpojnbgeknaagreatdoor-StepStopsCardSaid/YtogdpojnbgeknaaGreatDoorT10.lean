import Derived.Test.YtogdpojnbgeknaaGreatDoorT9
import Derived.Test.YtogdpojnbgeknaaGreatDoorT6
import Derived.Deep.SlicePairs
import Derived.Test.YtogdpojnbgeknaaGreatDoorT0
import Derived.WalkSmall
import Derived.Deep.RegionLawGrows
import Derived.Deep.RegionWith
import Derived.WalkSpells
set_option maxRecDepth 100000
set_option maxHeartbeats 16000000
namespace Go.Proofs.YtogdpojnbgeknaaGreatDoor
open Go.ChangeShapes Go.WideShapes Go.ChangeAt Go.RowKit
def p_V (w:World) (b off:Nat) (ps:List (Int×Int)):Prop:=∀ i,i < ps.length→w.cell? ⟨b,off+i*2,none⟩=some (.int .i64 (ps.getD i (0,0)).1)∧w.cell? ⟨b,off+i*2+1,none⟩=some (.int .i64 (ps.getD i (0,0)).2)
theorem u_p {w:World} {b off:Nat} {ps:List (Int×Int)} (o:Obj) (h:p_V w b off ps):p_V (w.alloc o) b off ps:=fun i hi=>⟨b_a o (h i hi).1,b_a o (h i hi).2⟩
theorem q_W {w w':World} {b off:Nat} {ps:List (Int×Int)} (hb:Below w.heap.size w w') (h:p_V w b off ps):p_V w' b off ps:=fun i hi=>⟨a_u hb (h i hi).1,a_u hb (h i hi).2⟩
def Pl (w:World) (a:Option Addr) (n:Nat) (ps:List (Int×Int)):Prop:=ps.length=n∧(n=0∨∃ b o,a=some ⟨b,o,none⟩∧p_V w b o ps)
theorem plA {w:World} {a:Option Addr} {n:Nat} {ps:List (Int×Int)} (o:Obj) (h:Pl w a n ps):Pl (w.alloc o) a n ps:=
 ⟨h.1,h.2.imp id fun ⟨b,f,e,r⟩=>⟨b,f,e,u_p o r⟩⟩
theorem plB {w w':World} {a:Option Addr} {n:Nat} {ps:List (Int×Int)} (hb:Below w.heap.size w w') (h:Pl w a n ps):Pl w' a n ps:=
 ⟨h.1,h.2.imp id fun ⟨b,f,e,r⟩=>⟨b,f,e,q_W hb r⟩⟩
theorem r_Q (w:World):Pl w none 0 []:=⟨rfl,.inl rfl⟩
def PlF (F:Nat) (w:World) (a:Option Addr) (n:Nat) (ps:List (Int×Int)):Prop:=ps.length=n∧(n=0∨∃ b o,a=some ⟨b,o,none⟩∧F≤b∧p_V w b o ps)
theorem PlF.pl {F:Nat} {w:World} {a:Option Addr} {n:Nat} {ps:List (Int×Int)} (h:PlF F w a n ps):Pl w a n ps:=⟨h.1,h.2.imp id fun ⟨b,o,e,_,r⟩=>⟨b,o,e,r⟩⟩
theorem o_7 (F:Nat) (w:World):PlF F w none 0 []:=⟨rfl,.inl rfl⟩
theorem q_T {F G:Nat} {w:World} {a:Option Addr} {n:Nat} {ps:List (Int×Int)} (hg:G≤F) (h:PlF F w a n ps):PlF G w a n ps:=
 ⟨h.1,h.2.imp id fun ⟨b,f,e,hf,r⟩=>⟨b,f,e,by omega,r⟩⟩
def b_H (ps:List (Int×Int)):List Value:=ps.flatMap fun p=>[.int .i64 p.1,.int .i64 p.2]
theorem d_B (ps qs:List (Int×Int)):b_H (ps++qs)=b_H ps++b_H qs:=by simp [b_H]
theorem b_0 (ps:List (Int×Int)):(b_H ps).length=ps.length*2:=by
 induction ps with
 | nil=>rfl
 | cons p ps ih=>simp only [b_H,List.flatMap_cons,List.length_append,List.length_cons,List.length_nil] at ih ⊢;omega
theorem g_e:∀ (ps:List (Int×Int)) (i:Nat),i < ps.length→(b_H ps)[i*2]?=some (.int .i64 (ps.getD i (0,0)).1)∧(b_H ps)[i*2+1]?=some (.int .i64 (ps.getD i (0,0)).2)
 | [],i,h=>by simp at h
 | p::ps,0,_=>by simp [b_H]
 | p::ps,i+1,h=>by
  have ih:=g_e ps i (by simpa using h);have e:b_H (p::ps)=.int .i64 p.1::.int .i64 p.2::b_H ps:=rfl;rw [e,show (i+1)*2=i*2+1+1 by omega]
  simpa using ih
theorem d_h (ps:List (Int×Int)):∀ u∈b_H ps,u.oneCell'=true:=by
 intro u hu;simp only [b_H,List.mem_flatMap] at hu;obtain ⟨p,_,hp⟩:=hu;simp at hp
 rcases hp with rfl | rfl <;> rfl
theorem f_v {w:World} {b off:Nat} {ps:List (Int×Int)} (R:p_V w b off ps):∀ j u,(b_H ps)[j]?=some u→w.cell? ⟨b,off+j,none⟩=some u:=by
 intro j u hu;have hj:j < (b_H ps).length:=(List.getElem?_eq_some_iff.1 hu).1;rw [b_0] at hj;have hg:=g_e ps (j / 2) (by omega);have hr:=R (j / 2) (by omega)
 rcases Nat.mod_two_eq_zero_or_one j with h | h
 ·have e:j / 2*2=j:=by omega
  rw [e] at hg hr;rw [hg.1] at hu;rw [hr.1];exact hu
 ·have e:j / 2*2+1=j:=by omega
  rw [Nat.add_assoc,e] at hr;rw [e] at hg;rw [hg.2] at hu;rw [hr.2];exact hu
theorem f_D (b off j:Nat):(⟨b,off,none⟩:Addr).add j=⟨b,off+j,none⟩:=by
 simp only [Addr.add];split
 ·subst_vars;rfl
 ·rfl
def d_v (a:Option Addr) (n c:Nat):Prop:=n≤c∧c≤9223372036854775807∧(a=none→c=0)
theorem d_7:d_v none 0 0:=⟨Nat.le_refl _,by omega,fun _=>rfl⟩
theorem f_u {B:Nat} {w:World} {v:Value} {n:Nat} {ps:List (Int×Int)} (h:w.ownsRow B 59 2 v n (b_H ps)):∃ a c,v=.slice a n c∧d_v a n c∧PlF B w a n ps:=by
 obtain ⟨hl,h⟩:=h;have hl':ps.length=n:=by rw [b_0] at hl;omega
 rcases h with ⟨rfl,h0⟩ | ⟨g,cap,cur,rfl,hb,hg,hn,hm,hs,ht⟩
 ·exact ⟨none,0,by rw [h0],by subst h0;exact d_7,hl',.inl h0⟩
 ·unfold maxLen at hm;refine ⟨_,_,rfl,⟨hn,by omega,fun e=>by cases e⟩,hl',.inr ⟨g,0,rfl,hb,fun i hi=>?_⟩⟩;have e:=g_e ps i hi;simp only [World.cell?,hg];rw [←ht,List.getElem?_take,List.getElem?_take,if_pos (by omega),if_pos (by omega)] at e;exact ⟨by simpa using e.1,by simpa using e.2⟩
theorem Tryz.info59:(Tryz.prog.info? 59).map (fun i=>(i.zero,i.size,i.bytes))=some (some (.agg #[.int .i64 0,.int .i64 0]),2,16):=by kernel_rfl
def m_i (w:World) (a:Addr) (b:List (Int×Int)):Prop:=∃ q c,w.cell? a=some (.slice q b.length c)∧d_v q b.length c∧Pl w q b.length b
theorem t_E {w:World} {a:Addr} {b:List (Int×Int)} (o:Obj) (h:m_i w a b):m_i (w.alloc o) a b:=by
 obtain ⟨q,c,h1,h2,h3⟩:=h;exact ⟨q,c,b_a o h1,h2,plA o h3⟩
theorem t_F {w w':World} {a:Addr} {b:List (Int×Int)} (hb:Below w.heap.size w w') (h:m_i w a b):m_i w' a b:=by
 obtain ⟨q,c,h1,h2,h3⟩:=h;exact ⟨q,c,a_u hb h1,h2,plB hb h3⟩
def u_z (w:World) (blk off:Nat) (bs:List (List (Int×Int))):Prop:=∀ i,i < bs.length→m_i w ⟨blk,off+i,none⟩ (bs.getD i [])
def Bl (w:World) (a:Option Addr) (n:Nat) (bs:List (List (Int×Int))):Prop:=bs.length=n∧(n=0∨∃ b o,a=some ⟨b,o,none⟩∧u_z w b o bs)
theorem blA {w:World} {a:Option Addr} {n:Nat} {bs:List (List (Int×Int))} (o:Obj) (h:Bl w a n bs):Bl (w.alloc o) a n bs:=
 ⟨h.1,h.2.imp id fun ⟨b,f,e,r⟩=>⟨b,f,e,fun i hi=>t_E o (r i hi)⟩⟩
theorem blB {w w':World} {a:Option Addr} {n:Nat} {bs:List (List (Int×Int))} (hb:Below w.heap.size w w') (h:Bl w a n bs):Bl w' a n bs:=
 ⟨h.1,h.2.imp id fun ⟨b,f,e,r⟩=>⟨b,f,e,fun i hi=>t_F hb (r i hi)⟩⟩
theorem k_a {w:World} {a:Option Addr} {n:Nat} {bs:List (List (Int×Int))} (h:Bl w a n bs) {i:Nat} (hi:i < n) :
  ∃ b o q c,a=some ⟨b,o,none⟩∧w.cell? ⟨b,o+i,none⟩=some (.slice q (bs.getD i []).length c)∧d_v q (bs.getD i []).length c∧Pl w q (bs.getD i []).length (bs.getD i []):=by
 obtain ⟨b,o,e,r⟩:=h.2.resolve_left (by omega);obtain ⟨q,c,h1,h2,h3⟩:=r i (by rw [h.1];exact hi);exact ⟨b,o,q,c,e,h1,h2,h3⟩
def n_s (w:World) (vs:List Value) (bs:List (List (Int×Int))):Prop:=vs.length=bs.length∧∀ i,i < bs.length→∃ q c,vs[i]?=some (.slice q (bs.getD i []).length c)∧d_v q (bs.getD i []).length c∧Pl w q (bs.getD i []).length (bs.getD i [])
theorem n_O (w:World):n_s w [] []:=⟨rfl,fun i hi=>by simp at hi⟩
theorem m_t {w:World} {vs:List Value} {bs:List (List (Int×Int))} {q:Option Addr} {n c:Nat} {b:List (Int×Int)} (h:n_s w vs bs) (hc:d_v q n c) (hp:Pl w q n b):n_s w (vs++[.slice q n c]) (bs++[b]):=by
 exact J46
end Go.Proofs.YtogdpojnbgeknaaGreatDoor
namespace Go.Proofs.YtogdpojnbgeknaaGreatDoor
def j_V (zs:List Int) (i x:Int) (k:Nat):Int:=if (k:Int)=i then x else zs.getD k 0
def j_W (zs:List Int) (i x:Int):Nat→List Int
 | 0=>[]
 | k+1=>j_W zs i x k++[j_V zs i x k]
def e_q (zs:List Int) (i x:Int):List Int:=j_W zs i x zs.length
theorem c_y (zs:List Int) (i x:Int) (k:Nat):(j_W zs i x k).length=k:=by
 induction k with
 | zero=>rfl
 | succ k ih=>simp [j_W,ih]
theorem p_E (zs:List Int) (i x:Int) (k j:Nat) (hj:j < k):(j_W zs i x k).getD j 0=j_V zs i x j:=by
 induction k with
 | zero=>omega
 | succ k ih =>
  simp only [j_W,List.getD_eq_getElem?_getD]
  by_cases e:j=k
  ·subst e;rw [List.getElem?_append_right (by rw [c_y];omega)];simp [c_y]
  ·rw [List.getElem?_append_left (by rw [c_y];omega)];have:=ih (by omega)
   simpa only [List.getD_eq_getElem?_getD] using this
theorem h_w (zs:List Int) (i:Nat) (x:Int):e_q zs i x=zs.set i x:=by
 apply List.ext_getElem
 ·simp [e_q,c_y]
 ·intro j h1 h2;have hj:j < zs.length:=by simpa using h2
  have e1:(e_q zs i x)[j]=(e_q zs i x).getD j 0:=by simp [h1]
  have e2:(zs.set i x)[j]=(zs.set i x).getD j 0:=by simp [hj]
  rw [e1,e2,e_q,p_E _ _ _ _ _ hj];simp only [j_V,List.getD_eq_getElem?_getD,List.getElem?_set]
  by_cases e:i=j
  ·subst e;simp [hj]
  ·rw [if_neg (by omega),if_neg e]
end Go.Proofs.YtogdpojnbgeknaaGreatDoor
namespace Go.Proofs.YtogdpojnbgeknaaGreatDoor
open Go.ChangeShapes Go.WideShapes Go.ChangeAt Go.RowKit
theorem d_Q {B:Nat} {w:World} {v:Value} {n:Nat} {zs:List Int} (h:w.ownsRow B 3 1 v n (zs.map (Value.int .i64))):∃ a c,v=.slice a n c∧SlF B w a n zs:=by
 obtain ⟨hl,h⟩:=h;have hl':zs.length=n:=by simpa using hl
 rcases h with ⟨rfl,h0⟩ | ⟨g,cap,cur,rfl,hb,hg,hn,hm,hs,ht⟩
 ·exact ⟨none,0,by rw [h0],hl',.inl h0⟩
 ·refine ⟨_,_,rfl,hl',.inr ⟨g,0,rfl,hb,fun i hi=>?_⟩⟩;simp only [World.cell?,hg];have e:(zs.map (Value.int .i64))[i]?=some (.int .i64 (zs.getD i 0)):=by simp [hi]
  rw [←ht,List.getElem?_take,if_pos (by omega)] at e
  simpa using e
theorem e_i (w:World) (x:Value) (t:TypeId):∀ j u,[x][j]?=some u→(w.alloc (.cells #[x] t)).cell? ((⟨w.heap.size,0,none⟩:Addr).add j)=some u:=by
 intro j u h
 obtain rfl:j=0:=by
  have:=(List.getElem?_eq_some_iff.1 h).1;simp at this;omega
 simp at h;subst h;simp [Addr.add]
def j_7 (zs:List Int) (i x:Int) (k:Nat):List Value:=(j_W zs i x k).map (Value.int .i64)
theorem e_0 (zs:List Int) (i x:Int) (k:Nat) {y:Int} (h:j_V zs i x k=y):j_7 zs i x (k+1)=j_7 zs i x k++[.int .i64 y]:=by
 simp [j_7,j_W,h]
def l_u (zs:List Int) (w:World) (e:Ending) (w':World):Prop:=∃ a c,e=.returned (.slice a zs.length c)∧SlF w.heap.size w' a zs.length zs∧Below w.heap.size w w'
theorem l_g {zs:List Int} {i x:Int} {w w':World} {v:Value} {n:Nat} (hn:zs.length=n) (h:w'.ownsRow w.heap.size 3 1 v n (j_7 zs i x n)) (hb:Below w.heap.size w w'):l_u (e_q zs i x) w (.returned v) w':=by
 subst hn;obtain ⟨a,c,rfl,hs⟩:=d_Q h;refine ⟨a,c,?_,?_,hb⟩
 ·rw [e_q,c_y]
 ·rw [show (e_q zs i x).length=zs.length by rw [e_q,c_y]];exact hs
theorem l_v (a:Option Addr) (n c:Nat) (zs:List Int) (i x:Int) (w:World) (S:Sl w a n zs) (hn:n≤1000) :
  Calls Tryz.prog 62 #[.slice a n c,.int .i64 i,.int .i64 x] w (l_u (e_q zs i x) w):=by
 obtain ⟨i0,hi,hz0,hz1,hz2⟩:=N174;have Hn:=Lib.hid S.1;have HI:=N44;clear hi hz0 hz1 hz2
 go_enter Tryz.func62,Tryz.ntmps62
 go_wp2
 go_loopw [7,13] (fun v s wr=>∃ k:Nat,k≤n∧s=.int .i64 k∧wr.ownsRow w.heap.size 3 1 v k (j_7 zs i x k)∧Below w.heap.size w wr) (fun _ s _=>n - (intOf s).toNat)
 case atStart=>exact ⟨0,by omega,rfl,World.ownsRow_made w #[] 0 (Nat.le_refl _) (by decide) (by simp),(Below.refl _ _).alloc (Nat.le_refl _) _⟩
 case round =>
  obtain ⟨k,hk,rfl,hown,hb⟩:=hrel
  by_cases hlt:k < n
  ·obtain ⟨b,o,rfl,R⟩:=N175;have g:=a_u hb (R k (by rw [Hn.out];exact hlt));have hsz:=hb.size;have ⟨HB,HO⟩:=hh2 hb hown
   by_cases e:(k:Int)=i
   ·have HS:=Lib.hid (e_0 zs i x k (by rw [j_V,if_pos e]));have q:=N248;clear e hb hown
    go_wp2_with (at_builtin;refine wpList_append_own _ rfl _ _ 23 rfl w.heap.size 3 i0 (.int .i64 0) 1 8 Tryz.underlying23 HI.out.1 HI.out.2.1 HI.out.2.2.1 HI.out.2.2.2 rfl (by decide) _ _ _ rfl (HO.out.alloc _) ⟨wr.heap.size,0,none⟩ 1 1 [.int .i64 x] rfl rfl ?c1 ?c2 ?c3 ?c4 ?c5 ?_)
    case c1=>exact e_i _ _ _
    case c2=>intro v hv;simp at hv;subst hv;rfl
    case c3=>unfold maxLen;omega
    case c4=>omega
    case c5=>simp;omega
    intro v' w1 hown' hgrow _;have hb':=N116;rw [←HS.out] at hown';have ⟨HO',HB'⟩:=hh2 hown' hb';clear hown' hb' hgrow
    go_wp2
    go_roundw
    case rel=>exact ⟨k+1,by omega,by go_num,HO'.out,HB'.out⟩
    case measure=>simp [intOf];omega
   ·have HS:=Lib.hid (e_0 zs i x k (y:=zs.getD k 0) (by rw [j_V,if_neg e]))
    generalize zs.getD k 0=y at g HS
    have q:=N246;clear e hb hown
    go_wp2_with (at_builtin;refine wpList_append_own _ rfl _ _ 23 rfl w.heap.size 3 i0 (.int .i64 0) 1 8 Tryz.underlying23 HI.out.1 HI.out.2.1 HI.out.2.2.1 HI.out.2.2.2 rfl (by decide) _ _ _ rfl (HO.out.alloc _) ⟨wr.heap.size,0,none⟩ 1 1 [.int .i64 y] rfl rfl ?c1 ?c2 ?c3 ?c4 ?c5 ?_)
    case c1=>exact e_i _ _ _
    case c2=>intro v hv;simp at hv;subst hv;rfl
    case c3=>unfold maxLen;omega
    case c4=>omega
    case c5=>simp;omega
    intro v' w1 hown' hgrow _;have hb':=N117;rw [←HS.out] at hown';have ⟨HO',HB'⟩:=hh2 hown' hb';clear hown' hb' hgrow
    go_wp2
    go_roundw
    case rel=>exact ⟨k+1,by omega,by go_num,HO'.out,HB'.out⟩
    case measure=>simp [intOf];omega
  ·obtain rfl:k=n:=by omega
   have ⟨HB,HO⟩:=hh2 hb hown;clear hb hown
   go_wp2
   go_ret
   exact l_g Hn.out HO.out HB.out
def i_Z (zs:List Int) (w:World) (e:Ending) (w':World):Prop:=∃ a c,e=.returned (.slice a zs.length c)∧SlF w.heap.size w' a zs.length zs∧Below w.heap.size w w'
theorem j_d {zs:List Int} {w w':World} {v:Value} {n:Nat} (hn:zs.length=n) (h:w'.ownsRow w.heap.size 3 1 v n (zs.map (Value.int .i64))) (hb:Below w.heap.size w w'):i_Z zs w (.returned v) w':=by
 subst hn;obtain ⟨a,c,rfl,hs⟩:=d_Q h;exact ⟨a,c,rfl,hs,hb⟩
theorem p_d {w:World} {b off:Nat} {zs:List Int} (R:Row w b off zs):∀ j u,(zs.map (Value.int .i64))[j]?=some u→w.cell? ((⟨b,off,none⟩:Addr).add j)=some u:=by
 intro j u hu;rw [f_D];have hj:j < zs.length:=by simpa using (List.getElem?_eq_some_iff.1 hu).1
 rw [R j hj];simp [hj] at hu;simp [hj,hu]
theorem i_q (t e:TypeId) (a:Option Addr) (n c:Nat) (h:Tryz.prog.underlying t=some (.slice e)) (w:World):(binOp .eql t (.slice a n c) (.slice none 0 0)).run Tryz.prog w=.ok (.bool a.isNone) w:=by
 simp only [binOp];simp [Op.equal,Op.maxDepth,Lib.run_equalIn_slice_nil w 9999 t e a n c 0 0 h]
theorem h_S (a:Option Addr) (n c:Nat) (zs:List Int) (w:World) (S:Sl w a n zs) (hn:n≤1000) (ha:n≠0∨(a=none∧c=0)) :
  Calls Tryz.prog 85 #[.slice a n c] w (i_Z zs w):=by
 obtain ⟨i0,hi,hz0,hz1,hz2⟩:=N174;have HI:=N44;have Hn:=Lib.hid S.1;clear hi hz0 hz1 hz2
 by_cases h0:n=0
 ·obtain ⟨rfl,rfl⟩:=ha.resolve_left (by omega);subst h0;obtain rfl:zs=[]:=List.eq_nil_of_length_eq_zero Hn.out;have q:=fun w=>i_q 23 3 none 0 0 Tryz.underlying23 w
  go_enter Tryz.func85,Tryz.ntmps85
  go_wp2
  go_ret
  exact ⟨none,0,rfl,h_l _ _,Below.refl _ _⟩
 ·obtain ⟨b,o,rfl,R⟩:=S.2.resolve_left h0;have q:=fun w=>i_q 23 3 (some ⟨b,o,none⟩) n c Tryz.underlying23 w
  go_enter Tryz.func85,Tryz.ntmps85
  go_wp2_with (at_builtin;refine wpList_append_own _ rfl _ _ 23 rfl w.heap.size 3 i0 (.int .i64 0) 1 8 Tryz.underlying23 HI.out.1 HI.out.2.1 HI.out.2.2.1 HI.out.2.2.2 rfl (by decide) _ 0 [] rfl (World.ownsRow_made w #[] 0 (Nat.le_refl _) (by decide) (by simp)) ⟨b,o,none⟩ n c (zs.map (Value.int .i64)) rfl ?c1 ?c2 ?c3 ?c4 ?c5 ?c6 ?_)
  case c1=>simp [Hn.out]
  case c2=>exact p_d (l_0 _ R)
  case c3=>intro v hv;simp at hv;obtain ⟨z,_,rfl⟩:=hv;rfl
  case c4=>unfold maxLen;omega
  case c5=>omega
  case c6=>simp
  intro v' w1 hown' hgrow _;have hb':=N85;have ⟨HO,HB⟩:=hh2 hown' hb';clear hown' hb' hgrow
  go_wp2
  go_ret
  exact j_d Hn.out HO.out HB.out
def h_L (ps:List (Int×Int)) (w:World) (e:Ending) (w':World):Prop:=∃ a c,e=.returned (.slice a ps.length c)∧d_v a ps.length c∧PlF w.heap.size w' a ps.length ps∧Below w.heap.size w w'
theorem i_o {ps:List (Int×Int)} {w w':World} {v:Value} {n:Nat} (hn:ps.length=n) (h:w'.ownsRow w.heap.size 59 2 v n (b_H ps)) (hb:Below w.heap.size w w'):h_L ps w (.returned v) w':=by
 subst hn;obtain ⟨a,c,rfl,hc,hs⟩:=f_u h;exact ⟨a,c,rfl,hc,hs,hb⟩
def f_B (ps:List (Int×Int)) (x:Int) (w:World) (e:Ending) (w':World):Prop:=∃ a c,e=.returned (.tuple #[.slice a ps.length c,.int .i64 x])∧d_v a ps.length c∧PlF w.heap.size w' a ps.length ps∧Below w.heap.size w w'
theorem d_Z {x:Int} {ps:List (Int×Int)} (he:ps=[]) {w w':World} (hb:Below w.heap.size w w'):f_B ps x w (.returned (.tuple #[.slice none 0 0,.int .i64 x])) w':=by
 subst he;exact ⟨none,0,rfl,d_7,o_7 _ _,hb⟩
theorem h_c {ps qs:List (Int×Int)} {w w':World} {v:Value} {n:Nat} (hq:qs=ps) (hn:ps.length=n) {B:Nat} (hB:w.heap.size≤B) (h:w'.ownsRow B 59 2 v n (b_H ps)) (hb:Below w.heap.size w w'):f_B qs 0 w (.returned (.tuple #[v,.int .i64 0])) w':=by
 subst hq;subst hn;obtain ⟨a,c,rfl,hc,hs⟩:=f_u h;exact ⟨a,c,rfl,hc,q_T hB hs,hb⟩
theorem j_h {w W w1:World} (hg:W.grownBy w1 none) (hb:Below w.heap.size w W):Below w.heap.size w w1∧w.heap.size≤W.heap.size:=
 ⟨hb.grown hg hb.size (fun _ hr=>by cases hr),hb.size⟩
theorem e_T {W:World} {g:Nat} {x y:Int} (k0:W.cell? ⟨g,0,none⟩=some (.int .i64 x)) (k1:W.cell? ⟨g,1,none⟩=some (.int .i64 y)):∀ j u,(b_H [(x,y)])[j]?=some u→W.cell? ((⟨g,0,none⟩:Addr).add j)=some u:=by
 intro j u hu;rw [f_D,Nat.zero_add];have hj:j < 2:=(List.getElem?_eq_some_iff.1 hu).1;have:j=0∨j=1:=by omega
 rcases this with rfl | rfl
 ·simp [b_H] at hu;subst hu;exact k0
 ·simp [b_H] at hu;subst hu;exact k1
theorem n_C (p:Addr) (n c:Nat) (ps:List (Int×Int)) (depth x y:Int) (w:World) (S:Pl w (some p) n ps) (hc:n≤c) (h3:c≤9223372036854775807) (d0:0≤depth) (d1:depth≤8) (d2:(n:Int)≤depth) (d3:(n:Int)≠depth) :
  Calls Tryz.prog 150 #[.slice (some p) n c,.int .i64 depth,.agg #[.int .i64 x,.int .i64 y]] w (f_B (e_R ps depth (x,y)) 0 w):=by
 have Hn:=Lib.hid S.1;have HE:=Lib.hid (show e_b n depth=0 by rw [e_b,if_neg (by omega),if_neg d3]);have HL:=Lib.hid (show e_R ps depth (x,y)=ps++[(x,y)] by rw [e_R,Hn.out,HE.out,if_pos rfl]);have q:((n:Int)==depth)=false:=by simpa using d3
 obtain ⟨i0,hi,hz0,hz1,hz2⟩:=N184;have HI:=N44;have hn8:n≤8:=by omega
 have holds:∀ W,Below w.heap.size w W→∀ b,some p=some b→∀ j u,(b_H ps)[j]?=some u→W.cell? (b.add j)=some u:=by
  intro W hW b hb j u hu
  cases hb
  have hj:=N140;obtain ⟨b,o,e,R⟩:=S.2.resolve_left (by rw [←Hn.out];omega)
  cases e
  rw [f_D];exact f_v (q_W hW R) j u hu
 have HH:=Lib.hid holds;clear d3 hi hz0 hz1 hz2 holds
 go_enter Tryz.func150,Tryz.ntmps150
 go_wp2
 go_region_law (refine step_append_grows rfl (.tmp 29) (.tmp 31) 55 rfl 59 i0 (.agg #[.int .i64 0,.int .i64 0]) 2 16 Tryz.underlying55 HI.out.1 HI.out.2.1 HI.out.2.2.1 HI.out.2.2.2 rfl (by decide) (some p) n n (b_H ps) (by simp [Act.eval]) (fun e=>by cases e) (by rw [b_0,Hn.out]) (HH.out _ (by go_grown)) ⟨w.heap.size+1,0,none⟩ 1 1 (b_H [(x,y)]) (by simp [Act.eval]) rfl (e_T (by simp) (by simp)) (d_h _) (by omega) (by unfold maxLen;omega) (by omega) ?_;intro v' w1 hown hgrow)
 all_goals
  obtain ⟨hb',hsz⟩:=j_h hgrow (w:=w) (by go_grown);rw [←d_B] at hown;have ⟨HO,HB⟩:=hh2 hown hb';clear hown hb' hgrow
  go_wp2
  go_ret2
  exact h_c HL.out (by rw [List.length_append,Hn.out];rfl) hsz HO.out HB.out
theorem n_B (depth x y:Int) (w:World) (d1:depth≤8) (d3:0 < depth) :
  Calls Tryz.prog 150 #[.slice none 0 0,.int .i64 depth,.agg #[.int .i64 x,.int .i64 y]] w (f_B (e_R [] depth (x,y)) 0 w):=by
 have HE:=Lib.hid (show e_b 0 depth=0 by rw [e_b,if_neg (by omega),if_neg (by omega)]);have HL:=Lib.hid (show e_R [] depth (x,y)=[]++[(x,y)] by rw [e_R,List.length_nil,HE.out,if_pos rfl]);have q:((0:Int)==depth)=false:=by simp;omega
 have q1:decide (depth < 0)=false:=by simp;omega
 obtain ⟨i0,hi,hz0,hz1,hz2⟩:=N184;have HI:=N44;clear hi hz0 hz1 hz2
 go_enter Tryz.func150,Tryz.ntmps150
 go_wp2
 go_region_law (refine step_append_grows rfl (.tmp 29) (.tmp 31) 55 rfl 59 i0 (.agg #[.int .i64 0,.int .i64 0]) 2 16 Tryz.underlying55 HI.out.1 HI.out.2.1 HI.out.2.2.1 HI.out.2.2.2 rfl (by decide) none 0 0 (b_H []) (by simp [Act.eval]) (fun _=>⟨rfl,rfl⟩) rfl (fun b hb=>by cases hb) ⟨w.heap.size+1,0,none⟩ 1 1 (b_H [(x,y)]) (by simp [Act.eval]) rfl (e_T (by simp) (by simp)) (d_h _) (by omega) (by unfold maxLen;omega) (by omega) ?_;intro v' w1 hown hgrow)
 all_goals
  obtain ⟨hb',hsz⟩:=j_h hgrow (w:=w) (by go_grown);rw [←d_B] at hown;have ⟨HO,HB⟩:=hh2 hown hb';clear hown hb' hgrow
  go_wp2
  go_ret2
  exact h_c HL.out rfl hsz HO.out HB.out
theorem p_W (a:Option Addr) (n c:Nat) (ps:List (Int×Int)) (depth x y:Int) (w:World) (S:Pl w a n ps) (hcap:d_v a n c) :
  Calls Tryz.prog 150 #[.slice a n c,.int .i64 depth,.agg #[.int .i64 x,.int .i64 y]] w (f_B (e_R ps depth (x,y)) (e_b n depth) w):=by
 obtain ⟨hc,h3,h0⟩:=hcap;have Hn:=Lib.hid S.1;have H0:=Lib.hid h0;clear h0
 by_cases d0:depth < 0
 ·have HE:=Lib.hid (show e_b n depth=1 by rw [e_b,if_pos (.inl d0)]);exact J51
 ·by_cases d1:8 < depth
  ·have HE:=Lib.hid (show e_b n depth=1 by rw [e_b,if_pos (.inr (.inl d1))]);exact J51
  ·by_cases d2:depth < n
   ·have HE:=Lib.hid (show e_b n depth=1 by rw [e_b,if_pos (.inr (.inr d2))]);exact J51
   ·by_cases d3:(n:Int)=depth
    ·have HE:=Lib.hid (show e_b n depth=7 by rw [e_b,if_neg (by omega),if_pos d3]);have HL:=Lib.hid (show e_R ps depth (x,y)=[] by rw [e_R,Hn.out,HE.out,if_neg (by decide)]);rw [HE.out];have q:((n:Int)==depth)=true:=by simpa using d3
     clear d3
     go_enter Tryz.func150,Tryz.ntmps150
     go_wp2
     go_ret2
     exact d_Z HL.out (by go_grown)
    ·have HE:=Lib.hid (show e_b n depth=0 by rw [e_b,if_neg (by omega),if_neg d3]);rw [HE.out]
     cases a with
     | some p=>exact n_C p n c ps depth x y w S hc h3 (by omega) (by omega) (by omega) d3
     | none =>
      obtain rfl:c=0:=H0.out rfl;obtain rfl:n=0:=by omega
      obtain rfl:ps=[]:=List.eq_nil_of_length_eq_zero S.1;exact n_B depth x y w (by omega) (by omega)
end Go.Proofs.YtogdpojnbgeknaaGreatDoor
