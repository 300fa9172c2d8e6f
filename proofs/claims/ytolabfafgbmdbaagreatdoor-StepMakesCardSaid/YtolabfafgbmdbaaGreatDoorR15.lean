import Derived.Test.YtolabfafgbmdbaaGreatDoorR14
import Derived.Test.YtolabfafgbmdbaaGreatDoorR0
import Derived.Test.YtolabfafgbmdbaaGreatDoorR8
import Derived.Test.YtolabfafgbmdbaaGreatDoorR10
import Derived.Deep.RegionWith
import Derived.Test.YtolabfafgbmdbaaGreatDoorR3
import Derived.Test.YtolabfafgbmdbaaGreatDoorR7
import Derived.Test.YtolabfafgbmdbaaGreatDoorR9
import Derived.Maps.AppendAt
import Derived.Test.YtolabfafgbmdbaaGreatDoorR6
import Derived.Test.YtolabfafgbmdbaaGreatDoorR1
set_option maxRecDepth 100000
set_option maxHeartbeats 16000000
namespace Go.Proofs.YtolabfafgbmdbaaGreatDoor
open Go.ChangeShapes Go.WideShapes Go.ChangeAt Go.RowKit
theorem f_e (k D:Int) (w:World):Calls Tryz.prog 83 #[.int .i64 k,.int .i64 D] w fun e w'=>e=.returned (.bool (b_r k D))∧w=w':=by
 have H:=Lib.hid (show b_r k D=decide (1≤k∧k≤8∧0≤D∧D≤8) from rfl)
 by_cases h1:1≤k
 all_goals by_cases h2:k≤8
 all_goals by_cases h3:0≤D
 all_goals
  go_enter Tryz.func83,Tryz.ntmps83
  go_wp2
  go_ret
  exact ⟨c_k (by rw [H.out,Bool.eq_iff_iff];simp;try omega),rfl⟩
theorem h_e (a a' q:Option Addr) (n c n' c' l d:Nat) (ws ts:List Int) (D:Int) (bs:List (List (Int×Int))) (w:World) (S1:Sl w a n ws) (S2:Sl w a' n' ts) (S:Bl w q l bs) :
  Calls Tryz.prog 40 #[.agg #[.slice a n c,.slice a' n' c',.int .i64 D,.slice q l d]] w (a_B (c_P ws ts D bs) w):=by
 have Hn:=Lib.hid S1.1;have Hl:=Lib.hid S.1
 cases hm:c_E ws ts with
 | false =>
  have HM:=Lib.hid hm;have HT:=Lib.hid (show c_P ws ts D bs=false by simp [c_P,hm]);clear hm
  go_enter Tryz.func40,Tryz.ntmps40
  go_wp2_with fail
  refine (c_X a a' n c n' c' ws ts _ (slA _ S1) (slA _ S2)).mono ?_;exact J81
 | true =>
  have HM:=Lib.hid hm;clear hm
  cases hs:b_r l D with
  | false =>
   have HT:=Lib.hid (show c_P ws ts D bs=false by
    have:b_r bs.length D=false:=by rw [Hl.out];exact hs
    simp [c_P,this])
   have HS:=Lib.hid hs;clear hs
   go_enter Tryz.func40,Tryz.ntmps40
   go_wp2_with fail
   refine (c_X a a' n c n' c' ws ts _ (slA _ S1) (slA _ S2)).mono ?_;rintro e w1 ⟨rfl,hb⟩;rw [HM.out];have hb1:=N4;have c2:=N43;have c3:=N32;have HB1:=Lib.hid hb1;clear hb hb1
   go_wp2_with fail
   refine (f_e l D _).mono ?_;rintro e w2 ⟨rfl,rfl⟩;rw [HS.out]
   go_wp2
   go_ret
   exact a_e HT.out HB1.out
  | true =>
   have hs':b_r bs.length D=true:=by rw [Hl.out];exact hs
   have ⟨HS,HS2⟩:=hh2 hs' hs;simp only [b_r,decide_eq_true_eq] at hs;obtain ⟨s1,s2,s3,s4⟩:=hs;have s1':1≤l:=by omega
   have s2':l≤8:=by omega
   clear hs' s1 s2
   go_enter Tryz.func40,Tryz.ntmps40
   go_wp2_with fail
   refine (c_X a a' n c n' c' ws ts _ (slA _ S1) (slA _ S2)).mono ?_;rintro e w1 ⟨rfl,hb⟩;rw [HM.out];have hb1:=N4;have c0:=N101;have c1:=N96;have c2:=N43;have c3:=N32;have HB1:=Lib.hid hb1;have S':=blB hb1 S;clear hb hb1 S
   go_wp2_with fail
   refine (f_e l D _).mono ?_;rintro e w2 ⟨rfl,rfl⟩;rw [HS2.out]
   go_wp2
   go_loopw [23] (fun s wr=>∃ k:Nat,k≤l∧s=.int .i64 k∧Hid (h_s ws.length D bs k)∧Below w1.heap.size w1 wr) (fun s _=>l - (intOf s).toNat)
   case atStart=>exact ⟨0,by omega,rfl,by intro j hj;omega,Below.refl _ _⟩
   case round =>
    obtain ⟨k,hk,rfl,hr,hb⟩:=hrel;have c0':=a_n hb c0;have c2':=a_n hb c2;have HB:=Lib.hid hb
    by_cases hlt:k < l
    ·obtain ⟨b,o,p,pc,rfl,k0,hcap,hp⟩:=h_C (blB hb S') hlt;obtain ⟨x,hx⟩:=mn (bs.getD k []);rw [hx] at k0 hp hcap;have HX:=Lib.hid hx;obtain ⟨m,hmm⟩:=mn (x.length);rw [hmm] at k0 hp hcap;have HMM:=Lib.hid hmm;have hcap1:=hcap.1;have hcap2:=hcap.2.1;have i1:(0:Int)≤k:=by omega
     have i2:(k:Int) < l:=by omega
     clear hx hmm hb hcap
     by_cases hD:D < m
     ·have HF:=Lib.hid (f_s (ws:=ws) (ts:=ts) (D:=D) (bs:=bs) (k:=k) (by rw [Hl.out];exact hlt) (by rw [HX.out];simp [h_q,HMM.out];omega));exact J64
     ·have hD':(m:Int)≤D:=by omega
      go_wp2_with fail
      go_loopw [34] (fun s wq=>∃ i:Nat,i≤m∧s=.int .i64 i∧Hid (g_o n x i)∧Below wr.heap.size wr wq) (fun s _=>m - (intOf s).toNat)
      case atStart=>exact ⟨0,by omega,rfl,by intro j hj;omega,Below.refl _ _⟩
      case round =>
       obtain ⟨i,hi,rfl,hri,hbi⟩:=hrel;have c0'':=a_n hbi c0';have HBI:=Lib.hid hbi
       by_cases hlt2:i < m
       ·obtain ⟨pb,po,rfl,R⟩:=hp.2.resolve_left (by omega);have g:=R i (by rw [HMM.out];exact hlt2);have g1:=a_n hbi g.1;have g2:=a_n hbi g.2;obtain ⟨y,hy⟩:=mn (x.getD i (0,0));rw [hy] at g1 g2;obtain ⟨y1,y2⟩:=y;have HY:=Lib.hid hy;dsimp only at g1 g2;have j1:(0:Int)≤i:=by omega
        have j2:(i:Int) < m:=by omega
        have d0:=a_J (Obj.cells #[.int .i64 y1,.int .i64 y2] 59) c0'';have hszi:=hbi.size;clear g hy hbi
        by_cases hin:0≤y1∧y1 < n
        ·obtain ⟨h1,h2⟩:=hin;have HF:=Lib.hid (f_Q hri.out (by rw [HY.out];simp [inP];omega))
         go_wp2_with fail
         go_roundw
         case rel=>exact ⟨i+1,by omega,by go_num,HF.out,HBI.out.alloc hszi _⟩
         case measure=>simp [intOf];omega
        ·have HF:=Lib.hid (f_s (ws:=ws) (ts:=ts) (D:=D) (bs:=bs) (k:=k) (by rw [Hl.out];exact hlt) (by rw [HX.out,Hn.out];exact n_y (k:=i) (by rw [HMM.out];exact hlt2) (by rw [HY.out];simp [inP];omega)))
         by_cases h1:0≤y1
         ·have h2:(n:Int)≤y1:=by omega
          exact J88
         ·exact J88
       ·obtain rfl:i=m:=by omega
        have HF:=Lib.hid (f_B hr.out (by rw [HX.out,Hn.out];exact l_q (by rw [HMM.out];exact hD') (by rw [HMM.out];exact hri.out)));clear hbi
        go_wp2_with fail
        go_roundw
        case rel=>exact ⟨k+1,by omega,by go_num,HF.out,HB.out.trans (HBI.out.mono HB.out.size)⟩
        case measure=>simp [intOf];omega
    ·obtain rfl:k=l:=by omega
     have HF:=Lib.hid (h_U HM.out HS.out (by rw [Hl.out];exact hr.out));clear hb;exact J64
theorem h_5 (a a' q b b' r:Option Addr) (n c n' c' l d m e m' e' k f:Nat) (ws ts:List Int) (D:Int) (bs:List (List (Int×Int))) (w:World) (S1:Sl w a n ws) (S2:Sl w a' n' ts) (S:Bl w q l bs) (T1:Sl w b m ws) (T2:Sl w b' m' ts) (T:Bl w r k bs) (hn:n≤1000) (hn':n'≤1000) (hl:l≤1000) :
  Calls Tryz.prog 34 #[.agg #[.slice a n c,.slice a' n' c',.int .i64 D,.slice q l d],.agg #[.slice b m e,.slice b' m' e',.int .i64 D,.slice r k f]] w (a_B true w):=by
 obtain rfl:m=n:=by rw [←S1.1,T1.1]
 obtain rfl:m'=n':=by rw [←S2.1,T2.1]
 obtain rfl:k=l:=by rw [←S.1,T.1]
 have Hl:=Lib.hid S.1;have qD:(D != D)=false:=by simp
 have qk:((k:Int) != k)=false:=by simp
 go_enter Tryz.func34,Tryz.ntmps34
 go_wp2_with fail
 refine (n_l a a' m c m' c' b b' m e m' e' ws ts ws ts _ (slA _ (slA _ S1)) (slA _ (slA _ S2)) (slA _ (slA _ T1)) (slA _ (slA _ T2)) (by omega) (by omega)).mono ?_;rintro x w1 ⟨rfl,hb⟩;rw [g_I,g_I];have hb1:=N4;have x2:w1.cell? ⟨w.heap.size,2,none⟩=some (.int .i64 D):=a_n hb (a_J _ (by simp));have x3:w1.cell? ⟨w.heap.size,3,none⟩=some (.slice q k d):=a_n hb (a_J _ (by simp));have y2:w1.cell? ⟨w.heap.size+1,2,none⟩=some (.int .i64 D):=a_n hb (by simp);have y3:w1.cell? ⟨w.heap.size+1,3,none⟩=some (.slice r k f):=a_n hb (by simp);have HB1:=Lib.hid hb1;replace S:=blB hb1 S;replace T:=blB hb1 T;clear hb hb1 S1 S2 T1 T2
 go_wp2
 go_loopw [31] (fun s wr=>∃ j:Nat,j≤k∧s=.int .i64 j∧Below w1.heap.size w1 wr) (fun s _=>k - (intOf s).toNat)
 case atStart=>exact ⟨0,by omega,rfl,Below.refl _ _⟩
 case round =>
  obtain ⟨j,hj,rfl,hb⟩:=hrel;have HB:=Lib.hid hb
  by_cases hlt:j < k
  ·obtain ⟨b1,o1,p,pc,rfl,g0,hcap,hp⟩:=h_C (blB hb S) hlt;obtain ⟨b2,o2,p2,pc2,rfl,k0,hcap2,hp2⟩:=h_C (blB hb T) hlt;obtain ⟨z,hz⟩:=mn (bs.getD j []);rw [hz] at g0 hp hcap k0 hp2 hcap2;obtain ⟨u,hu⟩:=mn (z.length);rw [hu] at g0 hp hcap k0 hp2 hcap2;have hc2:u≤9223372036854775807:=by have:=hcap.1;have:=hcap.2.1;omega
   have x3':=a_n hb x3;have y3':=a_n hb y3;have i1:(0:Int)≤j:=by omega
   have i2:(j:Int) < k:=by omega
   clear hb hz hu hcap hcap2
   go_wp2_with fail
   have hB0:Below wr.heap.size wr wr.drew:=(Below.refl _ _).drew
   go_region_held3 (fun w'=>w'.cell? ⟨w.heap.size,3,none⟩=some (.slice (some ⟨b1,o1,none⟩) k d)∧w'.cell? ⟨w.heap.size+1,3,none⟩=some (.slice (some ⟨b2,o2,none⟩) k f)∧w'.cell? ⟨b1,o1+j,none⟩=some (.slice p u pc)∧w'.cell? ⟨b2,o2+j,none⟩=some (.slice p2 u pc2))
    (first | exact ⟨x3',y3',g0,k0⟩ | (exact ⟨a_n (by assumption) x3',a_n (by assumption) y3',a_n (by assumption) g0,a_n (by assumption) k0⟩))
    ((go_at_call 72;refine (h_4 p p2 u pc u pc2 z z _ (plB (by assumption) hp) (plB (by assumption) hp2) hc2).mono ?_;rw [j_i];rintro x w2 ⟨rfl,hb2⟩;have hb2':=a_b (by assumption) hb2))
   have HB2:=Lib.hid (a_b HB.out hb2');clear hb2 hb2' hB0 x3' y3' g0 k0
   go_wp2_with fail
   go_roundw
   case rel=>exact ⟨j+1,by omega,by go_num,HB2.out⟩
   case measure=>simp [intOf];omega
  ·obtain rfl:j=k:=by omega
   clear hb
   go_wp2
   go_ret
   exact a_e rfl (HB1.out.trans (HB.out.mono HB1.out.size))
end Go.Proofs.YtolabfafgbmdbaaGreatDoor
namespace Go.Proofs.YtolabfafgbmdbaaGreatDoor
theorem mayT_iff {ws ts:List Int} {D:Int} {bs:List (List (Int×Int))}:c_P ws ts D bs=true ↔ c_E ws ts=true∧b_r bs.length D=true∧∀ b∈bs,h_q ws.length D b=true:=by
 simp only [c_P,Bool.and_eq_true,List.all_eq_true,and_assoc]
end Go.Proofs.YtolabfafgbmdbaaGreatDoor
namespace Go.Proofs.YtolabfafgbmdbaaGreatDoor
open Go.ChangeShapes Go.WideShapes Go.ChangeAt Go.RowKit
def o_q (Q:Nat→Prop) (w:World) (vs:List Value) (bs:List (List (Int×Int))):Prop:=vs.length=bs.length∧∀ i,i < bs.length→∃ q c,vs[i]?=some (.slice q (bs.getD i []).length c)∧c_0 q (bs.getD i []).length c∧PlQ Q w q (bs.getD i []).length (bs.getD i [])
theorem j_a {Q:Nat→Prop} {e B:Nat} {w:World} {v:Value} {n:Nat} {vs:List Value} {bs:List (List (Int×Int))} (h:w.ownsRow B e 1 v n vs) (hv:o_q Q w vs bs) (hQ:∀ b,B≤b→Q b):∃ a c,v=.slice a n c∧c_0 a n c∧BlP Q w a n bs:=by
 obtain ⟨hl,h⟩:=h;have hl':bs.length=n:=by rw [←hv.1,hl,Nat.mul_one]
 rcases h with ⟨rfl,h0⟩ | ⟨g,cap,cur,rfl,hb,hg,hn,hm,hs,ht⟩
 ·exact ⟨none,0,by rw [h0],by subst h0;exact c_3,hl',.inl h0⟩
 ·unfold maxLen at hm;refine ⟨_,_,rfl,⟨hn,by omega,fun e=>by cases e⟩,hl',.inr ⟨g,0,rfl,hQ _ hb,fun i hi=>?_⟩⟩;obtain ⟨q,c,h1,h2,h3⟩:=hv.2 i hi;refine ⟨q,c,?_,h2,h3⟩;simp only [World.cell?,hg];rw [←ht,List.getElem?_take,if_pos (by omega)] at h1
  simpa using h1
theorem l_p {Q:Nat→Prop} {w:World} {a:Option Addr} {n:Nat} {bs:List (List (Int×Int))} (h:BlP Q w a n bs) {i:Nat} (hi:i < n) :
  ∃ b o q c,a=some ⟨b,o,none⟩∧w.cell? ⟨b,o+i,none⟩=some (.slice q (bs.getD i []).length c)∧c_0 q (bs.getD i []).length c∧PlQ Q w q (bs.getD i []).length (bs.getD i []):=by
 obtain ⟨b,o,e,_,r⟩:=h.2.resolve_left (by omega);obtain ⟨q,c,h1,h2,h3⟩:=r i (by rw [h.1];exact hi);exact ⟨b,o,q,c,e,h1,h2,h3⟩
theorem d_k {Q Q':Nat→Prop} {w:World} {a:Option Addr} {n:Nat} {zs:List Int} (hQ:∀ b,Q b→b < w.heap.size→Q' b) (h:SlP Q w a n zs):SlP Q' w a n zs:=by
 refine ⟨h.1,?_⟩
 by_cases h0:n=0
 ·exact .inl h0
 ·obtain ⟨b,o,e,q,r⟩:=h.2.resolve_left h0;exact .inr ⟨b,o,e,hQ b q (a_0 (r 0 (by have:=h.1;omega))),r⟩
theorem p_B {Q Q':Nat→Prop} {w:World} {a:Option Addr} {n:Nat} {ps:List (Int×Int)} (hQ:∀ b,Q b→b < w.heap.size→Q' b) (h:PlQ Q w a n ps):PlQ Q' w a n ps:=by
 refine ⟨h.1,?_⟩
 by_cases h0:n=0
 ·exact .inl h0
 ·obtain ⟨b,o,e,q,r⟩:=h.2.resolve_left h0;exact .inr ⟨b,o,e,hQ b q (a_0 (r 0 (by have:=h.1;omega)).1),r⟩
theorem f_A {Q Q':Nat→Prop} {w:World} {a:Option Addr} {n:Nat} {bs:List (List (Int×Int))} (hQ:∀ b,Q b→b < w.heap.size→Q' b) (h:BlP Q w a n bs):BlP Q' w a n bs:=by
 refine ⟨h.1,?_⟩
 by_cases h0:n=0
 ·exact .inl h0
 ·obtain ⟨b,o,e,q,r⟩:=h.2.resolve_left h0;obtain ⟨q1,c,h1,_⟩:=r 0 (by have:=h.1;omega);refine .inr ⟨b,o,e,hQ _ q (a_0 h1),fun i hi=>?_⟩;obtain ⟨q',c',k1,k2,k3⟩:=r i hi;exact ⟨q',c',k1,k2,p_B hQ k3⟩
theorem d_S (a:Addr) (fn:Fn) (xs ys:Array Value) (m:Mode) (P:Program) (w:World):(store a (.func fn xs ys) m).run P w=stored P w a (.func fn xs ys) m:=run_store P w a _ m rfl
attribute [local go_sem] d_S
theorem n_V (w:World) (b:Nat) (x y z:Value) (k0:w.cell? ⟨b,0,none⟩=some x) (k1:w.cell? ⟨b,1,none⟩=some y) (k2:w.cell? ⟨b,2,none⟩=some z):(loadVar 195 ⟨b,0,none⟩).run Tryz.prog w=.ok (.agg #[x,y,z]) w:=by
 simp [go_sem,k0,k1,k2]
theorem p_x (w:World):Calls Tryz.prog 163 #[] w fun e w'=>e=.returned (.agg #[.func (.func 169) #[] #[],.func (.func 170) #[] #[],.func (.func 171) #[] #[]])∧Below w.heap.size w w':=by
 go_enter Tryz.func163,Tryz.ntmps163
 go_wp2
 refine b_0 ⟨w.heap.size,0,none⟩ rfl rfl rfl (n_V _ _ _ _ _ (by simp;rfl) (by simp;rfl) (by simp;rfl)) ?_;exact ⟨rfl,by go_grown⟩
def e_K (v:Int) (w:World) (e:Ending) (w':World):Prop:=e=.returned (.int .i64 v)∧Below w.heap.size w w'
theorem d_M {v z:Int} {w w':World} (h:v=z) (hb:Below w.heap.size w w'):e_K v w (.returned (.int .i64 z)) w':=by subst h;exact ⟨rfl,hb⟩
theorem m_o (word a b:Int) (w:World):Calls Tryz.prog 169 #[.int .i64 word,.int .i64 a,.int .i64 b] w (e_K (d_s 0 word a b) w):=by
 by_cases h:word=a
 ·have HV:=Lib.hid (show d_s 0 word a b=b by rw [d_s,if_pos rfl,if_pos h]);have q:(word==a)=true:=by simpa using h
  exact J85
 ·have HV:=Lib.hid (show d_s 0 word a b=word by rw [d_s,if_pos rfl,if_neg h]);have q:(word==a)=false:=by simpa using h
  exact J85
theorem k_I (word a b:Int) (w:World):Calls Tryz.prog 170 #[.int .i64 word,.int .i64 a,.int .i64 b] w (e_K (d_s 1 word a b) w):=by
 have HV:=Lib.hid (show d_s 1 word a b=a by rw [d_s,if_neg (by decide),if_pos rfl])
 go_enter Tryz.func170,Tryz.ntmps170
 go_wp2
 go_ret
 exact d_M HV.out (Below.refl _ _)
theorem m_n (word a b:Int) (w:World):Calls Tryz.prog 171 #[.int .i64 word,.int .i64 a,.int .i64 b] w (e_K (d_s 2 word a b) w):=by
 have HV:=Lib.hid (show d_s 2 word a b=IntKind.i64.wrap (word+a) by rw [d_s,if_neg (by decide),if_neg (by decide)])
 go_enter Tryz.func171,Tryz.ntmps171
 go_wp2
 go_ret
 exact d_M (HV.out.trans (IntWalk.i64_left _)) (Below.refl _ _)
end Go.Proofs.YtolabfafgbmdbaaGreatDoor
namespace Go.Proofs.YtolabfafgbmdbaaGreatDoor
open Go.ChangeShapes Go.WideShapes Go.ChangeAt Go.RowKit
open Gen
theorem m_S {Q:Nat→Prop} {w:World} {fa la:Option Addr} {fn fc ln lc:Nat} {t:Thr} (h:ThQ Q w fa fn fc la ln lc t):ThQ (fun b=>Q b∧b < w.heap.size) w fa fn fc la ln lc t:=⟨h.fcap,d_b h.fs,h.lcap,d_b h.lf⟩
abbrev thV (t:Thr) (a:Option Addr) (n c:Nat) (b:Option Addr) (m d:Nat):Value:=.agg (thC t a n c b m d).toArray
def repTh:Rep Thr:={
 R:=fun Q w cs t=>∃ fa fc la lc,cs=thC t fa t.fs.length fc la t.lf.length lc∧ThQ Q w fa t.fs.length fc la t.lf.length lc t
 k:=13
 pos:=by decide
 len:=fun h=>by obtain ⟨_,_,_,_,h,_⟩:=h;rw [h];rfl
 keep:=fun hk h=>by obtain ⟨fa,fc,la,lc,h,h2⟩:=h;exact ⟨fa,fc,la,lc,h,a_9 hk h2⟩
 mono:=fun hQ h=>by obtain ⟨fa,fc,la,lc,h,h2⟩:=h;exact ⟨fa,fc,la,lc,h,c_b hQ h2⟩
 und:=fun h=>by obtain ⟨fa,fc,la,lc,h,h2⟩:=h;exact ⟨fa,fc,la,lc,h,m_S h2⟩ }
def p_h (y:Ev):List Value:=[.int .i64 y.1,.int .i64 y.2.1,.int .i64 y.2.2.1,.int .i64 y.2.2.2.1,.int .i64 y.2.2.2.2.1,.int .i64 y.2.2.2.2.2]
def repEv:Rep Ev:=o_K 6 (by decide) p_h (fun _=>rfl)
structure Sp where
 a:Option Addr
 n:Nat
 c:Nat
abbrev Sp.v (s:Sp):Value:=.slice s.a s.n s.c
def Sp.ok (s:Sp):Prop:=Cap s.a s.n s.c
def zSp:Sp:=⟨none,0,0⟩
structure WoL where
 co:Sp
 ws:Sp
 ts:Sp
 bs:Sp
 th:Sp
 ev:Sp
def n_c:WoL:=⟨zSp,zSp,zSp,zSp,zSp,zSp⟩
abbrev woV (L:WoL) (D:Int):Value:=.agg #[.slice L.co.a L.co.n L.co.c,.slice L.ws.a L.ws.n L.ws.c,.slice L.ts.a L.ts.n L.ts.c,.int .i64 D,.slice L.bs.a L.bs.n L.bs.c,.slice L.th.a L.th.n L.th.c,.slice L.ev.a L.ev.n L.ev.c]
structure RWo (Q:Nat→Prop) (w:World) (L:WoL) (X:Wo):Prop where
 co:Vs repIns Q w L.co.a L.co.n X.code
 ws:SlP Q w L.ws.a L.ws.n X.ws
 ts:SlP Q w L.ts.a L.ts.n X.ts
 bs:BlP Q w L.bs.a L.bs.n X.bs
 th:Vs repTh Q w L.th.a L.th.n X.th
 ev:Vs repEv Q w L.ev.a L.ev.n X.ev
 cco:L.co.ok
 cth:L.th.ok
 cev:L.ev.ok
theorem e_x {Q:Nat→Prop} {w w':World} {L:WoL} {X:Wo} (hk:c_n Q w w') (h:RWo Q w L X):RWo Q w' L X:=
 ⟨a_w hk h.co,a_q hk h.ws,a_q hk h.ts,a_H hk h.bs,a_w hk h.th,a_w hk h.ev,h.cco,h.cth,h.cev⟩
theorem e_y {Q Q':Nat→Prop} {w:World} {L:WoL} {X:Wo} (hQ:∀ b,Q b→Q' b) (h:RWo Q w L X):RWo Q' w L X:=
 ⟨a_P hQ h.co,a_k hQ h.ws,a_k hQ h.ts,a_A hQ h.bs,a_P hQ h.th,a_P hQ h.ev,h.cco,h.cth,h.cev⟩
theorem m_E {Q:Nat→Prop} {w:World} {L:WoL} {X:Wo} (h:RWo Q w L X):RWo (fun b=>Q b∧b < w.heap.size) w L X:=
 ⟨d_b h.co,d_k (fun _ q h=>⟨q,h⟩) h.ws,d_k (fun _ q h=>⟨q,h⟩) h.ts,f_A (fun _ q h=>⟨q,h⟩) h.bs,d_b h.th,d_b h.ev,h.cco,h.cth,h.cev⟩
theorem b_O {Q:Nat→Prop} {w w':World} {L:WoL} {X:Wo} (hb:Below w.heap.size w w') (h:RWo Q w L X):RWo Q w' L X:=e_x (a_G hb) h
theorem b_D {Q:Nat→Prop} {w:World} {L:WoL} {X:Wo} (h:RWo Q w L X):RWo Any w L X:=e_y (fun _ _=>trivial) h
theorem c_u {Q:Nat→Prop} {w:World}:RWo Q w n_c zWo:=
 ⟨c_Z,h_h _ _,h_h _ _,i_v _ _,c_Z,c_Z,b_C,b_C,b_C⟩
theorem d_1 {Q:Nat→Prop} {w:World} {ta:Option Addr} {tn:Nat} {ts:List Thr} (S:Vs repTh Q w ta tn ts) {k:Nat} (hk:k < tn) :
  ∃ b o t fa fc la lc,ta=some ⟨b,o,none⟩∧ts[k]?=some t∧Q b∧ThQ Q w fa t.fs.length fc la t.lf.length lc t∧∀ j v,(thC t fa t.fs.length fc la t.lf.length lc)[j]?=some v→w.cell? ⟨b,o+k*13+j,none⟩=some v:=by
 obtain ⟨b,o,t,e,ht,hq,cs,⟨fa,fc,la,lc,rfl,h2⟩,hc⟩:=g_k S hk;exact ⟨b,o,t,fa,fc,la,lc,e,ht,hq,h2,hc⟩
theorem l_U:(Tryz.prog.info? 46).map (fun i=>(i.zero,i.size,i.bytes))=some (some (.agg thN.toArray),13,136):=by kernel_rfl
theorem i_7 (t:Thr) (a:Option Addr) (n c:Nat) (b:Option Addr) (m d:Nat):∀ u∈thC t a n c b m d,u.oneCell'=true:=by
 intro u hu;have h:=a_V t a b n c m d;rw [Array.all_eq_true'] at h;exact h u (by simpa [thC] using hu)
theorem h_F (w:World) (xs:List Value) (t:TypeId):∀ j u,xs[j]?=some u→(w.alloc (.cells xs.toArray t)).cell? ((⟨w.heap.size,0,none⟩:Addr).add j)=some u:=by
 intro j u hu;rw [Gen.add_plain,Nat.zero_add];exact (a_i (w:=w) xs (t:=t) w.heap.size rfl j u hu).1
theorem b_t {g:Nat}:∀ {us:List Value} {w:World} {k:Nat},(c_Q w g k us).heap.size=w.heap.size
 | [],_,_=>rfl
 | u::us,w,k=>by
  show (c_Q (w.setCell ⟨g,k,none⟩ u) g (k+1) us).heap.size=_
  rw [b_t];simp
theorem l_F {Q:Nat→Prop} {w:World} {cs:List Value} {ts:List Thr} {t:Thr} {fa:Option Addr} {fn fc:Nat} {qa:Option Addr} {qn qc:Nat} (h:c_m repTh Q w cs ts) (hn:t.fs.length=fn∧t.lf.length=qn) (T:ThQ Q w fa fn fc qa qn qc t):c_m repTh Q w (cs++thC t fa fn fc qa qn qc) (ts++[t]):=
 d_z (r:=repTh) (show repTh.R Q w (thC t fa fn fc qa qn qc) t from ⟨fa,fc,qa,qc,by rw [hn.1,hn.2],by rw [hn.1,hn.2];exact T⟩) h
end Go.Proofs.YtolabfafgbmdbaaGreatDoor
namespace Go.Proofs.YtolabfafgbmdbaaGreatDoor
open Go.ChangeShapes Go.WideShapes Go.ChangeAt Go.RowKit
section
variable {P:Program} {ops:Array Oper} {Q:Exit→Act→World→Prop}
abbrev a_6:=List (List Nat×(List Value→World→Prop))
def a_Q (S:a_6) (k:Nat):List Nat:=(S.getD k ([],fun _ _=>True)).1
def b_w (S:a_6) (k:Nat):List Value→World→Prop:=(S.getD k ([],fun _ _=>True)).2
abbrev e_i:=Value→Value→World→Prop
def InvD (l:List (Option Tmp)) (B:World→Prop) (S:a_6) (pi pj:Nat) (p:e_i) (a0:Act) (_:World) (listed:Array Bool) (a:Act) (w:World):Prop:=
 ∃ vals,a=b_Y a0 l vals 0∧B w∧(∀ k,k < l.length→Up listed k→(∀ i∈a_Q S k,Up listed i)∧b_w S k ((a_Q S k).map vals) w)∧(pi < l.length→pj < l.length→Up listed pi→Up listed pj→p (vals pi) (vals pj) w)
structure CameD (l:List (Option Tmp)) (B:World→Prop) (S:a_6) (pi pj:Nat) (p:e_i) (a0:Act) (ws:List Nat) (a1:Act) (vals:Nat→Value) (w1:World):Prop where
 val:∀ j t,l[j]?=some (some t)→t < a0.tmps.size→a1.eval (.tmp t)=vals j
 old:∀ t,l.contains (some t)=false→a1.eval (.tmp t)=a0.eval (.tmp t)
 base:B w1
 dep:∀ j,j∈ws→b_w S j ((a_Q S j).map vals) w1
 both:pi∈ws++ws.flatMap (a_Q S)→pj∈ws++ws.flatMap (a_Q S)→pi < l.length→pj < l.length→p (vals pi) (vals pj) w1
def f_g (S:a_6) (pi pj:Nat) (p:e_i) (B:World→Prop) (k:Nat) (vals:Nat→Value) (dst:Option Tmp) (a1:Act) (w1:World) (K:Act→World→Prop):Prop:=
 ∀ v w2,b_w S k ((a_Q S k).map (fun i=>if i=k then v else vals i)) w2→B w2→(∀ j,j≠k→b_w S j ((a_Q S j).map vals) w1→b_w S j ((a_Q S j).map vals) w2) →
  (k≠pi→k≠pj→p (vals pi) (vals pj) w1→p (vals pi) (vals pj) w2)→(k=pi→k≠pj→b_w S pj ((a_Q S pj).map vals) w1→p v (vals pj) w2)→(k=pj→k≠pi→b_w S pi ((a_Q S pi).map vals) w1→p (vals pi) v w2)→(k=pi→k=pj→p v v w2)→K (a1.put dst v) w2
theorem InvD.cons {l:List (Option Tmp)} {B:World→Prop} {S:a_6} {pi pj:Nat} {p:e_i} {a0:Act} {w0:World} {k:Nat} {o:Oper} {rest:List Oper} {ws:List Nat}
  (hw:b_R .any o=ws) (hl:l[k]?=some o.dst) (hn:decide (b_f l).Nodup=true) (hd:ws.all (fun j=>decide (j < l.length))=true)
  (hD:(a_Q S k).all (fun i=>(k::(ws++ws.flatMap (a_Q S))).contains i)=true)
  (h:∀ a1 vals w1,CameD l B S pi pj p a0 ws a1 vals w1→∀ K:Act→World→Prop,f_g S pi pj p B k vals o.dst a1 w1 K →
   if Region.wanted o (yielded ops a1.tmps)=true then Oper.wp P o a1 w1 K Q else K (a1.put o.dst undef) w1)
  (hs:StepsL P .any ops Q (InvD l B S pi pj p a0 w0) (k+1) rest):StepsL P .any ops Q (InvD l B S pi pj p a0 w0) k (o::rest):=by
 have hn:=of_decide_eq_true hn;refine StepsL.cons hw (fun listed a1 w1 hI hu hu2 K hK=>?_) hs;obtain ⟨vals,rfl,hb,hv,hp⟩:=hI;have hlt:=N23
 have hall:∀ i,i∈ws++ws.flatMap (a_Q S)→Up listed i:=fun i hi=>by
  exact J36
 refine h _ vals w1 ⟨fun j t hj ht=>?_,fun t ht=>?_,hb,fun j hj=>(hv j (hlt j hj) (hu2 j hj)).2,fun h1 h2 l1 l2=>hp l1 l2 (hall _ h1) (hall _ h2)⟩ K (fun v w2 h1 h2 h3 h4 h5 h6 h7=>?_)
 ·exact J35
 ·exact J19
 ·refine hK.out _ _ ⟨fun i=>if i=k then v else vals i,d_O hn hl v,h2,fun j hjl hj=>?_,fun l1 l2 u1 u2=>?_⟩
  by_cases e:j=k
  ·exact J28
  ·exact J21
  ·exact J14
theorem e_I {id:Nat} {ol:List Oper} {a:Act} {w:World} (l:List (Option Tmp)) (B:World→Prop) (S:a_6) (pi pj:Nat) (p:e_i) (hm:P.follows .mixedOrders=true) (hb:g_T .any ol.toArray=true) (hn:decide (b_f l).Nodup=true) (hlen:l.length=ol.length)
  (h0:B w.drew) (hs:StepsL P .any ol.toArray Q (InvD l B S pi pj p a w) 0 ol)
  (hend:∀ vals w',B w'→(∀ k,k < l.length→b_w S k ((a_Q S k).map vals) w')→(pi < l.length→pj < l.length→p (vals pi) (vals pj) w')→Q .normal (b_Y a l vals 0) w'):(Code.region id ol.toArray true).wp P Q a w:=by
 refine a_X (InvD l B S pi pj p) hm hb (fun listed hl=>⟨c_1 a l,(putL_first (of_decide_eq_true hn)).symm,h0,fun k hkl hk=>absurd hk (hl k (by omega)),fun l1 _ u1 _=>absurd u1 (hl _ (by omega))⟩) hs (fun listed a' w' hI hu=>?_);obtain ⟨vals,rfl,h1,h2,h3⟩:=hI;exact hend vals w' h1 (fun k hk=>(h2 k hk (hu k)).2) (fun l1 l2=>h3 l1 l2 (hu _) (hu _))
def isV (k:Nat) (x:Value):List Nat×(List Value→World→Prop):=([k],fun l _=>l=[x])
def b_E (S:a_6):Prop:=∀ j args w w',Below w.heap.size w w'→b_w S j args w→b_w S j args w'
theorem a_2:b_E []:=fun _ _ _ _ _ h=>h
theorem a_u {d:List Nat} {f:List Value→World→Prop} {S:a_6} (h:∀ args w w',Below w.heap.size w w'→f args w→f args w') (hs:b_E S):b_E ((d,f)::S):=fun j args w w' hb h1=>by
 cases j with
 | zero=>exact h args w w' hb h1
 | succ j=>exact hs j args w w' hb h1
theorem a_c {k:Nat} {x:Value} {S:a_6} (hs:b_E S):b_E (isV k x::S):=a_u (fun _ _ _ _ h=>h) hs
section
variable {l:List (Option Tmp)} {B:World→Prop} {S:a_6} {pi pj:Nat} {p:e_i} {a0 a1:Act} {ws:List Nat} {vals:Nat→Value} {w1 w2:World} {k:Nat} {K:Act→World→Prop} {dst:Option Tmp}
theorem CameD.v (C:CameD l B S pi pj p a0 ws a1 vals w1) (j t:Nat) (hj:l[j]?=some (some t)) (hs:Nat.blt t a0.tmps.size=true):a1.eval (.tmp t)=vals j:=C.val j t hj (by simpa [Nat.blt_eq] using hs)
theorem CameD.t (C:CameD l B S pi pj p a0 ws a1 vals w1) (j t:Nat) (hj:l[j]?=some (some t)) (hs:Nat.blt t a0.tmps.size=true):a1.tmps[t]?.getD undef=vals j:=(a_s a1 t).trans (C.v j t hj hs)
theorem CameD.says (C:CameD l B S pi pj p a0 ws a1 vals w1) (j:Nat) (hm:ws.contains j=true):b_w S j ((a_Q S j).map vals) w1:=C.dep j (List.contains_iff_mem.1 hm)
theorem CameD.two (C:CameD l B S pi pj p a0 ws a1 vals w1) (h1:(ws++ws.flatMap (a_Q S)).contains pi=true) (h2:(ws++ws.flatMap (a_Q S)).contains pj=true) (l1:Nat.blt pi l.length=true) (l2:Nat.blt pj l.length=true):p (vals pi) (vals pj) w1:=
 C.both (List.contains_iff_mem.1 h1) (List.contains_iff_mem.1 h2) (by simpa [Nat.blt_eq] using l1) (by simpa [Nat.blt_eq] using l2)
theorem CameD.is (C:CameD l B S pi pj p a0 ws a1 vals w1) (j t:Nat) (x:Value) (hj:l[j]?=some (some t)) (hs:Nat.blt t a0.tmps.size=true) (hm:ws.contains j=true) (he:S[j]?=some (isV j x)):a1.tmps[t]?.getD undef=x:=by
 have h:=C.says j hm;rw [b_w,a_Q,List.getD_eq_getElem?_getD,he] at h;rw [C.t j t hj hs]
 simpa [isV] using h
theorem h_c (hK:f_g S pi pj p B k vals dst a1 w1 K) (hG:b_E S) (hGp:∀ x y w w',Below w.heap.size w w'→p x y w→p x y w') (hb:Below w1.heap.size w1 w2) (hne:((k==pi)||(k==pj))=false) {v:Value} (hv:b_w S k ((a_Q S k).map (fun i=>if i=k then v else vals i)) w2) (hB:B w2):K (a1.put dst v) w2:=by
 simp only [Bool.or_eq_false_iff,beq_eq_false_iff_ne] at hne;exact hK v w2 hv hB (fun j _ h=>hG j _ w1 w2 hb h) (fun _ _ h=>hGp _ _ w1 w2 hb h) (fun e=>absurd e hne.1) (fun e=>absurd e hne.2) (fun e=>absurd e hne.1)
theorem b_k (hK:f_g S pi pj p B k vals dst a1 w1 K) (C:CameD l B S pi pj p a0 ws a1 vals w1) (hne:((k==pi)||(k==pj))=false) {v:Value} (hv:b_w S k ((a_Q S k).map (fun i=>if i=k then v else vals i)) w1):K (a1.put dst v) w1:=by
 simp only [Bool.or_eq_false_iff,beq_eq_false_iff_ne] at hne;exact hK v w1 hv C.base (fun _ _ h=>h) (fun _ _ h=>h) (fun e=>absurd e hne.1) (fun e=>absurd e hne.2) (fun e=>absurd e hne.1)
end
end
theorem InvD.c {l:List (Option Tmp)} {B:World→Prop} {S:a_6} {pi pj:Nat} {p:e_i} {a0:Act} {w0:World} {k:Nat} {o:Oper} {rest:List Oper} {P:Program} {ops:Array Oper} {Q:Exit→Act→World→Prop}
  (h:∀ a1 vals w1,CameD l B S pi pj p a0 (b_R .any o) a1 vals w1→∀ K:Act→World→Prop,f_g S pi pj p B k vals o.dst a1 w1 K→if Region.wanted o (yielded ops a1.tmps)=true then Oper.wp P o a1 w1 K Q else K (a1.put o.dst undef) w1)
  (hs:StepsL P .any ops Q (InvD l B S pi pj p a0 w0) (k+1) rest) (hl:l[k]?=some o.dst:=by exact rfl) (hn:decide (b_f l).Nodup=true:=by exact rfl) (hd:(b_R .any o).all (fun j=>decide (j < l.length))=true:=by exact rfl)
  (hD:(a_Q S k).all (fun i=>(k::(b_R .any o++(b_R .any o).flatMap (a_Q S))).contains i)=true:=by exact rfl):StepsL P .any ops Q (InvD l B S pi pj p a0 w0) k (o::rest):=InvD.cons rfl hl hn hd hD h hs
section
variable {l:List (Option Tmp)} {B:World→Prop} {S:a_6} {pi pj:Nat} {p:e_i} {a0 a1:Act} {ws:List Nat} {vals:Nat→Value} {w1:World} {k:Nat} {K:Act→World→Prop} {P:Program} {ops:Array Oper} {Q:Exit→Act→World→Prop} {oq:Oper} {E:Prop}
theorem CameD.o (C:CameD l B S pi pj p a0 ws a1 vals w1) (t:Nat) (x:Value) (h1:l.contains (some t)=false:=by exact rfl) (h2:a0.eval (.tmp t)=x:=by exact rfl):a1.tmps[t]?.getD undef=x:=(a_s a1 t).trans ((C.old t h1).trans h2)
theorem CameD.i (C:CameD l B S pi pj p a0 ws a1 vals w1) (j:Nat) {t:Nat} {x:Value} (hj:l[j]?=some (some t):=by exact rfl) (he:S[j]?=some (isV j x):=by exact rfl) (hs:Nat.blt t a0.tmps.size=true:=by exact rfl) (hm:ws.contains j=true:=by exact rfl):a1.tmps[t]?.getD undef=x:=C.is j t x hj hs hm he
theorem oR {B2:World→Prop} {v:Value} {ds:List Nat} {f:List Value→World→Prop} (C:CameD l B S pi pj p a0 ws a1 vals w1) (hK:f_g S pi pj p B2 k vals oq.dst a1 w1 K) (he:S[k]?=some (k::ds,f):=by exact rfl) (hf:f (v::ds.map (fun i=>if i=k then v else vals i)) w1:=by exact rfl) (h:(execOp a1.eval oq).run P w1=.ok (.value v) w1) (hB:B w1→B2 w1:=by exact id) (hg:oq.guard=none:=by exact rfl) (hne:((k==pi)||(k==pj))=false:=by exact rfl) :
    if Region.wanted oq (yielded ops a1.tmps)=true then Oper.wp P oq a1 w1 K Q else E:=by
  simp only [Bool.or_eq_false_iff,beq_eq_false_iff_ne] at hne;refine a_d hg (a_o h (hK v w1 ?_ (hB C.base) (fun _ _ h=>h) (fun _ _ h=>h) (fun e=>absurd e hne.1) (fun e=>absurd e hne.2) (fun e=>absurd e hne.1)));rw [b_w,a_Q,List.getD_eq_getElem?_getD,he]
  simpa using hf
end
end Go.Proofs.YtolabfafgbmdbaaGreatDoor
