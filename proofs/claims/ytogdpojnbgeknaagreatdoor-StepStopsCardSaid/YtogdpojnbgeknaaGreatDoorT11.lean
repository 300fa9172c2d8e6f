import Derived.Test.YtogdpojnbgeknaaGreatDoorT10
import Derived.Test.YtogdpojnbgeknaaGreatDoorT0
import Derived.Test.YtogdpojnbgeknaaGreatDoorT9
import Derived.Deep.RegionHeld3
import Derived.Deep.DeepCutAuto
set_option maxRecDepth 100000
set_option maxHeartbeats 16000000
namespace Go.Proofs.YtogdpojnbgeknaaGreatDoor
open Go.ChangeShapes Go.WideShapes Go.ChangeAt Go.RowKit
theorem j_s (ps:List (Int×Int)) (k:Nat) (x:Int) (h:k < ps.length) (p:Int×Int) (hp:ps.getD k (0,0)=p) :
  (p.1=x→c_u (ps.take (k+1)) x=p.2∧c_t (ps.take (k+1)) x=true)∧(p.1≠x→c_u (ps.take (k+1)) x=c_u (ps.take k) x∧c_t (ps.take (k+1)) x=c_t (ps.take k) x):=by
 subst hp;simp only [c_u,c_t,e_k ps k x h]
 constructor
 ·intro e;rw [if_pos e];exact ⟨rfl,rfl⟩
 ·intro e;rw [if_neg e];exact ⟨rfl,rfl⟩
def n_z (v:Int) (i:Bool) (w:World) (e:Ending) (w':World):Prop:=e=.returned (.tuple #[.int .i64 v,.bool i])∧Below w.heap.size w w'
theorem m_N {v z:Int} {i t:Bool} {w w':World} (h1:v=z) (h2:i=t) (hb:Below w.heap.size w w'):n_z v i w (.returned (.tuple #[.int .i64 z,.bool t])) w':=by subst h1;subst h2;exact ⟨rfl,hb⟩
theorem i_H (a:Option Addr) (n c:Nat) (ps:List (Int×Int)) (x:Int) (w:World) (S:Pl w a n ps) (hn:n≤9223372036854775807) :
  Calls Tryz.prog 127 #[.slice a n c,.int .i64 x] w (n_z (c_u ps x) (c_t ps x) w):=by
 have Hn:=Lib.hid S.1
 go_enter Tryz.func127,Tryz.ntmps127
 go_wp2
 go_loopw [6,7,12] (fun v i s wr=>∃ (k:Nat) (z:Int) (t:Bool),k≤n∧s=.int .i64 k∧v=.int .i64 z∧i=.bool t∧Hid (c_u (ps.take k) x=z∧c_t (ps.take k) x=t)∧Below w.heap.size w wr) (fun _ _ s _=>n - (intOf s).toNat)
 case atStart=>exact ⟨0,0,false,by omega,rfl,rfl,rfl,⟨rfl,rfl⟩,Below.refl _ _⟩
 case round =>
  obtain ⟨k,z,t,hk,rfl,rfl,rfl,hz,hb⟩:=hrel
  by_cases hlt:k < n
  ·obtain ⟨b,o,rfl,R⟩:=N175;have g:=R k (by rw [Hn.out];exact hlt);have g1:=a_u hb g.1;have g2:=a_u hb g.2;have hsz:=hb.size;obtain ⟨p,hp⟩:=mn (ps.getD k (0,0));rw [hp] at g1 g2;have HN:=Lib.hid (j_s ps k x (by rw [Hn.out];exact hlt) p hp);have HB:=Lib.hid hb;clear g hp hb
   by_cases e:p.1=x
   ·have HZ:=Lib.hid (HN.out.1 e);have q:(p.1==x)=true:=by simpa using e
    clear e
    go_wp2
    go_roundw
    case rel=>exact ⟨k+1,p.2,true,by omega,by go_num,rfl,rfl,HZ.out,HB.out.alloc hsz _⟩
    case measure=>simp [intOf];omega
   ·have HZ:=Lib.hid (HN.out.2 e);have q:(p.1==x)=false:=by simpa using e
    clear e
    go_wp2
    go_roundw
    case rel=>exact ⟨k+1,z,t,by omega,by go_num,rfl,rfl,⟨HZ.out.1.trans hz.out.1,HZ.out.2.trans hz.out.2⟩,HB.out.alloc hsz _⟩
    case measure=>simp [intOf];omega
  ·obtain rfl:k=n:=by omega
   have E:Hid (ps.take k=ps):=List.take_of_length_le (by rw [Hn.out];omega);have h1:=hz.out.1;have h2:=hz.out.2;rw [E.out] at h1 h2;have ⟨H1,H2,HB⟩:=hh3 h1 h2 hb;clear hb h1 h2
   go_wp2
   go_ret2
   exact m_N H1.out H2.out HB.out
def i_h (ps:List (Int×Int)) (w:World) (e:Ending) (w':World):Prop:=∃ a c,e=.returned (.slice a ps.length c)∧d_v a ps.length c∧PlF w.heap.size w' a ps.length ps∧Below w.heap.size w w'
theorem f_w {ps qs:List (Int×Int)} {w w':World} {v:Value} {n:Nat} (hq:qs=ps) (hn:ps.length=n) (h:w'.ownsRow w.heap.size 59 2 v n (b_H ps)) (hb:Below w.heap.size w w'):i_h qs w (.returned v) w':=by
 subst hq;subst hn;obtain ⟨a,c,rfl,hc,hs⟩:=f_u h;exact ⟨a,c,rfl,hc,hs,hb⟩
theorem q_V {w:World} {p:Addr} {n:Nat} {ps:List (Int×Int)} (S:Pl w (some p) n ps):∀ W,Below w.heap.size w W→∀ j u,(b_H ps)[j]?=some u→W.cell? (p.add j)=some u:=by
 intro W hW j u hu;have hj:=N140;obtain ⟨b,o,e,R⟩:=S.2.resolve_left (by have:=S.1;omega)
 cases e
 rw [f_D];exact f_v (q_W hW R) j u hu
theorem k_V (a:Option Addr) (n c:Nat) (ps:List (Int×Int)) (x y:Int) (w:World) (S:Pl w a n ps) (hn:n≤1000) (h0:a=none→c=0) :
  Calls Tryz.prog 128 #[.slice a n c,.agg #[.int .i64 x,.int .i64 y]] w (i_h (ps++[(x,y)]) w):=by
 obtain ⟨i0,hi,hz0,hz1,hz2⟩:=N184;have HI:=N44;have Hn:=Lib.hid S.1
 have hown0:((w.alloc (Obj.cells #[.int .i64 x,.int .i64 y] 59)).alloc (.cells #[] 59)).ownsRow w.heap.size 59 2 (.slice (some ⟨w.heap.size+1,0,none⟩) 0 0) 0 []:=by
  have:=World.ownsRow_made (base:=w.heap.size) (e:=59) (size:=2) (w.alloc (Obj.cells #[.int .i64 x,.int .i64 y] 59)) #[] 0 (by simp) (by decide) (by simp);rw [World.size_alloc] at this;exact this
 have HOWN:=Lib.hid hown0;clear hi hz0 hz1 hz2 hown0
 cases a with
 | none =>
  obtain rfl:c=0:=h0 rfl
  obtain rfl:n=0:=by
   rcases S.2 with h | ⟨b,o,h,_⟩
   ·exact h
   ·cases h
  obtain rfl:ps=[]:=List.eq_nil_of_length_eq_zero S.1;clear S h0 hn
  go_enter Tryz.func128,Tryz.ntmps128
  go_wp2_with (at_builtin;refine wpList_append_own _ rfl (.tmp 10) (.tmp 12) 55 rfl w.heap.size 59 i0 (.agg #[.int .i64 0,.int .i64 0]) 2 16 Tryz.underlying55 HI.out.1 HI.out.2.1 HI.out.2.2.1 HI.out.2.2.2 rfl (by decide) _ 0 [] rfl (HOWN.out.alloc _) ⟨w.heap.size+1+1,0,none⟩ 1 1 (b_H [(x,y)]) rfl rfl ?c1 ?c2 ?c3 ?c4 ?c5 ?_)
  case c1=>exact e_T (a_W _ _ _ (by simp) rfl) (a_W _ _ _ (by simp) rfl)
  case c2=>exact d_h _
  case c3=>unfold maxLen;omega
  case c4=>omega
  case c5=>simp;omega
  intro v' w1 hown' hgrow _;have hb':=(((Below.refl w.heap.size w).alloc (Nat.le_refl _) (Obj.cells #[.int .i64 x,.int .i64 y] 59)).alloc (by simp) (.cells #[] 59)).alloc (by simp;omega) (Obj.cells #[.int .i64 x,.int .i64 y] 59) |>.grown hgrow (by simp;omega) (fun r hr=>by cases hr;simp)
  have ⟨HO',HB'⟩:=hh2 hown' hb';clear hown' hb' hgrow
  go_wp2
  go_ret
  exact f_w rfl rfl HO'.out HB'.out
 | some p =>
  have HH:=Lib.hid (q_V S)
  go_enter Tryz.func128,Tryz.ntmps128
  go_wp2_with (at_builtin;refine wpList_append_own _ rfl (.tmp 7) (.tmp 8) 55 rfl w.heap.size 59 i0 (.agg #[.int .i64 0,.int .i64 0]) 2 16 Tryz.underlying55 HI.out.1 HI.out.2.1 HI.out.2.2.1 HI.out.2.2.2 rfl (by decide) _ 0 [] rfl HOWN.out p n c (b_H ps) rfl ?c1 ?c2 ?c3 ?c4 ?c5 ?c6 ?_)
  case c1=>rw [b_0,Hn.out]
  case c2=>exact HH.out _ (by go_grown)
  case c3=>exact d_h _
  case c4=>unfold maxLen;omega
  case c5=>omega
  case c6=>simp;omega
  intro v' w1 hown' hgrow _;have hb':=((Below.refl w.heap.size w).alloc (Nat.le_refl _) (Obj.cells #[.int .i64 x,.int .i64 y] 59)).alloc (by simp) (.cells #[] 59) |>.grown hgrow (by simp;omega) (fun r hr=>by cases hr;simp)
  have d0:w1.cell? ⟨w.heap.size,0,none⟩=some (.int .i64 x):=hgrow.cell (b_a _ (by simp)) (by simp [Value.ownBlock]);have d1:w1.cell? ⟨w.heap.size,1,none⟩=some (.int .i64 y):=hgrow.cell (b_a _ (by simp)) (by simp [Value.ownBlock]);have ⟨HO',HB'⟩:=hh2 hown' hb';have hsz:=hb'.size;clear hown' hb' hgrow
  go_wp2_with (at_builtin;refine wpList_append_own _ rfl (.tmp 10) (.tmp 12) 55 rfl w.heap.size 59 i0 (.agg #[.int .i64 0,.int .i64 0]) 2 16 Tryz.underlying55 HI.out.1 HI.out.2.1 HI.out.2.2.1 HI.out.2.2.2 rfl (by decide) _ _ _ rfl (HO'.out.alloc _) ⟨w1.heap.size,0,none⟩ 1 1 (b_H [(x,y)]) rfl rfl ?c1 ?c2 ?c3 ?c4 ?c5 ?_)
  case c1=>exact e_T (by simp) (by simp)
  case c2=>exact d_h _
  case c3=>unfold maxLen;omega
  case c4=>omega
  case c5=>simp;omega
  intro v'' w2 hown'' hgrow' _;have hb'':=(HB'.out.alloc hsz (Obj.cells #[.int .i64 x,.int .i64 y] 59)).grown hgrow' (by simp;omega) (fun r hr=>((HO'.out.alloc (Obj.cells #[.int .i64 x,.int .i64 y] 59)).lt r hr).1);rw [←d_B] at hown'';have ⟨HO'',HB''⟩:=hh2 hown'' hb'';have HL:=Lib.hid (show (ps++[(x,y)]).length=n+1 by rw [List.length_append,Hn.out];rfl);clear hown'' hb'' hgrow'
  go_wp2
  go_ret
  exact f_w rfl HL.out HO''.out HB''.out
def h_e (ps:List (Int×Int)) (k:Nat):List (Int×Int):=(ps.take k).drop 1
theorem h_f (ps:List (Int×Int)) (k:Nat) (h:k≤1):h_e ps k=[]:=by
 rw [h_e];apply List.drop_eq_nil_of_le;rw [List.length_take];omega
theorem m_1 (ps:List (Int×Int)) (k:Nat) (hk:1≤k) (h:k < ps.length) {p:Int×Int} (hp:ps.getD k (0,0)=p):h_e ps (k+1)=h_e ps k++[p]:=by
 subst hp;rw [h_e,h_e,h_9 ps k h,List.drop_append_of_le_length (by rw [List.length_take];omega)]
theorem p_b (ps:List (Int×Int)):h_e ps ps.length=e_z ps:=by rw [h_e,List.take_length,e_z]
theorem p_c (ps:List (Int×Int)) (k:Nat) (h:k≤ps.length):(h_e ps k).length=k - 1:=by rw [h_e,List.length_drop,List.length_take];omega
theorem k_W (a:Option Addr) (n c:Nat) (ps:List (Int×Int)) (w:World) (S:Pl w a n ps) (hn:n≤1000) :
  Calls Tryz.prog 106 #[.slice a n c] w (i_h (e_z ps) w):=by
 obtain ⟨i0,hi,hz0,hz1,hz2⟩:=N184;have HI:=N44;have Hn:=Lib.hid S.1;clear hi hz0 hz1 hz2
 go_enter Tryz.func106,Tryz.ntmps106
 go_wp2
 go_loopw [3,9] (fun v s wr=>∃ k:Nat,k≤n∧s=.int .i64 k∧wr.ownsRow w.heap.size 59 2 v (k - 1) (b_H (h_e ps k))∧Below w.heap.size w wr) (fun _ s _=>n - (intOf s).toNat)
 case atStart=>exact ⟨0,by omega,rfl,by rw [h_f ps 0 (by omega)];exact World.ownsRow_made w #[] 0 (Nat.le_refl _) (by decide) (by simp),(Below.refl _ _).alloc (Nat.le_refl _) _⟩
 case round =>
  obtain ⟨k,hk,rfl,hown,hb⟩:=hrel
  by_cases hlt:k < n
  ·obtain ⟨b,o,rfl,R⟩:=N175;have g:=R k (by rw [Hn.out];exact hlt);have g1:=a_u hb g.1;have g2:=a_u hb g.2;have hsz:=hb.size;obtain ⟨p,hp⟩:=mn (ps.getD k (0,0));rw [hp] at g1 g2;have ⟨Hp,HB,HO⟩:=hh3 hp hb hown;clear g hp hb hown
   by_cases e:0 < k
   ·have HS:=Lib.hid (m_1 ps k e (by rw [Hn.out];exact hlt) Hp.out);have q:decide ((0:Int) < k)=true:=by simp;omega
    have HK:=Lib.hid (show k - 1+1=k by omega)
    go_wp2_with (at_builtin;refine wpList_append_own _ rfl _ _ 55 rfl w.heap.size 59 i0 (.agg #[.int .i64 0,.int .i64 0]) 2 16 Tryz.underlying55 HI.out.1 HI.out.2.1 HI.out.2.2.1 HI.out.2.2.2 rfl (by decide) _ _ _ rfl ((HO.out.alloc _).alloc _) ⟨wr.heap.size+1,0,none⟩ 1 1 (b_H [p]) rfl rfl ?c1 ?c2 ?c3 ?c4 ?c5 ?_)
    case c1=>obtain ⟨p1,p2⟩:=p;exact e_T (by simp) (by simp)
    case c2=>exact d_h _
    case c3=>unfold maxLen;omega
    case c4=>omega
    case c5=>simp;omega
    intro v' w1 hown' hgrow _;have hb':=((HB.out.alloc hsz (.cells #[.int .i64 p.1,.int .i64 p.2] 59)).alloc (by simp;omega) (.cells #[.int .i64 p.1,.int .i64 p.2] 59)).grown hgrow (by simp;omega) (fun r hr=>((HO.out.alloc (.cells #[.int .i64 p.1,.int .i64 p.2] 59)).lt r hr).1);rw [←d_B,←HS.out,HK.out] at hown';have ⟨HO',HB'⟩:=hh2 hown' hb';clear hown' hb' hgrow
    go_wp2
    go_roundw
    case rel=>exact ⟨k+1,by omega,by go_num,HO'.out,HB'.out⟩
    case measure=>simp [intOf];omega
   ·obtain rfl:k=0:=by omega
    have HS:=Lib.hid (h_f ps 0 (by omega));have HS':=Lib.hid (h_f ps 1 (by omega));rw [Nat.zero_mul,Nat.add_zero] at g1 g2
    go_wp2
    go_roundw
    case rel=>exact ⟨1,by omega,rfl,by rw [HS'.out,←HS.out];exact HO.out.alloc _,HB.out.alloc hsz _⟩
    case measure=>simp [intOf];omega
  ·obtain rfl:k=n:=by omega
   have ⟨HB,HO⟩:=hh2 hb hown;have HL:=Lib.hid (p_c ps k (by rw [Hn.out];omega));have HA:=Lib.hid (p_b ps);clear hb hown
   go_wp2
   go_ret
   exact f_w (by rw [←HA.out,Hn.out]) HL.out HO.out HB.out
theorem f_V (a a' q:Option Addr) (n c n' c' l d:Nat) (D x y:Int) (w:World) :
  Calls Tryz.prog 110 #[.agg #[.slice a n c,.slice a' n' c',.int .i64 D,.slice q l d],.agg #[.int .i64 x,.int .i64 y]] w (b_l (!(inP n (x,y))) w):=by
 have H:=Lib.hid (show inP n (x,y)=decide (0≤x∧x < n) from rfl)
 by_cases h1:0≤x
 ·have q1:decide (x < 0)=false:=by simp;omega
  go_enter Tryz.func110,Tryz.ntmps110
  go_wp2
  go_ret
  exact a_k (by rw [H.out,Bool.eq_iff_iff];simp;omega) (by go_grown)
 ·have q1:decide (x < 0)=true:=by simp;omega
  go_enter Tryz.func110,Tryz.ntmps110
  go_wp2
  go_ret
  exact a_k (by rw [H.out];simp [h1]) (by go_grown)
def n_v (t:Bool) (w:World) (e:Ending) (w':World):Prop:=∃ i:Int,e=.returned (.int .i64 i)∧decide (0≤i)=t∧Below w.heap.size w w'
theorem h_Y {t:Bool} {w w':World} {i:Int} (h:decide (0≤i)=t) (hb:Below w.heap.size w w'):n_v t w (.returned (.int .i64 i)) w':=⟨i,rfl,h,hb⟩
theorem r_9 {N:Nat} {b:List (Int×Int)} {k:Nat} (hk:k < b.length) (h:inP N (b.getD k (0,0))=false):b.all (inP N)=false:=by
 have e:b.getD k (0,0)=b[k]:=by simp [hk]
 rw [e] at h;exact List.all_eq_false.2 ⟨b[k],List.getElem_mem hk,by rw [h];decide⟩
theorem p_3 {N:Nat} {b:List (Int×Int)} (h:l_p N b b.length):b.all (inP N)=true:=by
 simp only [List.all_eq_true];intro p hp;obtain ⟨i,hi,rfl⟩:=List.mem_iff_getElem.1 hp;have:=h i hi
 simpa [hi] using this
theorem k_w (p:Option Addr) (m mc:Nat) (ps:List (Int×Int)) (a a' q:Option Addr) (n c n' c' l d:Nat) (D:Int) (w:World) (S:Pl w p m ps) (hm:m≤9223372036854775807) :
  Calls Tryz.prog 129 #[.slice p m mc,.func (.func 110) #[.agg #[.slice a n c,.slice a' n' c',.int .i64 D,.slice q l d]] #[]] w (n_v (!(ps.all (inP n))) w):=by
 have Hn:=Lib.hid S.1
 go_enter Tryz.func129,Tryz.ntmps129
 go_wp2
 go_loopw [8] (fun s wr=>∃ k:Nat,k≤m∧s=.int .i64 k∧Hid (l_p n ps k)∧Below w.heap.size w wr) (fun s _=>m - (intOf s).toNat)
 case atStart=>exact ⟨0,by omega,rfl,by intro j hj;omega,Below.refl _ _⟩
 case round =>
  obtain ⟨k,hk,rfl,hs,hb⟩:=hrel
  by_cases hlt:k < m
  ·obtain ⟨b,o,rfl,R⟩:=N175;have g:=R k (by rw [Hn.out];exact hlt);have g1:=a_u hb g.1;have g2:=a_u hb g.2;obtain ⟨x,hx⟩:=mn (ps.getD k (0,0));rw [hx] at g1 g2;obtain ⟨x1,x2⟩:=x;have ⟨HX,HB⟩:=hh2 hx hb;dsimp only at g1 g2;have i1:(0:Int)≤k:=by omega
   have i2:(k:Int) < m:=by omega
   clear g hx hb
   cases hin:inP n (x1,x2) with
   | true =>
    have HS:=Lib.hid (k_S hs.out (by rw [HX.out];exact hin));have HI:=Lib.hid hin;clear hin
    go_wp2_with (go_at_call 110;refine (f_V a a' q n c n' c' l d D x1 x2 _).mono ?_;rw [HI.out];rintro e w1 ⟨rfl,hb1⟩;have HB1:=Lib.hid (a_b HB.out hb1);clear hb1)
    go_roundw
    case rel=>exact ⟨k+1,by omega,by go_num,HS.out,HB1.out⟩
    case measure=>simp [intOf];omega
   | false =>
    have HS:=Lib.hid (r_9 (N:=n) (b:=ps) (k:=k) (by rw [Hn.out];exact hlt) (by rw [HX.out];exact hin));have HI:=Lib.hid hin;clear hin
    go_wp2_with (go_at_call 110;refine (f_V a a' q n c n' c' l d D x1 x2 _).mono ?_;rw [HI.out];rintro e w1 ⟨rfl,hb1⟩;have HB1:=Lib.hid (a_b HB.out hb1);clear hb1)
    go_ret
    exact h_Y (by rw [HS.out];simp) HB1.out
  ·obtain rfl:k=m:=by omega
   have HS:=Lib.hid (p_3 (N:=n) (b:=ps) (by rw [Hn.out];exact hs.out));have HB:=Lib.hid hb;clear hb
   go_wp2
   go_ret
   exact h_Y (by rw [HS.out];rfl) HB.out
theorem e_t (p:Option Addr) (m mc:Nat) (ps:List (Int×Int)) (a a' q:Option Addr) (n c n' c' l d:Nat) (D:Int) (w:World) (S:Pl w p m ps) (hm:m≤9223372036854775807) :
  Calls Tryz.prog 109 #[.slice p m mc,.func (.func 110) #[.agg #[.slice a n c,.slice a' n' c',.int .i64 D,.slice q l d]] #[]] w (b_l (!(ps.all (inP n))) w):=by
 go_enter Tryz.func109,Tryz.ntmps109
 go_wp2_with fail
 refine (k_w p m mc ps a a' q n c n' c' l d D _ S hm).mono ?_;rintro e w1 ⟨i,rfl,ht,hb⟩;have ⟨HT,HB⟩:=hh2 ht hb;clear ht hb
 go_wp2
 go_ret
 exact a_k HT.out.symm HB.out
theorem e_Z (a a' q:Option Addr) (n c n' c' l d:Nat) (ws ts:List Int) (D:Int) (bs:List (List (Int×Int))) (w:World) (S1:Sl w a n ws) (S2:Sl w a' n' ts) (S:Bl w q l bs) :
  Calls Tryz.prog 73 #[.agg #[.slice a n c,.slice a' n' c',.int .i64 D,.slice q l d]] w (b_l (d_O ws ts D bs) w):=by
 have Hn:=Lib.hid S1.1;have Hl:=Lib.hid S.1;have hmf:=N71
 cases hm:d_g ws ts with
 | false =>
  have HM:=Lib.hid hm;have HT:=Lib.hid (show d_O ws ts D bs=false by simp [d_O,hm]);clear hm
  go_enter Tryz.func73,Tryz.ntmps73
  go_wp2_with fail
  refine (c_k a a' n c n' c' ws ts _ (slA _ S1) (slA _ S2)).mono ?_;rintro e w1 ⟨rfl,hb⟩;rw [HM.out];have HB:=N100;clear hb
  go_wp2
  go_ret
  exact a_k HT.out HB.out
 | true =>
  have HM:=Lib.hid hm;clear hm
  by_cases hs:c_0 l D=true
  ·have hs':c_0 bs.length D=true:=by rw [Hl.out];exact hs
   have HS:=Lib.hid hs';simp only [c_0,decide_eq_true_eq] at hs;obtain ⟨s1,s2,s3,s4⟩:=hs;have s1':1≤l:=by omega
   have s2':l≤8:=by omega
   clear hs'
   go_enter Tryz.func73,Tryz.ntmps73
   go_wp2_with fail
   refine (c_k a a' n c n' c' ws ts _ (slA _ S1) (slA _ S2)).mono ?_;rintro e w1 ⟨rfl,hb⟩;rw [HM.out];have hb1:=N11;have c0:w1.cell? ⟨w.heap.size,0,none⟩=some (.slice a n c):=a_u hb (by simp);have c1:w1.cell? ⟨w.heap.size,1,none⟩=some (.slice a' n' c'):=a_u hb (by simp);have c2:=N220;have c3:=N106;have HB1:=Lib.hid hb1;have S':=blB hb1 S;clear hb hb1
   go_wp2
   go_loopw [38] (fun s wr=>∃ k:Nat,k≤l∧s=.int .i64 k∧Hid (l_k ws.length D bs k)∧Below w1.heap.size w1 wr) (fun s _=>l - (intOf s).toNat)
   case atStart=>exact ⟨0,by omega,rfl,by intro j hj;omega,Below.refl _ _⟩
   case round =>
    obtain ⟨k,hk,rfl,hr,hb⟩:=hrel;have c0':=a_u hb c0;have c1':=a_u hb c1;have c2':=a_u hb c2;have c3':=a_u hb c3;have HB:=Lib.hid hb
    by_cases hlt:k < l
    ·obtain ⟨b,o,p,pc,rfl,k0,hcap,hp⟩:=k_a (blB hb S') hlt;obtain ⟨x,hx⟩:=mn (bs.getD k []);rw [hx] at k0 hp hcap;have HX:=Lib.hid hx;obtain ⟨m,hm⟩:=mn (x.length);rw [hm] at k0 hp hcap;have HM:=Lib.hid hm;have hcap1:=hcap.1;have hcap2:=hcap.2.1;have i1:(0:Int)≤k:=by omega
     have i2:(k:Int) < l:=by omega
     clear hx hm hb hcap
     by_cases hD:D < m
     ·have HF:=Lib.hid (l_R (ws:=ws) (ts:=ts) (D:=D) (bs:=bs) (k:=k) (by rw [Hl.out];exact hlt) (by rw [HX.out];simp [h_x,HM.out];omega))
      go_wp2
      go_ret
      exact a_k HF.out (HB1.out.trans (HB.out.mono HB1.out.size))
     ·have hD':(m:Int)≤D:=by omega
      cases hin:x.all (inP n) with
      | false =>
       have HF:=Lib.hid (l_R (ws:=ws) (ts:=ts) (D:=D) (bs:=bs) (k:=k) (by rw [Hl.out];exact hlt) (by rw [HX.out,Hn.out];simp only [h_x];rw [hin];simp));have HI:=Lib.hid hin;clear hin
       go_wp2_with (go_at_call 109;refine (e_t p m pc x a a' (some ⟨b,o,none⟩) n c n' c' l d D _ hp (by omega)).mono ?_;rw [HI.out];rintro e w2 ⟨rfl,hb2⟩;have HB2:=Lib.hid (a_b HB.out hb2);clear hb2)
       go_ret
       exact a_k HF.out (HB1.out.trans (HB2.out.mono HB1.out.size))
      | true =>
       have HF:=Lib.hid (k_b hr.out (by rw [HX.out,Hn.out];simp only [h_x,HM.out];rw [hin];simpa using hD'));have HI:=Lib.hid hin;clear hin
       go_wp2_with (go_at_call 109;refine (e_t p m pc x a a' (some ⟨b,o,none⟩) n c n' c' l d D _ hp (by omega)).mono ?_;rw [HI.out];rintro e w2 ⟨rfl,hb2⟩;have HB2:=Lib.hid (a_b HB.out hb2);clear hb2)
       go_roundw
       case rel=>exact ⟨k+1,by omega,by go_num,HF.out,HB2.out⟩
       case measure=>simp [intOf];omega
    ·obtain rfl:k=l:=by omega
     have HF:=Lib.hid (o_E HM.out HS.out (by rw [Hl.out];exact hr.out));clear hb
     go_wp2
     go_ret
     exact a_k HF.out (HB1.out.trans (HB.out.mono HB1.out.size))
  ·have HT:=Lib.hid (show d_O ws ts D bs=false by
    have:c_0 bs.length D=false:=by rw [Hl.out];simpa using hs
    simp [d_O,this])
   have hs':¬ ((1:Int)≤l∧(l:Int)≤8∧0≤D∧D≤8):=by simpa [c_0] using hs
   clear hs
   go_enter Tryz.func73,Tryz.ntmps73
   go_wp2_with fail
   refine (c_k a a' n c n' c' ws ts _ (slA _ S1) (slA _ S2)).mono ?_;rintro e w1 ⟨rfl,hb⟩;rw [HM.out];have hb1:=N11;have c2:=N220;have c3:=N106;have HB1:=Lib.hid hb1;clear hb hb1
   by_cases d0:D < 0
   ·go_wp2
    go_ret
    exact a_k HT.out HB1.out
   ·by_cases d1:8 < D
    ·go_wp2
     go_ret
     exact a_k HT.out HB1.out
    ·by_cases d2:(l:Int) < 1
     ·go_wp2
      go_ret
      exact a_k HT.out HB1.out
     ·have d3:8 < (l:Int):=by omega
      go_wp2
      go_ret
      exact a_k HT.out HB1.out
theorem e_d (a a' q:Option Addr) (n c n' c' l d:Nat) (ws ts:List Int) (D th:Int) (bs:List (List (Int×Int))) (w:World) (S1:Sl w a n ws) (S2:Sl w a' n' ts) (S:Bl w q l bs) :
  Calls Tryz.prog 147 #[.agg #[.slice a n c,.slice a' n' c',.int .i64 D,.slice q l d],.int .i64 th] w (b_l (d_O ws ts D bs&&thB bs th) w):=by
 have Hl:=Lib.hid S.1;have HT:=Lib.hid (show thB bs th=decide (0≤th∧th < l) by rw [thB,Hl.out])
 cases hm:d_O ws ts D bs with
 | false =>
  have HM:=Lib.hid hm;clear hm
  go_enter Tryz.func147,Tryz.ntmps147
  go_wp2_with fail
  refine (e_Z a a' q n c n' c' l d ws ts D bs _ (slA _ S1) (slA _ S2) (blA _ S)).mono ?_;rintro e w1 ⟨rfl,hb⟩;rw [HM.out];have HB:=N100;clear hb
  go_wp2
  go_ret
  exact a_k (by simp) HB.out
 | true =>
  have HM:=Lib.hid hm;clear hm
  by_cases h0:0≤th
  all_goals
   have q0:decide (0≤th)=decide (0≤th):=rfl
   go_enter Tryz.func147,Tryz.ntmps147
   go_wp2_with fail
   refine (e_Z a a' q n c n' c' l d ws ts D bs _ (slA _ S1) (slA _ S2) (blA _ S)).mono ?_;rintro e w1 ⟨rfl,hb⟩;rw [HM.out];have c3:=N106;have HB:=N100;clear hb q0
   go_wp2
   go_ret
   exact a_k (by rw [HT.out,Bool.eq_iff_iff];simp;try omega) HB.out
theorem r_b {Q:Nat→Prop} {F:Nat} {w:World} {a:Option Addr} {n:Nat} {zs:List Int} (hQ:∀ b,Q b→F≤b) (h:SlP Q w a n zs):SlF F w a n zs:=⟨h.1,h.2.imp id fun ⟨b,o,e,hq,r⟩=>⟨b,o,e,hQ b hq,r⟩⟩
theorem r_S {w:World} {g:Nat} (x y:Value) (h:(w.cell? ⟨g,0,none⟩).isSome=true):((w.setCell ⟨g,0,none⟩ x).setCell ⟨g,1,none⟩ y).cell? ⟨g,0,none⟩=some x:=by
 rw [World.cell?_setCell_other]
 ·exact World.cell?_setCell_same' _ _ _ h
 ·intro h;simp at h
theorem r_T {w:World} {g:Nat} (x y:Value) (h:(w.cell? ⟨g,1,none⟩).isSome=true):((w.setCell ⟨g,0,none⟩ x).setCell ⟨g,1,none⟩ y).cell? ⟨g,1,none⟩=some y:=by
 refine World.cell?_setCell_same' _ _ _ ?_;rw [World.cell?_setCell_other]
 ·exact h
 ·intro h;simp at h
theorem b_8 {w w':World} {a:Addr} {v:Value} (hb:Below w.heap.size w w') (h:w.cell? a=some v) (f:w.frozen? a=false):w'.frozen? a=false:=(hb.frozen (b_c h)).trans f
end Go.Proofs.YtogdpojnbgeknaaGreatDoor
