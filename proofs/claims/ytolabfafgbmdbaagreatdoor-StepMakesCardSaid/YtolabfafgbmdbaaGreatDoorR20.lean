import Derived.Test.YtolabfafgbmdbaaGreatDoorR18
import Derived.Test.YtolabfafgbmdbaaGreatDoorR2
import Derived.Laws.AppendOwnNone
import Derived.Test.YtolabfafgbmdbaaGreatDoorR0
import Derived.Test.YtolabfafgbmdbaaGreatDoorR7
import Derived.Test.YtolabfafgbmdbaaGreatDoorR15
set_option maxRecDepth 100000
set_option maxHeartbeats 16000000
namespace Go.Proofs.YtolabfafgbmdbaaGreatDoor
open Go.ChangeShapes Go.WideShapes Go.ChangeAt Go.RowKit
open Gen
theorem q_f:(Tryz.prog.info? 101).map (fun i=>(i.zero,i.size,i.bytes))=some (some (.agg #[.int .i64 0,.int .i64 0,.int .i64 0,.int .i64 0,.int .i64 0,.int .i64 0]),6,48):=by kernel_rfl
def WoL.setEv (L:WoL) (p:Sp):WoL:={ L with ev:=p }
end Go.Proofs.YtolabfafgbmdbaaGreatDoor
namespace Go.Proofs.YtolabfafgbmdbaaGreatDoor
open Go.ChangeShapes Go.WideShapes Go.ChangeAt Go.RowKit
open Gen
open Lib (hid)
def f_y (e:TypeId) (sz n:Nat) (cs:List Value) (w:World) (en:Ending) (w':World):Prop:=∃ a c,en=.returned (.slice a n c)∧Cap a n c∧w'.ownsRow w.heap.size e sz (.slice a n c) n cs∧Below w.heap.size w w'
theorem d_x {e:TypeId} {sz n:Nat} {cs:List Value} {v:Value} {w w':World} (h:w'.ownsRow w.heap.size e sz v n cs) (hb:Below w.heap.size w w'):f_y e sz n cs w (.returned v) w':=by
 obtain ⟨a,c,rfl⟩:=c_U h;refine ⟨a,c,rfl,?_,h,hb⟩
 rcases h.2 with ⟨h1,rfl⟩ | ⟨g,cap,cur,h1,-,-,h2,h3,-,-⟩
 ·cases h1;exact b_C
 ·cases h1;exact ⟨h2,by unfold maxLen at h3;omega,fun h=>by cases h⟩
theorem f_t {w:World} {B:Nat} {e:TypeId} {sz n c g:Nat} {cs:List Value} (h:w.ownsRow B e sz (.slice (some ⟨g,0,none⟩) n c) n cs):a_p w g cs:=by
 rcases h.2 with ⟨h1,-⟩ | ⟨g2,cap,cur,h1,-,h2,-,-,-,h3⟩
 ·cases h1
 ·cases h1
  intro i v hi;refine ⟨?_,by simp [World.frozen?,h2]⟩;rw [←h3,List.getElem?_take] at hi
  split at hi
  ·simp only [World.cell?,h2]
   simpa using hi
  ·cases hi
theorem p_f:(Tryz.prog.info? 3).map (fun i=>(i.zero,i.size,i.bytes))=some (some (.int .i64 0),1,8):=by kernel_rfl
theorem f_C (a:Option Addr) (n c:Nat) (cs:List Value) (w:World) (hl:cs.length=n*1) (hs:∀ p,a=some p→∀ j u,cs[j]?=some u→w.cell? (p.add j)=some u) (h1:∀ u∈cs,u.oneCell'=true) (ha:a=none→n=0) (hn:n≤1000000) :
  Calls Tryz.prog 85 #[.slice a n c] w (f_y 3 1 n cs w):=by
 obtain ⟨i0,hi,hz0,hz1,hz2⟩:=info_parts p_f;have HI:=N29;have ⟨HL,HS,H1⟩:=hh3 hl hs h1;have q:=fun w=>c_C 23 3 a n c Tryz.underlying23 w
 clear hi hz0 hz1 hz2 hl hs h1
 cases a with
 | none =>
  obtain rfl:n=0:=ha rfl;obtain rfl:cs=[]:=List.eq_nil_of_length_eq_zero (by have:=HL.out;omega);clear ha hn
  go_enter Tryz.func85,Tryz.ntmps85
  exact J53
 | some p =>
  clear ha
  go_enter Tryz.func85,Tryz.ntmps85
  go_wp2_with (at_builtin;refine wpList_append_own _ rfl _ _ 23 rfl w.heap.size 3 i0 (.int .i64 0) 1 8 Tryz.underlying23 HI.out.1 HI.out.2.1 HI.out.2.2.1 HI.out.2.2.2 rfl (by decide) _ 0 [] rfl (World.ownsRow_made w #[] 0 (Nat.le_refl _) (by decide) (by simp)) p n c cs rfl ?c1 ?c2 ?c3 ?c4 ?c5 ?c6 ?_)
  case c1=>exact HL.out
  case c2=>exact fun j u hj=>a_J _ (HS.out p rfl j u hj)
  case c3=>exact H1.out
  case c4=>unfold maxLen;omega
  case c5=>omega
  case c6=>simp
  intro v' w1 hown' hgrow _;have hb':=N36;have ⟨HO,HB⟩:=hh2 hown' hb';clear hown' hb' hgrow
  go_wp2
  go_ret
  exact d_x HO.out HB.out
theorem n_R:(Tryz.prog.info? 66).map (fun i=>(i.zero,i.size,i.bytes))=some (some (.agg #[.int .i64 0,.int .i64 0,.int .i64 0,.int .i64 0]),4,32):=by kernel_rfl
theorem f_a (a:Option Addr) (n c:Nat) (cs:List Value) (w:World) (hl:cs.length=n*4) (hs:∀ p,a=some p→∀ j u,cs[j]?=some u→w.cell? (p.add j)=some u) (h1:∀ u∈cs,u.oneCell'=true) (ha:a=none→n=0) (hn:n≤1000000) :
  Calls Tryz.prog 32 #[.slice a n c] w (f_y 66 4 n cs w):=by
 obtain ⟨i0,hi,hz0,hz1,hz2⟩:=info_parts n_R;have HI:=N29;have ⟨HL,HS,H1⟩:=hh3 hl hs h1;have q:=fun w=>c_C 22 66 a n c Tryz.underlying22 w
 clear hi hz0 hz1 hz2 hl hs h1
 cases a with
 | none =>
  obtain rfl:n=0:=ha rfl;obtain rfl:cs=[]:=List.eq_nil_of_length_eq_zero (by have:=HL.out;omega);clear ha hn
  go_enter Tryz.func32,Tryz.ntmps32
  exact J53
 | some p =>
  clear ha
  go_enter Tryz.func32,Tryz.ntmps32
  go_wp2_with (at_builtin;refine wpList_append_own _ rfl _ _ 22 rfl w.heap.size 66 i0 (.agg #[.int .i64 0,.int .i64 0,.int .i64 0,.int .i64 0]) 4 32 Tryz.underlying22 HI.out.1 HI.out.2.1 HI.out.2.2.1 HI.out.2.2.2 rfl (by decide) _ 0 [] rfl (World.ownsRow_made w #[] 0 (Nat.le_refl _) (by decide) (by simp)) p n c cs rfl ?c1 ?c2 ?c3 ?c4 ?c5 ?c6 ?_)
  case c1=>exact HL.out
  case c2=>exact fun j u hj=>a_J _ (HS.out p rfl j u hj)
  case c3=>exact H1.out
  case c4=>unfold maxLen;omega
  case c5=>omega
  case c6=>simp
  intro v' w1 hown' hgrow _;have hb':=((Below.refl w.heap.size w).alloc (Nat.le_refl _) (.cells #[] 66)).grown hgrow (by simp) (fun r hr=>by cases hr;simp);have ⟨HO,HB⟩:=hh2 hown' hb';clear hown' hb' hgrow
  go_wp2
  go_ret
  exact d_x HO.out HB.out
theorem p_e:(Tryz.prog.info? 101).map (fun i=>(i.zero,i.size,i.bytes))=some (some (.agg #[.int .i64 0,.int .i64 0,.int .i64 0,.int .i64 0,.int .i64 0,.int .i64 0]),6,48):=by kernel_rfl
theorem i_B (a:Option Addr) (n c:Nat) (cs:List Value) (w:World) (hl:cs.length=n*6) (hs:∀ p,a=some p→∀ j u,cs[j]?=some u→w.cell? (p.add j)=some u) (h1:∀ u∈cs,u.oneCell'=true) (ha:a=none→n=0) (hn:n≤1000000) :
  Calls Tryz.prog 84 #[.slice a n c] w (f_y 101 6 n cs w):=by
 obtain ⟨i0,hi,hz0,hz1,hz2⟩:=info_parts p_e;have HI:=N29;have ⟨HL,HS,H1⟩:=hh3 hl hs h1;have q:=fun w=>c_C 31 101 a n c Tryz.underlying31 w
 clear hi hz0 hz1 hz2 hl hs h1
 cases a with
 | none =>
  obtain rfl:n=0:=ha rfl;obtain rfl:cs=[]:=List.eq_nil_of_length_eq_zero (by have:=HL.out;omega);clear ha hn
  go_enter Tryz.func84,Tryz.ntmps84
  exact J53
 | some p =>
  clear ha
  go_enter Tryz.func84,Tryz.ntmps84
  go_wp2_with (at_builtin;refine wpList_append_own _ rfl _ _ 31 rfl w.heap.size 101 i0 (.agg #[.int .i64 0,.int .i64 0,.int .i64 0,.int .i64 0,.int .i64 0,.int .i64 0]) 6 48 Tryz.underlying31 HI.out.1 HI.out.2.1 HI.out.2.2.1 HI.out.2.2.2 rfl (by decide) _ 0 [] rfl (World.ownsRow_made w #[] 0 (Nat.le_refl _) (by decide) (by simp)) p n c cs rfl ?c1 ?c2 ?c3 ?c4 ?c5 ?c6 ?_)
  case c1=>exact HL.out
  case c2=>exact fun j u hj=>a_J _ (HS.out p rfl j u hj)
  case c3=>exact H1.out
  case c4=>unfold maxLen;omega
  case c5=>omega
  case c6=>simp
  intro v' w1 hown' hgrow _;have hb':=((Below.refl w.heap.size w).alloc (Nat.le_refl _) (.cells #[] 101)).grown hgrow (by simp) (fun r hr=>by cases hr;simp);have ⟨HO,HB⟩:=hh2 hown' hb';clear hown' hb' hgrow
  go_wp2
  go_ret
  exact d_x HO.out HB.out
theorem n_S:(Tryz.prog.info? 55).map (fun i=>(i.zero,i.size,i.bytes))=some (some (.slice none 0 0),1,24):=by kernel_rfl
theorem h_G (a:Option Addr) (n c:Nat) (cs:List Value) (w:World) (hl:cs.length=n*1) (hs:∀ p,a=some p→∀ j u,cs[j]?=some u→w.cell? (p.add j)=some u) (h1:∀ u∈cs,u.oneCell'=true) (ha:a=none→n=0) (hn:n≤1000000) :
  Calls Tryz.prog 86 #[.slice a n c] w (f_y 55 1 n cs w):=by
 obtain ⟨i0,hi,hz0,hz1,hz2⟩:=info_parts n_S;have HI:=N29;have ⟨HL,HS,H1⟩:=hh3 hl hs h1;have q:=fun w=>c_C 28 55 a n c Tryz.underlying28 w
 clear hi hz0 hz1 hz2 hl hs h1
 cases a with
 | none =>
  obtain rfl:n=0:=ha rfl;obtain rfl:cs=[]:=List.eq_nil_of_length_eq_zero (by have:=HL.out;omega);clear ha hn
  go_enter Tryz.func86,Tryz.ntmps86
  exact J53
 | some p =>
  clear ha
  go_enter Tryz.func86,Tryz.ntmps86
  go_wp2_with (at_builtin;refine wpList_append_own _ rfl _ _ 28 rfl w.heap.size 55 i0 (.slice none 0 0) 1 24 Tryz.underlying28 HI.out.1 HI.out.2.1 HI.out.2.2.1 HI.out.2.2.2 rfl (by decide) _ 0 [] rfl (World.ownsRow_made w #[] 0 (Nat.le_refl _) (by decide) (by simp)) p n c cs rfl ?c1 ?c2 ?c3 ?c4 ?c5 ?c6 ?_)
  case c1=>exact HL.out
  case c2=>exact fun j u hj=>a_J _ (HS.out p rfl j u hj)
  case c3=>exact H1.out
  case c4=>unfold maxLen;omega
  case c5=>omega
  case c6=>simp
  intro v' w1 hown' hgrow _;have hb':=((Below.refl w.heap.size w).alloc (Nat.le_refl _) (.cells #[] 55)).grown hgrow (by simp) (fun r hr=>by cases hr;simp);have ⟨HO,HB⟩:=hh2 hown' hb';clear hown' hb' hgrow
  go_wp2
  go_ret
  exact d_x HO.out HB.out
theorem p_g:(Tryz.prog.info? 46).map (fun i=>(i.zero,i.size,i.bytes))=some (some (.agg thN.toArray),13,136):=by kernel_rfl
theorem i_C (a:Option Addr) (n c:Nat) (cs:List Value) (w:World) (hl:cs.length=n*13) (hs:∀ p,a=some p→∀ j u,cs[j]?=some u→w.cell? (p.add j)=some u) (h1:∀ u∈cs,u.oneCell'=true) (ha:a=none→n=0) (hn:n≤1000000) :
  Calls Tryz.prog 87 #[.slice a n c] w (f_y 46 13 n cs w):=by
 obtain ⟨i0,hi,hz0,hz1,hz2⟩:=info_parts p_g;have HI:=N29;have ⟨HL,HS,H1⟩:=hh3 hl hs h1;have q:=fun w=>c_C 24 46 a n c Tryz.underlying24 w
 clear hi hz0 hz1 hz2 hl hs h1
 cases a with
 | none =>
  obtain rfl:n=0:=ha rfl;obtain rfl:cs=[]:=List.eq_nil_of_length_eq_zero (by have:=HL.out;omega);clear ha hn
  go_enter Tryz.func87,Tryz.ntmps87
  exact J53
 | some p =>
  clear ha
  go_enter Tryz.func87,Tryz.ntmps87
  go_wp2_with (at_builtin;refine wpList_append_own _ rfl _ _ 24 rfl w.heap.size 46 i0 (.agg thN.toArray) 13 136 Tryz.underlying24 HI.out.1 HI.out.2.1 HI.out.2.2.1 HI.out.2.2.2 rfl (by decide) _ 0 [] rfl (World.ownsRow_made w #[] 0 (Nat.le_refl _) (by decide) (by simp)) p n c cs rfl ?c1 ?c2 ?c3 ?c4 ?c5 ?c6 ?_)
  case c1=>exact HL.out
  case c2=>exact fun j u hj=>a_J _ (HS.out p rfl j u hj)
  case c3=>exact H1.out
  case c4=>unfold maxLen;omega
  case c5=>omega
  case c6=>simp
  intro v' w1 hown' hgrow _;have hb':=((Below.refl w.heap.size w).alloc (Nat.le_refl _) (.cells #[] 46)).grown hgrow (by simp) (fun r hr=>by cases hr;simp);have ⟨HO,HB⟩:=hh2 hown' hb';clear hown' hb' hgrow
  go_wp2
  go_ret
  exact d_x HO.out HB.out
end Go.Proofs.YtolabfafgbmdbaaGreatDoor
namespace Go.Proofs.YtolabfafgbmdbaaGreatDoor
open Go.ChangeShapes Go.WideShapes Go.ChangeAt Go.RowKit
open Gen
theorem h_l {α:Type} {r:Rep α} {Q:Nat→Prop} {w:World} {a:Option Addr} {n:Nat} {ys:List α} (h:Vs r Q w a n ys):∃ cs,c_m r Q w cs ys∧∀ p,a=some p→∀ j u,cs[j]?=some u→w.cell? (p.add j)=some u:=by
 obtain ⟨h1,h2⟩:=h
 rcases h2 with h2 | ⟨b,o,e,-,f⟩
 ·obtain rfl:ys=[]:=List.eq_nil_of_length_eq_zero (by omega);exact ⟨[],rfl,fun p _ j u hj=>by simp at hj⟩
 ·have key:∀ k,k≤ys.length→∃ cs,c_m r Q w cs (ys.take k)∧∀ j u,cs[j]?=some u→w.cell? ⟨b,o+j,none⟩=some u:=by
   intro k
   induction k with
   | zero=>exact fun _=>⟨[],rfl,fun j u hj=>by simp at hj⟩
   | succ k ih =>
    intro hk;obtain ⟨cs,i1,i2⟩:=ih (by omega);obtain ⟨c,j1,j2⟩:=f k ys[k] (List.getElem?_eq_getElem hk);refine ⟨cs++c,?_,fun j u hj=>?_⟩
    ·rw [List.take_succ_eq_append_getElem hk];exact d_z j1 i1
    ·have hl:=a_M i1;rw [List.length_take,Nat.min_eq_left (by omega)] at hl
     by_cases hjc:j < cs.length
     ·rw [List.getElem?_append_left hjc] at hj;exact i2 j u hj
     ·rw [List.getElem?_append_right (by omega)] at hj;have:=j2 _ u hj;rw [show o+j=o+k*r.k+(j - cs.length) by omega];exact this
  obtain ⟨cs,i1,i2⟩:=key ys.length (Nat.le_refl _);rw [List.take_length] at i1;refine ⟨cs,i1,fun p hp j u hj=>?_⟩;rw [e] at hp
  cases hp
  rw [Gen.add_plain];exact i2 j u hj
theorem e_R {α:Type} {r:Rep α} {Q:Nat→Prop} {w:World}:∀ {ys:List α} {cs:List Value},cs.length=ys.length*r.k→(∀ i y,ys[i]?=some y→∃ c,r.R Q w c y∧∀ j v,c[j]?=some v→cs[i*r.k+j]?=some v)→c_m r Q w cs ys
 | [],cs,hl,_=>List.eq_nil_of_length_eq_zero (by simpa using hl)
 | y::ys,cs,hl,h=>by
  obtain ⟨c,h1,h2⟩:=h 0 y rfl;have hc:=r.len h1;have hl2:cs.length=r.k+ys.length*r.k:=by rw [hl,List.length_cons,Nat.succ_mul,Nat.add_comm]
  have e:c=cs.take r.k:=by
   apply List.ext_getElem?
   intro j;rw [List.getElem?_take]
   by_cases hj:j < r.k
   ·rw [if_pos hj,List.getElem?_eq_getElem (show j < c.length by omega)];have:=h2 j _ (List.getElem?_eq_getElem (show j < c.length by omega));rw [Nat.zero_mul,Nat.zero_add] at this;exact this.symm
   ·rw [if_neg hj,List.getElem?_eq_none (by omega)]
  refine ⟨cs.take r.k,cs.drop r.k,(List.take_append_drop _ _).symm,e▸h1,e_R (by rw [List.length_drop];omega) (fun i z hz=>?_)⟩;obtain ⟨d,d1,d2⟩:=h (i+1) z (by simpa using hz);refine ⟨d,d1,fun j v hj=>?_⟩;rw [List.getElem?_drop,show r.k+(i*r.k+j)=(i+1)*r.k+j by rw [Nat.succ_mul];omega];exact d2 j v hj
theorem f_I {Q:Nat→Prop} {w:World}:∀ {ts:List Thr} {cs:List Value},c_m repTh Q w cs ts→∀ u∈cs,u.oneCell'=true
 | [],cs,h=>by rw [show cs=[] from h];intro u hu;cases hu
 | _::_,_,⟨c,d,e,⟨_,_,_,_,h1,_⟩,h2⟩=>by
  intro u hu;rw [e] at hu
  rcases List.mem_append.1 hu with h3 | h3
  ·rw [h1] at h3;exact i_7 _ _ _ _ _ _ _ u h3
  ·exact f_I h2 u h3
theorem d_y {Q:Nat→Prop} {w:World}:∀ {is:List Ins} {cs:List Value},c_m repIns Q w cs is→∀ u∈cs,u.oneCell'=true
 | [],cs,h=>by rw [show cs=[] from h];intro u hu;cases hu
 | i::_,_,⟨c,d,e,h1,h2⟩=>by
  intro u hu;rw [e] at hu
  rcases List.mem_append.1 hu with h3 | h3
  ·rw [show c=i_Q i from h1] at h3;simp [i_Q] at h3;rcases h3 with rfl | rfl | rfl | rfl <;> rfl
  ·exact d_y h2 u h3
theorem j_6 {w:World} {a:Option Addr} {n:Nat} {zs:List Int} (h:Sl w a n zs):∀ p,a=some p→∀ j u,(zs.map (Value.int .i64))[j]?=some u→w.cell? (p.add j)=some u:=by
 intro p hp j u hj
 rcases h.2 with h2 | ⟨b,o,e,R⟩
 ·have:zs=[]:=List.eq_nil_of_length_eq_zero (by have:=h.1;omega);subst this;simp at hj
 ·rw [e] at hp;cases hp;rw [Gen.add_plain];have hl:j < zs.length:=by have:=(List.getElem?_eq_some_iff.1 hj).1;simpa using this
  rw [R j hl];rw [List.getElem?_map,List.getElem?_eq_getElem hl] at hj;rw [List.getD_eq_getElem?_getD,List.getElem?_eq_getElem hl];exact hj
theorem l_4 (zs:List Int):∀ u∈zs.map (Value.int .i64),u.oneCell'=true:=by
 intro u hu;obtain ⟨z,_,rfl⟩:=List.mem_map.1 hu
 rfl
def BAt (Q:Nat→Prop) (w:World) (cs:List Value) (i:Nat) (b:List (Int×Int)):Prop:=∃ q c,cs[i]?=some (.slice q b.length c)∧c_0 q b.length c∧PlQ Q w q b.length b
theorem o_2 {Q:Nat→Prop} {w:World} {a:Option Addr} {n:Nat} {bs:List (List (Int×Int))} (h:BlP Q w a n bs):∃ cs:List Value,cs.length=n∧(∀ p,a=some p→∀ j u,cs[j]?=some u→w.cell? (p.add j)=some u)∧(∀ i b,bs[i]?=some b→BAt Q w cs i b)∧∀ u∈cs,u.oneCell'=true:=by
 obtain ⟨h1,h2⟩:=h
 rcases h2 with h2 | ⟨b,o,e,-,f⟩
 ·obtain rfl:bs=[]:=List.eq_nil_of_length_eq_zero (by omega);exact ⟨[],by simp;omega,fun p _ j u hj=>by simp at hj,fun i b hb=>by simp at hb,fun u hu=>by cases hu⟩
 ·have hc:∀ i,i < n→∃ q c,w.cell? ⟨b,o+i,none⟩=some (.slice q (bs.getD i []).length c)∧c_0 q (bs.getD i []).length c∧PlQ Q w q (bs.getD i []).length (bs.getD i []):=fun i hi=>f i (by omega)
  refine ⟨(List.range n).map (fun i=>(w.cell? ⟨b,o+i,none⟩).getD undef),by simp,fun p hp j u hj=>?_,fun i y hy=>?_,fun u hu=>?_⟩
  ·rw [e] at hp;cases hp;have hj2:j < n:=by have:=(List.getElem?_eq_some_iff.1 hj).1;simpa using this
   obtain ⟨q,c,k1,-,-⟩:=hc j hj2;rw [List.getElem?_map,List.getElem?_range hj2] at hj;rw [Gen.add_plain,k1]
   simpa [k1] using hj
  ·have hi:=(List.getElem?_eq_some_iff.1 hy).1;obtain ⟨q,c,k1,k2,k3⟩:=hc i (by omega);have e2:bs.getD i []=y:=by rw [List.getD_eq_getElem?_getD,hy];rfl
   rw [e2] at k1 k2 k3;exact ⟨q,c,by rw [List.getElem?_map,List.getElem?_range (by omega)];simp [k1],k2,k3⟩
  ·obtain ⟨i,hi,rfl⟩:=List.mem_map.1 hu;obtain ⟨q,c,k1,-,-⟩:=hc i (by simpa using hi);rw [k1];rfl
def l_c (k:Nat) (Qn Qo:Nat→Prop) (w:World) (ts:List Thr) (TC:List Value):Prop:=TC.length=ts.length*13∧∀ i t,ts[i]?=some t→∃ fa fc la lc,(∀ j v,(thC t fa t.fs.length fc la t.lf.length lc)[j]?=some v→TC[i*13+j]?=some v)∧ThQ (if i < k then Qn else Qo) w fa t.fs.length fc la t.lf.length lc t
def m_8 (k:Nat) (Qn Qo:Nat→Prop) (w:World) (bs:List (List (Int×Int))) (BC:List Value):Prop:=BC.length=bs.length∧∀ i b,bs[i]?=some b→BAt (if i < k then Qn else Qo) w BC i b
theorem e_s {k:Nat} {Qn Qo:Nat→Prop} {w w':World} {ts:List Thr} {TC:List Value} (h1:c_n Qn w w') (h2:c_n Qo w w') (h:l_c k Qn Qo w ts TC):l_c k Qn Qo w' ts TC:=⟨h.1,fun i t ht=>by
 obtain ⟨fa,fc,la,lc,a,b⟩:=h.2 i t ht;refine ⟨fa,fc,la,lc,a,a_9 ?_ b⟩
 split
 ·exact h1
 ·exact h2⟩
theorem e_r {k:Nat} {Qn Qo:Nat→Prop} {w w':World} {bs:List (List (Int×Int))} {BC:List Value} (h1:c_n Qn w w') (h2:c_n Qo w w') (h:m_8 k Qn Qo w bs BC):m_8 k Qn Qo w' bs BC:=⟨h.1,fun i t ht=>by
 obtain ⟨q,c,a,b,d⟩:=h.2 i t ht;refine ⟨q,c,a,b,d.1,d.2.imp id fun ⟨b,o,e,hq,r⟩=>⟨b,o,e,hq,fun j hj=>?_⟩⟩
 split at hq
 ·exact ⟨h1 _ _ _ hq (r j hj).1,h1 _ _ _ hq (r j hj).2⟩
 ·exact ⟨h2 _ _ _ hq (r j hj).1,h2 _ _ _ hq (r j hj).2⟩⟩
theorem n_1 {k:Nat} {Qn Qo:Nat→Prop} {w:World} {ts:List Thr} {TC:List Value} {t:Thr} {a b:Option Addr} {c d:Nat} (h:l_c k Qn Qo w ts TC) (ht:ts[k]?=some t) (ca:Cap a t.fs.length c) (va:Vs repFr Qn w a t.fs.length t.fs) (cb:Cap b t.lf.length d) (vb:Vs repInt Qn w b t.lf.length t.lf) :
  l_c (k+1) Qn Qo w ts ((TC.set (k*13+9) (.slice a t.fs.length c)).set (k*13+12) (.slice b t.lf.length d)):=by
 have hk:=(List.getElem?_eq_some_iff.1 ht).1;refine ⟨by simp [h.1],fun i u hu=>?_⟩;obtain ⟨fa,fc,la,lc,h1,h2⟩:=h.2 i u hu;have hi:=(List.getElem?_eq_some_iff.1 hu).1
 by_cases e:i=k
 ·subst e;rw [ht] at hu;cases hu;refine ⟨a,c,b,d,fun j v hj=>?_,by rw [if_pos (by omega)];exact ⟨ca,va,cb,vb⟩⟩;have hj13:j < 13:=(List.getElem?_eq_some_iff.1 hj).1;have hl:=h.1;rw [List.getElem?_set,List.getElem?_set]
  by_cases e12:j=12
  ·subst e12;rw [if_pos rfl,if_pos (by simp;omega)];exact hj
  ·rw [if_neg (by omega)]
   by_cases e9:j=9
   ·subst e9;rw [if_pos rfl,if_pos (by omega)];exact hj
   ·rw [if_neg (by omega)];refine h1 j v ?_;rw [←hj]
    rcases (show j=0∨j=1∨j=2∨j=3∨j=4∨j=5∨j=6∨j=7∨j=8∨j=10∨j=11 by omega) with rfl | rfl | rfl | rfl | rfl | rfl | rfl | rfl | rfl | rfl | rfl <;> rfl
 ·refine ⟨fa,fc,la,lc,fun j v hj=>?_,?_⟩
  ·have hj13:j < 13:=(List.getElem?_eq_some_iff.1 hj).1;rw [List.getElem?_set,List.getElem?_set,if_neg (by omega),if_neg (by omega)];exact h1 j v hj
  ·by_cases e2:i < k
   ·rw [if_pos e2] at h2;rw [if_pos (by omega)];exact h2
   ·rw [if_neg e2] at h2;rw [if_neg (by omega)];exact h2
theorem n_Z {k:Nat} {Qn Qo:Nat→Prop} {w:World} {bs:List (List (Int×Int))} {BC:List Value} {x:List (Int×Int)} {q:Option Addr} {c:Nat} (h:m_8 k Qn Qo w bs BC) (hx:bs[k]?=some x) (hc:c_0 q x.length c) (hp:PlQ Qn w q x.length x) :
  m_8 (k+1) Qn Qo w bs (BC.set k (.slice q x.length c)):=by
 have hk:=(List.getElem?_eq_some_iff.1 hx).1;refine ⟨by simp [h.1],fun i u hu=>?_⟩
 by_cases e:i=k
 ·subst e;rw [hx] at hu;cases hu;exact ⟨q,c,by rw [List.getElem?_set_self (by rw [h.1];exact hk)],hc,by rw [if_pos (by omega)];exact hp⟩
 ·obtain ⟨q2,c2,h1,h2,h3⟩:=h.2 i u hu;refine ⟨q2,c2,by rw [List.getElem?_set_ne (fun h=>e h.symm)];exact h1,h2,?_⟩
  by_cases e2:i < k
  ·rw [if_pos e2] at h3;rw [if_pos (by omega)];exact h3
  ·rw [if_neg e2] at h3;rw [if_neg (by omega)];exact h3
theorem l_9 {k:Nat} {Q Qn Qo:Nat→Prop} {w:World} {ts:List Thr} {TC:List Value} (h:l_c k Qn Qo w ts TC) (hk:ts.length≤k) (hQ:∀ b,Qn b→Q b):c_m repTh Q w TC ts:=
 e_R (r:=repTh) h.1 fun i t ht=>by
  obtain ⟨fa,fc,la,lc,a,b⟩:=h.2 i t ht;have hi:=(List.getElem?_eq_some_iff.1 ht).1;rw [if_pos (by omega)] at b;exact ⟨_,⟨fa,fc,la,lc,rfl,c_b hQ b⟩,a⟩
theorem p_o {k:Nat} {Q Qn Qo:Nat→Prop} {w:World} {bs:List (List (Int×Int))} {BC:List Value} {g:Nat} (h:m_8 k Qn Qo w bs BC) (hk:bs.length≤k) (hQ:∀ b,Qn b→Q b) (hg:Q g) (hv:a_p w g BC):BlP Q w (some ⟨g,0,none⟩) bs.length bs:=
 ⟨rfl,.inr ⟨g,0,rfl,hg,fun i hi=>by
  obtain ⟨q,c,a,b,d⟩:=h.2 i _ (List.getElem?_eq_getElem hi);rw [if_pos (by omega)] at d;have e:bs.getD i []=bs[i]:=by rw [List.getD_eq_getElem?_getD,List.getElem?_eq_getElem hi];rfl
  rw [e];refine ⟨q,c,?_,b,d.1,d.2.imp id fun ⟨b,o,e,hq,r⟩=>⟨b,o,e,hQ _ hq,r⟩⟩;rw [Nat.zero_add];exact (hv i _ a).1⟩⟩
end Go.Proofs.YtolabfafgbmdbaaGreatDoor
