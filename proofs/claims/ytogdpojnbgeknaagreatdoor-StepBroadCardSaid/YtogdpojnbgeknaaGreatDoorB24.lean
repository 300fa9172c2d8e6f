import Derived.Test.YtogdpojnbgeknaaGreatDoorB19
import Derived.Test.YtogdpojnbgeknaaGreatDoorB20
import Derived.Test.YtogdpojnbgeknaaGreatDoorB11
import Derived.Test.YtogdpojnbgeknaaGreatDoorB23
import Derived.Test.YtogdpojnbgeknaaGreatDoorB0
import Derived.Test.YtogdpojnbgeknaaGreatDoorB4
import Derived.Test.YtogdpojnbgeknaaGreatDoorB3
import Derived.Test.YtogdpojnbgeknaaGreatDoorB15
import Derived.Test.YtogdpojnbgeknaaGreatDoorB18
import Derived.StillTailTactics
import Derived.Deep.QuietTactic
set_option maxRecDepth 100000
set_option maxHeartbeats 16000000
namespace Go.Proofs.YtogdpojnbgeknaaGreatDoor
open Go.ChangeShapes Go.WideShapes Go.ChangeAt Go.RowKit
open Gen
open Lib (hid)
def r_7 (code:List Ins) (ws ts:List Int):Bool:=b_U (code.take 60)&&d_g (ws.take 170) (ts.take 170)
def wC8 (code:List Ins) (ws ts:List Int):List Ins:=if r_7 code ws ts=true then code.take 60 else []
def wW8 (code:List Ins) (ws ts:List Int):List Int:=if r_7 code ws ts=true then ws.take 170 else [0]
def wT8 (code:List Ins) (ws ts:List Int):List Int:=if r_7 code ws ts=true then ts.take 170 else [0]
def wA8 (n:Nat) (starts:List Int):List Int:=if starts.length=0 then [0] else (starts.take 8).map (p_2 n)
def s_j (N:Nat) (l:List Int) (j:Nat):List Int:=(l.take j).map (p_2 N)
def wD8 (d:Int):Int:=((d.tmod 9)+9).tmod 9
def m_y (code:List Ins) (starts ws ts:List Int) (d:Int):Wo:=l_b (wC8 code ws ts) (wA8 (wC8 code ws ts).length starts) (wW8 code ws ts) (wT8 code ws ts) (wD8 d)
def k_m (code:List Ins) (starts ws ts:List Int) (d:Int) (acts:List (Int×Int)):Wo:=j_4 (m_y code starts ws ts d) (acts.take 80)
def q_h (bl:Bool) (h nV:Nat) (C A M:Value) (d1 d2 d3 dz aN aM:Int) (av A2:Value) (X0 Y:Wo) (rn:Nat):b_v:=[isV 0 (C),isV 1 (A),isV 2 (M),isV 3 (.int .i64 d1),isV 4 (.int .i64 d2),isV 5 (.int .i64 d3),isV 6 (.int .i64 dz),([7],fun vz w=>∃ L,vz=[woV L X0.D]∧(bl=false→RWo (fun b=>b≠h) w L X0)),isV 8 (av),isV 9 (av),isV 10 (.int .i64 aN),isV 11 (.int .i64 aM),isV 12 (A2),([13],fun vz w=>∃ L,vz=[(.tuple #[woV L Y.D,.int .i64 rn])]∧RWo (fun b=>b≠h) w L Y),([14,13],fun vz _=>∃ L,vz=[(.tuple #[woV L Y.D,.int .i64 rn]),(.tuple #[woV L Y.D,.int .i64 rn])]),([15,13],fun vz _=>∃ L,vz=[woV L Y.D,(.tuple #[woV L Y.D,.int .i64 rn])]),isV 16 (.int .i64 rn),([17],fun vz w=>∃ g,vz=[.pointer (some ⟨g,0,none⟩)]∧nV≤g∧∃ xs,a_p w g xs∧xs.length=7),([17,13],fun vz w=>∃ g L,vz=[.pointer (some ⟨g,0,none⟩),(.tuple #[woV L Y.D,.int .i64 rn])]∧nV≤g∧a_p w g (woC L Y.D)∧RWo (fun b=>b≠h) w L Y),isV 19 (.int .i64 rn)]
theorem q_O (bl:Bool) (h nV:Nat) (C A M:Value) (d1 d2 d3 dz aN aM:Int) (av A2:Value) (X0 Y:Wo) (rn:Nat):c_q (q_h bl h nV C A M d1 d2 d3 dz aN aM av A2 X0 Y rn):=a_d<|a_d<|a_d<|a_d<|a_d<|a_d<|a_d<|a_w (fun _ _ _ hb h=>by obtain ⟨L,h1,h2⟩:=h;exact ⟨L,h1,fun e=>b_q hb (h2 e)⟩)<|a_d<|a_d<|a_d<|a_d<|a_d<|a_w (fun _ _ _ hb h=>by obtain ⟨L,h1,h2⟩:=h;exact ⟨L,h1,b_q hb h2⟩)<|a_w (fun _ _ _ _ h=>h)<|a_w (fun _ _ _ _ h=>h)<|a_d<|a_w (fun _ _ _ hb h=>by obtain ⟨g,h1,h2,xs,h3,h4⟩:=h;exact ⟨g,h1,h2,xs,a_h hb h3,h4⟩)<|a_w (fun _ _ _ hb h=>by obtain ⟨g,L,h1,h2,h3,h4⟩:=h;exact ⟨g,L,h1,h2,a_h hb h3,b_q hb h4⟩)<|a_d<|b_B
theorem b_9 (bl:Bool) (h nV:Nat) (C A M:Value) (d1 d2 d3 dz aN aM:Int) (av A2:Value) (X0 Y:Wo) (rn:Nat) (j:Nat):a_V (q_h bl h nV C A M d1 d2 d3 dz aN aM av A2 X0 Y rn) j=a_V (q_h false h nV C A M d1 d2 d3 dz aN aM av A2 X0 Y rn) j:=q_y (show (q_h bl h nV C A M d1 d2 d3 dz aN aM av A2 X0 Y rn).map Prod.fst=(q_h false h nV C A M d1 d2 d3 dz aN aM av A2 X0 Y rn).map Prod.fst from rfl) j
theorem s_K (bl:Bool) (h nV:Nat) (C A M:Value) (d1 d2 d3 dz aN aM:Int) (av A2:Value) (X0 Y:Wo) (rn:Nat) (bl':Bool):∀ jz args wz wz',jz≠7→jz≠13→jz≠17→jz≠18→b_E (q_h bl h nV C A M d1 d2 d3 dz aN aM av A2 X0 Y rn) jz args wz→b_E (q_h bl' h nV C A M d1 d2 d3 dz aN aM av A2 X0 Y rn) jz args wz':=by
 intro jz args wz wz' n7 n13 n17 n18 h
 match jz with
 | 0=>exact h
 | 1=>exact h
 | 2=>exact h
 | 3=>exact h
 | 4=>exact h
 | 5=>exact h
 | 6=>exact h
 | 7=>exact absurd rfl n7
 | 8=>exact h
 | 9=>exact h
 | 10=>exact h
 | 11=>exact h
 | 12=>exact h
 | 13=>exact absurd rfl n13
 | 14=>exact h
 | 15=>exact h
 | 16=>exact h
 | 17=>exact absurd rfl n17
 | 18=>exact absurd rfl n18
 | 19=>exact h
 | _+20=>exact trivial
def u_y (h:Nat) (X0:Wo):e_H:=fun x y w=>∃ L g,x=woV L X0.D∧y=.pointer (some ⟨g,0,none⟩)∧RWo (fun b=>b≠h∧b≠g) w L X0
def u_O (h:Nat) (Y:Wo) (rn:Nat):e_H:=fun x y w=>∃ L g,x=.tuple #[woV L Y.D,.int .i64 rn]∧y=.pointer (some ⟨g,0,none⟩)∧RWo (fun b=>b≠h∧b≠g) w L Y
theorem s_c {h:Nat} {X0:Wo} {x y:Value} {w w':World} (hb:Below w.heap.size w w') (hq:u_y h X0 x y w):u_y h X0 x y w':=by
 obtain ⟨L,g,h1,h2,h3⟩:=hq;exact ⟨L,g,h1,h2,b_q hb h3⟩
theorem u_i {h:Nat} {Y:Wo} {rn:Nat} {x y:Value} {w w':World} (hb:Below w.heap.size w w') (hq:u_O h Y rn x y w):u_O h Y rn x y w':=by
 obtain ⟨L,g,h1,h2,h3⟩:=hq;exact ⟨L,g,h1,h2,b_q hb h3⟩
theorem p_X {L L':WoL} {D:Int} (h:woV L D=woV L' D):L=L':=by
 obtain ⟨⟨a1,a2,a3⟩,⟨b1,b2,b3⟩,⟨c1,c2,c3⟩,⟨d1,d2,d3⟩,⟨e1,e2,e3⟩,⟨f1,f2,f3⟩⟩:=L;obtain ⟨⟨a1',a2',a3'⟩,⟨b1',b2',b3'⟩,⟨c1',c2',c3'⟩,⟨d1',d2',d3'⟩,⟨e1',e2',e3'⟩,⟨f1',f2',f3'⟩⟩:=L';simp only [woV,Value.agg.injEq,Array.mk.injEq,List.cons.injEq,Value.slice.injEq] at h;obtain ⟨⟨rfl,rfl,rfl⟩,⟨rfl,rfl,rfl⟩,⟨rfl,rfl,rfl⟩,-,⟨rfl,rfl,rfl⟩,⟨rfl,rfl,rfl⟩,⟨rfl,rfl,rfl⟩,-⟩:=h
 rfl
theorem p_P (d:Int) {z:Int} (h:wD8 d=z):0≤z∧z≤8:=by
 subst h;have h1:=Int.tmod_lt_of_pos d (show (0:Int) < 9 by omega);have h2:-(9:Int) < d.tmod 9:=Int.lt_tmod_of_pos _ (by omega);have h3:=Int.tmod_nonneg (9:Int) (a:=d.tmod 9+9) (by omega);have h4:=Int.tmod_lt_of_pos (d.tmod 9+9) (show (0:Int) < 9 by omega);unfold wD8
 omega
theorem i_f {code:List Ins} {starts ws ts:List Int} {d:Int} (hwf:∀ i∈code,W64 i.2.1∧W64 i.2.2.1∧W64 i.2.2.2) (hww:∀ z∈ws,W64 z):OkW (m_y code starts ws ts d) 0:=by
 have hA:1≤(wA8 (wC8 code ws ts).length starts).length∧(wA8 (wC8 code ws ts).length starts).length≤8:=by
  unfold wA8
  split
  ·exact ⟨Nat.le_refl _,by simp⟩
  ·rename_i h
   rw [List.length_map,List.length_take];omega
 have hS:∀ s∈wA8 (wC8 code ws ts).length starts,0≤s∧s≤(wC8 code ws ts).length:=by
  intro s hs;unfold wA8 at hs
  split at hs
  ·simp at hs;subst hs;omega
  ·obtain ⟨z,-,rfl⟩:=List.mem_map.1 hs;exact o_B _ _
 by_cases h:r_7 code ws ts=true
 ·have h2:=h;simp only [r_7,Bool.and_eq_true] at h2;refine o_7 ?_ ?_ hA (p_P d rfl) hS ?_ ?_
  ·rw [wC8,if_pos h];exact h2.1
  ·rw [wW8,wT8,if_pos h,if_pos h];exact h2.2
  ·rw [wC8,if_pos h];exact fun i hi=>hwf i (List.mem_of_mem_take hi)
  ·rw [wW8,if_pos h];exact fun z hz=>hww z (List.mem_of_mem_take hz)
 ·refine o_7 ?_ ?_ hA (p_P d rfl) hS ?_ ?_
  ·rw [wC8,if_neg h];decide
  ·rw [wW8,wT8,if_neg h,if_neg h];decide
  ·rw [wC8,if_neg h];intro i hi;exact absurd hi List.not_mem_nil
  ·rw [wW8,if_neg h];intro z hz;rw [List.mem_singleton.1 hz];exact e_b
theorem m_o {Q:Nat→Prop} {w:World} {a:Option Addr} {n:Nat} {zs:List Int} (h:SlP Q w a n zs):SlP (fun b=>Q b∧b < w.heap.size) w a n zs:=by
 refine ⟨h.1,?_⟩
 by_cases h0:n=0
 ·exact .inl h0
 ·obtain ⟨b,o,e,hq,r⟩:=h.2.resolve_left h0;exact .inr ⟨b,o,e,⟨hq,b_d (r 0 (by have:=h.1;omega))⟩,r⟩
theorem f_w {Z w1 w2:World} (h:Below Z.heap.size Z w1) (h2:Below w1.heap.size w1 w2):Below Z.heap.size Z w2:=h.trans (h2.mono h.size)
theorem i_3 {w:World} {a:Option Addr} {n k:Nat} {fs:List Int} (S:Sl w a n fs) (hk:k≤n):Sl w a k (fs.take k):=by
 have hn:=S.1;refine ⟨by rw [List.length_take];omega,?_⟩
 by_cases h0:k=0
 ·exact .inl h0
 ·obtain ⟨b,o,e,R⟩:=N179;refine .inr ⟨b,o,e,fun i hi=>?_⟩;rw [List.length_take] at hi;rw [R i (by omega)];simp [List.getD_eq_getElem?_getD,show i < k by omega]
theorem f_3 {α:Type} {l:List α} {n k:Nat} (h:l.length=n):l.take (min n k)=l.take k:=by
 rcases Nat.le_total n k with h1 | h1
 ·rw [Nat.min_eq_left h1,List.take_of_length_le (by omega),List.take_of_length_le (by omega)]
 ·rw [Nat.min_eq_right h1]
theorem o_E:(Tryz.prog.info? 66).map (fun i=>(i.zero,i.size,i.bytes))=some (some (.agg #[.int .i64 0,.int .i64 0,.int .i64 0,.int .i64 0]),4,32):=by kernel_rfl
def s_m (B:Nat) (w:World) (q:Option Addr) (d k:Nat) (cs:List Ins):Prop:=w.ownsRow B 66 4 (.slice q k d) k (cs.flatMap d_S)∧cs.length=k
def u_D (w:World) (g:Nat) (cs:List Ins) (ws ts:List Int) (v:Value) (wx:World):Prop:=
 ∃ (q:Option Addr) (n d:Nat),v=.slice q n d∧Cap q n d∧Vs repIns (fun b=>b≠w.heap.size) wx q n cs∧∃ (ma:Option Addr) (mn mc:Nat) (na:Option Addr) (nn nc:Nat),a_p wx g [.slice ma mn mc,.slice na nn nc]∧SlP (fun b=>b≠w.heap.size) wx ma mn ws∧SlP (fun b=>b≠w.heap.size) wx na nn ts∧a_p wx w.heap.size woZ∧Below w.heap.size w wx
def t_E (B:Nat) (w:World) (v:Value) (k:Nat) (cs:List Ins):Prop:=w.ownsRow B 66 4 v k (cs.flatMap d_S)∧cs.length=k
theorem n_y (ca sa wa ta aa:Option Addr) (cn cc sn sc wn wk tn tc an ac:Nat) (code:List Ins) (starts ws ts:List Int) (d:Int) (acts:List (Int×Int)) (w:World)
  (C:Vs repIns Any w ca cn code) (S:Sl w sa sn starts) (W1:Sl w wa wn ws) (T1:Sl w ta tn ts) (A:Vs e_3 Any w aa an acts) (hc:cn≤cc∧cc≤9223372036854775807) (hs:sn≤sc∧sc≤9223372036854775807) (hw:wn≤wk∧wk≤9223372036854775807) (ht:tn≤tc∧tc≤9223372036854775807) (ha:an≤ac∧ac≤9223372036854775807)
  (hwf:∀ i∈code,W64 i.2.1∧W64 i.2.2.1∧W64 i.2.2.2) (hww:∀ z∈ws,W64 z) :
  Calls Tryz.prog 18 #[.slice ca cn cc,.slice sa sn sc,.slice wa wn wk,.slice ta tn tc,.int .i64 d,.slice aa an ac] w (b_D Any (k_m code starts ws ts d acts) w):=by
 obtain ⟨M,hM⟩:∃ M,min cn 60=M:=⟨_,rfl⟩;have HCL:=hid (show code.length=cn from C.1);obtain ⟨c6,hc6⟩:∃ c6,code.take 60=c6:=⟨_,rfl⟩;have HC6:=hid hc6;have hM1:M≤cn:=by omega
 have hM2:M≤60:=by omega
 have hMc:M≤cc:=by omega
 have hM3:(if (60:Int) < (cn:Int) then (60:Int) else (cn:Int))=(M:Int):=by split <;> omega
 have hM4:min (cn:Int) 60=(M:Int):=by omega
 have HC:=hid (show Vs repIns Any w ca M c6 by rw [←hc6,←f_3 (n:=cn) C.1,hM];exact j_b C M hM1);obtain ⟨i0,ki,kz0,kz1,kz2⟩:=info_parts o_E;have HI:=N73;obtain ⟨W,hW⟩:=nm (w.alloc (Obj.cells woZ.toArray 33));have HZ:=hid (show a_p W w.heap.size woZ by rw [hW];exact a_e woZ _ rfl);have HB:=N3;have HSZ:=N149;have HW:=hid hW;clear hW hc6 hM C ki kz0 kz1 kz2
 go_enter Tryz.func18,Tryz.ntmps18
 go_upto_region 1 with fail
 rw [←HW.out]
 go_wp2_with fail
 go_loopw [13,29] (fun v ct wr=>∃ (k:Nat) (q:Option Addr) (dd:Nat),k≤M∧ct=.int .i64 k∧v=.slice q k dd∧Hid (s_m W.heap.size wr q dd k (c6.take k))∧Hid (Below W.heap.size W wr)) (fun _ ct _=>M - (intOf ct).toNat)
 case atStart=>exact ⟨0,_,_,Nat.zero_le _,rfl,rfl,⟨World.ownsRow_made W #[] 0 (Nat.le_refl _) (by decide) (by simp),rfl⟩,(Below.refl _ _).alloc (Nat.le_refl _) _⟩
 case round =>
  obtain ⟨k,q,dd,hk,rfl,rfl,ho,hb⟩:=hrel
  by_cases hlt:k < M
  ·obtain ⟨b,o,y,rfl,hy,-,hA⟩:=j_a HC.out hlt;obtain ⟨g0,g1,g2,g3⟩:=r_6 (n_W (Q:=Any) trivial (a_C (HB.out.trans (hb.out.mono HB.out.size))) hA);rw [show repIns.k=4 from rfl] at g0 g1 g2 g3
   have HST:=hid (show c6.take (k+1)=c6.take k++[y] by
    obtain ⟨hk',e⟩:=List.getElem?_eq_some_iff.1 hy;rw [List.take_succ_eq_append_getElem hk',e])
   obtain ⟨y0,y1,y2,y3⟩:=y;dsimp only at g0 g1 g2 g3;have i1:(0:Int)≤k:=by omega
   have i2:(k:Int) < M:=by omega
   have hsz:=hb.out.size;clear hy hA
   go_wp2_with (at_builtin;refine wpList_append_own _ rfl _ _ 22 rfl W.heap.size 66 i0 (.agg #[.int .i64 0,.int .i64 0,.int .i64 0,.int .i64 0]) 4 32 Tryz.underlying22 HI.out.1 HI.out.2.1 HI.out.2.2.1 HI.out.2.2.2 rfl (by decide) _ _ _ rfl ((ho.out.1.alloc _).alloc _) ⟨wr.heap.size+1,0,none⟩ 1 1 (d_S (y0,y1,y2,y3)) rfl rfl ?c1 ?c2 ?c3 ?c4 ?c5 ?_)
   case c1=>intro j u hu;rw [Gen.add_plain,Nat.zero_add];exact (a_e (d_S (y0,y1,y2,y3)) (w:=wr.alloc _) (wr.heap.size+1) (by simp) j u hu).1
   case c2=>simp [d_S,Value.oneCell']
   case c3=>unfold maxLen;omega
   case c4=>omega
   case c5=>simp;omega
   intro v' w1 hown' hgrow _;have HB1:=hid (((hb.out.alloc hsz _).alloc (by simp;omega) _).grown hgrow (by simp;omega) (fun r hr=>(ho.out.1.lt r hr).1));have HO1:=hid (show t_E W.heap.size w1 v' (k+1) (c6.take (k+1)) from ⟨by rw [HST.out,List.flatMap_append];simpa using hown',by rw [HST.out,List.length_append,ho.out.2];rfl⟩);obtain ⟨q',d',rfl⟩:=c_g hown';clear hown' hgrow g0 g1 g2 g3
   go_wp2_with fail
   go_roundw
   case rel=>exact ⟨k+1,q',d',by omega,by go_num,rfl,HO1.out,HB1.out⟩
   case measure=>simp [intOf];omega
  ·obtain rfl:k=M:=by omega
   have HLC:=hid (show c6.length=k from HC.out.1);have HCO:=hid (show s_m W.heap.size wr q dd k c6 by have:=ho.out;rwa [List.take_of_length_le (by rw [HLC.out];omega)] at this);have HBW:=hid (HB.out.trans (hb.out.mono HB.out.size));have HZr:=hid (a_h hb.out HZ.out);have HSW:=hid (show W.heap.size≤wr.heap.size from hb.out.size);clear ho hb
   go_wp2_with fail
   refine (q_2 wa ta wn tn wk tc _ hw ht).mono ?_;rintro e w1 ⟨rfl,hb1⟩;obtain ⟨mw,hmw⟩:∃ m,min wn 170=m:=⟨_,rfl⟩;obtain ⟨mt,hmt⟩:∃ m,min tn 170=m:=⟨_,rfl⟩;rw [hmw,hmt];obtain ⟨w2,hw2⟩:∃ w2,w1.alloc (.cells #[.slice wa mw wk,.slice ta mt tc] 26)=w2:=⟨_,rfl⟩;have hb2:Below wr.heap.size wr w2:=by rw [←hw2];exact hb1.alloc hb1.size _
   have HM2:=hid (show a_p w2 w1.heap.size [.slice wa mw wk,.slice ta mt tc] by rw [←hw2];exact a_e [.slice wa mw wk,.slice ta mt tc] _ rfl);have HB2:=hid (HBW.out.trans (hb2.mono HBW.out.size));have HZ2:=hid (a_h hb2 HZr.out);have HCO2:=hid (show s_m W.heap.size w2 q dd k c6 from ⟨b_a HCO.out.1 hb2,HCO.out.2⟩);have HG2:=hid (show wr.heap.size≤w1.heap.size from hb1.size);have HGZ:=hid (show w1.heap.size < w2.heap.size by rw [←hw2];simp);have HW2:=hid hw2;have hmw2:mw≤wn:=by omega
   have hmt2:mt≤tn:=by omega
   have HWS:=hid (show Sl w wa mw (ws.take 170) by rw [←f_3 (n:=wn) W1.1,hmw];exact i_3 W1 hmw2);have HTS:=hid (show Sl w ta mt (ts.take 170) by rw [←f_3 (n:=tn) T1.1,hmt];exact i_3 T1 hmt2);clear hw2 hb2 hb1;obtain ⟨m0,-⟩:=HM2.out 0 _ rfl;obtain ⟨m1,-⟩:=HM2.out 1 _ rfl
   go_upto_region 8 with fail
   rw [HW2.out];obtain ⟨r5,hr5⟩:∃ r,b_U c6=r:=⟨_,rfl⟩;obtain ⟨r1,hr1⟩:∃ r,d_g (ws.take 170) (ts.take 170)=r:=⟨_,rfl⟩;have ⟨HR5,HR1⟩:=hh2 hr5 hr1;obtain ⟨ok,hok⟩:∃ r,r_7 code ws ts=r:=⟨_,rfl⟩;have HOK:=hid hok;have HOE:=hid (show ok=(r5&&r1) by rw [←hok,r_7,HC6.out,hr5,hr1]);have HGV:=hid (show w.heap.size < w1.heap.size by have:=HSZ.out;have:=HSW.out;have:=HG2.out;omega);have HGW:=hid (show w1.heap.size≠w.heap.size by have:=HGV.out;omega)
   have HVC:=hid (show Vs repIns (fun b=>b≠w.heap.size) w2 q k c6∧Cap q k dd by
    obtain ⟨a,c,e,h1,h2,h3,V⟩:=e_G (r:=repIns) (Q:=fun b=>b≠w.heap.size) HCO2.out.1 (e_U c6) (fun b hb _=>by have:=HSZ.out;omega)
    cases e
    exact ⟨V,h1,h2,h3⟩)
   have HBz:=hid (Below.refl w2.heap.size w2);clear hr5 hr1 hok m0 m1;obtain ⟨m0,-⟩:=HM2.out 0 _ rfl;obtain ⟨m1,-⟩:=HM2.out 1 _ rfl
   go_cut [48] (fun s48 wx=>s48=.bool (!ok)∧Below w2.heap.size w2 wx)
   case first =>
    cases r5 with
    | false =>
     go_wp2_with (go_at_call 11;refine (e_w q k dd c6 _ (d_9 HVC.out.1) (by omega)).mono ?_;rw [HR5.out];rintro e wx ⟨rfl,hbx⟩;have HBX:=hid hbx;clear hbx)
     go_meet
     exact ⟨by rw [HOE.out];rfl,HBX.out⟩
    | true =>
     go_wp2_with fail
     refine (e_w q k dd c6 _ (d_9 HVC.out.1) (by omega)).mono ?_;rw [HR5.out];rintro e wx ⟨rfl,hbx⟩;have z0:=a_t hbx m0;have z1:=a_t hbx m1;have HBX:=hid hbx;clear hbx
     cases r1 with
     | false =>
      exact J63
     | true =>
      exact J63
   case rest =>
    obtain ⟨rfl,hbc⟩:=hcut;have HBC:=hid hbc;have HBW3:=hid (HB2.out.trans (hbc.mono HB2.out.size));have HM3:=hid (a_h hbc HM2.out);have HZ3:=hid (a_h hbc HZ2.out);have HV3:=hid (g_u hbc HVC.out.1);have HGZ3:=hid (show w1.heap.size < wc.heap.size from Nat.lt_of_lt_of_le HGZ.out hbc.size);clear hbc m0 m1
    go_upto_if 48 with fail
    go_cut [13] (fun s13 wx=>u_D w w1.heap.size (wC8 code ws ts) (wW8 code ws ts) (wT8 code ws ts) s13 wx)
    case first =>
     cases ok with
     | true =>
      go_wp2_with fail
      go_meet
      have hC:wC8 code ws ts=c6:=by rw [wC8,if_pos HOK.out,HC6.out]
      refine ⟨q,k,dd,rfl,HVC.out.2,by rw [hC];exact HV3.out,wa,mw,wk,ta,mt,tc,HM3.out,?_,?_,HZ3.out,HBW3.out⟩
      ·rw [wW8,if_pos HOK.out];exact h_R HBW3.out (p_D (fun b hb=>by omega) HWS.out)
      ·rw [wT8,if_pos HOK.out];exact h_R HBW3.out (p_D (fun b hb=>by omega) HTS.out)
     | false =>
      obtain ⟨m0,f0⟩:=HM3.out 0 _ rfl;obtain ⟨m1,f1⟩:=HM3.out 1 _ rfl
      go_wp2_with fail
      refine (n_e 1 _ (by omega)).mono ?_;rintro e w5 ⟨a5,c5,a6,c6',rfl,hs5,hs6,hb5⟩;have HM5:=hid (a_h hb5 HM3.out);have HZ5:=hid (a_h hb5 HZ3.out);have HB5:=hid (HBW3.out.trans (hb5.mono HBW3.out.size));have ⟨HS5,HS6⟩:=hh2 hs5 hs6
      have HCX:=hid (show wC8 code ws ts=[]∧wW8 code ws ts=[0]∧wT8 code ws ts=[0] by
       have h:¬ r_7 code ws ts=true:=by rw [HOK.out];decide
       exact ⟨by rw [wC8,if_neg h],by rw [wW8,if_neg h],by rw [wT8,if_neg h]⟩)
      clear hb5 hs5 hs6 m0 m1 f0 f1;obtain ⟨m0,f0⟩:=HM5.out 0 _ rfl;obtain ⟨m1,f1⟩:=HM5.out 1 _ rfl
      go_wp2_with fail
      go_meet
      refine ⟨none,0,0,rfl,b_W,by rw [HCX.out.1];exact d_h,a5,1,c5,a6,1,c6',a_q (xs:=[.slice a5 1 c5,.slice a6 1 c6']) HM5.out rfl,?_,?_,?_,?_⟩
      ·rw [HCX.out.2.1];exact c_M (fun b hb=>by have:=HGZ3.out;have:=HGV.out;omega) (g_p (g_p HS5.out ⟨w1.heap.size,0,none⟩ HGZ3.out _) ⟨w1.heap.size,1,none⟩ HGZ3.out _)
      ·rw [HCX.out.2.2];exact c_M (fun b hb=>by have:=HGZ3.out;have:=HGV.out;omega) (g_p (g_p HS6.out ⟨w1.heap.size,0,none⟩ HGZ3.out _) ⟨w1.heap.size,1,none⟩ HGZ3.out _)
      ·exact a_l (a_l HZ5.out HGW.out _) HGW.out _
      ·exact (HB5.out.setCell (p:=⟨w1.heap.size,0,none⟩) (Nat.le_of_lt HGV.out) _).setCell (p:=⟨w1.heap.size,1,none⟩) (Nat.le_of_lt HGV.out) _
    case rest =>
     obtain ⟨cq,N,cd,rfl,hcap,hv,ma,mn,mc,na,nn,nc,hm,hws,hts,hz,hb⟩:=hcut;obtain ⟨V,hV⟩:=nm (wc);subst hV;have ⟨HCAP,HV,HM,HMW,HMT,HZV,HBV⟩:=hh7 hcap hv hm hws hts hz hb;have HNL:=hid (show (wC8 code ws ts).length=N from hv.1)
     have hN60:N≤60:=by
      have:=HNL.out;unfold wC8 at this
      split at this
      ·rw [List.length_take] at this;omega
      ·simp at this;omega
     clear hcap hv hm hws hts hz hb;obtain ⟨m8,hm8⟩:∃ m,min sn 8=m:=⟨_,rfl⟩;have h81:m8≤sn:=by omega
     have h82:m8≤8:=by omega
     have h8c:m8≤sc:=by omega
     have h83:(if (8:Int) < (sn:Int) then (8:Int) else (sn:Int))=(m8:Int):=by split <;> omega
     have h84:min (sn:Int) 8=(m8:Int):=by omega
     obtain ⟨s8,hs8⟩:∃ s8,starts.take 8=s8:=⟨_,rfl⟩;have HS8:=hid (show Sl w sa m8 s8 by rw [←hs8,←f_3 (n:=sn) S.1,hm8];exact i_3 S h81)
     have HSE:=hid (show wA8 N starts=if m8=0 then [0] else s8.map (p_2 N) by
      rw [wA8,hs8,S.1]
      by_cases h0:sn=0
      ·rw [if_pos h0,if_pos (by omega)]
      ·rw [if_neg h0,if_neg (by omega)])
     obtain ⟨j0,li,lz0,lz1,lz2⟩:=N178;have HJ:=hid (And.intro li (And.intro lz0 (And.intro lz1 lz2)));clear hm8 hs8 li lz0 lz1 lz2
     go_wp2_with fail
     go_loopw [17,56] (fun v ct wr=>∃ (j:Nat) (q:Option Addr) (dd:Nat),j≤m8∧ct=.int .i64 j∧v=.slice q j dd∧Hid (wr.ownsRow V.heap.size 3 1 (.slice q j dd) j ((s_j N s8 j).map (Value.int .i64)))∧Hid (Below V.heap.size V wr)) (fun _ ct _=>m8 - (intOf ct).toNat)
     case atStart=>exact ⟨0,none,0,Nat.zero_le _,rfl,rfl,World.ownsRow_nil _ _ _ _,Below.refl _ _⟩
     case round =>
      obtain ⟨j,q,dd,hj,rfl,rfl,ho,hb⟩:=hrel
      by_cases hlt:j < m8
      ·obtain ⟨b,o,rfl,R⟩:=HS8.out.2.resolve_left (by omega);have hl8:s8.length=m8:=HS8.out.1;have gs:=a_t (HBV.out.trans (hb.out.mono HBV.out.size)) (R j (by omega));obtain ⟨s,hs⟩:∃ s,s8.getD j 0=s:=⟨_,rfl⟩;rw [hs] at gs
       have HST:=hid (show s_j N s8 (j+1)=s_j N s8 j++[p_2 N s] by
        have hj':j < s8.length:=by omega
        have e:s8[j]=s:=by rw [←hs];simp [hj']
        rw [s_j,s_j,List.take_succ_eq_append_getElem hj',e];simp)
       obtain ⟨z,hz⟩:∃ z,p_2 N s=z:=⟨_,rfl⟩;have hzz:((s.tmod ((N:Int)+1))+N+1).tmod ((N:Int)+1)=z:=hz;have h1:=Int.tmod_lt_of_pos s (show (0:Int) < (N:Int)+1 by omega);have h2:-((N:Int)+1) < s.tmod ((N:Int)+1):=Int.lt_tmod_of_pos _ (by omega);have hzr:=o_B N s;rw [hz] at hzr HST;obtain ⟨hz1,hz2⟩:=hzr;have hsz:=hb.out.size;have i1:(0:Int)≤j:=by omega
       have i2:(j:Int) < m8:=by omega
       clear hs hz hl8 R
       go_wp2_with (at_builtin;refine wpList_append_own _ rfl _ _ 23 rfl V.heap.size 3 j0 (.int .i64 0) 1 8 Tryz.underlying23 HJ.out.1 HJ.out.2.1 HJ.out.2.2.1 HJ.out.2.2.2 rfl (by decide) _ _ _ rfl (ho.out.alloc _) ⟨wr.heap.size,0,none⟩ 1 1 [.int .i64 z] rfl rfl ?c1 ?c2 ?c3 ?c4 ?c5 ?_)
       case c1=>exact e_r _ _ _
       case c2=>intro v hv;simp at hv;subst hv;rfl
       case c3=>unfold maxLen;omega
       case c4=>omega
       case c5=>simp;omega
       intro v' w9 hown' hgrow _;have HB9:=hid ((hb.out.alloc hsz (.cells #[.int .i64 z] 3)).grown hgrow (by simp;omega) (fun r hr=>(ho.out.lt r hr).1));rw [show (s_j N s8 j).map (Value.int .i64)++[.int .i64 z]=(s_j N s8 (j+1)).map (Value.int .i64) by rw [HST.out];simp] at hown';obtain ⟨q',d',rfl⟩:=c_g hown';have HO9:=hid hown';clear hown' hgrow gs
       go_wp2_with fail
       go_roundw
       case rel=>exact ⟨j+1,q',d',by omega,by go_num,rfl,HO9.out,HB9.out⟩
       case measure=>simp [intOf];omega
      ·obtain rfl:j=m8:=by omega
       have HO:=hid (show wr.ownsRow V.heap.size 3 1 (.slice q j dd) j ((s8.map (p_2 N)).map (Value.int .i64)) by
        have:=ho.out
        rwa [s_j,List.take_of_length_le (by have:s8.length=j:=HS8.out.1;omega)] at this)
       have HBr:=hid (HBV.out.trans (hb.out.mono HBV.out.size));have HMr:=hid (a_h hb.out HM.out);have HZr2:=hid (a_h hb.out HZV.out);have HVr:=hid (g_u hb.out HV.out);have HWr:=hid (h_R hb.out HMW.out);have HTr:=hid (h_R hb.out HMT.out);have HVh:=hid (show w.heap.size < V.heap.size from a_N HZV.out (by simp));have HVs:=hid (show V.heap.size≤wr.heap.size from hb.out.size);clear ho hb;obtain ⟨Y,hY⟩:=nm (wr);subst hY
       go_upto_if 79 with fail
       go_cut [17] (fun s17 wx=>∃ (q:Option Addr) (n dd:Nat),s17=.slice q n dd∧n≤8∧SlP (fun b=>b≠w.heap.size) wx q n (wA8 N starts)∧Below Y.heap.size Y wx)
       case first =>
        by_cases h0:j=0
        ·subst h0
         go_wp2_with fail
         go_meet
         refine ⟨_,_,_,rfl,by omega,?_,(Below.refl _ _).alloc (Nat.le_refl _) _⟩;rw [HSE.out];simp only [if_true]
         exact ⟨rfl,.inr ⟨_,_,rfl,by have:=HVh.out;have:=HVs.out;omega,fun i hi=>by
          obtain rfl:i=0:=by simpa using hi
          exact a_Y _ _ _ rfl rfl⟩⟩
        ·have hj0:((j:Int)==0)=false:=by simpa using h0
         have HA8:=hid (show wA8 N starts=s8.map (p_2 N) by rw [HSE.out,if_neg h0])
         go_wp2_with fail
         go_meet
         obtain ⟨q',d',e',hs⟩:=d_V HO.out
         injection e' with e1 e2 e3
         subst e1;exact ⟨q,j,dd,rfl,by omega,by rw [HA8.out];exact c_M (fun b hb=>by have:=HVh.out;omega) hs,Below.refl _ _⟩
       case rest =>
        obtain ⟨aq,a8,ad,rfl,ha8,has,hab⟩:=hcut;obtain ⟨Z,hZ⟩:=nm (wc);subst hZ;have HAS:=hid has;have HBZ:=hid (HBr.out.trans (hab.mono HBr.out.size));have HMZ:=hid (a_h hab HMr.out);have HZZ:=hid (a_h hab HZr2.out);have HVZ:=hid (g_u hab HVr.out);have HWZ:=hid (h_R hab HWr.out);have HTZ:=hid (h_R hab HTr.out);have HZh:=hid (show w.heap.size < Z.heap.size from a_N HZZ.out (by simp));clear has hab;obtain ⟨ma8,hma⟩:∃ m,min an 80=m:=⟨_,rfl⟩;have ha1:ma8≤an:=by omega
        have ha2:ma8≤80:=by omega
        have hac:ma8≤ac:=by omega
        have ha3:(if (80:Int) < (an:Int) then (80:Int) else (an:Int))=(ma8:Int):=by split <;> omega
        have ha4:min (an:Int) 80=(ma8:Int):=by omega
        have HA:=hid (show Vs e_3 Any w aa ma8 (acts.take 80) by rw [←f_3 (n:=an) A.1,hma];exact j_b A ma8 ha1);obtain ⟨dz,hdz⟩:∃ z,wD8 d=z:=⟨_,rfl⟩;have hdd:((d.tmod 9)+9).tmod 9=dz:=hdz;have hd1:=Int.tmod_lt_of_pos d (show (0:Int) < 9 by omega);have hd2:-(9:Int) < d.tmod 9:=Int.lt_tmod_of_pos _ (by omega);have hd3:0≤dz∧dz≤8:=p_P d hdz;obtain ⟨X0,hX0⟩:=nm (l_b (wC8 code ws ts) (wA8 N starts) (wW8 code ws ts) (wT8 code ws ts) dz);have HX0:=hid (show m_y code starts ws ts d=X0 by rw [m_y,HNL.out,hdz,hX0])
        have HOW:=hid (show OkW X0 0 by
         rw [←HX0.out];exact i_f hwf hww)
        have HDX:=hid (show X0.D=dz by rw [hX0];rfl);obtain ⟨Y2,hY2⟩:=nm (k_m code starts ws ts d acts);have HYR:=hid (show j_4 X0 (acts.take 80)=Y2 by rw [hY2,k_m,HX0.out]);obtain ⟨rn,hrn⟩:∃ n,k_n X0 (acts.take 80)=n:=⟨_,rfl⟩;have HRN:=hid hrn
        have HNEW:=hid (show ∀ w1,Below Z.heap.size Z w1→Calls Tryz.prog 14 #[.slice cq N cd,.slice aq a8 ad,.agg #[.slice ma mn mc,.slice na nn nc],.int .i64 dz] w1 (b_D (fun b=>b≠w.heap.size∧(b < Z.heap.size∨w1.heap.size≤b)) X0 w1) from fun w1 hw1=>by
         rw [hX0]
         exact q_8 (fun b=>b≠w.heap.size∧(b < Z.heap.size∨w1.heap.size≤b)) ⟨⟨cq,N,cd⟩,⟨ma,mn,mc⟩,⟨na,nn,nc⟩,zSp,zSp,zSp⟩ (wC8 code ws ts) (wW8 code ws ts) (wT8 code ws ts) (wA8 N starts) dz aq a8 ad w1
          (g_u hw1 (b_e (fun b h=>⟨h.1,.inl h.2⟩) (c_S HVZ.out))) (h_R hw1 (a_n (fun b h=>⟨h.1,.inl h.2⟩) (m_o HWZ.out))) (h_R hw1 (a_n (fun b h=>⟨h.1,.inl h.2⟩) (m_o HTZ.out))) (slB hw1 HAS.out.sl)
          (fun b hb=>⟨by have:=HZh.out;have:=hw1.size;omega,.inr hb⟩) ha8 HCAP.out)
        have HRUN:=hid (show ∀ (Q:Nat→Prop) w1 L,Below Z.heap.size Z w1→(∀ b,w1.heap.size≤b→Q b)→RWo Q w1 L X0→Calls Tryz.prog 28 #[woV L X0.D,.slice aa ma8 ac] w1 (l_F Q Y2 rn w1) from fun Q w1 L hw1 hQ hR=>by
         have:=q_c Q L X0 (acts.take 80) 0 aa ma8 ac w1 hR (a_B (a_C (HBZ.out.trans (hw1.mono HBZ.out.size))) HA.out) hQ HOW.out (by omega)
         rwa [HYR.out,HRN.out] at this)
        have HYY:=hid hY2;clear hdz hX0 hY2 hrn hma;obtain ⟨m0,-⟩:=HMZ.out 0 _ rfl;obtain ⟨m1,-⟩:=HMZ.out 1 _ rfl;have hBz:Below Z.heap.size Z Z.drew:=(Below.refl _ _).drew
        go_upto_region 18 with fail
        obtain ⟨gm,hgm⟩:∃ g,w1.heap.size=g:=⟨_,rfl⟩;rw [hgm] at m0 m1 ⊢;have hG:=fun bl=>q_O bl w.heap.size Z.heap.size (.slice cq N cd) (.slice aq a8 ad) (.agg #[.slice ma mn mc,.slice na nn nc]) d (d.tmod 9) (d.tmod 9+9) dz an ma8 (.slice aa an ac) (.slice aa ma8 ac) X0 Y2 rn
        have hq7:IntKind.i64.wrap (d.tmod 9+9)=d.tmod 9+9:=IntWalk.i64_in _ (by omega);refine l_A 18 [7,13,17] rfl [some 82,some 83,some 84,some 85,some 86,some 87,some 88,some 89,some 90,some 91,some 92,some 93,some 94,some 95,some 81,some 96,some 97,some 20,none,some 21] (fun _=>Below Z.heap.size Z) (fun bl=>q_h bl w.heap.size Z.heap.size (.slice cq N cd) (.slice aq a8 ad) (.agg #[.slice ma mn mc,.slice na nn nc]) d (d.tmod 9) (d.tmod 9+9) dz an ma8 (.slice aa an ac) (.slice aa ma8 ac) X0 Y2 rn) 7 13 17 (u_y w.heap.size X0) (u_O w.heap.size Y2 rn) (by kernel_rfl) (by kernel_rfl) (by decide) rfl hBz ?_ ?_
        ·show StepsL _ _ _ _ _ _ _
         refine InvT2.cons (by decide) (fun e=>by first | exact absurd e (by decide) | decide) (by decide) (fun b j=>b_9 b _ _ _ _ _ _ _ _ _ _ _ _ _ _ _ _ j) rfl rfl rfl rfl rfl rfl (fun a1 vals w1 bl hbl C K hK=>?_) ?_
         ·have e0:=C.o 13 (.slice cq N cd);refine a_i rfl (a_A (v:=.slice cq N cd) ?_ (f_n hK C rfl rfl));simp [execOp,go_sem,e0]
         refine InvT2.cons (by decide) (fun e=>by first | exact absurd e (by decide) | decide) (by decide) (fun b j=>b_9 b _ _ _ _ _ _ _ _ _ _ _ _ _ _ _ _ j) rfl rfl rfl rfl rfl rfl (fun a1 vals w1 bl hbl C K hK=>?_) ?_
         ·have e0:=C.o 17 (.slice aq a8 ad);refine a_i rfl (a_A (v:=.slice aq a8 ad) ?_ (f_n hK C rfl rfl));simp [execOp,go_sem,e0]
         refine InvT2.cons (by decide) (fun e=>by first | exact absurd e (by decide) | decide) (by decide) (fun b j=>b_9 b _ _ _ _ _ _ _ _ _ _ _ _ _ _ _ _ j) rfl rfl rfl rfl rfl rfl (fun a1 vals w1 bl hbl C K hK=>?_) ?_
         ·have e0:=C.o 16 (.pointer (some ⟨gm,0,none⟩));have kc:=a_t C.base m0;have kd:=a_t C.base m1;refine a_i rfl (a_A (v:=.agg #[.slice ma mn mc,.slice na nn nc]) ?_ (f_n hK C rfl rfl));simp [execOp,go_sem,e0,kc,kd]
         refine InvT2.cons (by decide) (fun e=>by first | exact absurd e (by decide) | decide) (by decide) (fun b j=>b_9 b _ _ _ _ _ _ _ _ _ _ _ _ _ _ _ _ j) rfl rfl rfl rfl rfl rfl (fun a1 vals w1 bl hbl C K hK=>?_) ?_
         ·have e0:=C.o 4 (.int .i64 d);refine a_i rfl (a_A (v:=.int .i64 d) ?_ (f_n hK C rfl rfl));simp [execOp,go_sem,e0]
         refine InvT2.cons (by decide) (fun e=>by first | exact absurd e (by decide) | decide) (by decide) (fun b j=>b_9 b _ _ _ _ _ _ _ _ _ _ _ _ _ _ _ _ j) rfl rfl rfl rfl rfl rfl (fun a1 vals w1 bl hbl C K hK=>?_) ?_
         ·have e0:=C.is 3 85 (.int .i64 d) rfl rfl rfl rfl;refine a_i rfl (a_A (v:=.int .i64 (d.tmod 9)) ?_ (f_n hK C rfl rfl));simp [execOp,go_sem,e0]
         refine InvT2.cons (by decide) (fun e=>by first | exact absurd e (by decide) | decide) (by decide) (fun b j=>b_9 b _ _ _ _ _ _ _ _ _ _ _ _ _ _ _ _ j) rfl rfl rfl rfl rfl rfl (fun a1 vals w1 bl hbl C K hK=>?_) ?_
         ·have e0:=C.is 4 86 (.int .i64 (d.tmod 9)) rfl rfl rfl rfl;refine a_i rfl (a_A (v:=.int .i64 (d.tmod 9+9)) ?_ (f_n hK C rfl rfl));simp [execOp,go_sem,e0,hq7]
         refine InvT2.cons (by decide) (fun e=>by first | exact absurd e (by decide) | decide) (by decide) (fun b j=>b_9 b _ _ _ _ _ _ _ _ _ _ _ _ _ _ _ _ j) rfl rfl rfl rfl rfl rfl (fun a1 vals w1 bl hbl C K hK=>?_) ?_
         ·have e0:=C.is 5 87 (.int .i64 (d.tmod 9+9)) rfl rfl rfl rfl;refine a_i rfl (a_A (v:=.int .i64 dz) ?_ (f_n hK C rfl rfl));simp [execOp,go_sem,e0,hdd]
         refine InvT2.cons (by decide) (fun e=>by first | exact absurd e (by decide) | decide) (by decide) (fun b j=>b_9 b _ _ _ _ _ _ _ _ _ _ _ _ _ _ _ _ j) rfl rfl rfl rfl rfl rfl (fun a1 vals w1 bl hbl C K hK=>?_) ?_
         ·have e0:=C.is 0 82 (.slice cq N cd) rfl rfl rfl rfl;have e1:=C.is 1 83 (.slice aq a8 ad) rfl rfl rfl rfl;have e2:=C.is 2 84 (.agg #[.slice ma mn mc,.slice na nn nc]) rfl rfl rfl rfl;have e3:=C.is 6 88 (.int .i64 dz) rfl rfl rfl rfl;rw [a_P] at e0 e1 e2 e3;refine a_i rfl (a_Q _ _ _ rfl 14 rfl [.slice cq N cd,.slice aq a8 ad,.agg #[.slice ma mn mc,.slice na nn nc],.int .i64 dz] (by simp only [List.map_cons,List.map_nil,e0,e1,e2,e3]) (by kernel_rfl) ((HNEW.out w1 C.base).mono ?_));rintro e9 w2x ⟨L,rfl,hR,hb2⟩;refine ⟨_,rfl,hK _ w2x ⟨L,rfl,fun _=>a_D (fun _ h=>h.1) hR⟩ (f_w C.base hb2) (fun j _ h=>hG bl j _ _ _ hb2 h) (fun _ _ hp=>u_i hb2 hp) (fun e=>absurd rfl e) (fun e=>absurd e (by decide)) (fun _ hy=>?_) (fun e=>absurd e (by decide)) (fun e=>absurd e (by decide))⟩;obtain ⟨g,hg1,hg2,xs,hx,hx2⟩:=hy;have hlt:=a_N hx (by omega);exact ⟨L,g,rfl,List.head_eq_of_cons_eq hg1,a_D (fun b h=>⟨h.1,by have:=h.2;omega⟩) hR⟩
         refine InvT2.cons (by decide) (fun e=>by first | exact absurd e (by decide) | decide) (by decide) (fun b j=>b_9 b _ _ _ _ _ _ _ _ _ _ _ _ _ _ _ _ j) rfl rfl rfl rfl rfl rfl (fun a1 vals w1 bl hbl C K hK=>?_) ?_
         ·exact J110
         refine InvT2.cons (by decide) (fun e=>by first | exact absurd e (by decide) | decide) (by decide) (fun b j=>b_9 b _ _ _ _ _ _ _ _ _ _ _ _ _ _ _ _ j) rfl rfl rfl rfl rfl rfl (fun a1 vals w1 bl hbl C K hK=>?_) ?_
         ·exact J110
         refine InvT2.cons (by decide) (fun e=>by first | exact absurd e (by decide) | decide) (by decide) (fun b j=>b_9 b _ _ _ _ _ _ _ _ _ _ _ _ _ _ _ _ j) rfl rfl rfl rfl rfl rfl (fun a1 vals w1 bl hbl C K hK=>?_) ?_
         ·have e0:=C.is 9 91 (.slice aa an ac) rfl rfl rfl rfl;refine a_i rfl (a_A (v:=.int .i64 an) ?_ (f_n hK C rfl rfl));simp [go_sem,e0]
         refine InvT2.cons (by decide) (fun e=>by first | exact absurd e (by decide) | decide) (by decide) (fun b j=>b_9 b _ _ _ _ _ _ _ _ _ _ _ _ _ _ _ _ j) rfl rfl rfl rfl rfl rfl (fun a1 vals w1 bl hbl C K hK=>?_) ?_
         ·have e0:=C.is 10 92 (.int .i64 an) rfl rfl rfl rfl;refine a_i rfl (a_A (v:=.int .i64 ma8) ?_ (f_n hK C rfl rfl));simp [go_sem,e0,ha3]
         refine InvT2.cons (by decide) (fun e=>by first | exact absurd e (by decide) | decide) (by decide) (fun b j=>b_9 b _ _ _ _ _ _ _ _ _ _ _ _ _ _ _ _ j) rfl rfl rfl rfl rfl rfl (fun a1 vals w1 bl hbl C K hK=>?_) ?_
         ·have e0:=C.is 8 90 (.slice aa an ac) rfl rfl rfl rfl;have e1:=C.is 11 93 (.int .i64 ma8) rfl rfl rfl rfl;refine a_i rfl (a_A (v:=.slice aa ma8 ac) ?_ (f_n hK C rfl rfl));simp [execOp,go_sem,e0,e1,hac]
         refine InvT2.cons (by decide) (fun e=>by first | exact absurd e (by decide) | decide) (by decide) (fun b j=>b_9 b _ _ _ _ _ _ _ _ _ _ _ _ _ _ _ _ j) rfl rfl rfl rfl rfl rfl (fun a1 vals w1 bl hbl C K hK=>?_) ?_
         ·have e0:=C.v 7 89 rfl rfl;have e1:=C.is 12 94 (.slice aa ma8 ac) rfl rfl rfl rfl;obtain ⟨L,n1,n2⟩:=C.says 7 rfl;have n1:vals 7=woV L X0.D:=List.head_eq_of_cons_eq n1;have hb0:bl=false:=hbl rfl;have n2:=n2 hb0;rw [n1] at e0;rw [a_P] at e1
          by_cases hh:b_E (q_h bl w.heap.size Z.heap.size (.slice cq N cd) (.slice aq a8 ad) (.agg #[.slice ma mn mc,.slice na nn nc]) d (d.tmod 9) (d.tmod 9+9) dz an ma8 (.slice aa an ac) (.slice aa ma8 ac) X0 Y2 rn) 17 [vals 17] w1∧u_y w.heap.size X0 (vals 7) (vals 17) w1
          ·obtain ⟨⟨g,hg1,hg2,xs,hx,hx2⟩,L',g',y1,y2,y3⟩:=hh;have hg1:vals 17=.pointer (some ⟨g,0,none⟩):=List.head_eq_of_cons_eq hg1;have hlt:=a_N hx (by omega);rw [n1] at y1;obtain rfl:=p_X y1;rw [hg1] at y2;obtain rfl:g=g':=by injection y2 with y2;injection y2 with y2;injection y2
           refine a_i rfl (a_Q _ _ _ rfl 28 rfl [woV L X0.D,.slice aa ma8 ac] (by simp only [List.map_cons,List.map_nil,e0,e1]) (by kernel_rfl) ((HRUN.out (fun b=>b≠w.heap.size∧b≠g) w1 L C.base (fun b hb=>⟨by have:=HZh.out;have:=C.base.size;omega,by omega⟩) y3).mono ?_));rintro e9 w2x ⟨L2,rfl,hR,hb2⟩;refine ⟨_,rfl,hK _ w2x ⟨L2,rfl,a_D (fun _ h=>h.1) hR⟩ (f_w C.base hb2) (fun j _ h=>hG bl j _ _ _ hb2 h) (fun e=>absurd rfl e) (fun _ _ hq=>s_c hb2 hq) (fun _ _ _=>⟨L2,g,rfl,hg1,hR⟩) (fun e=>absurd e (by decide)) (fun e=>absurd e (by decide)) (fun e=>absurd e (by decide))⟩
          ·refine a_i rfl (a_Q _ _ _ rfl 28 rfl [woV L X0.D,.slice aa ma8 ac] (by simp only [List.map_cons,List.map_nil,e0,e1]) (by kernel_rfl) ((HRUN.out (fun b=>b≠w.heap.size) w1 L C.base (fun b hb=>by have:=HZh.out;have:=C.base.size;omega) n2).mono ?_));rintro e9 w2x ⟨L2,rfl,hR,hb2⟩;exact ⟨_,rfl,hK _ w2x ⟨L2,rfl,hR⟩ (f_w C.base hb2) (fun j _ h=>hG bl j _ _ _ hb2 h) (fun e=>absurd rfl e) (fun _ _ hq=>s_c hb2 hq) (fun _ s1 s2=>absurd ⟨s1,s2⟩ hh) (fun e=>absurd e (by decide)) (fun e=>absurd e (by decide)) (fun e=>absurd e (by decide))⟩
         refine InvT2.cons (by decide) (fun e=>by first | exact absurd e (by decide) | decide) (by decide) (fun b j=>b_9 b _ _ _ _ _ _ _ _ _ _ _ _ _ _ _ _ j) rfl rfl rfl rfl rfl rfl (fun a1 vals w1 bl hbl C K hK=>?_) ?_
         ·have e0:=C.t 13 95 rfl rfl;obtain ⟨L,h1,-⟩:=C.says 13 rfl;refine a_i rfl (a_A (v:=vals 13) ?_ (f_n hK C rfl ⟨L,by show [vals 13,vals 13]=_;rw [List.head_eq_of_cons_eq h1]⟩));simp [execOp,go_sem,e0]
         refine InvT2.cons (by decide) (fun e=>by first | exact absurd e (by decide) | decide) (by decide) (fun b j=>b_9 b _ _ _ _ _ _ _ _ _ _ _ _ _ _ _ _ j) rfl rfl rfl rfl rfl rfl (fun a1 vals w1 bl hbl C K hK=>?_) ?_
         ·have e0:=C.t 14 81 rfl rfl;obtain ⟨L,h1⟩:=C.says 14 rfl;have h2:=N218;have h3:=N107;rw [h2] at e0;refine a_i rfl (a_A (v:=woV L Y2.D) ?_ (f_n hK C rfl (⟨L,by show [woV L Y2.D,vals 13]=_;rw [h3]⟩)));simp [execOp,go_sem,e0]
         refine InvT2.cons (by decide) (fun e=>by first | exact absurd e (by decide) | decide) (by decide) (fun b j=>b_9 b _ _ _ _ _ _ _ _ _ _ _ _ _ _ _ _ j) rfl rfl rfl rfl rfl rfl (fun a1 vals w1 bl hbl C K hK=>?_) ?_
         ·have e0:=C.t 14 81 rfl rfl;obtain ⟨L,h1⟩:=C.says 14 rfl;have h2:=N218;have h3:=N107;rw [h2] at e0;refine a_i rfl (a_A (v:=.int .i64 rn) ?_ (f_n hK C rfl (rfl)));simp [execOp,go_sem,e0]
         refine InvT2.cons (by decide) (fun e=>by first | exact absurd e (by decide) | decide) (by decide) (fun b j=>b_9 b _ _ _ _ _ _ _ _ _ _ _ _ _ _ _ _ j) rfl rfl rfl rfl rfl rfl (fun a1 vals w1 bl hbl C K hK=>?_) ?_
         ·have hbs:=C.base.size;have hb0:bl=false:=hbl rfl;have hA:Below w1.heap.size w1 (w1.alloc (Obj.cells woZ.toArray 33)):=(Below.refl _ _).alloc (Nat.le_refl _) _;refine a_i rfl (a_A (v:=.pointer (some ⟨w1.heap.size,0,none⟩)) (w':=(w1.alloc (Obj.cells woZ.toArray 33))) ?_ (hK _ _ ⟨w1.heap.size,rfl,hbs,woZ,a_e woZ _ rfl,rfl⟩ (C.base.alloc hbs _) (fun j _ h=>hG bl j _ _ _ hA h) (fun _ e=>absurd rfl e) (fun _ e=>absurd rfl e) (fun e=>absurd e (by decide)) (fun e=>absurd e (by decide)) (fun _ hy=>?_) (fun _ hy=>?_)))
          ·simp [execOp,go_sem]
          ·obtain ⟨L,h1,h2⟩:=hy;exact ⟨L,w1.heap.size,List.head_eq_of_cons_eq h1,rfl,b_q hA (a_D (fun b h=>⟨h.1,by have:=h.2;omega⟩) (c_h h2))⟩
          ·obtain ⟨L,h1,h2⟩:=hy;exact ⟨L,w1.heap.size,List.head_eq_of_cons_eq h1,rfl,b_q hA (a_D (fun b h=>⟨h.1,by have:=h.2;omega⟩) (c_h (h2 hb0)))⟩
         refine InvT2.cons (by decide) (fun e=>by first | exact absurd e (by decide) | decide) (by decide) (fun b j=>b_9 b _ _ _ _ _ _ _ _ _ _ _ _ _ _ _ _ j) rfl rfl rfl rfl rfl rfl (fun a1 vals w1 bl hbl C K hK=>?_) ?_
         ·have e0:=C.v 17 20 rfl rfl;have e1:=C.v 15 96 rfl rfl;obtain ⟨g,g1,g2,xs,hx,hx2⟩:=C.says 17 rfl;obtain ⟨L,h1⟩:=C.says 15 rfl;have y0:vals 17=.pointer (some ⟨g,0,none⟩):=List.head_eq_of_cons_eq g1;have y1:vals 15=woV L Y2.D:=List.head_eq_of_cons_eq h1;have y2:=N107;obtain ⟨L2,gg,z1,z2,z3⟩:=C.two rfl rfl rfl rfl;rw [y2] at z1;rw [y0] at z2;have z1:woV L Y2.D=woV L2 Y2.D:=by injection z1 with z1;exact List.head_eq_of_cons_eq (congrArg Array.toList z1)
          obtain rfl:=p_X z1;obtain rfl:g=gg:=by injection z2 with z2;injection z2 with z2;injection z2
          rw [y0] at e0;rw [y1] at e1;refine a_i rfl (a_7 33 _ _ rfl g (woC L Y2.D).toArray e0 e1 xs hx (by rw [hx2];rfl) (by kernel_rfl) (b_p _ _) ?_);intro U HU;have hUx:a_p U g (woC L Y2.D):=by rw [HU.out];exact a_q hx (by rw [hx2];rfl)
          have hk:Gen.Kept (fun b=>b≠w.heap.size∧b≠g) w1 U:=by rw [HU.out];exact a_u (fun b h=>h.2)
          have hR:=a_z hk z3;have hQ1:RWo (fun b=>b≠w.heap.size) U L Y2:=a_D (fun _ h=>h.1) hR;refine hK _ U ⟨g,L,by show [vals 17,vals 13]=_;rw [y0,y2],g2,hUx,hQ1⟩ (by rw [HU.out];exact a_g g2 C.base) (fun jz hj h=>?_) (fun _ _ _=>⟨L,g,y2,y0,hR⟩) (fun _ _ hq=>?_) (fun e=>absurd e (by decide)) (fun e=>absurd e (by decide)) (fun e=>absurd e (by decide)) (fun e=>absurd e (by decide))
          ·by_cases j7:jz=7
           ·subst j7;obtain ⟨L',h1',-⟩:=h;exact ⟨L',h1',fun e=>by cases e⟩
           ·by_cases j13:jz=13
            ·subst j13;exact ⟨L,by show [vals 13]=_;rw [y2],hQ1⟩
            ·by_cases j17:jz=17
             ·subst j17;exact ⟨g,by show [vals 17]=_;rw [y0],g2,_,hUx,rfl⟩
             ·exact s_K _ _ _ _ _ _ _ _ _ _ _ _ _ _ _ _ _ _ _ _ _ _ j7 j13 j17 hj h
          ·obtain ⟨L',g',x1,x2,x3⟩:=hq;rw [y0] at x2;obtain rfl:g=g':=by injection x2 with x2;injection x2 with x2;injection x2
           exact ⟨L',g,x1,y0,a_z hk x3⟩
         refine InvT2.cons (by decide) (fun e=>by first | exact absurd e (by decide) | decide) (by decide) (fun b j=>b_9 b _ _ _ _ _ _ _ _ _ _ _ _ _ _ _ _ j) rfl rfl rfl rfl rfl rfl (fun a1 vals w1 bl hbl C K hK=>?_) ?_
         ·have e0:=C.is 16 97 (.int .i64 rn) rfl rfl rfl rfl;refine a_i rfl (a_A (v:=.int .i64 rn) ?_ (f_n hK C rfl rfl));simp [execOp,go_sem,e0]
         exact StepsL.nil
        ·intro vals w1x hb hv hbo;obtain ⟨g,L,z1,z2,z3,z4⟩:=c_i rfl (hv 18 (by decide));have y17:vals 17=.pointer (some ⟨g,0,none⟩):=List.head_eq_of_cons_eq z1;have ⟨HGX,HRX⟩:=hh2 z3 z4;have HB9:=hid (show Below w.heap.size w w1x from HBZ.out.trans (Below.mono hb HBZ.out.size));have HZ9:=hid (a_h hb HZZ.out);clear hb hv hbo z1 z2 z3 z4 hG;simp only [c_N,Act.put,sA,sB,sC,y17]
         go_wp2_with (first | (refine wpList_load_mid rfl 33 _ rfl g 0 rfl (woC L Y2.D) _ (a_f HGX.out) Tryz.underlying33 rfl (by kernel_rfl) ?_) | (refine a_c rfl 33 _ _ rfl w.heap.size (woC L Y2.D).toArray rfl rfl _ HZ9.out rfl (by kernel_rfl) (b_p _ _) ?_;intro U HU))
         have HXU:=hid (show a_p U w.heap.size (woC L Y2.D) by rw [HU.out];exact a_q HZ9.out rfl);refine a_X ⟨w.heap.size,0,none⟩ rfl rfl rfl (a_E HXU.out 33 Tryz.underlying33 rfl (by kernel_rfl)) ?_;rw [←HYY.out];exact ⟨L,rfl,c_L (a_z (by rw [HU.out];exact a_u (fun b h=>h)) HRX.out),by rw [HU.out];exact a_g (Nat.le_refl _) HB9.out⟩
end Go.Proofs.YtogdpojnbgeknaaGreatDoor
namespace Go.Proofs.YtogdpojnbgeknaaGreatDoor
open Go.ChangeShapes Go.WideShapes Go.ChangeAt Go.RowKit
open Gen
structure WArgs (w:World) (ca sa wa ta aa:Option Addr) (cn cc sn sc wn wk tn tc an ac:Nat) (code:List Ins) (starts ws ts:List Int) (acts:List (Int×Int)):Prop where
 C:Vs repIns Any w ca cn code
 S:Sl w sa sn starts
 W:Sl w wa wn ws
 T:Sl w ta tn ts
 A:Vs e_3 Any w aa an acts
 hc:cn≤cc∧cc≤9223372036854775807
 hs:sn≤sc∧sc≤9223372036854775807
 hw:wn≤wk∧wk≤9223372036854775807
 ht:tn≤tc∧tc≤9223372036854775807
 ha:an≤ac∧ac≤9223372036854775807
 hwf:∀ i∈code,W64 i.2.1∧W64 i.2.2.1∧W64 i.2.2.2
 hww:∀ z∈ws,W64 z
 G:Glob w
theorem o_9 {code:List Ins} {starts ws ts:List Int} {d:Int} {acts:List (Int×Int)} (hwf:∀ i∈code,W64 i.2.1∧W64 i.2.2.1∧W64 i.2.2.2) (hww:∀ z∈ws,W64 z):OkW (k_m code starts ws ts d acts) 80:=by
 have h:=o_8 (l:=acts.take 80) (i_f (starts:=starts) (d:=d) (ts:=ts) hwf hww);exact ⟨h.right,h.wf,Nat.le_trans h.ev (by rw [List.length_take];omega)⟩
end Go.Proofs.YtogdpojnbgeknaaGreatDoor
