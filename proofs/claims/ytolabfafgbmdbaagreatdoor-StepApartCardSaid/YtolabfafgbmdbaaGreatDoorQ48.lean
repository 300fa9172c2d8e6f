import Derived.Test.YtolabfafgbmdbaaGreatDoorQ8
import Derived.Test.YtolabfafgbmdbaaGreatDoorQ22
import Derived.Test.YtolabfafgbmdbaaGreatDoorQ5
import Derived.Deep.QuietTactic
import Derived.Test.YtolabfafgbmdbaaGreatDoorQ0
import Derived.Test.YtolabfafgbmdbaaGreatDoorQ6
import Derived.Test.YtolabfafgbmdbaaGreatDoorQ29
import Derived.Test.YtolabfafgbmdbaaGreatDoorQ30
import Derived.StillTailTactics
import Derived.Test.YtolabfafgbmdbaaGreatDoorQ47
import Derived.Test.YtolabfafgbmdbaaGreatDoorQ37
set_option maxRecDepth 100000
set_option maxHeartbeats 16000000
namespace Go.Proofs.YtolabfafgbmdbaaGreatDoor
open Go.RowKit
theorem h_c {α:Type} {l:List α} {k i:Nat} {x d:α} (h:k≠i):(l.set k x).getD i d=l.getD i d:=by
  simp only [List.getD_eq_getElem?_getD,List.getElem?_set,if_neg h]
theorem m_r {X:Wo} {k i:Nat} {t:Thr} (h:k≠i):thW (b_k X k t) i=thW X i:=h_c h
theorem r_y {X:Wo} {k i:Nat} (h:k≠i):thW (c_O X k) i=thW X i:=by
  unfold c_O d_1
  repeat' split
  all_goals first | exact m_r h | (show thW (b_k X k _) i=_;exact m_r h)
theorem r_w {X:Wo} {k i:Nat} (h:k≠i):bfW (c_O X k) i=bfW X i:=by
  unfold c_O d_1
  repeat' split
  all_goals first
    | rfl
    | (show (b_F X.D X.bs k _ _).getD i []=_
       unfold b_F
       split
       · rfl
       · rw [Int.toNat_natCast];exact h_c h)
theorem p_B (X:Wo) (k:Nat):(c_O X k).code=X.code:=by
  unfold c_O d_1
  repeat' split
  all_goals rfl
theorem m_o (X:Wo) (k:Nat):X.ev.length≤(c_O X k).ev.length∧(c_O X k).ev.take X.ev.length=X.ev:=by
  unfold c_O d_1
  repeat' split
  all_goals first
    | exact ⟨Nat.le_refl _,List.take_length⟩
    | exact ⟨by simp,by simp⟩
end Go.Proofs.YtolabfafgbmdbaaGreatDoor
namespace Go.Proofs.YtolabfafgbmdbaaGreatDoor
open Go.ChangeShapes Go.WideShapes Go.ChangeAt Go.RowKit
open Gen
open Lib (hid)
theorem t_V {Q:Nat→Prop} {w:World} {b o:Nat} {i:Ev} (h:At repEv Q w b o i):w.cell? ⟨b,o,none⟩=some (.int .i64 i.1)∧w.cell? ⟨b,o+1,none⟩=some (.int .i64 i.2.1)∧w.cell? ⟨b,o+2,none⟩=some (.int .i64 i.2.2.1)∧w.cell? ⟨b,o+3,none⟩=some (.int .i64 i.2.2.2.1)∧w.cell? ⟨b,o+4,none⟩=some (.int .i64 i.2.2.2.2.1)∧w.cell? ⟨b,o+5,none⟩=some (.int .i64 i.2.2.2.2.2):=by
 obtain ⟨cs,h1,h2⟩:=h;have h1:cs=j_d i:=h1;subst h1;exact ⟨h2 0 _ rfl,h2 1 _ rfl,h2 2 _ rfl,h2 3 _ rfl,h2 4 _ rfl,h2 5 _ rfl⟩
theorem q_y (x y:Ev) (w:World):(Op.equalIn 10000 101 (.agg #[.int .i64 x.1,.int .i64 x.2.1,.int .i64 x.2.2.1,.int .i64 x.2.2.2.1,.int .i64 x.2.2.2.2.1,.int .i64 x.2.2.2.2.2]) (.agg #[.int .i64 y.1,.int .i64 y.2.1,.int .i64 y.2.2.1,.int .i64 y.2.2.2.1,.int .i64 y.2.2.2.2.1,.int .i64 y.2.2.2.2.2])).run Tryz.prog w=.ok (decide (x=y)) w:=by
 obtain ⟨x0,x5,x1,x2,x3,x4⟩:=x;obtain ⟨y0,y5,y1,y2,y3,y4⟩:=y;simp only;have e1:=o_f x1 x2 x3 x4 y1 y2 y3 y4 w
 by_cases h0:x0=y0
 ·subst h0
  by_cases h5:x5=y5
  ·subst h5;obtain ⟨b,hb⟩:∃ b,decide ((x1,x2,x3,x4)=(y1,y2,y3,y4))=b:=⟨_,rfl⟩;rw [hb] at e1;have h2:decide ((x0,x5,x1,x2,x3,x4)=(x0,x5,y1,y2,y3,y4))=b:=by rw [←hb,Bool.eq_iff_iff];simp
   rw [h2]
   cases b <;> simp [go_sem,e1]
  ·have hb:(x5==y5)=false:=by simpa using h5
   simp [go_sem,hb,h5]
 ·have hb:(x0==y0)=false:=by simpa using h0
  simp [go_sem,hb,h0]
theorem k_H (a b:Option Addr) (n m c d:Nat) (xs ys:List Ev) (w:World) (V:Vs repEv Any w a n xs) (U:Vs repEv Any w b m ys) (hn:n≤1000000) :
  Calls Tryz.prog 26 #[.slice a n c,.slice b m d] w (a_1 (decide (xs=ys)) w):=by
 have hl:=V.1;have hl2:=U.1
 by_cases h:n=m
 ·subst h
  go_enter Tryz.func26,Tryz.ntmps26
  go_wp2
  go_loopw [5,13] (fun _ i wr=>∃ k:Nat,k≤n∧i=.int .i64 k∧Hid (xs.take k=ys.take k)∧Hid (Below w.heap.size w wr)) (fun _ i _=>n - (intOf i).toNat)
  case atStart=>exact ⟨0,by omega,rfl,(show xs.take 0=ys.take 0 by simp),Below.refl _ _⟩
  case round =>
   obtain ⟨k,hk,rfl,ht,hb⟩:=hrel
   by_cases hlt:k < n
   ·obtain ⟨b1,o1,y1,rfl,hy1,-,hA1⟩:=g_I (e_J hb.out V) hlt;obtain ⟨b2,o2,y2,rfl,hy2,-,hA2⟩:=g_I (e_J hb.out U) hlt;obtain ⟨z0,z1,z2,z3,z4,z5⟩:=t_V hA1;obtain ⟨u0,u1,u2,u3,u4,u5⟩:=t_V hA2;rw [show repEv.k=6 from rfl] at z0 z1 z2 z3 z4 z5 u0 u1 u2 u3 u4 u5;have j1:(0:Int)≤k:=by omega
    have j2:(k:Int) < n:=by omega
    have qe:=fun w=>q_y y1 y2 w
    obtain ⟨eb,heb⟩:=mn (decide (y1=y2));rw [heb] at qe;have ⟨HEB,HY1,HY2⟩:=hh3 heb hy1 hy2;clear heb hy1 hy2 hA1 hA2
    cases eb with
    | true =>
     have HT:=hid (show xs.take (k+1)=ys.take (k+1) by rw [List.take_add_one,List.take_add_one,ht.out,HY1.out,HY2.out,of_decide_eq_true HEB.out]);exact J99
    | false =>
     have HE:=hid (show decide (xs=ys)=false by
      rw [decide_eq_false_iff_not];intro e;have h1:=HY1.out;rw [e,HY2.out] at h1;exact of_decide_eq_false HEB.out (Option.some.inj h1).symm)
     go_wp2
     go_quiet (fail)
     go_wp2
     go_ret
     exact a_i HE.out (below_drewN hb.out nq)
   ·obtain rfl:k=n:=by omega
    have HE:=hid (show decide (xs=ys)=true by
     rw [decide_eq_true_iff];have:=ht.out;rw [List.take_of_length_le (by omega),List.take_of_length_le (by omega)] at this;exact this)
    go_wp2
    go_ret
    exact a_i HE.out hb.out
 ·have h1:=N256;have HE:=hid (show decide (xs=ys)=false by rw [decide_eq_false_iff_not];intro e;rw [e] at hl;omega)
  go_enter Tryz.func26,Tryz.ntmps26
  go_wp2
  go_ret
  exact a_i HE.out (Below.refl _ _)
end Go.Proofs.YtolabfafgbmdbaaGreatDoor
namespace Go.Proofs.YtolabfafgbmdbaaGreatDoor
open Go.ChangeShapes Go.WideShapes Go.ChangeAt Go.RowKit
open Gen
theorem l_f (a b:Option Addr) (n m c d:Nat) (xs ys:List Ins) (w:World) (V:Vs repIns Any w a n xs) (U:Vs repIns Any w b m ys) (hn:n≤50001) (hm:m≤50001) :
  Calls Tryz.prog 27 #[.slice a n c,.slice b m d] w (a_1 (decide (xs=ys)) w):=by
 have hl:=V.1;have hl2:=U.1
 by_cases h:n=m
 ·subst h
  go_enter Tryz.func27,Tryz.ntmps27
  go_wp2
  go_loopw [5,13] (fun _ i wr=>∃ k:Nat,k≤n∧i=.int .i64 k∧Hid (xs.take k=ys.take k)∧Hid (Below w.heap.size w wr)) (fun _ i _=>n - (intOf i).toNat)
  case atStart=>exact ⟨0,by omega,rfl,(show xs.take 0=ys.take 0 by simp),Below.refl _ _⟩
  case round =>
   obtain ⟨k,hk,rfl,ht,hb⟩:=hrel
   by_cases hlt:k < n
   ·obtain ⟨b1,o1,y1,rfl,hy1,-,hA1⟩:=g_I (e_J hb.out V) hlt;obtain ⟨b2,o2,y2,rfl,hy2,-,hA2⟩:=g_I (e_J hb.out U) hlt;obtain ⟨i0,i1,i2,i3⟩:=y1;obtain ⟨e0,e1,e2,e3⟩:=y2;obtain ⟨z0,z1,z2,z3⟩:=l_V hA1;obtain ⟨u0,u1,u2,u3⟩:=l_V hA2;dsimp only at z0 z1 z2 z3 u0 u1 u2 u3;rw [show repIns.k=4 from rfl] at z0 z1 z2 z3 u0 u1 u2 u3;have j1:(0:Int)≤k:=by omega
    have j2:(k:Int) < n:=by omega
    by_cases he:i0=e0∧i1=e1∧i2=e2∧i3=e3
    ·obtain ⟨rfl,rfl,rfl,rfl⟩:=he;have HT:=Lib.hid (show xs.take (k+1)=ys.take (k+1) by rw [List.take_add_one,List.take_add_one,ht.out,hy1,hy2]);clear hy1 hy2 hA1 hA2;exact J99
    ·have HE:=Lib.hid (show decide (xs=ys)=false by
      rw [decide_eq_false_iff_not];intro e;rw [e,hy2] at hy1;apply he;simpa using hy1.symm)
     have hc:¬ i0=e0∨(i0=e0∧¬ i1=e1)∨(i0=e0∧i1=e1∧¬ i2=e2)∨(i0=e0∧i1=e1∧i2=e2∧¬ i3=e3):=by omega
     clear hy1 hy2 hA1 hA2 he
     rcases hc with q | ⟨rfl,q⟩ | ⟨rfl,rfl,q⟩ | ⟨rfl,rfl,rfl,q⟩
     all_goals
      go_wp2
      go_quiet (fail)
      go_wp2
      go_ret
      exact a_i HE.out (below_drewN hb.out nq)
   ·obtain rfl:k=n:=by omega
    have HE:=Lib.hid (show decide (xs=ys)=true by
     rw [decide_eq_true_iff];have:=ht.out;rw [List.take_of_length_le (by omega),List.take_of_length_le (by omega)] at this;exact this)
    go_wp2
    go_ret
    exact a_i HE.out hb.out
 ·have h1:=N256;have HE:=Lib.hid (show decide (xs=ys)=false by rw [decide_eq_false_iff_not];intro e;rw [e] at hl;omega)
  go_enter Tryz.func27,Tryz.ntmps27
  go_wp2
  go_ret
  exact a_i HE.out (Below.refl _ _)
theorem r_9 {w0 w:World} {g o:Nat} {cs:List Value} (hb:Below w0.heap.size w0 w) (h:w0.rangeAt g o cs):w.rangeAt g o cs:=fun j v hj=>a_t hb (h j v hj)
theorem n_l (t:Thr):l_k t t=true:=sameT_iff.2 ⟨rfl,by simp [eqR],rfl,rfl,rfl,rfl⟩
end Go.Proofs.YtolabfafgbmdbaaGreatDoor
namespace Go.Proofs.YtolabfafgbmdbaaGreatDoor
open Go.ChangeShapes Go.WideShapes Go.ChangeAt Go.RowKit
open Gen
open Lib (hid)
theorem b_x {ops:Array Oper} {o:Oper} {a:Act} {j t:Nat} {b:Bool} (hg:o.guard=some (j,b)) (ht:a.tmps[t]?.getD undef=.bool b) (hd:((ops[j]?).bind (·.dst))=some t):Region.wanted o (yielded ops a.tmps)=true:=by
 have e:a.tmps[t]?=some (.bool b):=by
  cases h:a.tmps[t]? with
  | none=>rw [h] at ht;simp [undef] at ht
  | some v=>rw [h] at ht;simp at ht;rw [ht]
 simp only [Region.wanted,hg,yielded,hd,Option.bind_some,e];simp
theorem c_d {P:Program} {ops:Array Oper} {o:Oper} {a:Act} {w:World} {K:Act→World→Prop} {Q:Exit→Act→World→Prop} {E:Prop} (hw:Region.wanted o (yielded ops a.tmps)=true) (h:Oper.wp P o a w K Q):if Region.wanted o (yielded ops a.tmps)=true then Oper.wp P o a w K Q else E:=by
 rw [if_pos hw];exact h
def u_I (h1 h2:Nat) (L M:WoL) (b1 o1 b2 o2 b3 o3 b4 o4 n k nb cp cq:Nat) (t:Thr) (ta qa sa ra pa pb:Option Addr) (tn tc tm qc sc rc:Nat):b_n:=[isV 0 (.pointer (some ⟨h2,5,none⟩)),isV 1 (.slice (some ⟨b2,o2,none⟩) n M.th.c),isV 2 (.int .i64 k),isV 3 (.pointer (some ⟨b2,o2+k*13,none⟩)),isV 4 (.agg (thC t sa tn sc ra tm rc).toArray),isV 5 (.pointer (some ⟨h1,5,none⟩)),isV 6 (.slice (some ⟨b1,o1,none⟩) n L.th.c),isV 7 (.int .i64 k),isV 8 (.pointer (some ⟨b1,o1+k*13,none⟩)),isV 9 (.agg (thC t ta tn tc qa tm qc).toArray),isV 10 (.bool true),isV 11 (.bool false),isV 12 (.bool false),isV 13 (.pointer (some ⟨h2,1,none⟩)),isV 14 (.pointer (some ⟨h2,4,none⟩)),isV 15 (.slice (some ⟨b4,o4,none⟩) n M.bs.c),isV 16 (.int .i64 k),isV 17 (.pointer (some ⟨b4,o4+k,none⟩)),isV 18 (.slice pb nb cq),isV 19 (.int .i64 nb),isV 20 (.pointer (some ⟨h1,1,none⟩)),isV 21 (.pointer (some ⟨h1,4,none⟩)),isV 22 (.slice (some ⟨b3,o3,none⟩) n L.bs.c),isV 23 (.int .i64 k),isV 24 (.pointer (some ⟨b3,o3+k,none⟩)),isV 25 (.slice pa nb cp),isV 26 (.int .i64 nb),isV 27 (.bool false),isV 28 (.bool false)]
theorem q_L (h1 h2:Nat) (L M:WoL) (b1 o1 b2 o2 b3 o3 b4 o4 n k nb cp cq:Nat) (t:Thr) (ta qa sa ra pa pb:Option Addr) (tn tc tm qc sc rc:Nat):c_g (u_I h1 h2  L M  b1 o1 b2 o2 b3 o3 b4 o4 n k nb cp cq  t  ta qa sa ra pa pb  tn tc tm qc sc rc ):=a_c<|a_c<|a_c<|a_c<|a_c<|a_c<|a_c<|a_c<|a_c<|a_c<|a_c<|a_c<|a_c<|a_c<|a_c<|a_c<|a_c<|a_c<|a_c<|a_c<|a_c<|a_c<|a_c<|a_c<|a_c<|a_c<|a_c<|a_c<|a_c<|b_m
def u_J (h1 h2:Nat) (L M:WoL) (m m2:Nat):b_n:=[isV 0 (.pointer (some ⟨h2,6,none⟩)),isV 1 (.slice M.ev.a m2 M.ev.c),isV 2 (.pointer (some ⟨h1,6,none⟩)),isV 3 (.slice L.ev.a m L.ev.c),isV 4 (.int .i64 m),isV 5 (.slice M.ev.a m M.ev.c),isV 6 (.pointer (some ⟨h1,6,none⟩)),isV 7 (.slice L.ev.a m L.ev.c),isV 8 (.bool true),isV 9 (.bool true),isV 10 (.pointer (some ⟨h2,0,none⟩)),isV 11 (.slice M.co.a M.co.n M.co.c),isV 12 (.pointer (some ⟨h1,0,none⟩)),isV 13 (.slice L.co.a L.co.n L.co.c),isV 14 (.bool true),isV 15 (.bool true),isV 16 (.bool true)]
theorem q_M (h1 h2:Nat) (L M:WoL) (m m2:Nat):c_g (u_J h1 h2  L M  m m2 ):=a_c<|a_c<|a_c<|a_c<|a_c<|a_c<|a_c<|a_c<|a_c<|a_c<|a_c<|a_c<|a_c<|a_c<|a_c<|a_c<|a_c<|b_m
structure WArgs (w:World) (ca sa wa ta aa:Option Addr) (cn cc sn sc wn wk tn tc an ac:Nat) (code:List Ins) (starts ws ts:List Int) (acts:List (Int×Int)):Prop where
 C:Vs repIns Any w ca cn code
 S:Sl w sa sn starts
 W:Sl w wa wn ws
 T:Sl w ta tn ts
 A:Vs f_C Any w aa an acts
 hc:cn≤cc∧cc≤9223372036854775807
 hs:sn≤sc∧sc≤9223372036854775807
 hw:wn≤wk∧wk≤9223372036854775807
 ht:tn≤tc∧tc≤9223372036854775807
 ha:an≤ac∧ac≤9223372036854775807
 hwf:∀ i∈code,W64 i.2.1∧W64 i.2.2.1∧W64 i.2.2.2
 hww:∀ z∈ws,W64 z
 G:Glob w
theorem o_6 {code:List Ins} {starts ws ts:List Int} {d:Int} {acts:List (Int×Int)} (hwf:∀ i∈code,W64 i.2.1∧W64 i.2.2.1∧W64 i.2.2.2) (hww:∀ z∈ws,W64 z):OkW (k_h code starts ws ts d acts) 80:=by
 have h:=o_5 (l:=acts.take 80) (i_f (starts:=starts) (d:=d) (ts:=ts) hwf hww);exact ⟨h.right,h.wf,Nat.le_trans h.ev (by rw [List.length_take];omega)⟩
theorem h_I (ca sa wa ta aa:Option Addr) (cn cc sn sc wn wk tn tc an ac:Nat) (code:List Ins) (starts ws ts:List Int) (d:Int) (acts:List (Int×Int)) (th:Int) (w:World) (H:WArgs w ca sa wa ta aa cn cc sn sc wn wk tn tc an ac code starts ws ts acts) :
  Calls Tryz.prog 5 #[.slice ca cn cc,.slice sa sn sc,.slice wa wn wk,.slice ta tn tc,.int .i64 d,.slice aa an ac,.int .i64 th] w fun e w'=>e=.returned (.bool true)∧Below w.heap.size w w':=by
 have HG:=hid H.G;have h0:=n_y ca sa wa ta aa cn cc sn sc wn wk tn tc an ac code starts ws ts d acts w H.C H.S H.W H.T H.A H.hc H.hs H.hw H.ht H.ha H.hwf H.hww;have hok:=o_6 (starts:=starts) (ts:=ts) (d:=d) (acts:=acts) H.hwf H.hww;obtain ⟨X,hX⟩:=mn (k_h code starts ws ts d acts);rw [hX] at h0 hok;have ⟨H0,HOK⟩:=hh2 h0 hok;clear hX h0 hok H
 go_enter Tryz.func5,Tryz.ntmps5
 go_wp2_with fail
 refine H0.out.mono ?_;rintro e w1 ⟨L,rfl,R1,hb1⟩;have ⟨HB1,HR1⟩:=hh2 hb1 R1;clear hb1 R1
 go_upto_region 2 with (refine a_d rfl 33 _ _ rfl w1.heap.size (woC L X.D).toArray rfl rfl _ (a_e woZ w1.heap.size rfl) rfl (by kernel_rfl) (b_u _ _) ?_;intro U HU)
 have HXU:=hid (show a_p U w1.heap.size (woC L X.D) by rw [HU.out];exact a_q (a_e woZ _ rfl) rfl);have HBU0:=N144;have HBU:=hid (HB1.out.trans (HBU0.out.mono HB1.out.size));have HSU:=N183;have hR:RWo (fun b=>b < w1.heap.size) U L X:=a_D (fun b h=>h.2) (b_H HBU0.out (c_r HR1.out));have HRU:=hid hR;have h0:=e_2 L X th U (d_n hR) (HG.out.B HBU.out) (by have:=hR.ev.1;have:=HOK.out.ev;omega) (j_b HOK.out.wf);obtain ⟨E,hE⟩:=mn (l_o X th);obtain ⟨Y,hY⟩:=mn (i_p X th);rw [hE,hY] at h0;have ⟨HC,HE,HY⟩:=hh3 h0 hE hY;clear HU hR h0 hE hY
 go_wp2_with (refine wpList_load_mid rfl 33 _ rfl w1.heap.size 0 rfl (woC L X.D) _ (a_g HXU.out) Tryz.underlying33 rfl (by kernel_rfl) ?_)
 refine HC.out.mono ?_;clear HC;rintro e2 w2 ⟨L2,rfl,R2,hb2⟩;have HB2:=hid (HBU.out.trans (hb2.mono HBU.out.size));have HX2:=hid (a_h hb2 HXU.out);have HR2:=hid R2;have HRX2:=hid (b_H hb2 HRU.out);have HS2:=N142;clear R2 hb2
 go_upto_region 3 with (refine a_d rfl 33 _ _ rfl w2.heap.size (woC L2 Y.D).toArray rfl rfl _ (a_e woZ w2.heap.size rfl) rfl (by kernel_rfl) (b_u _ _) ?_;intro V HV)
 have HXV:=hid (show a_p V w2.heap.size (woC L2 Y.D) by rw [HV.out];exact a_q (a_e woZ _ rfl) rfl);have HBV0:=hid (show Below w2.heap.size w2 V by rw [HV.out];exact a_j (Nat.le_refl _) ((Below.refl _ _).alloc (Nat.le_refl _) _));have HBV:=hid (HB2.out.trans (HBV0.out.mono HB2.out.size));have HXW:=hid (a_h HBV0.out HX2.out);have HRV:=hid (d_n (b_H HBV0.out HR2.out));have HRW:=hid (d_n (b_H HBV0.out HRX2.out));clear HV HX2 HR2 HRX2 HXU HRU
 by_cases hE0:E=0
 ·have hse:l_o X th=0:=by rw [HE.out];exact hE0
  have hbg:n_z X th=0:=by
   unfold l_o at hse
   split at hse
   ·assumption
   ·assumption
  have hcn:k_i X th.toNat=true:=by
   unfold l_o at hse;rw [if_pos hbg] at hse
   split at hse
   ·assumption
   ·exact absurd hse (by decide)
  obtain ⟨hr,h0,h1⟩:=j_q hbg;obtain ⟨j,rfl⟩:=N104;have hyy:c_O X j=Y:=by rw [←HY.out,i_p,if_pos hse,Int.toNat_natCast]
  rw [Int.toNat_natCast] at hcn;have hjx:j < X.th.length:=by omega
  have HRY:=hid (show b_e Y=true by rw [←hyy];exact i_m hr hjx hcn);obtain ⟨n,hn⟩:=mn (L.th.n);obtain ⟨m,hm⟩:=mn (L.ev.n);obtain ⟨m2,hm2⟩:=mn (L2.ev.n);have hn2:L2.th.n=n:=by have h1:=HRV.out.th.1;have h2:=HRW.out.th.1;have h3:=r_x X j;rw [hyy] at h3;omega
  have hmm:m≤m2∧m2≤m+1:=by
   have h1:=HRV.out.ev.1;have h2:=HRW.out.ev.1;have h3:=p_C X j;have h4:=(m_o X j).1;rw [hyy] at h3 h4;omega
  have hmb:m≤80:=by have:=HRW.out.ev.1;have:=HOK.out.ev;omega
  have HJ:=hid (show j < n by have:=HRW.out.th.1;omega);have HN8:=hid (show n≤8 by have:=HRW.out.th.1;have:=(t_3 HOK.out).2;omega);have HYY:=hid hyy;have HM:=hid (And.intro hmm hmb);have HNN:=hid (And.intro hn hn2);have HMN:=hid (And.intro hm hm2)
  have HLB:=hid (show L.bs.n=n∧L2.bs.n=n by
   have a1:=(okS HOK.out.right).1.2;have a2:=(okS HRY.out).1.2;have a3:=HRW.out.bs.1;have a4:=HRV.out.bs.1;have a5:=HRW.out.th.1;have a6:=HRV.out.th.1
   omega)
  have HFS:=hid (show ∀ t∈X.th,t.fs.length≤1000000 from fun t ht=>by have:=((okS HOK.out.right).2.2.1 t ht).1;omega)
  have HEV:=hid (show Y.ev.take m=X.ev by
   have h1:=HRW.out.ev.1;have h2:=(m_o X j).2;rw [hyy] at h2;rw [hm] at h1;rw [h1] at h2;exact h2)
  have hcd:Y.code=X.code:=by have:=p_B X j;rw [hyy] at this;exact this
  have HCD:=hid hcd
  have HCN:=hid (show L2.co.n≤50001∧L.co.n≤50001 by
   have a1:=(okS HOK.out.right).2.1.1;have a3:=HRW.out.co.1;have a4:=HRV.out.co.1;rw [hcd] at a4
   omega)
  have hEn:(E != 0)=false:=by simpa using hE0
  subst hE0;clear hse hbg hcn hr h0 h1 hyy hjx hn hm hm2 hn2 hmm hmb HE HY hEn hcd;have h0:=n_h L2 Y V HRV.out;rw [HRY.out] at h0;have HC:=hid h0;clear h0
  go_wp2_with (refine wpList_load_mid rfl 33 _ rfl w2.heap.size 0 rfl (woC L2 Y.D) _ (a_g HXV.out) Tryz.underlying33 rfl (by kernel_rfl) ?_)
  refine HC.out.mono ?_;clear HC;rintro e3 w3 ⟨rfl,hb3⟩;have HB3:=hid (HBV.out.trans (hb3.mono HBV.out.size));have HBV3:=hid hb3;have h0:=f_Z L2 Y w3 (b_H hb3 HRV.out) (HG.out.B HB3.out);rw [HRY.out] at h0;have HC:=hid h0;clear h0 hb3;obtain ⟨y0,-⟩:=a_h HBV3.out HXV.out 0 _ rfl;obtain ⟨y1,-⟩:=a_h HBV3.out HXV.out 1 _ rfl;obtain ⟨y2,-⟩:=a_h HBV3.out HXV.out 2 _ rfl;obtain ⟨y3,-⟩:=a_h HBV3.out HXV.out 3 _ rfl;obtain ⟨y4,-⟩:=a_h HBV3.out HXV.out 4 _ rfl;obtain ⟨y5,-⟩:=a_h HBV3.out HXV.out 5 _ rfl;obtain ⟨y6,-⟩:=a_h HBV3.out HXV.out 6 _ rfl
  go_wp2_with fail
  refine HC.out.mono ?_;clear HC y0 y1 y2 y3 y4 y5 y6;rintro e4 w4 ⟨rfl,hb4⟩;have HBV4:=hid (a_a HBV3.out hb4);have HB4:=hid (HBV.out.trans (HBV4.out.mono HBV.out.size));obtain ⟨y5,-⟩:=a_h HBV4.out HXV.out 5 _ rfl;obtain ⟨y6,-⟩:=a_h HBV4.out HXV.out 6 _ rfl;obtain ⟨x5,-⟩:=a_h HBV4.out HXW.out 5 _ rfl;obtain ⟨x6,-⟩:=a_h HBV4.out HXW.out 6 _ rfl;rw [HNN.out.2] at y5;rw [HNN.out.1] at x5;rw [HMN.out.2] at y6;rw [HMN.out.1] at x6;have q1:¬ ((m2:Int) < m):=by have:=HM.out;omega
  have q2:¬ ((m:Int)+1 < m2):=by have:=HM.out;omega
  have q3:wrap64 ((m:Int)+1)=m+1:=IntWalk.wrap64_in _ (by have:=HM.out;omega);have HC:=hid (h_Y w4 (HG.out.B HB4.out));clear hb4
  go_wp2_with fail
  refine HC.out.mono ?_;clear HC y5 y6 x5 x6;rintro e5 w5 ⟨rfl,hb5⟩;have HBV5:=hid (a_a HBV4.out hb5);have HB5:=hid (HBV.out.trans (HBV5.out.mono HBV.out.size));clear hb5 HBV4 HBV3 HB4 HB3;obtain ⟨x5,-⟩:=a_h HBV5.out HXW.out 5 _ rfl;rw [HNN.out.1] at x5
  go_wp2_with fail
  have d1:decide (m2 < m)=false:=decide_eq_false (by have:=HM.out;omega);have d2:decide ((m:Int)+1 < m2)=false:=decide_eq_false (by have:=HM.out;omega);simp only [d1,d2,Bool.or_self];clear d1 d2
  go_loopw [14,18,19,20,86] (fun _ _ _ _ i wr=>∃ k:Nat,k≤n∧i=.int .i64 k∧Hid (Below V.heap.size V wr)) (fun _ _ _ _ i _=>n - (intOf i).toNat)
  case atStart=>exact ⟨0,by omega,rfl,HBV5.out⟩
  case round =>
   obtain ⟨k,hk,rfl,hb⟩:=hrel;have HBZ:=hid hb.out;have HBZw:=hid (HBV.out.trans (HBZ.out.mono HBV.out.size));have HRY1:=hid (b_H HBZ.out HRV.out);have HRX1:=hid (b_H HBZ.out HRW.out);clear hb;obtain ⟨Z,hZ⟩:=nm (wr);subst hZ
   by_cases hlt:k < n
   ·by_cases hkj:k=j
    ·subst hkj;have i1:((k:Int)==k)=true:=by simp
     have i2:(k:Int) < n:=by omega
     have i3:=N221
     go_wp2_with fail
     go_roundw
     case rel=>exact ⟨k+1,by omega,by go_num,HBZ.out⟩
     case measure=>rw [i3];simp only [intOf];omega
    ·obtain ⟨b1,o1,t,ta,tc,qa,qc,h1,ht1,-,T1,r1⟩:=d_d HRX1.out.th (k:=k) (by have:=HNN.out.1;omega);obtain ⟨b2,o2,s,sa,sc,ra,rc,h2,ht2,-,T2,r2⟩:=d_d HRY1.out.th (k:=k) (by have:=HNN.out.2;omega)
     obtain rfl:s=t:=by
      have e:=r_y (X:=X) (k:=j) (i:=k) (by omega);rw [HYY.out,thW,thW,List.getD_eq_getElem?_getD,List.getD_eq_getElem?_getD,ht1,ht2] at e;exact e
     obtain ⟨b3,o3,pa,cp,h3,gx,hcp,P1⟩:=h_J HRX1.out.bs.bl (i:=k) (by have:=HLB.out.1;omega);obtain ⟨b4,o4,pb,cq,h4,gy,hcq,P2⟩:=h_J HRY1.out.bs.bl (i:=k) (by have:=HLB.out.2;omega)
     have hbf:Y.bs.getD k []=X.bs.getD k []:=by
      have e:=r_w (X:=X) (k:=j) (i:=k) (by omega);rw [HYY.out] at e;exact e
     rw [hbf] at gy hcq P2;obtain ⟨ps,hps⟩:=mn (X.bs.getD k []);rw [hps] at gx hcp P1 gy hcq P2;obtain ⟨nb,hnb⟩:=mn (ps.length);rw [hnb] at gx hcp P1 gy hcq P2;have ⟨HP1,HP2⟩:=hh2 P1 P2;have hcb:nb≤9223372036854775807:=by have:=hcp.1;have:=hcp.2.1;omega
     have HCB:=hid hcb;obtain ⟨x4,-⟩:=a_h HBZ.out HXW.out 4 _ rfl;obtain ⟨x5,-⟩:=a_h HBZ.out HXW.out 5 _ rfl;obtain ⟨y4,-⟩:=a_h HBZ.out HXV.out 4 _ rfl;obtain ⟨y5,-⟩:=a_h HBZ.out HXV.out 5 _ rfl;have L4:=hid (show Value.slice L.bs.a L.bs.n L.bs.c=.slice (some ⟨b3,o3,none⟩) n L.bs.c by rw [h3,HLB.out.1]);have M4:=hid (show Value.slice L2.bs.a L2.bs.n L2.bs.c=.slice (some ⟨b4,o4,none⟩) n L2.bs.c by rw [h4,HLB.out.2]);rw [L4.out] at x4;rw [M4.out] at y4;rw [h1,HNN.out.1] at x5;rw [h2,HNN.out.2] at y5;have ⟨GX,GY⟩:=hh2 gx gy;have HFN:=hid (HFS.out s (List.mem_of_getElem? ht1));obtain ⟨tn,htn⟩:=mn (s.fs.length);obtain ⟨tm,htm⟩:=mn (s.lf.length);rw [htn] at HFN;rw [htn,htm] at T1 T2;have HA1:=hid (show Z.rangeAt b1 (o1+k*13) (thC s ta tn tc qa tm qc) from fun x v hx=>r1 x v (by rw [htn,htm];exact hx));have HA2:=hid (show Z.rangeAt b2 (o2+k*13) (thC s sa tn sc ra tm rc) from fun x v hx=>r2 x v (by rw [htn,htm];exact hx));have i1:(0:Int)≤k:=by omega
     have i2:(k:Int) < n:=by omega
     have i3:((k:Int)==j)=false:=by simp;omega
     have HC:=hid (show ∀ u,Below Z.heap.size Z u→Calls Tryz.prog 25 #[thV s sa tn sc ra tm rc,thV s ta tn tc qa tm qc] u (a_1 true u) from fun u hu=>by
      have h:=j_T s s sa ra tn sc tm rc ta qa tn tc tm qc u (a_w (a_B hu) T2).f (a_w (a_B hu) T1).f HFN.out;rw [n_l] at h;exact h)
     clear h1 h2 h3 h4 ht1 ht2 T1 T2 r1 r2 htn htm hbf hps hnb hcp hcq P1 P2 hcb;have hG:=q_L w1.heap.size w2.heap.size L L2 b1 o1 b2 o2 b3 o3 b4 o4 n k nb cp cq s ta qa sa ra pa pb tn tc tm qc sc rc
     go_upto_region 11 with fail
     refine d_f [some 92,some 93,some 94,some 95,some 96,some 97,some 98,some 99,some 100,some 101,some 102,some 103,some 104,some 105,some 106,some 107,some 108,some 109,some 110,some 111,some 112,some 113,some 114,some 115,some 116,some 117,some 118,some 119,some 120] (fun w'=>Below Z.heap.size Z w') (u_I w1.heap.size w2.heap.size L L2 b1 o1 b2 o2 b3 o3 b4 o4 n k nb cp cq s ta qa sa ra pa pb tn tc tm qc sc rc) 100 100 (fun _ _ _=>True) (by kernel_rfl) (by kernel_rfl) (by decide) rfl ((Below.refl _ _).drew) ?_ ?_
     ·show StepsL _ _ _ _ _ _ _
      refine InvD.cons rfl rfl rfl rfl rfl (fun a1 vals w1' C K hK=>?_) ?_
      ·have e0:=N177;refine a_f rfl (a_v (v:=.pointer (some ⟨w2.heap.size,5,none⟩)) ?_ (b_P hK C rfl rfl));simp [execOp,go_sem,e0]
      refine InvD.cons rfl rfl rfl rfl rfl (fun a1 vals w1' C K hK=>?_) ?_
      ·have e0:=C.i 0;have kc:=a_t C.base y5;refine a_f rfl (a_v (v:=.slice (some ⟨b2,o2,none⟩) n L2.th.c) ?_ (b_P hK C rfl rfl));simp [execOp,go_sem,e0,kc]
      refine InvD.cons rfl rfl rfl rfl rfl (fun a1 vals w1' C K hK=>?_) ?_
      ·exact J115
      refine InvD.cons rfl rfl rfl rfl rfl (fun a1 vals w1' C K hK=>?_) ?_
      ·have e0:=C.i 1;have e1:=C.i 2;refine a_f rfl (a_v (v:=.pointer (some ⟨b2,o2+k*13,none⟩)) ?_ (b_P hK C rfl rfl));simp [execOp,go_sem,e0,e1,i1,i2]
      refine InvD.cons rfl rfl rfl rfl rfl (fun a1 vals w1' C K hK=>?_) ?_
      ·have e0:=C.i 3;exact a_f rfl (wp_load_mid 46 _ rfl (b2) (o2+k*13) ((a_K a1 _).symm.trans e0) (thC s sa tn sc ra tm rc) _ (r_9 C.base HA2.out) Tryz.underlying46 rfl (by kernel_rfl) (b_P hK C rfl rfl))
      refine InvD.cons rfl rfl rfl rfl rfl (fun a1 vals w1' C K hK=>?_) ?_
      ·have e0:=N235;refine a_f rfl (a_v (v:=.pointer (some ⟨w1.heap.size,5,none⟩)) ?_ (b_P hK C rfl rfl));simp [execOp,go_sem,e0]
      refine InvD.cons rfl rfl rfl rfl rfl (fun a1 vals w1' C K hK=>?_) ?_
      ·have e0:=C.i 5;have kc:=a_t C.base x5;refine a_f rfl (a_v (v:=.slice (some ⟨b1,o1,none⟩) n L.th.c) ?_ (b_P hK C rfl rfl));simp [execOp,go_sem,e0,kc]
      refine InvD.cons rfl rfl rfl rfl rfl (fun a1 vals w1' C K hK=>?_) ?_
      ·exact J115
      refine InvD.cons rfl rfl rfl rfl rfl (fun a1 vals w1' C K hK=>?_) ?_
      ·have e0:=C.i 6;have e1:=C.i 7;refine a_f rfl (a_v (v:=.pointer (some ⟨b1,o1+k*13,none⟩)) ?_ (b_P hK C rfl rfl));simp [execOp,go_sem,e0,e1,i1,i2]
      refine InvD.cons rfl rfl rfl rfl rfl (fun a1 vals w1' C K hK=>?_) ?_
      ·have e0:=C.i 8;exact a_f rfl (wp_load_mid 46 _ rfl (b1) (o1+k*13) ((a_K a1 _).symm.trans e0) (thC s ta tn tc qa tm qc) _ (r_9 C.base HA1.out) Tryz.underlying46 rfl (by kernel_rfl) (b_P hK C rfl rfl))
      refine InvD.cons rfl rfl rfl rfl rfl (fun a1 vals w1' C K hK=>?_) ?_
      ·have e0:=C.i 4;have e1:=C.i 9;rw [a_K] at e0 e1;refine a_f rfl (a_N _ _ _ rfl 25 rfl [.agg (thC s sa tn sc ra tm rc).toArray,.agg (thC s ta tn tc qa tm qc).toArray] (by simp only [List.map_cons,List.map_nil,e0,e1]) (by kernel_rfl) ((HC.out w1' C.base).mono ?_));rintro e9 w2' ⟨rfl,hb2⟩;exact J57
      refine InvD.cons rfl rfl rfl rfl rfl (fun a1 vals w1' C K hK=>?_) ?_
      ·have e0:=C.i 10;refine a_f rfl (a_v (v:=.bool false) ?_ (b_P hK C rfl rfl));simp [execOp,go_sem,e0]
      refine InvD.cons rfl rfl rfl rfl rfl (fun a1 vals w1' C K hK=>?_) ?_
      ·have e0:=C.i 11;refine a_f rfl (a_v (v:=.bool false) ?_ (b_P hK C rfl rfl));simp [execOp,go_sem,e0]
      refine InvD.cons rfl rfl rfl rfl rfl (fun a1 vals w1' C K hK=>?_) ?_
      ·have e0:=N177;refine c_d (b_x rfl (C.is 12 104 (.bool false) rfl rfl rfl rfl) rfl) (a_v (v:=.pointer (some ⟨w2.heap.size,1,none⟩)) ?_ (b_P hK C rfl rfl));simp [execOp,go_sem,e0]
      refine InvD.cons rfl rfl rfl rfl rfl (fun a1 vals w1' C K hK=>?_) ?_
      ·have e0:=C.i 13;refine c_d (b_x rfl (C.is 12 104 (.bool false) rfl rfl rfl rfl) rfl) (a_v (v:=.pointer (some ⟨w2.heap.size,4,none⟩)) ?_ (b_P hK C rfl rfl));simp [execOp,go_sem,e0]
      refine InvD.cons rfl rfl rfl rfl rfl (fun a1 vals w1' C K hK=>?_) ?_
      ·have e0:=C.i 14;have kc:=a_t C.base y4;refine c_d (b_x rfl (C.is 12 104 (.bool false) rfl rfl rfl rfl) rfl) (a_v (v:=.slice (some ⟨b4,o4,none⟩) n L2.bs.c) ?_ (b_P hK C rfl rfl));simp [execOp,go_sem,e0,kc]
      refine InvD.cons rfl rfl rfl rfl rfl (fun a1 vals w1' C K hK=>?_) ?_
      ·exact J92
      refine InvD.cons rfl rfl rfl rfl rfl (fun a1 vals w1' C K hK=>?_) ?_
      ·have e0:=C.i 15;have e1:=C.i 16;refine c_d (b_x rfl (C.is 12 104 (.bool false) rfl rfl rfl rfl) rfl) (a_v (v:=.pointer (some ⟨b4,o4+k,none⟩)) ?_ (b_P hK C rfl rfl));simp [execOp,go_sem,e0,e1,i1,i2]
      refine InvD.cons rfl rfl rfl rfl rfl (fun a1 vals w1' C K hK=>?_) ?_
      ·have e0:=C.i 17;have kc:=a_t C.base gy;refine c_d (b_x rfl (C.is 12 104 (.bool false) rfl rfl rfl rfl) rfl) (a_v (v:=.slice pb nb cq) ?_ (b_P hK C rfl rfl));simp [execOp,go_sem,e0,kc]
      refine InvD.cons rfl rfl rfl rfl rfl (fun a1 vals w1' C K hK=>?_) ?_
      ·have e0:=C.i 18;exact J107
      refine InvD.cons rfl rfl rfl rfl rfl (fun a1 vals w1' C K hK=>?_) ?_
      ·have e0:=N235;refine c_d (b_x rfl (C.is 12 104 (.bool false) rfl rfl rfl rfl) rfl) (a_v (v:=.pointer (some ⟨w1.heap.size,1,none⟩)) ?_ (b_P hK C rfl rfl));simp [execOp,go_sem,e0]
      refine InvD.cons rfl rfl rfl rfl rfl (fun a1 vals w1' C K hK=>?_) ?_
      ·have e0:=C.i 20;refine c_d (b_x rfl (C.is 12 104 (.bool false) rfl rfl rfl rfl) rfl) (a_v (v:=.pointer (some ⟨w1.heap.size,4,none⟩)) ?_ (b_P hK C rfl rfl));simp [execOp,go_sem,e0]
      refine InvD.cons rfl rfl rfl rfl rfl (fun a1 vals w1' C K hK=>?_) ?_
      ·have e0:=C.i 21;have kc:=a_t C.base x4;refine c_d (b_x rfl (C.is 12 104 (.bool false) rfl rfl rfl rfl) rfl) (a_v (v:=.slice (some ⟨b3,o3,none⟩) n L.bs.c) ?_ (b_P hK C rfl rfl));simp [execOp,go_sem,e0,kc]
      refine InvD.cons rfl rfl rfl rfl rfl (fun a1 vals w1' C K hK=>?_) ?_
      ·exact J92
      refine InvD.cons rfl rfl rfl rfl rfl (fun a1 vals w1' C K hK=>?_) ?_
      ·have e0:=C.i 22;have e1:=C.i 23;refine c_d (b_x rfl (C.is 12 104 (.bool false) rfl rfl rfl rfl) rfl) (a_v (v:=.pointer (some ⟨b3,o3+k,none⟩)) ?_ (b_P hK C rfl rfl));simp [execOp,go_sem,e0,e1,i1,i2]
      refine InvD.cons rfl rfl rfl rfl rfl (fun a1 vals w1' C K hK=>?_) ?_
      ·have e0:=C.i 24;have kc:=a_t C.base gx;refine c_d (b_x rfl (C.is 12 104 (.bool false) rfl rfl rfl rfl) rfl) (a_v (v:=.slice pa nb cp) ?_ (b_P hK C rfl rfl));simp [execOp,go_sem,e0,kc]
      refine InvD.cons rfl rfl rfl rfl rfl (fun a1 vals w1' C K hK=>?_) ?_
      ·have e0:=C.i 25;exact J107
      refine InvD.cons rfl rfl rfl rfl rfl (fun a1 vals w1' C K hK=>?_) ?_
      ·have e0:=C.i 19;have e1:=C.i 26;refine c_d (b_x rfl (C.is 12 104 (.bool false) rfl rfl rfl rfl) rfl) (a_v (v:=.bool false) ?_ (b_P hK C rfl rfl));simp [execOp,go_sem,e0,e1]
      refine InvD.cons rfl rfl rfl rfl rfl (fun a1 vals w1' C K hK=>?_) ?_
      ·have e0:=C.i 12;have e1:=C.i 27;refine a_f rfl (a_v (v:=.bool false) ?_ (b_P hK C rfl rfl));simp [execOp,go_sem,e0,e1]
      exact StepsL.nil
     ·intro vals wv hb hv hbo;have y120:vals 28=.bool false:=List.head_eq_of_cons_eq (hv 28 (by decide));simp only [c_L,Act.put,sA,sB,sC,Nat.reduceAdd,y120];have HZ2:=hid hb;clear hb hv hbo y120 HC HA1 HA2 hG x4 x5 y4 y5 gx gy;obtain ⟨x4,-⟩:=a_h (a_a HBZ.out HZ2.out) HXW.out 4 _ rfl;rw [L4.out] at x4;have gx:=a_t HZ2.out GX.out
      go_wp2_with fail
      clear x4 gx
      go_loopw [14,19,20,128] (fun _ _ _ i wr=>∃ q:Nat,q≤nb∧i=.int .i64 q∧Hid (Below Z.heap.size Z wr)) (fun _ _ _ i _=>nb - (intOf i).toNat)
      case atStart=>exact ⟨0,by omega,rfl,HZ2.out⟩
      case round =>
       obtain ⟨q,hq,rfl,hbi⟩:=hrel
       by_cases hlq:q < nb
       ·obtain ⟨b5,o5,rfl,R5⟩:=HP1.out.2.resolve_left (by omega);obtain ⟨b6,o6,h6,R6⟩:=HP2.out.2.resolve_left (by omega);obtain ⟨g5,g6⟩:=R5 q (by have:=HP1.out.1;omega);obtain ⟨g7,g8⟩:=R6 q (by have:=HP2.out.1;omega);obtain ⟨p1,hp1⟩:=mn ((ps.getD q (0,0)).1);obtain ⟨p2,hp2⟩:=mn ((ps.getD q (0,0)).2);rw [hp1] at g5 g7;rw [hp2] at g6 g8;have ⟨G7,G8,H6⟩:=hh3 g7 g8 h6;have g5:=a_t hbi.out g5;have g6:=a_t hbi.out g6;have j1:(0:Int)≤q:=by omega
        have j2:(q:Int) < nb:=by omega
        clear g7 g8 h6 hp1 hp2 R5 R6
        go_upto_region 16 with (refine a_d rfl 59 _ _ rfl wr.heap.size #[.int .i64 p1,.int .i64 p2] rfl rfl _ (a_e [.int .i64 0,.int .i64 0] wr.heap.size rfl) rfl (by kernel_rfl) (by simp [Value.oneCell']) ?_;intro U2 HU2)
        have hu:a_p U2 wr.heap.size [.int .i64 p1,.int .i64 p2]:=by rw [HU2.out];exact a_q (a_e [.int .i64 0,.int .i64 0] _ rfl) rfl
        have hbu:Below wr.heap.size wr U2:=by rw [HU2.out];exact a_j (Nat.le_refl _) ((Below.refl _ _).alloc (Nat.le_refl _) _)
        have HBU2:=hid (a_a hbi.out hbu);obtain ⟨u0,-⟩:=hu 0 _ rfl;obtain ⟨u1,-⟩:=hu 1 _ rfl;obtain ⟨y4,-⟩:=a_h (a_a HBZ.out HBU2.out) HXV.out 4 _ rfl;rw [M4.out] at y4;have gy:=a_t HBU2.out GY.out;rw [H6.out] at gy;have g7:=a_t HBU2.out G7.out;have g8:=a_t HBU2.out G8.out;have i1:(0:Int)≤k:=by omega
        have i2:(k:Int) < n:=by omega
        clear HU2 hu hbu g5 g6
        go_quiet (fail)
        have j3:wrap64 ((q:Int)+1)=q+1:=IntWalk.wrap64_in _ (by have:=HCB.out;omega)
        go_wp2_with fail
        go_roundw
        case rel=>exact ⟨q+1,by omega,by go_num,b_v HBU2.out _⟩
        case measure=>rw [j3];simp only [intOf];omega
       ·obtain rfl:q=nb:=by omega
        have hbz:=a_a HBZ.out hbi.out;have i5:=N221;clear hbi
        go_wp2_with fail
        go_roundw
        case rel=>exact ⟨k+1,by omega,by go_num,hbz⟩
        case measure=>rw [i5];simp only [intOf];omega
   ·obtain rfl:k=n:=by omega
    obtain ⟨x0,-⟩:=a_h HBZ.out HXW.out 0 _ rfl;obtain ⟨x6,-⟩:=a_h HBZ.out HXW.out 6 _ rfl;obtain ⟨y0,-⟩:=a_h HBZ.out HXV.out 0 _ rfl;obtain ⟨y6,-⟩:=a_h HBZ.out HXV.out 6 _ rfl;rw [HMN.out.1] at x6;rw [HMN.out.2] at y6;have hmc:m≤L2.ev.c:=by have h1:=HM.out;have h2:=HRV.out.cev.1;have h3:=HMN.out.2;omega
    have HC:=hid (show ∀ u,Below Z.heap.size Z u→Calls Tryz.prog 26 #[.slice L2.ev.a m L2.ev.c,.slice L.ev.a m L.ev.c] u (a_1 true u) from fun u hu=>by
     have A1:Vs repEv Any u L2.ev.a m (Y.ev.take m):=h_D (b_H hu HRY1.out).ev m (by have:=HM.out;have:=HMN.out.2;omega);have A2:=(b_H hu HRX1.out).ev;rw [HMN.out.1] at A2;have h:=k_H L2.ev.a L.ev.a m m L2.ev.c L.ev.c (Y.ev.take m) X.ev u A1 A2 (by have:=HM.out;omega);rw [decide_eq_true HEV.out] at h;exact h)
    have HC2:=hid (show ∀ u,Below Z.heap.size Z u→Calls Tryz.prog 27 #[.slice L2.co.a L2.co.n L2.co.c,.slice L.co.a L.co.n L.co.c] u (a_1 true u) from fun u hu=>by
     have h:=l_f L2.co.a L.co.a L2.co.n L.co.n L2.co.c L.co.c Y.code X.code u (b_H hu HRY1.out).co (b_H hu HRX1.out).co HCN.out.1 HCN.out.2;rw [decide_eq_true HCD.out] at h;exact h)
    have hG:=q_M w1.heap.size w2.heap.size L L2 m m2
    go_upto_region 20 with fail
    refine d_f [some 146,some 147,some 148,some 149,some 150,some 151,some 152,some 153,some 154,some 155,some 156,some 157,some 158,some 159,some 160,some 161,some 14] (fun w'=>Below Z.heap.size Z w') (u_J w1.heap.size w2.heap.size L L2 m m2) 100 100 (fun _ _ _=>True) (by kernel_rfl) (by kernel_rfl) (by decide) rfl ((Below.refl _ _).drew) ?_ ?_
    ·show StepsL _ _ _ _ _ _ _
     refine InvD.cons rfl rfl rfl rfl rfl (fun a1 vals w1' C K hK=>?_) ?_
     ·have e0:=N177;refine a_f rfl (a_v (v:=.pointer (some ⟨w2.heap.size,6,none⟩)) ?_ (b_P hK C rfl rfl));simp [execOp,go_sem,e0]
     refine InvD.cons rfl rfl rfl rfl rfl (fun a1 vals w1' C K hK=>?_) ?_
     ·have e0:=C.i 0;have kc:=a_t C.base y6;refine a_f rfl (a_v (v:=.slice L2.ev.a m2 L2.ev.c) ?_ (b_P hK C rfl rfl));simp [execOp,go_sem,e0,kc]
     refine InvD.cons rfl rfl rfl rfl rfl (fun a1 vals w1' C K hK=>?_) ?_
     ·exact J93
     refine InvD.cons rfl rfl rfl rfl rfl (fun a1 vals w1' C K hK=>?_) ?_
     ·have e0:=C.i 2;exact J111
     refine InvD.cons rfl rfl rfl rfl rfl (fun a1 vals w1' C K hK=>?_) ?_
     ·have e0:=C.i 3;refine a_f rfl (a_v (v:=.int .i64 m) ?_ (b_P hK C rfl rfl));simp [go_sem,e0]
     refine InvD.cons rfl rfl rfl rfl rfl (fun a1 vals w1' C K hK=>?_) ?_
     ·have e0:=C.i 1;have e1:=C.i 4;refine a_f rfl (a_v (v:=.slice L2.ev.a m L2.ev.c) ?_ (b_P hK C rfl rfl));simp [execOp,go_sem,e0,e1,hmc]
     refine InvD.cons rfl rfl rfl rfl rfl (fun a1 vals w1' C K hK=>?_) ?_
     ·exact J93
     refine InvD.cons rfl rfl rfl rfl rfl (fun a1 vals w1' C K hK=>?_) ?_
     ·have e0:=C.i 6;exact J111
     refine InvD.cons rfl rfl rfl rfl rfl (fun a1 vals w1' C K hK=>?_) ?_
     ·have e0:=C.i 5;have e1:=C.i 7;rw [a_K] at e0 e1;refine a_f rfl (a_N _ _ _ rfl 26 rfl [.slice L2.ev.a m L2.ev.c,.slice L.ev.a m L.ev.c] (by simp only [List.map_cons,List.map_nil,e0,e1]) (by kernel_rfl) ((HC.out w1' C.base).mono ?_));rintro e9 w2' ⟨rfl,hb2⟩;exact J57
     refine InvD.cons rfl rfl rfl rfl rfl (fun a1 vals w1' C K hK=>?_) ?_
     ·have e0:=C.i 8;refine a_f rfl (a_v (v:=.bool true) ?_ (b_P hK C rfl rfl));simp [execOp,go_sem,e0]
     refine InvD.cons rfl rfl rfl rfl rfl (fun a1 vals w1' C K hK=>?_) ?_
     ·have e0:=N177;refine c_d (b_x rfl (C.is 9 155 (.bool true) rfl rfl rfl rfl) rfl) (a_v (v:=.pointer (some ⟨w2.heap.size,0,none⟩)) ?_ (b_P hK C rfl rfl));simp [execOp,go_sem,e0]
     refine InvD.cons rfl rfl rfl rfl rfl (fun a1 vals w1' C K hK=>?_) ?_
     ·have e0:=C.i 10;have kc:=a_t C.base y0;refine c_d (b_x rfl (C.is 9 155 (.bool true) rfl rfl rfl rfl) rfl) (a_v (v:=.slice L2.co.a L2.co.n L2.co.c) ?_ (b_P hK C rfl rfl));simp [execOp,go_sem,e0,kc]
     refine InvD.cons rfl rfl rfl rfl rfl (fun a1 vals w1' C K hK=>?_) ?_
     ·have e0:=N235;refine c_d (b_x rfl (C.is 9 155 (.bool true) rfl rfl rfl rfl) rfl) (a_v (v:=.pointer (some ⟨w1.heap.size,0,none⟩)) ?_ (b_P hK C rfl rfl));simp [execOp,go_sem,e0]
     refine InvD.cons rfl rfl rfl rfl rfl (fun a1 vals w1' C K hK=>?_) ?_
     ·have e0:=C.i 12;have kc:=a_t C.base x0;refine c_d (b_x rfl (C.is 9 155 (.bool true) rfl rfl rfl rfl) rfl) (a_v (v:=.slice L.co.a L.co.n L.co.c) ?_ (b_P hK C rfl rfl));simp [execOp,go_sem,e0,kc]
     refine InvD.cons rfl rfl rfl rfl rfl (fun a1 vals w1' C K hK=>?_) ?_
     ·have e0:=C.i 11;have e1:=C.i 13;rw [a_K] at e0 e1;refine c_d (b_x rfl (C.is 9 155 (.bool true) rfl rfl rfl rfl) rfl) (a_N _ _ _ rfl 27 rfl [.slice L2.co.a L2.co.n L2.co.c,.slice L.co.a L.co.n L.co.c] (by simp only [List.map_cons,List.map_nil,e0,e1]) (by kernel_rfl) ((HC2.out w1' C.base).mono ?_));rintro e9 w2' ⟨rfl,hb2⟩;exact J57
     refine InvD.cons rfl rfl rfl rfl rfl (fun a1 vals w1' C K hK=>?_) ?_
     ·have e0:=C.i 9;have e1:=C.i 14;refine a_f rfl (a_v (v:=.bool true) ?_ (b_P hK C rfl rfl));simp [execOp,go_sem,e0,e1]
     refine InvD.cons rfl rfl rfl rfl rfl (fun a1 vals w1' C K hK=>?_) ?_
     ·have e0:=C.i 15;refine a_f rfl (a_v (v:=.bool true) ?_ (b_P hK C rfl rfl));simp [execOp,go_sem,e0]
     exact StepsL.nil
    ·intro vals wv hb hv hbo;have y14:vals 16=.bool true:=List.head_eq_of_cons_eq (hv 16 (by decide));simp only [c_L,Act.put,sA,sB,sC,y14];have HZ2:=hid (HBZw.out.trans (hb.mono HBZw.out.size));clear hb hv hbo y14 HC HC2 hG x0 x6 y0 y6
     go_wp2
     go_ret
     exact ⟨rfl,HZ2.out⟩
 ·have hEn:(E != 0)=true:=by simpa using hE0
  have HYZ:=hid (show Y=zWo by rw [←HY.out,i_p,if_neg (by rw [HE.out];exact hE0)]);have HN0:=hid (show L2.th.n=0 by have:=HRV.out.th.1;rw [HYZ.out] at this;exact this.symm)
  go_wp2_with fail
  refine (h_Y _ (HG.out.B HBV.out)).mono ?_;rintro e3 w3 ⟨rfl,hb3⟩;obtain ⟨x5,-⟩:=a_h hb3 HXV.out 5 _ rfl;rw [HN0.out] at x5;have HB3:=hid (HBV.out.trans (hb3.mono HBV.out.size));clear hb3
  go_wp2_with fail
  go_ret
  exact ⟨rfl,HB3.out⟩
end Go.Proofs.YtolabfafgbmdbaaGreatDoor
