import Derived.Test.YtogdpojnbgeknaaGreatDoorB2
import Derived.Test.YtogdpojnbgeknaaGreatDoorB0
import Derived.ChangeKeysEq
import Derived.Deep.QuietTactic
import Derived.Lib.Zigzag
import Derived.Lib.ItoaNum
import Derived.Lib.AtoiAll
import Derived.Test.YtogdpojnbgeknaaGreatDoorB1
import Derived.Lib.Split
import Derived.Lib.IndexLaws
import Derived.Lib.IndexBytes
import Derived.WalkSmall
import Derived.Maps.OwnIn
import Derived.Maps.OwnSet
import Derived.Maps.Views
import Derived.Lib.AppendIntMem
import Derived.Lib.ItoaLen
import Derived.Lib.AtoiErrMem
import Derived.RangeFuncNested
import Derived.RangeFuncBox
import Derived.RangeFuncBound
import Derived.RangeFuncCalls
import Derived.RangeFuncLeaves
import Derived.OwnWalkIn
import Derived.TacticsInMore
import Derived.LoopNIn
import Derived.LoopIn
import Derived.Shelf.Abstract
import Derived.Laws.Rows
import Derived.Deep.DeepCutAuto
import Derived.Maps.AppendAt
import Derived.Deep.AppendLies
import Derived.Shelf.RegionOpen
import Derived.Lib.AtoiAllCases
import Derived.WalkKit
set_option maxRecDepth 100000
set_option maxHeartbeats 16000000
namespace Go.Proofs.YtogdpojnbgeknaaGreatDoor
open Go.ChangeShapes Go.WideShapes Go.ChangeAt Go.RowKit
open Gen
inductive FewInv (t:Thr) (g:Nat) (fa la:Option Addr) (fn fc ln lc m9 m12:Nat) (a0:Act) (w0:World) (listed:Array Bool) (act':Act) (w':World):Prop
 | mk (p3 p4 p5 p6 p7 p8 p9 p10 p11 p12 p13 p14 p15 p16 p17 p18:Value) (x9:Value) (x12:Value) (ea:act'=((((((((((((((((a0.put (some 3) p3).put (some 4) p4).put (some 5) p5).put (some 6) p6).put (some 7) p7).put (some 8) p8).put (some 9) p9).put (some 10) p10).put (some 11) p11).put (some 12) p12).put (some 13) p13).put (some 14) p14).put (some 15) p15).put (some 16) p16).put (some 17) p17).put (some 18) p18)) (hb:Below g w0 w'∧a_p w' g [.int .i64 t.pc,.int .i64 (t.r 0),.int .i64 (t.r 1),.int .i64 (t.r 2),.int .i64 (t.r 3),.int .i64 (t.r 4),.int .i64 (t.r 5),.int .i64 (t.r 6),.int .i64 (t.r 7),x9,.int .i64 t.st,.int .i64 t.ft,x12]∧a_p w' (g+1) thN∧(¬ Up listed 15→x9=.slice fa fn fc)∧(¬ Up listed 17→x12=.slice la ln lc)) (hf0:Up listed 0→p3=.pointer (some ⟨g,9,none⟩)) (hf1:Up listed 1→p4=.slice fa fn fc) (hf2:Up listed 2→p5=.pointer (some ⟨g,9,none⟩)) (hf3:Up listed 3→p6=.slice fa fn fc) (hf4:Up listed 4→p7=.int .i64 fn) (hf5:Up listed 5→p8=.int .i64 m9) (hf6:Up listed 6→p9=.slice fa m9 fc) (hf7:Up listed 7→p10=.pointer (some ⟨g,12,none⟩)) (hf8:Up listed 8→p11=.slice la ln lc) (hf9:Up listed 9→p12=.pointer (some ⟨g,12,none⟩)) (hf10:Up listed 10→p13=.slice la ln lc) (hf11:Up listed 11→p14=.int .i64 ln) (hf12:Up listed 12→p15=.int .i64 m12) (hf13:Up listed 13→p16=.slice la m12 lc) (hf14:Up listed 14→p17=.pointer (some ⟨g,9,none⟩)) (hS:Up listed 15→Up listed 1∧Up listed 3∧x9=.slice fa m9 fc) (hf16:Up listed 16→p18=.pointer (some ⟨g,12,none⟩)) (hU:Up listed 17→Up listed 8∧Up listed 10∧x12=.slice la m12 lc):FewInv t g fa la fn fc ln lc m9 m12 a0 w0 listed act' w'
end Go.Proofs.YtogdpojnbgeknaaGreatDoor
namespace Go.Proofs.YtogdpojnbgeknaaGreatDoor
open Go.ChangeShapes Go.WideShapes Go.ChangeAt Go.RowKit
open Gen
open Lib (hid)
theorem p_t {t:Thr} {fn ln:Nat} (h1:t.fs.length=fn) (h2:t.lf.length=ln) (h:¬ (0≤t.pc∧t.pc≤1000∧fn≤6∧0≤t.st∧t.st≤2∧ln≤8)):a_R t=false:=by
 cases hr:a_R t with
 | false=>rfl
 | true =>
  have hl:=d_l hr;have hp:=b_x hr;simp only [a_R,e_a,Bool.and_eq_true,decide_eq_true_eq] at hr
  omega
theorem i_Y (t:Thr) (fa la:Option Addr) (fn fc ln lc:Nat) (w:World) (F:ThF w fa fn fc la ln lc t) :
  Calls Tryz.prog 41 #[.agg (thC t fa fn fc la ln lc).toArray] w (b_h (a_R t) w):=by
 obtain ⟨W,hW⟩:=nm (w.alloc (Obj.cells (thC t fa fn fc la ln lc).toArray 46));have X:=N110;have hB:=N2;have h1:t.fs.length=fn:=F.fs.1;have h2:t.lf.length=ln:=F.lf.1;replace F:=d_b hB F;have ⟨HF,HX,HB,HW,H1,H2⟩:=hh6 F X hB hW h1 h2;clear hW X hB F
 by_cases hA:0≤t.pc∧t.pc≤1000∧fn≤6∧0≤t.st∧t.st≤2∧ln≤8
 ·clear h1 h2;obtain ⟨a1,a2,a3,a4,a5,a6⟩:=hA;have i1:¬ t.pc < 0:=by omega
  have i2:¬ 1000 < t.pc:=by omega
  have i3:¬ (6:Int) < fn:=by omega
  have i4:¬ t.st < 0:=by omega
  have i5:¬ 2 < t.st:=by omega
  have i6:¬ (8:Int) < ln:=by omega
  have HA:=hid (And.intro a1 (And.intro a2 (And.intro a4 a5)));clear a1 a2 a4 a5
  go_enter Tryz.func41,Tryz.ntmps41
  go_upto_region 1 with fail
  rw [←HW.out];have k0:=(HX.out 0 _ rfl).1;have k9:=(HX.out 9 _ rfl).1;have k10:=(HX.out 10 _ rfl).1;have k12:=(HX.out 12 _ rfl).1
  go_wp2
  go_loopw [40] (fun i wr=>∃ k:Nat,k≤fn∧i=.int .i64 k∧Hid (k_p t.fs k)∧Below W.heap.size W wr) (fun i _=>fn - (intOf i).toNat)
  case atStart=>exact ⟨0,by omega,rfl,(show k_p t.fs 0 from fun i f hi=>by omega),Below.refl _ _⟩
  case round =>
   obtain ⟨k,hk,rfl,hf,hb⟩:=hrel;obtain ⟨wo,hwo⟩:∃ wo:World,wo=wr:=⟨_,rfl⟩;subst hwo
   by_cases hlt:k < fn
   ·obtain ⟨b,o,x0,x1,x2,x3,x4,rfl,hx,g0,g1,g2,g3,g4⟩:=q_D (g_u hb HF.out.fs) hlt;have ⟨HX0,HB0⟩:=hh2 hx hb;have j1:(0:Int)≤k:=by omega
    have j2:(k:Int) < fn:=by omega
    clear hx hb k0 k9 k10 k12
    by_cases h0:0≤x0∧x0≤1000
    ·have HS:=hid (h_9 hf.out HX0.out h0);have q1:¬ x0 < 0:=by omega
     have q2:¬ 1000 < x0:=by omega
     clear h0
     go_wp2
     go_roundw
     case rel=>exact ⟨k+1,by omega,by go_num,HS.out,HB0.out.alloc HB0.out.size _⟩
     case measure=>simp [intOf];omega
    ·have HS:=hid (show a_R t=false by rw [a_R,i_h HX0.out h0,Bool.and_false];rfl);have HBB:=hid ((a_a HB.out HB0.out).alloc (a_a HB.out HB0.out).size (Obj.cells #[.int .i64 x0,.int .i64 x1,.int .i64 x2,.int .i64 x3,.int .i64 x4] 105));clear HB HB0
     go_wp2
     all_goals first
      | (exfalso;omega)
      | (go_ret;exact a_k HS.out HBB.out)
   ·obtain rfl:k=fn:=by omega
    have HFS:=hid (h_v H1.out a3 hf.out);have XB:=a_h hb HX.out;have HL:=hid (g_u hb HF.out.lf);have HBB:=hid (a_a HB.out hb);clear hb k0 k9 k10 k12;have k10:=(XB 10 _ rfl).1;have k11:=(XB 11 _ rfl).1;have k12:=(XB 12 _ rfl).1;clear XB
    go_wp2
    go_loop [56] (fun i=>∃ m:Nat,m≤ln∧i=.int .i64 m∧Hid (s_o t.lf m)) (fun i=>ln - (intOf i).toNat)
    case atStart=>exact ⟨0,by omega,rfl,(show s_o t.lf 0 from fun i f hi=>by omega)⟩
    case round =>
     obtain ⟨m,hm,rfl,hg⟩:=hrel
     by_cases hlt2:m < ln
     ·obtain ⟨b,o,x0,rfl,hx,g0⟩:=j_F HL.out hlt2;have HX0:=hid hx;have j1:(0:Int)≤m:=by omega
      have j2:(m:Int) < ln:=by omega
      clear hx
      by_cases h0:0≤x0∧x0≤8
      ·have HS:=hid (j_G hg.out HX0.out h0);have q1:¬ x0 < 0:=by omega
       have q2:¬ 8 < x0:=by omega
       clear h0
       go_wp2
       go_round
       case rel=>exact ⟨m+1,by omega,by go_num,HS.out⟩
       case measure=>simp [intOf];omega
      ·have HS:=hid (show a_R t=false by rw [a_R,i_i HX0.out h0,Bool.and_false])
       go_wp2
       all_goals first
        | (exfalso;omega)
        | (go_ret;exact a_k HS.out HBB.out)
     ·obtain rfl:m=ln:=by omega
      have HS:=hid (show a_R t=e_a t.st t.ft by
       have ha:=HA.out;rw [a_R,HFS.out,h_w H2.out a6 hg.out,decide_eq_true (And.intro ha.1 ha.2.1),Bool.true_and,Bool.true_and,Bool.and_true])
      clear hg hlt2
      go_wp2
      all_goals
       go_ret
       refine a_k (HS.out.trans ?_) HBB.out;have ha:=HA.out
       try simp only [beq_iff_eq,beq_eq_false_iff_ne] at *
       rw [Bool.eq_iff_iff];simp [e_a]
       try omega
 ·have HS:=hid (p_t h1 h2 hA);clear h1 h2
  go_enter Tryz.func41,Tryz.ntmps41
  go_upto_region 1 with fail
  rw [←HW.out];have k0:=(HX.out 0 _ rfl).1;have k9:=(HX.out 9 _ rfl).1;have k10:=(HX.out 10 _ rfl).1;have k12:=(HX.out 12 _ rfl).1
  go_wp2
  all_goals first
   | (exfalso;omega)
   | (go_ret;exact a_k HS.out HB.out)
end Go.Proofs.YtogdpojnbgeknaaGreatDoor
namespace Go.Proofs.YtogdpojnbgeknaaGreatDoor
open Go.ChangeShapes Go.WideShapes Go.ChangeAt Go.RowKit
open Gen
theorem b_5 {B:Nat} {a w:World} (h:Below B a w) (q:Nat):Below B a (w.drewN q):=⟨h.os,h.tape,h.output,h.size,h.block⟩
theorem q_w {t:Thr} {tg:Int} (h:d_B t tg=0):a_R t=true∧t.pc≠1000∧0≤tg∧tg≤1000∧t.fs.length≠6∧f_l t tg=⟨tg,t.r,t.fs++[(t.pc+1,t.r 4,t.r 5,t.r 6,t.r 7)],t.st,t.ft,t.lf⟩:=by
 have h1:f_l t tg=⟨tg,t.r,t.fs++[(t.pc+1,t.r 4,t.r 5,t.r 6,t.r 7)],t.st,t.ft,t.lf⟩:=by rw [f_l,if_pos h]
 rw [d_B] at h
 by_cases hc:a_R t=true∧t.pc≠1000∧0≤tg∧tg≤1000
 ·rw [if_pos hc] at h;refine ⟨hc.1,hc.2.1,hc.2.2.1,hc.2.2.2,?_,h1⟩;intro e;rw [if_pos e] at h
  omega
 ·rw [if_neg hc] at h;omega
theorem l_l {fs:List Fr} {f:Fr} (h:c_p fs=true) (hl:fs.length≠6) (hf:0≤f.1∧f.1≤1000):c_p (fs++[f])=true:=by
 simp only [c_p,Bool.and_eq_true,decide_eq_true_eq,List.all_eq_true] at h ⊢;refine ⟨by simp only [List.length_append,List.length_cons,List.length_nil];omega,fun x hx=>?_⟩
 rcases List.mem_append.1 hx with hx | hx
 ·exact h.2 x hx
 ·simp at hx;subst hx;exact hf
theorem n_h {t:Thr} {pe:Int} {r:Nat→Int} {f:Fr} (h:a_R t=true) (hl:t.fs.length≠6) (hp:0≤pe∧pe≤1000) (hf:0≤f.1∧f.1≤1000):a_R ⟨pe,r,t.fs++[f],t.st,t.ft,t.lf⟩=true:=by
 simp only [a_R,Bool.and_eq_true,decide_eq_true_eq] at h ⊢;exact ⟨⟨⟨hp,l_l h.1.1.2 hl hf⟩,h.1.2⟩,h.2⟩
abbrev In4:=Int×Int×Int×Int
def opd (i:In4) (k:Nat):Int:=if k=0 then i.2.1 else if k=1 then i.2.2.1 else i.2.2.2
def i_c (k:Nat):List UInt8:=[[],[114,110],[114,114],[114,114,110],[114,114,110],[114,114,114],[114,114,114],[114,114,114],[114,114,114],[114,114,114],[116],[114,116],[114,116],[116],[],[114]].getD k []
def n_C (s:UInt8) (v:Int):Bool:=if s=114 then decide (0≤v∧v≤7) else if s=110 then true else decide (0≤v∧v≤1000)
def g_J (i:In4) (s:List UInt8):Bool:=(List.range s.length).all fun k=>n_C (s.getD k 0) (opd i k)
def c_6 (i:In4):Bool:=g_J i (i_c i.1.toNat)
def b_Y (r:Nat→Int) (a v:Int):Nat→Int:=fun k=>if (k:Int)=a then v else r k
def rgt (t:Thr) (a:Int):Int:=t.r a.toNat
def goT (t:Thr) (pc:Int):Thr:=⟨pc,t.r,t.fs,t.st,t.ft,t.lf⟩
def c_2 (t:Thr) (a v:Int):Thr:=⟨t.pc+1,b_Y t.r a v,t.fs,t.st,t.ft,t.lf⟩
def brT (t:Thr) (b:Bool) (pc:Int):Thr:=if b=true then goT t pc else goT t (t.pc+1)
def opV (t:Thr) (self:Int) (i:In4):Int:=
 if i.1=1 then i.2.2.1 else if i.1=2 then rgt t i.2.2.1 else if i.1=3 then wrap64 (rgt t i.2.2.1+i.2.2.2) else if i.1=4 then bits .and .i64 (rgt t i.2.2.1) i.2.2.2 else
 if i.1=5 then wrap64 (rgt t i.2.2.1+rgt t i.2.2.2) else if i.1=6 then wrap64 (rgt t i.2.2.1 - rgt t i.2.2.2) else if i.1=7 then bits .and .i64 (rgt t i.2.2.1) (rgt t i.2.2.2) else
 if i.1=8 then bits .xor .i64 (rgt t i.2.2.1) (rgt t i.2.2.2) else if i.1=9 then (if rgt t i.2.2.1 < rgt t i.2.2.2 then 1 else 0) else self
def doT (t:Thr) (self:Int) (i:In4):Thr:=
 if i.1=10 then goT t i.2.1 else if i.1=11 then brT t (rgt t i.2.1==0) i.2.2.1 else if i.1=12 then brT t (rgt t i.2.1 != 0) i.2.2.1 else
 if i.1=13 then f_l t i.2.1 else if i.1=14 then g_a t else c_2 t i.2.1 (opV t self i)
def doE (t:Thr) (i:In4):Int:=if i.1=13 then d_B t i.2.1 else if i.1=14 then e_p t else 0
def d_7 (t:Thr):Bool:=decide (t.st=0)&&decide (t.lf.length=0)
def f_S (t:Thr) (self:Int):Bool:=a_R t&&decide (0≤self∧self≤7)
def apE (t:Thr) (self:Int) (i:In4):Int:=
 if f_S t self=false∨t.pc=1000 then 1 else if d_7 t=false then 9 else if i.1 < 1∨15 < i.1 then 10 else if c_6 i=false then 3 else doE t i
def apT (t:Thr) (self:Int) (i:In4):Thr:=if apE t self i=0 then doT t self i else d_z
theorem h_Z {t:Thr} {self:Int} {i:In4} (h:apE t self i≠0):apT t self i=d_z:=by rw [apT,if_neg h]
theorem a_5 {a:Int} (h:0≤a∧a≤7):∃ j:Nat,a=j∧j < 8:=⟨a.toNat,by omega,by omega⟩
theorem m_i (r:Nat→Int) (j:Nat) (v:Int) (k:Nat):b_Y r (j:Int) v k=if k=j then v else r k:=by
 unfold b_Y
 by_cases h:k=j
 ·subst h;simp
 ·rw [if_neg h,if_neg (by omega)]
theorem c_J (r:Nat→Int) (j:Nat) (hj:j < 8) (p:Value) (x:List Value):(p::(.int .i64 (r 0))::(.int .i64 (r 1))::(.int .i64 (r 2))::(.int .i64 (r 3))::(.int .i64 (r 4))::(.int .i64 (r 5))::(.int .i64 (r 6))::(.int .i64 (r 7))::x)[1+j]?=some (.int .i64 (r j)):=by
 exact J45
theorem l_o (r:Nat→Int) (j:Nat) (hj:j < 8) (v:Int) (p:Value) (x:List Value):(p::(.int .i64 (r 0))::(.int .i64 (r 1))::(.int .i64 (r 2))::(.int .i64 (r 3))::(.int .i64 (r 4))::(.int .i64 (r 5))::(.int .i64 (r 6))::(.int .i64 (r 7))::x).set (1+j) (.int .i64 v) =
  (p::(.int .i64 (b_Y r j v 0))::(.int .i64 (b_Y r j v 1))::(.int .i64 (b_Y r j v 2))::(.int .i64 (b_Y r j v 3))::(.int .i64 (b_Y r j v 4))::(.int .i64 (b_Y r j v 5))::(.int .i64 (b_Y r j v 6))::(.int .i64 (b_Y r j v 7))::x):=by
 simp only [m_i];exact J45
theorem r_v (r:Nat→Int) (j:Nat) (hj:j < 8) (v:Int) (x:List Value):((.int .i64 (r 0))::(.int .i64 (r 1))::(.int .i64 (r 2))::(.int .i64 (r 3))::(.int .i64 (r 4))::(.int .i64 (r 5))::(.int .i64 (r 6))::(.int .i64 (r 7))::x).set j (.int .i64 v) =
  ((.int .i64 (b_Y r j v 0))::(.int .i64 (b_Y r j v 1))::(.int .i64 (b_Y r j v 2))::(.int .i64 (b_Y r j v 3))::(.int .i64 (b_Y r j v 4))::(.int .i64 (b_Y r j v 5))::(.int .i64 (b_Y r j v 6))::(.int .i64 (b_Y r j v 7))::x):=by
 simp only [m_i];exact J45
theorem f_c {t:Thr} {pc:Int} {r:Nat→Int} (h:a_R t=true) (hp:0≤pc∧pc≤1000):a_R ⟨pc,r,t.fs,t.st,t.ft,t.lf⟩=true:=by
 simp only [a_R,Bool.and_eq_true,decide_eq_true_eq] at h ⊢;exact ⟨⟨⟨hp,h.1.1.2⟩,h.1.2⟩,h.2⟩
theorem s_H {i:In4} {s:List UInt8} (h:g_J i s=true) {k:Nat} (hk:k < s.length):n_C (s.getD k 0) (opd i k)=true:=by
 simp only [g_J,List.all_eq_true,List.mem_range] at h;exact h k hk
theorem b_1 {i:In4} (h:c_6 i=true) (h1:1≤i.1) (h2:i.1≤15):(i.1≠10∧i.1≠13∧i.1≠14→0≤i.2.1∧i.2.1≤7)∧((i.1=10∨i.1=13)→0≤i.2.1∧i.2.1≤1000) ∧
  ((2≤i.1∧i.1≤9)→0≤i.2.2.1∧i.2.2.1≤7)∧((i.1=11∨i.1=12)→0≤i.2.2.1∧i.2.2.1≤1000)∧((5≤i.1∧i.1≤9)→0≤i.2.2.2∧i.2.2.2≤7):=by
 obtain ⟨o,A,B,C⟩:=i;simp only at h1 h2 ⊢;have hc:o=1∨o=2∨o=3∨o=4∨o=5∨o=6∨o=7∨o=8∨o=9∨o=10∨o=11∨o=12∨o=13∨o=14∨o=15:=by omega
 rcases hc with rfl | rfl | rfl | rfl | rfl | rfl | rfl | rfl | rfl | rfl | rfl | rfl | rfl | rfl | rfl <;>
  simp [c_6,g_J,i_c,n_C,opd,List.range_succ] at h ⊢ <;> omega
theorem r_Z {t:Thr} {self:Int} {i:In4} (h:apE t self i=0):a_R t=true∧(0≤self∧self≤7)∧t.pc≠1000∧t.st=0∧t.lf=[]∧1≤i.1∧i.1≤15∧c_6 i=true∧doE t i=0∧apT t self i=doT t self i:=by
 have h':=h;unfold apE at h
 split at h
 ·omega
 ·rename_i h1
  split at h
  ·omega
  ·rename_i h2
   split at h
   ·omega
   ·rename_i h3
    split at h
    ·omega
    ·rename_i h4
     have e:f_S t self=true:=by cases hm:f_S t self with | true=>rfl | false=>exact absurd (Or.inl hm) h1
     have e2:d_7 t=true:=by simpa using h2
     simp only [f_S,d_7,Bool.and_eq_true,decide_eq_true_eq] at e e2;exact ⟨e.1,e.2,fun hp=>h1 (.inr hp),e2.1,List.eq_nil_of_length_eq_zero e2.2,by omega,by omega,by simpa using h4,h,by rw [apT,if_pos h']⟩
theorem r_q {t:Thr} {self:Int} {i:In4} (h:apE t self i=0):a_R (apT t self i)=true∧(apT t self i).st=0∧(apT t self i).lf=[]:=by
 obtain ⟨h1,h2,h3,h4,h5,h6,h7,h8,h9,h10⟩:=r_Z h;obtain ⟨f1,f2,f3,f4,f5⟩:=b_1 h8 h6 h7;have hp:=b_x h1;rw [h10];unfold doT
 split
 ·exact ⟨f_c h1 (f2 (.inl (by assumption))),h4,h5⟩
 ·split
  ·unfold brT;split
   ·exact ⟨f_c h1 (f4 (.inl (by assumption))),h4,h5⟩
   ·exact ⟨f_c h1 (by omega),h4,h5⟩
  ·split
   ·unfold brT;split
    ·exact ⟨f_c h1 (f4 (.inr (by assumption))),h4,h5⟩
    ·exact ⟨f_c h1 (by omega),h4,h5⟩
   ·split
    ·rename_i hq
     have hc:d_B t i.2.1=0:=by rw [doE,if_pos hq] at h9;exact h9
     obtain ⟨c1,c2,c3,c4,c5,c6⟩:=q_w hc;rw [c6];exact ⟨n_h h1 c5 ⟨c3,c4⟩ (by show 0≤t.pc+1∧t.pc+1≤1000;omega),h4,h5⟩
    ·split
     ·rename_i hn hq
      have hc:e_p t=0:=by rw [doE,if_neg hn,if_pos hq] at h9;exact h9
      have hl:t.fs.length≠0:=fun e=>by rw [e_p,if_pos h1,if_pos e] at hc;omega
      have hm:e_I t∈t.fs:=by
       rw [e_I,List.getD_eq_getElem?_getD,List.getElem?_eq_getElem (by omega)];exact List.getElem_mem _
      rw [g_a,if_pos hc];refine ⟨?_,h4,h5⟩;simp only [a_R,c_p,Bool.and_eq_true,decide_eq_true_eq,List.all_eq_true] at h1 ⊢;refine ⟨⟨⟨h1.1.1.2.2 _ hm,by rw [List.length_take];have:=h1.1.1.2.1;omega,fun f hf=>h1.1.1.2.2 f (List.mem_of_mem_take hf)⟩,h1.1.2⟩,h1.2⟩
     ·exact ⟨f_c h1 (by omega),h4,h5⟩
end Go.Proofs.YtogdpojnbgeknaaGreatDoor
namespace Go.Proofs.YtogdpojnbgeknaaGreatDoor
abbrev Bs:=List UInt8
def u_W (b:UInt8):Bool:=decide (48≤b.toNat∧b.toNat≤57)
def u_4 (b:UInt8):Bool:=decide (97≤b.toNat∧b.toNat≤122)
def u_K (l:Bs):Bool:=decide (1≤l.length∧l.length≤12)&&!u_W (l.getD 0 0)&&l.all (fun b=>u_W b||u_4 b)
def u_7 (l:Bs):Int×Int:=if l.length=2∧(l.getD 0 0).toNat=114∧48≤(l.getD 1 0).toNat∧(l.getD 1 0).toNat≤55 then ((l.getD 1 0).toNat - 48,0) else (0,3)
def b_T (sign v many:Int):Bool:=if sign=114 then decide (0≤v∧v≤7) else if sign=110 then decide (-1000000000≤v∧v≤1000000000) else decide (0≤v∧v≤many)
end Go.Proofs.YtogdpojnbgeknaaGreatDoor
namespace Go.Proofs.YtogdpojnbgeknaaGreatDoor
open Go.ChangeShapes Go.WideShapes Go.ChangeAt Go.RowKit
open Gen
theorem m_K (s:ByteArray):s.size=s.data.toList.length:=Array.length_toList.symm
theorem e_8 (s:ByteArray) (i:Nat) (h:i < s.size):s[i]'h=s.data.toList.getD i 0:=by
 have h':i < s.data.size:=h;rw [show s[i]'h=s.data[i]'h' from rfl,List.getD_eq_getElem?_getD,Array.getElem?_toList,Array.getElem?_eq_getElem h']
 rfl
theorem g_d (b v m:Int) (w:World):Calls Tryz.prog 107 #[.int .u8 b,.int .i64 v,.int .i64 m] w (g_Z (b_T b v m) w):=by
 by_cases h1:b=114
 ·subst h1;exact J96
 ·by_cases h2:b=110
  ·subst h2;exact J96
  ·have e1:(b==114)=false:=by simpa using h1
   have e2:(b==110)=false:=by simpa using h2
   have HF:=Lib.hid (show b_T b v m=decide (0≤v∧v≤m) by rw [b_T,if_neg h1,if_neg h2]);clear h1 h2
   go_enter Tryz.func107,Tryz.ntmps107
   go_wp2
   all_goals
    go_ret
    refine c_T ?_;rw [HF.out];rw [Bool.eq_iff_iff];simp
    try omega
end Go.Proofs.YtogdpojnbgeknaaGreatDoor
namespace Go.Proofs.YtogdpojnbgeknaaGreatDoor
def p_m (c:UInt8):Bs→List Bs
 | []=>[[]]
 | b::t=>if b=c then []::p_m c t else match p_m c t with | p::ps=>(b::p)::ps | []=>[[b]]
def u_5 (l:Bs):Int×Int:=match Lib.atoiAll l with | .ok v=>if Lib.itoa v=l∧-1000000000≤v∧v≤1000000000 then (v,0) else (0,3) | _=>(0,3)
def opName:List Bs:=[[104,97,108,116],[115,101,116],[109,111,118,101],[112,108,117,115],[109,97,115,107],[97,100,100],[115,117,98],[97,110,100],[120,111,114],[108,101,115,115],[106,117,109,112],[122,101,114,111],[115,111,109,101],[99,97,108,108],[114,101,116],[115,101,108,102],[108,111,97,100],[115,116,111,114,101],[102,101,110,99,101],[99,97,115],[120,99,104,103],[102,101,116,99,104],[98,114,111,97,100],[119,97,105,116],[111,119,110],[100,114,111,112],[109,97,114,107]]
def opSign:List Bs:=[[],[114,110],[114,114],[114,114,110],[114,114,110],[114,114,114],[114,114,114],[114,114,114],[114,114,114],[114,114,114],[116],[114,116],[114,116],[116],[],[114],[114,114,110],[114,114,110],[],[114,114,114],[114,114],[114,114],[],[114,114],[114,114],[114,114],[110]]
def u_6 (l:Bs):Option Nat:=(List.range 27).find? (fun k=>decide (opName.getD k []=l))
def t_T (sg:Bs):Prop:=sg.length≤3∧∀ i,i < sg.length→(sg.getD i 0).toNat=114∨(sg.getD i 0).toNat=110∨(sg.getD i 0).toNat=116
theorem m_k:∀ k,k < 27→t_T (opSign.getD k []):=by
 have h:(List.range 27).all (fun k=>decide ((opSign.getD k []).length≤3)&&(List.range (opSign.getD k []).length).all (fun i=>decide (((opSign.getD k []).getD i 0).toNat=114∨((opSign.getD k []).getD i 0).toNat=110∨((opSign.getD k []).getD i 0).toNat=116)))=true:=by decide
 intro k hk;rw [List.all_eq_true] at h;have h1:=h k (List.mem_range.2 hk);rw [Bool.and_eq_true,decide_eq_true_eq,List.all_eq_true] at h1;exact ⟨h1.1,fun i hi=>by have:=h1.2 i (List.mem_range.2 hi);rwa [decide_eq_true_eq] at this⟩
def u_Q (f:Bs→Option (Int×Int)) (l:Bs):Int×Int:=if u_K l=false then (0,3) else match f l with | none=>(0,11) | some p=>(p.2,0)
def u_N (f:Bs→Option (Int×Int)) (c:Nat) (p:Bs):Int×Int:=if c=114 then u_7 p else if c=110 then u_5 p else u_Q f p
def u_I (f:Bs→Option (Int×Int)) (sg:Bs) (ps:List Bs) (i:Nat):Int:=(u_N f (sg.getD i 0).toNat (ps.getD i [])).2
abbrev Ins:=Int×Int×Int×Int
end Go.Proofs.YtogdpojnbgeknaaGreatDoor
namespace Go.Proofs.YtogdpojnbgeknaaGreatDoor
open Go.ChangeShapes Go.WideShapes Go.ChangeAt Go.RowKit
open Gen
open Go.Maps (Keyed)
abbrev str (l:Bs):ByteArray:=⟨l.toArray⟩
def opCells:List Value:=(List.range 27).flatMap fun k=>[.string (str (opName.getD k [])),.string (str (opSign.getD k []))]
structure Glob (w:World):Prop where
 size:0+1≤w.heap.size
 ops:w.var? Tryz.prog "respite/asm.operations"=some opCells.toArray
theorem Tryz.gOps:Tryz.prog.globalNamed "respite/asm.operations"=some 0:=by kernel_rfl
theorem Glob.low {F:Nat} {w w':World} (hF:0+1≤F) (hb:Below F w w') (h:Glob w):Glob w' where
 size:=Nat.le_trans h.size hb.size
 ops:=var?_below hb Tryz.gOps (by omega) h.ops
theorem Glob.B {w w':World} (h:Glob w) (hb:Below w.heap.size w w'):Glob w':=h.low h.size hb
theorem Glob.A {w:World} (h:Glob w) (o:Obj):Glob (w.alloc o):=h.B ((Below.refl _ _).alloc (Nat.le_refl _) _)
theorem e_y (l:Bs):(str l).data.toList=l:=by simp
theorem f_g (l:Bs):(str l).size=l.length:=by rw [m_K,e_y]
end Go.Proofs.YtogdpojnbgeknaaGreatDoor
namespace Go.Proofs.YtogdpojnbgeknaaGreatDoor
open Go.ChangeShapes Go.WideShapes Go.ChangeAt Go.RowKit Go.Shelf
open Gen
attribute [local go_sem] Oper.semAt_some
abbrev Ln:={ x:Bs×Bool // x.1.length≤50000 }
def vals (ys:List Ln):List (Bs×Bool):=ys.map Subtype.val
end Go.Proofs.YtogdpojnbgeknaaGreatDoor
namespace Go.Proofs.YtogdpojnbgeknaaGreatDoor
open Go.ChangeShapes Go.WideShapes Go.ChangeAt Go.RowKit
open Gen
theorem r_c {w:World} (G:Glob w):∃ t fr,w.heap[0]?=some (.cells opCells.toArray t fr):=by
 have h:=G.ops;simp only [World.var?,Tryz.gOps,Option.bind_some] at h
 split at h
 ·rename_i cs t fr hc
  injection h with h
  subst h;exact ⟨t,fr,hc⟩
 ·cases h
theorem r_d {w:World} (G:Glob w) (k:Nat) (hk:k < 27):w.cell? ⟨0,k*2+1,none⟩=some (.string (str (opSign.getD k []))):=by
 obtain ⟨t,fr,h⟩:=r_c G;rw [cell_of_row w _ _ _ t fr h];exact J62
def t_B (i:Ins):Value:=.agg #[.int .i64 i.1,.int .i64 i.2.1,.int .i64 i.2.2.1,.int .i64 i.2.2.2]
end Go.Proofs.YtogdpojnbgeknaaGreatDoor
namespace Go.Proofs.YtogdpojnbgeknaaGreatDoor
open Go.ChangeShapes Go.WideShapes Go.ChangeAt Go.RowKit
open Gen
open Lib (hid)
def e_c (i:Ins) (k:Nat):Int:=if k=0 then i.2.1 else if k=1 then i.2.2.1 else i.2.2.2
def kOk (i:Ins) (m:Int) (sg:Bs) (k:Nat):Bool:=if k < sg.length then b_T (sg.getD k 0).toNat (e_c i k) m else decide (e_c i k=0)
def c_K (i:Ins) (m:Int):Bool:=decide (0≤i.1∧i.1 < 27)&&(List.range 3).all (kOk i m (opSign.getD i.1.toNat []))
theorem o_R {i:Ins} {m:Int} (h:¬ (0≤i.1∧i.1 < 27)):c_K i m=false:=by simp only [c_K,decide_eq_false h,Bool.false_and]
theorem b_G {i:Ins} {m:Int} {k:Nat} (hk:k < 3) (h:kOk i m (opSign.getD i.1.toNat []) k=false):c_K i m=false:=by
 cases hm:c_K i m with
 | false=>rfl
 | true =>
  simp only [c_K,Bool.and_eq_true,List.all_eq_true] at hm;have:=hm.2 k (List.mem_range.2 hk);rw [h] at this;cases this
theorem l_6 {i:Ins} {m:Int} (h0:0≤i.1∧i.1 < 27) (h:∀ k,k < 3→kOk i m (opSign.getD i.1.toNat []) k=true):c_K i m=true:=by
 simp only [c_K,Bool.and_eq_true,decide_eq_true_eq,List.all_eq_true];exact ⟨h0,fun k hk=>h k (List.mem_range.1 hk)⟩
theorem t_X (x y z:Value) (w:World):(Instr.index 151 (.agg #[x,y,z]) (.int .i64 0)).run Tryz.prog w=.ok x w:=by
 exact J97
theorem t_Y (x y z:Value) (w:World):(Instr.index 151 (.agg #[x,y,z]) (.int .i64 1)).run Tryz.prog w=.ok y w:=by
 exact J97
theorem t_Z (x y z:Value) (w:World):(Instr.index 151 (.agg #[x,y,z]) (.int .i64 2)).run Tryz.prog w=.ok z w:=by
 exact J97
theorem s_Z (i:Ins) (m:Int) (w:World) (G:Glob w):Calls Tryz.prog 65 #[t_B i,.int .i64 m] w (b_h (c_K i m) w):=by
 obtain ⟨op,a,b,c⟩:=i
 show Calls Tryz.prog 65 #[.agg #[.int .i64 op,.int .i64 a,.int .i64 b,.int .i64 c],.int .i64 m] w (b_h (c_K (op,a,b,c) m) w)
 by_cases h0:0≤op∧op < 27
 ·obtain ⟨k,rfl⟩:∃ k:Nat,op=(k:Int):=⟨op.toNat,by omega⟩;have hk:k < 27:=by omega
  obtain ⟨sg,hsg⟩:=mn (opSign.getD k []);obtain ⟨s1,s2⟩:=m_k k hk;rw [hsg] at s1 s2;have hop:(opSign.getD ((k:Int),a,b,c).1.toNat [])=sg:=by rw [←hsg];rfl
  have ⟨HOP,H0⟩:=hh2 hop h0;obtain ⟨W,hW⟩:=nm (w.alloc (Obj.cells #[.int .i64 k,.int .i64 a,.int .i64 b,.int .i64 c] 66));have X:a_p W w.heap.size [.int .i64 k,.int .i64 a,.int .i64 b,.int .i64 c]:=by rw [hW];exact a_e _ _ rfl
  have hB:=N2;have xs:=r_d (G.B hB) k hk;rw [hsg] at xs;have ⟨HB,HW,HX⟩:=hh3 hB hW X;have i1:(0:Int)≤k:=by omega
  have i2:(k:Int) < 27:=by omega
  have i3:¬ (k:Int) < 0:=by omega
  have i4:¬ (27:Int)≤k:=by omega
  clear hsg hop h0 hW X hB s2 hk
  go_enter Tryz.func65,Tryz.ntmps65
  go_upto_region 1 with fail
  rw [←HW.out];have x0:=(HX.out 0 _ rfl).1;have x1:=(HX.out 1 _ rfl).1;have x2:=(HX.out 2 _ rfl).1;have x3:=(HX.out 3 _ rfl).1
  go_wp2
  go_loop [28] (fun i=>∃ j:Nat,j≤3∧i=.int .i64 j∧Hid (∀ q,q < j→kOk (k,a,b,c) m sg q=true)) (fun i=>3 - (intOf i).toNat)
  case atStart=>exact ⟨0,by omega,rfl,(show ∀ q,q < 0→_ from fun q hq=>by omega)⟩
  case round =>
   obtain ⟨j,hj,rfl,hok⟩:=hrel
   have hstep:∀ {j:Nat},(∀ q,q < j→kOk (k,a,b,c) m sg q=true)→kOk (k,a,b,c) m sg j=true→∀ q,q < j+1→kOk (k,a,b,c) m sg q=true:=fun h1 h2 q hq=>by
    rcases Nat.lt_succ_iff_lt_or_eq.1 hq with h | rfl
    ·exact h1 q h
    ·exact h2
   clear x0 x1 x2 x3 xs
   rcases (show j=0∨j=1∨j=2∨j=3 by omega) with rfl | rfl | rfl | rfl
   ·have ai:=fun w=>t_X (.int .i64 a) (.int .i64 b) (.int .i64 c) w
    by_cases hlt:0 < sg.length
    ·have hjs:0 < (str sg).size:=by rw [f_g];exact hlt
     have hbt:(str sg)[0].toNat=(sg.getD 0 0).toNat:=by rw [e_8,e_y]
     obtain ⟨ch,hch⟩:=mn ((str sg)[0].toNat);have hv:kOk ((k:Int),a,b,c) m sg 0=b_T ch a m:=by rw [kOk,if_pos hlt,←hbt,hch];rfl
     have HV:=hid hv;have j1:¬ sg=[]:=by intro e;subst e;simp at hlt
     have j3:0 < sg.length:=hlt;have j2:(0:Int) < sg.length:=by omega
     clear hv hbt hlt;have hf:∀ w',Calls Tryz.prog 107 #[.int .u8 ((str sg)[0].toNat:Nat),.int .i64 a,.int .i64 m] w' (g_Z (b_T ch a m) w'):=fun w'=>by rw [hch];exact g_d ch a m w'
     clear hch
     cases hb:b_T ch a m with
     | true =>
      have HS:=N244;rw [hb] at hf;clear hb hok hstep
      go_wp2_with fail
      refine (hf _).mono ?_;rintro e w' ⟨rfl,h⟩
      cases h
      go_wp2
      go_round
      case rel=>exact ⟨1,by omega,by go_num,HS.out⟩
      case measure=>simp [intOf]
     | false =>
      have HS:=hid (b_G (i:=((k:Int),a,b,c)) (m:=m) (k:=0) (by omega) (by rw [HOP.out,HV.out];exact hb));exact J72
    ·have hv:=N234;have j1:sg=[]:=List.eq_nil_of_length_eq_zero (by omega);clear hlt
     by_cases hz:a=0
     ·have HS:=N196;have q:(a != 0)=false:=by simpa using hz
      clear hz hv hok hstep
      go_wp2
      go_round
      case rel=>exact ⟨1,by omega,by go_num,HS.out⟩
      case measure=>simp [intOf]
     ·have HS:=hid (b_G (i:=((k:Int),a,b,c)) (m:=m) (k:=0) (by omega) (by rw [HOP.out,hv];exact decide_eq_false hz));have q:(a != 0)=true:=by simpa using hz
      clear hz hv hok hstep
      go_wp2
      go_ret
      exact a_k HS.out HB.out
   ·have ai:=fun w=>t_Y (.int .i64 a) (.int .i64 b) (.int .i64 c) w
    by_cases hlt:1 < sg.length
    ·have hjs:1 < (str sg).size:=by rw [f_g];exact hlt
     have hbt:(str sg)[1].toNat=(sg.getD 1 0).toNat:=by rw [e_8,e_y]
     obtain ⟨ch,hch⟩:=mn ((str sg)[1].toNat);have hv:kOk ((k:Int),a,b,c) m sg 1=b_T ch b m:=by rw [kOk,if_pos hlt,←hbt,hch];rfl
     have HV:=hid hv;have j1:¬ (sg.length:Int)≤1:=by omega
     have j2:(1:Int) < sg.length:=by omega
     clear hv hbt hlt;have hf:∀ w',Calls Tryz.prog 107 #[.int .u8 ((str sg)[1].toNat:Nat),.int .i64 b,.int .i64 m] w' (g_Z (b_T ch b m) w'):=fun w'=>by rw [hch];exact g_d ch b m w'
     clear hch
     cases hb:b_T ch b m with
     | true =>
      have HS:=N244;rw [hb] at hf;clear hb hok hstep
      go_wp2_with fail
      refine (hf _).mono ?_;rintro e w' ⟨rfl,h⟩
      cases h
      go_wp2
      go_round
      case rel=>exact ⟨2,by omega,by go_num,HS.out⟩
      case measure=>simp [intOf]
     | false =>
      have HS:=hid (b_G (i:=((k:Int),a,b,c)) (m:=m) (k:=1) (by omega) (by rw [HOP.out,HV.out];exact hb));exact J72
    ·have hv:=N235;have j1:(sg.length:Int)≤1:=by omega
     clear hlt
     by_cases hz:b=0
     ·have HS:=N196;have q:(b != 0)=false:=by simpa using hz
      clear hz hv hok hstep
      go_wp2
      go_round
      case rel=>exact ⟨2,by omega,by go_num,HS.out⟩
      case measure=>simp [intOf]
     ·have HS:=hid (b_G (i:=((k:Int),a,b,c)) (m:=m) (k:=1) (by omega) (by rw [HOP.out,hv];exact decide_eq_false hz));have q:(b != 0)=true:=by simpa using hz
      clear hz hv hok hstep
      go_wp2
      go_ret
      exact a_k HS.out HB.out
   ·have ai:=fun w=>t_Z (.int .i64 a) (.int .i64 b) (.int .i64 c) w
    by_cases hlt:2 < sg.length
    ·have hjs:2 < (str sg).size:=by rw [f_g];exact hlt
     have hbt:(str sg)[2].toNat=(sg.getD 2 0).toNat:=by rw [e_8,e_y]
     obtain ⟨ch,hch⟩:=mn ((str sg)[2].toNat);have hv:kOk ((k:Int),a,b,c) m sg 2=b_T ch c m:=by rw [kOk,if_pos hlt,←hbt,hch];rfl
     have HV:=hid hv;have j1:¬ (sg.length:Int)≤2:=by omega
     have j2:(2:Int) < sg.length:=by omega
     clear hv hbt hlt;have hf:∀ w',Calls Tryz.prog 107 #[.int .u8 ((str sg)[2].toNat:Nat),.int .i64 c,.int .i64 m] w' (g_Z (b_T ch c m) w'):=fun w'=>by rw [hch];exact g_d ch c m w'
     clear hch
     cases hb:b_T ch c m with
     | true =>
      have HS:=N244;rw [hb] at hf;clear hb hok hstep
      go_wp2_with fail
      refine (hf _).mono ?_;rintro e w' ⟨rfl,h⟩
      cases h
      go_wp2
      go_round
      case rel=>exact ⟨3,by omega,by go_num,HS.out⟩
      case measure=>simp [intOf]
     | false =>
      have HS:=hid (b_G (i:=((k:Int),a,b,c)) (m:=m) (k:=2) (by omega) (by rw [HOP.out,HV.out];exact hb));exact J72
    ·have hv:=N236;have j1:(sg.length:Int)≤2:=by omega
     clear hlt
     by_cases hz:c=0
     ·have HS:=N196;have q:(c != 0)=false:=by simpa using hz
      clear hz hv hok hstep
      go_wp2
      go_round
      case rel=>exact ⟨3,by omega,by go_num,HS.out⟩
      case measure=>simp [intOf]
     ·have HS:=hid (b_G (i:=((k:Int),a,b,c)) (m:=m) (k:=2) (by omega) (by rw [HOP.out,hv];exact decide_eq_false hz));have q:(c != 0)=true:=by simpa using hz
      clear hz hv hok hstep
      go_wp2
      go_ret
      exact a_k HS.out HB.out
   ·have HS:=N187;clear hok hstep
    go_wp2
    go_ret
    exact a_k HS.out HB.out
 ·have HS:=hid (o_R (i:=(op,a,b,c)) (m:=m) h0)
  go_enter Tryz.func65,Tryz.ntmps65
  go_wp2
  all_goals first
   | (exfalso;omega)
   | (go_ret;exact a_k HS.out (by go_grown))
end Go.Proofs.YtogdpojnbgeknaaGreatDoor
namespace Go.Proofs.YtogdpojnbgeknaaGreatDoor
open Go.ChangeShapes Go.WideShapes Go.ChangeAt Go.RowKit Go.Shelf
open Gen
attribute [local go_sem] Oper.semAt_some
def d_S (i:Ins):List Value:=[.int .i64 i.1,.int .i64 i.2.1,.int .i64 i.2.2.1,.int .i64 i.2.2.2]
theorem u_x {B k:Nat} {w:World} {e:TypeId} {v:Value} {n:Nat} {xs:List Value} (h:w.ownsRow B e k v n xs) (a:Addr) (ha:a.block < B) (x:Value):(w.setCell a x).ownsRow B e k v n xs:=by
 obtain ⟨h1,h2⟩:=h;refine ⟨h1,h2.imp id ?_⟩;rintro ⟨g,cap,cur,e1,e2,e3,e4⟩;refine ⟨g,cap,cur,e1,e2,?_,e4⟩;rw [World.setCell,Array.getElem?_modify,if_neg (by omega)];exact e3
def R3 (w W:World) (A B C:Value) (W':World):Prop:=
 KeepsOthers W W'∧Below w.heap.size w W'∧W'.cell? ⟨w.heap.size,0,none⟩=some A∧W'.cell? ⟨w.heap.size+1,0,none⟩=some B∧W'.cell? ⟨w.heap.size+1+1,0,none⟩=some C
section
variable {w W W':World} {A B C x:Value}
end
end Go.Proofs.YtogdpojnbgeknaaGreatDoor
namespace Go.Proofs.YtogdpojnbgeknaaGreatDoor
structure Read (f:Bs→Option (Int×Int)) (l:Bs) (k:Nat):Prop where
 op:u_6 ((p_m 32 l).getD 0 [])=some k
 len:(p_m 32 l).length - 1=(opSign.getD k []).length
 ok:∀ i,i < (opSign.getD k []).length→u_I f (opSign.getD k []) ((p_m 32 l).drop 1) i=0
end Go.Proofs.YtogdpojnbgeknaaGreatDoor
namespace Go.Proofs.YtogdpojnbgeknaaGreatDoor
open Go.ChangeShapes Go.WideShapes Go.ChangeAt Go.RowKit
open Gen
def repIns:Rep Ins:=r_p 4 (by decide) d_S (fun _=>rfl)
theorem r_6 {Q:Nat→Prop} {w:World} {b o:Nat} {i:Ins} (h:At repIns Q w b o i):w.cell? ⟨b,o,none⟩=some (.int .i64 i.1)∧w.cell? ⟨b,o+1,none⟩=some (.int .i64 i.2.1)∧w.cell? ⟨b,o+2,none⟩=some (.int .i64 i.2.2.1)∧w.cell? ⟨b,o+3,none⟩=some (.int .i64 i.2.2.2):=by
 obtain ⟨cs,h1,h2⟩:=h;have h1:cs=d_S i:=h1;subst h1;exact ⟨h2 0 _ rfl,h2 1 _ rfl,h2 2 _ rfl,h2 3 _ rfl⟩
theorem l_h (k:Nat) (w:World) (hk:k < 27):Calls Tryz.prog 68 #[.int .i64 k] w fun e w'=>e=.returned (.string (str (opName.getD k [])))∧Below w.heap.size w w':=by
 have k0:(0:Int)≤k:=by omega
 have k1:(k:Int) < 27:=by omega
 go_enter Tryz.func68,Tryz.ntmps68
 exact J51
theorem j_T (k:Nat) (w:World) (hk:k < 27):Calls Tryz.prog 69 #[.int .i64 k] w fun e w'=>e=.returned (.string (str (opSign.getD k [])))∧Below w.heap.size w w':=by
 have k0:(0:Int)≤k:=by omega
 have k1:(k:Int) < 27:=by omega
 go_enter Tryz.func69,Tryz.ntmps69
 exact J51
end Go.Proofs.YtogdpojnbgeknaaGreatDoor
namespace Go.Proofs.YtogdpojnbgeknaaGreatDoor
open Go.ChangeShapes Go.WideShapes Go.ChangeAt Go.RowKit
open Gen
open Lib (hid)
def b_U (c:List Ins):Bool:=decide (c.length≤1000)&&c.all (fun i=>c_K i c.length)
def k_r (c:List Ins) (n k:Nat):Prop:=∀ q i,q < k→c[q]?=some i→c_K i n=true
theorem i_d {c:List Ins} {n k:Nat} {i:Ins} (h:k_r c n k) (hi:c[k]?=some i) (h1:c_K i n=true):k_r c n (k+1):=fun q j hq hj=>by
 rcases Nat.lt_succ_iff_lt_or_eq.1 hq with h2 | rfl
 ·exact h q j h2 hj
 ·rw [hi] at hj;injection hj with hj;subst hj;exact h1
theorem i_g {c:List Ins} {n:Nat} (hl:c.length=n) (hn:n≤1000) (h:k_r c n n):b_U c=true:=by
 simp only [b_U,Bool.and_eq_true,decide_eq_true_eq,List.all_eq_true,hl];refine ⟨hn,fun i hi=>?_⟩;obtain ⟨q,hq,rfl⟩:=List.mem_iff_getElem.1 hi;exact h q _ (by omega) (by simp [hq])
theorem j_1 {c:List Ins} {n k:Nat} {i:Ins} (hl:c.length=n) (hi:c[k]?=some i) (h:c_K i n=false):b_U c=false:=by
 cases hr:b_U c with
 | false=>rfl
 | true =>
  simp only [b_U,Bool.and_eq_true,List.all_eq_true,hl] at hr;have:=hr.2 i (List.mem_of_getElem? hi);rw [h] at this;cases this
theorem h_u {c:List Ins} (h:¬ c.length≤1000):b_U c=false:=by simp [b_U,h]
theorem l_0 {w:World} {p:Option Addr} {n:Nat} {t:List Ins} (S:Vs repIns Any w p n t) {k:Nat} (hk:k < n) :
  ∃ b o x0 x1 x2 x3,p=some ⟨b,o,none⟩∧t[k]?=some (x0,x1,x2,x3)∧w.cell? ⟨b,o+k*4,none⟩=some (.int .i64 x0)∧w.cell? ⟨b,o+k*4+1,none⟩=some (.int .i64 x1)∧w.cell? ⟨b,o+k*4+2,none⟩=some (.int .i64 x2)∧w.cell? ⟨b,o+k*4+3,none⟩=some (.int .i64 x3):=by
 obtain ⟨b,o,⟨x0,x1,x2,x3⟩,e,ht,_,hA⟩:=j_a S hk;rw [show repIns.k=4 from rfl] at hA;obtain ⟨h0,h1,h2,h3⟩:=r_6 hA;exact ⟨b,o,x0,x1,x2,x3,e,ht,h0,h1,h2,h3⟩
theorem g_A (a:Option Addr) (n c:Nat) (cs:List Ins) (w:World) (S:Vs repIns Any w a n cs) (hn:n≤9223372036854775807) (G:Glob w) :
  Calls Tryz.prog 30 #[.slice a n c] w (b_h (b_U cs) w):=by
 have Hn:=hid S.1
 by_cases h6:n≤1000
 ·have i6:¬ (1000:Int) < n:=by omega
  go_enter Tryz.func30,Tryz.ntmps30
  go_wp2
  go_loopw [10] (fun i wr=>∃ k:Nat,k≤n∧i=.int .i64 k∧Hid (k_r cs n k)∧Below w.heap.size w wr) (fun i _=>n - (intOf i).toNat)
  case atStart=>exact ⟨0,by omega,rfl,(show k_r cs n 0 from fun q i hq=>by omega),Below.refl _ _⟩
  case round =>
   obtain ⟨k,hk,rfl,hf,hb⟩:=hrel;obtain ⟨wo,hwo⟩:∃ wo:World,wo=wr:=⟨_,rfl⟩;subst hwo
   by_cases hlt:k < n
   ·obtain ⟨b,o,x0,x1,x2,x3,rfl,hx,g0,g1,g2,g3⟩:=l_0 (g_u hb S) hlt;have ⟨HX,HB⟩:=hh2 hx hb;have GG:=hid ((G.B hb).A (Obj.cells #[.int .i64 x0,.int .i64 x1,.int .i64 x2,.int .i64 x3] 66));have HB2:=N161;have i1:(0:Int)≤k:=by omega
    have i2:(k:Int) < n:=by omega
    clear hx hb;obtain ⟨mb,hmb⟩:=mn (c_K (x0,x1,x2,x3) n);have HM:=hid hmb;clear hmb
    go_wp2_with fail
    have h0:=s_Z (x0,x1,x2,x3) n _ GG.out;exact J57
   ·obtain rfl:k=n:=by omega
    have HB:=hid hb;clear hb
    go_wp2
    go_ret
    exact a_k (i_g Hn.out h6 hf.out) HB.out
 ·have i6:(1000:Int) < n:=by omega
  have HS:=hid (h_u (c:=cs) (by rw [Hn.out];exact h6));clear h6
  go_enter Tryz.func30,Tryz.ntmps30
  go_wp2
  go_ret
  exact a_k HS.out (Below.refl _ _)
theorem a_F (i:Ins) (k:Nat) (w:World) (hk:k < 3):Calls Tryz.prog 70 #[t_B i,.int .i64 k] w fun e w'=>e=.returned (.int .i64 (e_c i k))∧Below w.heap.size w w':=by
 obtain ⟨op,a,b,c⟩:=i
 rcases (show k=0∨k=1∨k=2 by omega) with rfl | rfl | rfl
 all_goals
  unfold t_B
  go_enter Tryz.func70,Tryz.ntmps70
  go_wp2
  go_ret
  exact ⟨rfl,by go_grown⟩
theorem n_d (k:Int) (w:World) (hk:¬ (0≤k∧k < 27)):Calls Tryz.prog 68 #[.int .i64 k] w fun e w'=>e=.returned (.string (str []))∧Below w.heap.size w w':=by
 go_enter Tryz.func68,Tryz.ntmps68
 go_wp2
 all_goals first
  | (exfalso;omega)
  | (go_ret;exact ⟨rfl,by go_grown⟩)
end Go.Proofs.YtogdpojnbgeknaaGreatDoor
namespace Go.Proofs.YtogdpojnbgeknaaGreatDoor
def okB (ws ts:List Int) (k:Nat):Bool:=decide (0≤ts.getD k 0∧ts.getD k 0≤2∧(ts.getD k 0=0→ws.getD k 0=0))
def f_q (ws ts:List Int) (k:Nat):Prop:=∀ i,i < k→okB ws ts i=true
def k_T (ws ts:List Int) (n:Nat):Bool:=(List.range n).all (okB ws ts)
theorem goodB_iff {ws ts:List Int} {n:Nat}:k_T ws ts n=true ↔ f_q ws ts n:=by
 simp [k_T,f_q]
theorem o_n {ws ts:List Int} {k:Nat} (h:f_q ws ts k) (h1:okB ws ts k=true):f_q ws ts (k+1):=by
 exact J105
theorem q_N {ws ts:List Int} {k n:Nat} (hk:k < n) (h1:okB ws ts k=false):k_T ws ts n=false:=by
 cases h:k_T ws ts n with
 | false=>rfl
 | true=>have:=goodB_iff.1 h k hk;simp [h1] at this
def l_p (n n':Nat):Bool:=decide (1≤n∧n≤160∧n'=n)
def d_g (ws ts:List Int):Bool:=l_p ws.length ts.length&&k_T ws ts ws.length
theorem c_v {ws ts:List Int} (h:d_g ws ts=true):1≤ws.length∧ws.length≤160∧ts.length=ws.length:=by
 simp only [d_g,l_p,Bool.and_eq_true,decide_eq_true_eq] at h;exact h.1
theorem h_i {ws ts:List Int} (h:d_g ws ts=true):f_q ws ts ws.length:=by
 simp only [d_g,Bool.and_eq_true] at h;exact goodB_iff.1 h.2
theorem g_P {ws ts:List Int} (h:d_g ws ts=true) (i:Nat) (hi:i < ws.length):0≤ts.getD i 0∧ts.getD i 0≤2:=by
 have:=h_i h i hi;simp only [okB,decide_eq_true_eq] at this;exact ⟨this.1,this.2.1⟩
def cnt (ts:List Int) (t:Int):Nat:=(ts.filter (·==t)).length
theorem i_E {ts:List Int} {k:Nat} (t:Int) (hk:k < ts.length):cnt (ts.take (k+1)) t=cnt (ts.take k) t+if ts.getD k 0=t then 1 else 0:=by
 have e:ts.take (k+1)=ts.take k++[ts.getD k 0]:=by
  rw [List.take_succ_eq_append_getElem hk];simp [hk]
 rw [e];simp only [cnt,List.filter_append,List.length_append]
 by_cases h:ts.getD k 0=t
 ·rw [if_pos h,List.filter_cons,if_pos (by simpa using h)];simp
 ·rw [if_neg h,List.filter_cons,if_neg (by simpa using h)];simp
def r_D (t:Int):Int:=if t=0 then 4 else if t=1 then 0 else 5
def r_B (t:Int):Int:=if t=1 then 6 else 0
def a_I (ws ts:List Int) (i:Int):Int:=if d_g ws ts=true then (if 0≤i∧i < ws.length then r_D (ts.getD i.toNat 0) else 3) else 1
def b_L (ws ts:List Int) (i:Int):Int:=if a_I ws ts i=0 then ws.getD i.toNat 0 else 0
def c_t (ws ts:List Int) (i v:Int):List Int:=if a_I ws ts i=0 then ws.set i.toNat v else []
def c_s (ws ts:List Int) (i:Int):List Int:=if a_I ws ts i=0 then ts else []
theorem d_0 {ws ts:List Int} {i:Int} (h:a_I ws ts i=0):d_g ws ts=true∧0≤i∧i < ws.length∧ts.getD i.toNat 0=1:=by
 unfold a_I at h
 split at h
 ·rename_i hm
  split at h
  ·rename_i hi
   refine ⟨hm,hi.1,hi.2,?_⟩;unfold r_D at h
   split at h
   ·simp at h
   ·split at h
    ·assumption
    ·simp at h
  ·simp at h
 ·simp at h
def k_o (ts:List Int) (i:Nat) (t:Int):Nat→List Int
 | 0=>ts
 | k+1=>(k_o ts i t k).set (i+k) t
theorem d_m (ts:List Int) (i:Nat) (t:Int) (k:Nat):(k_o ts i t k).length=ts.length:=by
 induction k with
 | zero=>rfl
 | succ k ih=>simp [k_o,ih]
theorem r_u (ts:List Int) (i:Nat) (t:Int) (k j:Nat) (hj:j < ts.length):(k_o ts i t k).getD j 0=if i≤j∧j < i+k then t else ts.getD j 0:=by
 induction k with
 | zero=>rw [if_neg (by omega)];rfl
 | succ k ih =>
  have hl:=d_m ts i t k;simp only [k_o,List.getD_eq_getElem?_getD,List.getElem?_set] at ih ⊢
  by_cases e:i+k=j
  ·rw [if_pos e,if_pos (by omega),if_pos (by omega)];simp
  ·rw [if_neg e,ih]
   by_cases e2:i≤j∧j < i+k
   ·rw [if_pos e2,if_pos (by omega)]
   ·rw [if_neg e2,if_neg (by omega)]
def f_o (f:Int→Int) (ts:List Int) (i:Nat):Nat→Int
 | 0=>0
 | k+1=>if f_o f ts i k=0 then f (ts.getD (i+k) 0) else f_o f ts i k
theorem h_x {f:Int→Int} {ts:List Int} {i:Nat} {k:Nat} {x:Int} (h:f_o f ts i k=0) (hx:f (ts.getD (i+k) 0)=x) (hn:x≠0):∀ {n:Nat},k < n→f_o f ts i n=x
 | 0,hk=>by omega
 | n+1,hk=>by
  simp only [f_o]
  by_cases e:n=k
  ·subst e;rw [if_pos h,hx]
  ·rw [h_x h hx hn (n:=n) (by omega),if_neg hn]
def b_7 (n:Nat) (i k:Int):Bool:=decide (1≤k∧0≤i∧k≤n - i)
def j_g (tag:Int):Int→Int:=if tag=1 then r_B else r_D
def c_F (ws ts:List Int) (i k tag:Int):Int:=
 if d_g ws ts=true∧(tag=1∨tag=2) then (if b_7 ws.length i k=true then f_o (j_g tag) ts i.toNat k.toNat else 3) else 1
def c_5 (ws ts:List Int) (i k tag:Int):List Int:=if c_F ws ts i k tag=0 then ws else []
def c_O (ws ts:List Int) (i k tag:Int):List Int:=if c_F ws ts i k tag=0 then k_o ts i.toNat tag k.toNat else []
theorem q_J (l:List Int) (i j:Nat) (v:Int) (hj:j < l.length):(l.set i v).getD j 0=if i=j then v else l.getD j 0:=by
 simp only [List.getD_eq_getElem?_getD,List.getElem?_set]
 by_cases e:i=j
 ·subst e;simp [hj]
 ·simp [e]
theorem s_0 {ws ts:List Int} {i:Nat} {v:Int} (h:d_g ws ts=true) (ht:ts.getD i 0≠0):d_g (ws.set i v) ts=true:=by
 have hz:=c_v h;have hg:=h_i h;simp only [d_g,Bool.and_eq_true,l_p,decide_eq_true_eq,List.length_set];refine ⟨hz,goodB_iff.2 fun j hj=>?_⟩;have:=hg j hj;simp only [okB,decide_eq_true_eq] at this ⊢;refine ⟨this.1,this.2.1,fun h0=>?_⟩;rw [q_J _ _ _ _ hj]
 by_cases e:i=j
 ·subst e;exact absurd h0 ht
 ·rw [if_neg e];exact this.2.2 h0
theorem q_1 {ws ts:List Int} {i k:Nat} {t:Int} (h:d_g ws ts=true) (ht:t=1∨t=2):d_g ws (k_o ts i t k)=true:=by
 have hz:=c_v h;have hg:=h_i h;simp only [d_g,Bool.and_eq_true,l_p,decide_eq_true_eq,d_m];refine ⟨hz,goodB_iff.2 fun j hj=>?_⟩;have:=hg j hj;simp only [okB,decide_eq_true_eq] at this ⊢;rw [r_u _ _ _ _ _ (by omega)]
 by_cases e:i≤j∧j < i+k
 ·rw [if_pos e];omega
 ·rw [if_neg e];exact this
def c_b (ps:List (Int×Int)) (x:Int):Option Int:=(ps.reverse.find? (fun p=>p.1==x)).map (·.2)
theorem i_Q (ps qs:List (Int×Int)) (x:Int):c_b (ps++qs) x=(c_b qs x).or (c_b ps x):=by
 simp only [c_b,List.reverse_append,List.find?_append]
 cases qs.reverse.find? (fun p=>p.1==x) <;> simp
theorem m_6 (p:Int×Int) (x:Int):c_b [p] x=if p.1=x then some p.2 else none:=by
 simp only [c_b,List.reverse_singleton,List.find?_cons,List.find?_nil]
 by_cases h:p.1=x
 ·simp [h]
 ·have h':(p.1==x)=false:=by simpa using h
  simp [h',h]
theorem l_d (ps:List (Int×Int)) (p:Int×Int) (x:Int):c_b (ps++[p]) x=if p.1=x then some p.2 else c_b ps x:=by
 rw [i_Q,m_6]
 by_cases h:p.1=x <;> simp [h]
def c_x (ps:List (Int×Int)) (x:Int):Int:=(c_b ps x).getD 0
def c_w (ps:List (Int×Int)) (x:Int):Bool:=(c_b ps x).isSome
theorem i_o (ps:List (Int×Int)) (k:Nat) (h:k < ps.length):ps.take (k+1)=ps.take k++[ps.getD k (0,0)]:=by
 rw [List.take_succ_eq_append_getElem h];simp [h]
theorem e_t (ps:List (Int×Int)) (k:Nat) (x:Int) (h:k < ps.length):c_b (ps.take (k+1)) x=if (ps.getD k (0,0)).1=x then some (ps.getD k (0,0)).2 else c_b (ps.take k) x:=by
 rw [i_o ps k h,l_d]
theorem l_c {ps:List (Int×Int)} {x:Int} (h:∀ j,j < ps.length→(ps.getD j (0,0)).1≠x):c_b ps x=none:=by
 suffices H:∀ k,k≤ps.length→c_b (ps.take k) x=none by simpa using H ps.length (Nat.le_refl _)
 intro k
 induction k with
 | zero=>intro _;simp [c_b]
 | succ k ih=>intro hk;rw [e_t ps k x (by omega),if_neg (h k (by omega)),ih (by omega)]
theorem o_2 {ps:List (Int×Int)} {x:Int} {k:Nat} (hk:k < ps.length) (he:(ps.getD k (0,0)).1=x) (h:∀ j,k < j→j < ps.length→(ps.getD j (0,0)).1≠x):c_b ps x=some (ps.getD k (0,0)).2:=by
 suffices H:∀ m,k+1+m≤ps.length→c_b (ps.take (k+1+m)) x=some (ps.getD k (0,0)).2 by
  have:=H (ps.length - (k+1)) (by omega);rw [show k+1+(ps.length - (k+1))=ps.length by omega] at this
  simpa using this
 intro m
 induction m with
 | zero=>intro _;rw [Nat.add_zero,e_t ps k x hk,if_pos he]
 | succ m ih=>intro hm;rw [show k+1+(m+1)=(k+1+m)+1 by omega,e_t ps _ x (by omega),if_neg (h _ (by omega) (by omega)),ih (by omega)]
def e_j (n:Nat) (depth:Int):Int:=if depth < 0∨8 < depth∨depth < n then 1 else if (n:Int)=depth then 7 else 0
def e_1 (ps:List (Int×Int)) (depth:Int) (p:Int×Int):List (Int×Int):=if e_j ps.length depth=0 then ps++[p] else []
def f_O (ps:List (Int×Int)):Int×Int:=ps.getD 0 (0,0)
def e_K (ps:List (Int×Int)):List (Int×Int):=ps.drop 1
def c_f (n D:Int):Bool:=decide (1≤n∧n≤8∧0≤D∧D≤8)
def inP (N:Nat) (p:Int×Int):Bool:=decide (0≤p.1∧p.1 < N)
def g_c (N:Nat) (D:Int) (b:List (Int×Int)):Bool:=decide ((b.length:Int)≤D)&&b.all (inP N)
def d_o (ws ts:List Int) (D:Int) (bs:List (List (Int×Int))):Bool:=d_g ws ts&&c_f bs.length D&&bs.all (g_c ws.length D)
theorem a_S {ws ts:List Int} {D:Int} {bs:List (List (Int×Int))} (h:d_o ws ts D bs=true) :
  d_g ws ts=true∧(1≤bs.length∧bs.length≤8)∧(0≤D∧D≤8)∧∀ i,i < bs.length→(((bs.getD i []).length:Int)≤D∧∀ j,j < (bs.getD i []).length→0≤((bs.getD i []).getD j (0,0)).1∧((bs.getD i []).getD j (0,0)).1 < ws.length):=by
 simp only [d_o,c_f,Bool.and_eq_true,decide_eq_true_eq,List.all_eq_true] at h;obtain ⟨⟨h1,h2⟩,h3⟩:=h;refine ⟨h1,by omega,by omega,fun i hi=>?_⟩;have e:bs.getD i []=bs[i]:=by simp [hi]
 have hb:=h3 _ (List.getElem_mem hi);rw [←e] at hb;simp only [g_c,Bool.and_eq_true,decide_eq_true_eq,List.all_eq_true,inP] at hb;refine ⟨hb.1,fun j hj=>?_⟩
 have e2:(bs.getD i []).getD j (0,0)=(bs.getD i [])[j]:=by
  generalize bs.getD i []=b at hj ⊢
  simp [hj]
 rw [e2];exact hb.2 _ (List.getElem_mem hj)
def j_i (N:Nat) (D:Int) (bs:List (List (Int×Int))) (k:Nat):Prop:=∀ i,i < k→g_c N D (bs.getD i [])=true
def h_Y (N:Nat) (b:List (Int×Int)) (k:Nat):Prop:=∀ i,i < k→inP N (b.getD i (0,0))=true
theorem h_p {N:Nat} {b:List (Int×Int)} {k:Nat} (h:h_Y N b k) (h1:inP N (b.getD k (0,0))=true):h_Y N b (k+1):=by
 exact J105
theorem g_6 {N:Nat} {D:Int} {bs:List (List (Int×Int))} {k:Nat} (h:j_i N D bs k) (h1:g_c N D (bs.getD k [])=true):j_i N D bs (k+1):=by
 exact J105
theorem n_0 {N:Nat} {D:Int} {b:List (Int×Int)} (hl:(b.length:Int)≤D) (h:h_Y N b b.length):g_c N D b=true:=by
 simp only [g_c,Bool.and_eq_true,decide_eq_true_eq,List.all_eq_true];refine ⟨hl,fun p hp=>?_⟩;obtain ⟨i,hi,rfl⟩:=List.mem_iff_getElem.1 hp;have:=h i hi
 simpa [hi] using this
theorem q_v {N:Nat} {D:Int} {b:List (Int×Int)} {k:Nat} (hk:k < b.length) (h:inP N (b.getD k (0,0))=false):g_c N D b=false:=by
 have e:b.getD k (0,0)=b[k]:=by simp [hk]
 rw [e] at h;have:b.all (inP N)=false:=List.all_eq_false.2 ⟨b[k],List.getElem_mem hk,by rw [h];decide⟩;simp [g_c,this]
theorem g_Q {ws ts:List Int} {D:Int} {bs:List (List (Int×Int))} {k:Nat} (hk:k < bs.length) (h:g_c ws.length D (bs.getD k [])=false):d_o ws ts D bs=false:=by
 have e:bs.getD k []=bs[k]:=by simp [hk]
 rw [e] at h;have:bs.all (g_c ws.length D)=false:=List.all_eq_false.2 ⟨bs[k],List.getElem_mem hk,by rw [h];decide⟩;simp [d_o,this]
theorem j_O {ws ts:List Int} {D:Int} {bs:List (List (Int×Int))} (hm:d_g ws ts=true) (hs:c_f bs.length D=true) (h:j_i ws.length D bs bs.length):d_o ws ts D bs=true:=by
 simp only [d_o,hm,hs,Bool.true_and,List.all_eq_true];intro b hb;obtain ⟨i,hi,rfl⟩:=List.mem_iff_getElem.1 hb;have:=h i hi
 simpa [hi] using this
def thB (bs:List (List (Int×Int))) (th:Int):Bool:=decide (0≤th∧th < bs.length)
def k_h (bs:List (List (Int×Int))) (i:Int) (b:List (Int×Int)) (k:Nat):List (Int×Int):=if (k:Int)=i then b else bs.getD k []
def e_m (bs:List (List (Int×Int))) (i:Int) (b:List (Int×Int)):Nat→List (List (Int×Int))
 | 0=>[]
 | k+1=>e_m bs i b k++[k_h bs i b k]
theorem d_J (bs:List (List (Int×Int))) (i:Int) (b:List (Int×Int)) (k:Nat):(e_m bs i b k).length=k:=by
 induction k with
 | zero=>rfl
 | succ k ih=>simp [e_m,ih]
theorem n_v (bs:List (List (Int×Int))) (i:Int) (b:List (Int×Int)) (k j:Nat) (hj:j < k):(e_m bs i b k).getD j []=k_h bs i b j:=by
 induction k with
 | zero=>omega
 | succ k ih =>
  simp only [e_m,List.getD_eq_getElem?_getD]
  by_cases e:j=k
  ·subst e;rw [List.getElem?_append_right (by rw [d_J];omega)];simp [d_J]
  ·rw [List.getElem?_append_left (by rw [d_J];omega)];have:=ih (by omega)
   simpa only [List.getD_eq_getElem?_getD] using this
theorem n_w (bs:List (List (Int×Int))) (i:Nat) (b:List (Int×Int)):e_m bs i b bs.length=bs.set i b:=by
 apply List.ext_getElem
 ·simp [d_J]
 ·intro j h1 h2;have hj:j < bs.length:=by simpa using h2
  have e1:(e_m bs i b bs.length)[j]=(e_m bs i b bs.length).getD j []:=by simp [h1]
  have e2:(bs.set i b)[j]=(bs.set i b).getD j []:=by simp [hj]
  rw [e1,e2,n_v _ _ _ _ _ hj];simp only [k_h,List.getD_eq_getElem?_getD,List.getElem?_set]
  by_cases e:i=j
  ·subst e;simp [hj]
  ·rw [if_neg (by omega),if_neg e]
def e_J (ws ts:List Int) (n D:Int):Int:=if d_g ws ts=true then (if c_f n D=true then 0 else 2) else 1
def o_Z (ws ts:List Int) (n D:Int):List Int:=if e_J ws ts n D=0 then ws else []
def o_Y (ws ts:List Int) (n D:Int):List Int:=if e_J ws ts n D=0 then ts else []
def m_3 (ws ts:List Int) (n D:Int):Int:=if e_J ws ts n D=0 then D else 0
def o_X (ws ts:List Int) (n D:Int):List (List (Int×Int)):=if e_J ws ts n D=0 then List.replicate n.toNat [] else []
theorem o_1 {ws ts:List Int} {n D:Int} (hm:d_g ws ts=true) (hs:c_f n D=true):e_J ws ts n D=0∧o_Z ws ts n D=ws∧o_Y ws ts n D=ts∧m_3 ws ts n D=D∧o_X ws ts n D=List.replicate n.toNat []:=by
 have h:e_J ws ts n D=0:=by rw [e_J,if_pos hm,if_pos hs]
 refine ⟨h,?_,?_,?_,?_⟩
 ·rw [o_Z,if_pos h]
 ·rw [o_Y,if_pos h]
 ·rw [m_3,if_pos h]
 ·rw [o_X,if_pos h]
theorem o_0 {ws ts:List Int} {n D:Int} (h:e_J ws ts n D≠0):o_Z ws ts n D=[]∧o_Y ws ts n D=[]∧m_3 ws ts n D=0∧o_X ws ts n D=[]:=by
 refine ⟨?_,?_,?_,?_⟩
 ·rw [o_Z,if_neg h]
 ·rw [o_Y,if_neg h]
 ·rw [m_3,if_neg h]
 ·rw [o_X,if_neg h]
theorem i_P {ws ts:List Int} {D:Int} {k:Nat} (hm:d_g ws ts=true) (hs:c_f k D=true):d_o ws ts D (List.replicate k [])=true:=by
 have h0:0≤D:=by simp only [c_f,decide_eq_true_eq] at hs;omega
 simp only [d_o,hm,List.length_replicate,hs,Bool.true_and,List.all_eq_true,List.mem_replicate];rintro b ⟨_,rfl⟩;simp [g_c,h0]
def j_D (ws ts:List Int) (D:Int) (bs:List (List (Int×Int))) (th:Int):Bool:=d_o ws ts D bs&&thB bs th
def d_Q (bs:List (List (Int×Int))) (th:Int):List (Int×Int):=bs.getD th.toNat []
theorem d_j {ws ts:List Int} {D:Int} {bs:List (List (Int×Int))} {th:Int} (h:j_D ws ts D bs th=true):d_o ws ts D bs=true∧0≤th∧th < bs.length:=by
 simp only [j_D,thB,Bool.and_eq_true,decide_eq_true_eq] at h;exact ⟨h.1,h.2.1,h.2.2⟩
def c_8 (ws ts:List Int) (D:Int) (bs:List (List (Int×Int))) (th x:Int):Int:=if j_D ws ts D bs th=true then a_I ws ts x else 1
def f_m (ws ts:List Int) (D:Int) (bs:List (List (Int×Int))) (th x:Int):Int:=if c_8 ws ts D bs th x=0 then (c_b (d_Q bs th) x).getD (b_L ws ts x) else 0
def b_g (ws ts:List Int) (D:Int) (bs:List (List (Int×Int))) (th x:Int):Int:=if j_D ws ts D bs th=true then (if a_I ws ts x=0 then (if D=0 then 0 else if ((d_Q bs th).length:Int)=D then 7 else 0) else a_I ws ts x) else 1
def b_O (ws:List Int) (D:Int) (x v:Int):List Int:=if D=0 then ws.set x.toNat v else ws
def b_J (D:Int) (bs:List (List (Int×Int))) (th x v:Int):List (List (Int×Int)):=if D=0 then bs else bs.set th.toNat (d_Q bs th++[(x,v)])
def okL {α:Type} (e:Int) (l:List α):List α:=if e=0 then l else []
def okZ (e:Int) (z:Int):Int:=if e=0 then z else 0
theorem l_e {α:Type} {e:Int} (h:e=0) (l:List α):okL e l=l:=if_pos h
theorem d_v {α:Type} {e:Int} (h:e≠0) (l:List α):okL e l=[]:=if_neg h
theorem s_4 {e:Int} (h:e=0) (z:Int):okZ e z=z:=if_pos h
theorem g_l {e:Int} (h:e≠0) (z:Int):okZ e z=0:=if_neg h
def d_D (kind word a b:Int):Int:=if kind=0 then (if word=a then b else word) else if kind=1 then a else IntKind.i64.wrap (word+a)
def k_X (k:Int):Bool:=decide (0≤k∧k≤2)
def b_y (ws ts:List Int) (D:Int) (bs:List (List (Int×Int))) (th k x:Int):Int:=if j_D ws ts D bs th=true∧k_X k=true then (if d_Q bs th=[] then a_I ws ts x else 9) else 1
def b_z (ws ts:List Int) (k x y z:Int):List Int:=ws.set x.toNat (d_D k (b_L ws ts x) y z)
abbrev Mv:=Int×Int×Int
structure St where
 ws:List Int
 ts:List Int
 D:Int
 bs:List (List (Int×Int))
 l:Nat→List Mv
 n:Nat→List Int
end Go.Proofs.YtogdpojnbgeknaaGreatDoor
